import PyProof.Rows.All
import Wide.All
import OpenK.AllK
import Wide.FinOn
import Lean
import PyProof.EqAt
import PyProof.EqKinds
import PyProof.TupleCall
import PySem.Challenge.RW_bellferry_k23_steps_refused
import PyProof.Rows.SetFrom
import PyProof.FactsAll.set_1
import PyProof.CollectWalk
import PyProof.Rows.SortStr
import PyProof.IsiH_list
import PyProof.ConsumeWalk
import PyProof.StrWalks
import PyProof.IsiH_tuple
import PyProof.SliceStr2
import PyProof.ListRange
import PyProof.Rows.Range3
import PyProof.Rows.CallKwBuiltin
import PyProof.WalkInts
import PyProof.FString5
import PyProof.ExcClass2
import PyProof.ExcBaseAll.ValueError
import PyProof.StrLawsRepr
import OpenK.KNot
import PyProof.ExcArgsOwn
import PyProof.ExcAttrAll.ValueError
import PyProof.NsDelKeeps
import PyProof.Rows.CatchOwn
set_option Elab.async false
set_option linter.all false
set_option maxRecDepth 100000
set_option maxHeartbeats 8000000
set_option genSizeOf false
set_option genSizeOfSpec false
noncomputable section
set_option bootstrap.genMatcherCode false
set_option compiler.extract_closed false
open PySem.W renaming Frag→Y00, nsIn→Y0j, mg_none_of→Y0G, mg_of→Y0S, keepIn→Y0U, kia_one→Y14, kia_tup→Y15, kitOne→Y1k, fnOf→Y1O, findIn→Y1V, hideAll→Y28, kitx_list→Y2g, kitx_dict→Y2h, isIn→Y2H, kitAny→Y2M, methodObj→Y2O, cellsFrom_some→Y34, instObj→Y38, OpenLaw→Y3d, lookIn→Y3t, codeIn→Y3u, hideAll_get→Y3A
open PySem.Heap renaming get?_push_of_some→Y01, lt_size→Y08, get?_push_size→Y0a, get?_update_self→Y1f, size_push→Y1l, get?_update_other→Y1q, SameBut→Y1N, FlyingW→Y2o, MadeExcOf→Y3z, ExtBut→Y3D
open List renaming getElem?_eq_getElem→Y02, length_map→Y03, mem_cons→Y05, getElem?_eq_some_iff→Y07, getElem?_map→Y0b, mem_cons_of_mem→Y0c, map_cons→Y0d, not_mem_nil→Y0e, size_toArray→Y0h, mem_cons_self→Y0l, length_append→Y0o, length_take→Y0p, length_cons→Y0q, getElem?_append_left→Y0s, getElem_mem→Y0u, getElem?_append_right→Y0v, mem_append→Y0z, getD_cons_succ→Y0A, getD_cons_zero→Y0B, mem_of_getElem?→Y0C, mem_map→Y0E, range→Y0I, getD_eq_getElem?_getD→Y0K, cons_append→Y0L, mem_append_right→Y0N, mem_singleton→Y0O, nil_append→Y0P, length_drop→Y0T, map_nil→Y0W, map_append→Y0Z, getElem_of_mem→Y10, map_map→Y12, take_of_length_le→Y13, lookup_cons→Y16, getElem?_set→Y17, nodup_cons→Y19, all_cons→Y1a, length_range→Y1c, take_add_one→Y1d, append_nil→Y1e, all_eq_true→Y1g, eq_nil_of_length_eq_zero→Y1h, getElem?_set_ne→Y1i, any_cons→Y1j, append_assoc→Y1n, length_singleton→Y1s, getElem?_eq_none→Y1t, contains_cons→Y1u, length_zip→Y1D, filterMap_cons→Y1F, replicate→Y1J, drop_eq_nil_of_le→Y1L, find?_cons→Y1P, nodup_append→Y1S, findSome?_cons→Y1Z, length_eq_zero_iff→Y2a, foldl_cons→Y2c, exists_of_findSome?_eq_some→Y2d, length_replicate→Y2k, take_append_drop→Y2q, length_nil→Y2w, length_eraseIdx_of_lt→Y2B, mem_filterMap→Y2D, all_nil→Y2I, getElem?_zip_eq_some→Y2N, getElem?_take_of_lt→Y2P, foldl_append→Y2X, getElem?_replicate→Y2Y, take_length→Y2Z, map_snd_zip→Y31, getElem_zip→Y32, getElem?_set_self→Y33, of_mem_zip→Y3b, map_id'→Y3o, mem_range→Y3r, drop_zero→Y3y, getD→Y3K
open Bool renaming false_ne_true→Y04, and_eq_true→Y06, false_eq_true→Y0m, not_true→Y1T, not_eq_true'→Y1U, or_true→Y25, or_self→Y2n, and_true→Y2t, eq_iff_iff→Y2u, not_false→Y2L, true_or→Y3c, or_eq_true→Y3h, false_and→Y3s, and_false→Y3v, false_or→Y3I
open Nat renaming le_refl→Y09, ne_of_lt→Y0f, lt_of_lt_of_le→Y0x, le_trans→Y0M, lt_succ_of_lt→Y1m, zero_le→Y1x, lt_irrefl→Y1E, ne_of_gt→Y21, lt_trans→Y23, le_of_eq→Y24, lt_succ_iff_lt_or_eq→Y26, lt_of_le_of_lt→Y2E, min_eq_right→Y30, le_of_lt→Y39, min_eq_left→Y3n, le_succ→Y3C
open Array renaming length_toList→Y0g, getElem?_eq_getElem→Y0V, toList_append→Y20, getElem?_eq_none→Y2f, getElem?_toList→Y3e
open PySem.Value renaming none→Y0i, ref→Y0k, type→Y0n, str→Y0r, bool→Y0X, builtin→Y2s, int→Y3F
open PySem.Str renaming ofString→Y0t, empty→Y3a, length→Y3M
open Option.some renaming inj→Y0w, injEq→Y2i
open Int renaming emod_lt_of_pos→Y0y, emod_nonneg→Y0F, toNat_natCast→Y1A, toNat_of_nonneg→Y1I
open False renaming elim→Y0D
open PySem.NameKind renaming free→Y0H, cell→Y29
open PySem.Around renaming under_plainId→Y0J
open PyProof.Rows renaming callWith_type1→Y0Q, slot_tuple_getitem→Y0R, callWith_builtin1→Y2l
open PySem.Heap.SameBut renaming update→Y0Y
open PySem.Builtin.Str renaming glued→Y11, strSliceIndices→Y1p, tooLong→Y3B
open PySem.Builtin.Range renaming rangeSize→Y18, small→Y3E
open PySem.Builtin.Tuple renaming tupleCompareSizes→Y1b, tupleExact→Y1B, tupleItemsOf→Y2A, tupleIsExact→Y2C
open PySem renaming mem_of_lookup→Y1o
open Sum renaming inr→Y1r, inl→Y3L
open PySem.Builtin.Slice renaming slicePlaces→Y1v, sliceAdjust→Y1W, sliceApplied→Y2z
open PySem.Builtin.Dict renaming dictSlotArgs→Y1w, updateFrom→Y1H, selfAndRest→Y2W, samePairs→Y37
open PySem.F renaming slot_tuple_getattribute→Y1y, slot_list_getattribute→Y1C, called_set→Y1Q, slot_dict_keyiterator_iter→Y27, typeOf_object_class→Y2p, sub_dict_dict→Y3f, slot_str_join→Y3g, slot_list_pop→Y3i, type_list_pop→Y3j, slot_dict_get→Y3k, type_dict_get→Y3l, slot_dict_eq→Y3p, slot_dict_ne→Y3q, slot_list_eq→Y3w, slot_list_ne→Y3x
open True renaming intro→Y1z
open PySem.Data renaming fields→Y1G, seq→Y1Y
open PySem.SetTable renaming grown→Y1K, below→Y2K
open PySem.Calls renaming spliced_cons→Y1M, spliced_nil→Y1R, Name_function_global→Y2y, callWith_builtin→Y35
open PySem.Manifest renaming find?→Y1X
open PySem.Builtin.List renaming listTooLong→Y22, listExtendWith→Y2x, listSameRef→Y2V
open PySem.Obj renaming data_mapFields→Y2b, isFreed_of_fields→Y2m, mapSeq→Y2Q, cls_mapFields→Y2T, mapFields→Y3J
open Option renaming map_eq_some_iff→Y2e, toList_some→Y2F, isSome_map→Y2R
open Iff renaming rfl→Y2j
open PySem.Shared renaming TypeIs→Y2r
open ForInStep renaming yield→Y2v
open PySem.ScopeKind renaming function→Y2G
open Ne renaming symm→Y2J
open PySem.AutoSeq1 renaming sub_tuple_tuple→Y2S, sub_list_list→Y36
open PySem.Builtin.Frozenset renaming sizeOf→Y2U
open Nat.succ renaming inj→Y3m
open PySem.SeqAt.EqAt renaming int_str→Y3G, str_int→Y3H
open PySem.SetTable.below renaming go→Y3N
open Char renaming toNat→Y3O
open Sum.inr renaming inj→Y3P
open PySem.IsRange renaming new→Y3Q
open PySem.Heap.DictOf renaming new→Y3R
namespace L2
open PySem PySem.Spec PyProof.Rows
theorem fMc{α:Type _}{p:α->Prop}{a:α}{l:List α}(h:p a/\∀x∈l,p x):∀x∈a::l,p x:=List.forall_mem_cons.2 h
noncomputable abbrev Key:=Sum Int Str
noncomputable def keyIs:Key->Value->Bool
 |.inl k,v=>Value.isInt k v
 |.inr x,v=>Value.isStrOf x v
noncomputable def keyH(w:World):Key->Int
 |.inl k=>hashInt k
 |.inr x=>hashStr w x
theorem Z0z:∀{k:Key} {v:Value},keyIs k v=true->(∃i t,k=Y3L i/\v=Y3F i t)\/(∃x t,k=Y1r x/\v=Y0r x t)
 |.inl i,v,h=>by
  obtain⟨t,e⟩:=Value.isInt_shape (k:=i) (v:=v) h
  exact .inl ⟨i,t,rfl,e⟩
 |.inr x,v,h=>by
  obtain⟨t,e⟩:=Value.isStrOf_shape (x:=x) (v:=v) h
  exact .inr ⟨x,t,rfl,e⟩
theorem keyIs_int(i:Int)(t:Tok):keyIs (.inl i) (.int i t)=true:=by simp[keyIs,Value.isInt]
theorem keyIs_str(x:Str)(t:Tok):keyIs (.inr x) (.str x t)=true:=by simp[keyIs,Value.isStrOf]
theorem key_ll(a b:Int):decide ((Y3L a:Key)=Y3L b)=(a==b):=by
 by_cases e:a=b
 ·subst e;simp
 ·have h:¬(Y3L a:Key)=Y3L b:=λq=>e (Sum.inl.inj q)
  rw[decide_eq_false h]
  exact(beq_eq_false_iff_ne.mpr e).symm
theorem key_rr(a b:Str):decide ((Y1r a:Key)=Y1r b)=decide (a=b):=by
 by_cases e:a=b
 ·subst e;simp
 ·have h:¬(Y1r a:Key)=Y1r b:=λq=>e (Y3P q)
  rw[decide_eq_false h,decide_eq_false e]
theorem key_lr(a:Int)(b:Str):decide ((Y3L a:Key)=Y1r b)=false:=decide_eq_false (λq=>nomatch q)
theorem key_rl(a:Str)(b:Int):decide ((Y1r a:Key)=Y3L b)=false:=decide_eq_false (λq=>nomatch q)
noncomputable def Z0Q(prog:Program)(w:World):PySem.KeyKind prog w Key where
 is:=keyIs
 hash:=keyH w
 inj:=λv a b ha hb=>by
  rcases Z0z ha with⟨i,t,rfl,rfl⟩|⟨x,t,rfl,rfl⟩
  ·rcases Z0z hb with⟨j,u,rfl,e⟩|⟨y,u,rfl,e⟩
   ·injection e with e1 _;rw[e1]
   ·exact nomatch e
  ·rcases Z0z hb with⟨j,u,rfl,e⟩|⟨y,u,rfl,e⟩
   ·exact nomatch e
   ·injection e with e1 _;rw[e1]
 byValue:=λk v h=>by
  rcases Z0z h with⟨i,t,rfl,rfl⟩|⟨x,t,rfl,rfl⟩<;>rfl
 pyHash:=λhv h=>by
  rcases Z0z hv with⟨i,t,rfl,rfl⟩|⟨x,t,rfl,rfl⟩
  ·exact wpAny_pyHash_int h
  ·exact wpAny_pyHash_str h
 eqBool:=λhu hv h=>by
  rcases Z0z hu with⟨i,t,rfl,rfl⟩|⟨x,t,rfl,rfl⟩
  ·rcases Z0z hv with⟨j,u,rfl,rfl⟩|⟨y,u,rfl,rfl⟩
   ·rw[key_ll]at h;exact wpAny_eqBool_int h
   ·rw[key_lr]at h;exact Y3G i t y u _ _ _ _ h
  ·rcases Z0z hv with⟨j,u,rfl,rfl⟩|⟨y,u,rfl,rfl⟩
   ·rw[key_rl]at h;exact Y3H x t j u _ _ _ _ h
   ·rw[key_rr]at h;exact wpAny_eqBool_str h
 «strs»:=λk x t v h=>by
  rcases Z0z h with⟨i,u,rfl,e⟩|⟨y,u,rfl,e⟩
  ·exact nomatch e
  ·injection e with e1 _
   subst e1
   cases v<;>rfl
theorem mixKind_int(prog:Program)(w:World)(i:Int)(t:Tok):(Z0Q prog w).is (.inl i) (.int i t)=true:=keyIs_int i t
theorem mixKind_str(prog:Program)(w:World)(x:Str)(t:Tok):(Z0Q prog w).is (.inr x) (.str x t)=true:=keyIs_str x t
end L2
namespace L2
open PySem PySem.Spec PyProof.Rows
inductive V where
 |non|bl (b:Bool)|int (i:Int)|str (x:Str)|byt (b:Array UInt8)|flt (b:UInt64)|ref (a:Addr)|ty (n:String)
  deriving DecidableEq
noncomputable def RelV:V->Value->Prop
 |.non,u=>u=Y0i
 |.bl b,u=>u=Y0X b
 |.int i,u=>∃t,u=Y3F i t
 |.str x,u=>∃t,u=Y0r x t
 |.byt b,u=>∃t,u=Value.bytes b t
 |.flt b,u=>∃t,u=Value.float b t
 |.ref a,u=>u=Y0k a
 |.ty n,u=>u=Y0n n
noncomputable abbrev Vals:List V->List Value->Prop:=Paired RelV
theorem Vals.length{xs:List V}{us:List Value}(r:Vals xs us):xs.length=us.length:=Paired.length r
theorem Vals.get:∀{xs:List V} {us:List Value} {i:Nat} {x:V},Vals xs us->xs[i]?=some x->∃u,us[i]?=some u/\RelV x u
 |_,_,_,_,.nil,e=>by simp at e
 |_,_,0,_,.cons r _,e=>by simp at e;subst e;exact⟨_,rfl,r⟩
 |_,_,i+1,x,.cons _ t,e=>by
  obtain⟨u,h1,h2⟩:=Vals.get (i:=i) (x:=x) t (by simpa using e)
  exact⟨u,by simpa using h1,h2⟩
theorem Vals.append:∀{xs ys:List V} {us ws:List Value},Vals xs us->Vals ys ws->Vals (xs++ys) (us++ws)
 |_,_,_,_,.nil,s=>s
 |_,_,_,_,.cons r t,s=>.cons r (Vals.append t s)
theorem Vals.take:∀{xs:List V} {us:List Value} (n:Nat),Vals xs us->Vals (xs.take n) (us.take n)
 |_,_,0,_=>.nil
 |_,_,_+1,.nil=>.nil
 |_,_,n+1,.cons r t=>.cons r (Vals.take n t)
theorem Vals.drop:∀{xs:List V} {us:List Value} (n:Nat),Vals xs us->Vals (xs.drop n) (us.drop n)
 |_,_,0,r=>r
 |_,_,_+1,.nil=>.nil
 |_,_,n+1,.cons _ t=>Vals.drop n t
noncomputable def RelO:Option V->Option Value->Prop
 |some v,some u=>RelV v u
 |none,none=>True
 |_,_=>False
noncomputable def KV{κ:Type}:List (κ×V)->List (κ×Value)->Prop:=Paired fun(p:κ×V) (q:κ×Value)=>p.1=q.1/\RelV p.2 q.2
noncomputable def kV:Key->V
 |.inl i=>.int i
 |.inr x=>.str x
inductive HO where
 |lst (xs:List V)
 |tup (xs:List V)
 |dK (kvs:List (Key×V))|dT (kvs:List (List Key×V))
 |set (S:Int->Bool) (n:Nat)
 |ins (C dx:Addr) (fs:List (Str×V))
 |own (x:Addr)
 |xd (fs:List (Str×V))
 |met (f x:Addr)
 |rng (lo hi:Int)
 |frz (o:Obj) (u:HO)
 |tbl (ps:Array Value)
 |ext (φ:Heap->Prop)
noncomputable abbrev Hp:=Addr->Option HO
noncomputable def upd(H:Hp)(a:Addr)(o:HO):Hp:=λb=>if b=a then some o else H b
theorem Z1F{H:Hp}{a:Addr}{o:HO}:upd H a o a=some o:=by unfold upd;rw[if_pos rfl]
theorem Z0e{H:Hp}{a b:Addr}{o:HO}(h:b≠a):upd H a o b=H b:=by unfold upd;rw[if_neg h]
theorem ne_of{H:Hp}{a b:Addr}{o u:HO}(h:H a=some o)(h':H b=some u)(d:o≠u):a≠b:=by
 intro e;subst e;rw[h]at h';exact d (Y0w h')
theorem Z1x{H:Hp}{a b:Addr}{o:HO}(h:H a=some o)(h':H b=none):a≠b:=by
 intro e;subst e;rw[h]at h';cases h'
section
variable(P:Program)(w:World)
noncomputable def ObjOk(H:Hp)(h:Heap)(a:Addr):HO->Prop
 |.lst xs=>xs.length≤sizeLine/\∃(its:List Value) (n:Nat),Vals xs its/\h.get? a=some {cls:=.type "list",data:=.seq its.toArray n}
 |.tup xs=>xs.length≤sizeLine/\∃its:List Value,Vals xs its/\IsTup h a its.toArray/\∃o,h.get? a=some o/\o.dict=none
 |.dK kvs=>kvs.length≤sizeLine/\(a==sysModules)=false/\∃vs,KV kvs vs/\h.DictOf (Z0Q P w) a vs
 |.dT kvs=>kvs.length≤sizeLine/\(a==sysModules)=false/\∃xs:List (List Key×Addr×Value),
   Paired (fun(p:List Key×V) (q:List Key×Addr×Value)=>p.1=q.1/\H q.2.1=some (.tup (p.1.map kV))/\RelV p.2 q.2.2) kvs xs/\
   ∃o es ep,h.get? a=some o/\o.ExactDict/\o.data=.dict es ep/\es.toList=xs.map (entryOfKey (tupleKind (Z0Q P w)))/\(xs.map (·.1)).Nodup
 |.set S n=>h.SetOf (intKind P w) a S n
 |.ins C dx fs=>H dx=some (.own a)/\fs.length≤1000/\dx≠a/\h.get? a=some (Y38 C dx)/\
   ∃mA,h.Ns1 dx mA/\(∀f,RelO (fs.lookup f) (mA f))/\PySem.Within mA (fs.map (·.1))
 |.own _=>∃o,h.get? a=some o
 |.xd fs=>∃mA,h.Ns1 a mA/\∀f,RelO (fs.lookup f) (mA f)
 |.rng lo hi=>∃t u v,h.get? a=some {cls:=.type "range",data:=.fields #[.int lo t,.int hi u,.int 1 v]}
 |.frz o u=>h.get? a=some o/\ObjOk H h a u
 |.tbl ps=>h.get? a=some {cls:=.none,data:=.fields ps}
 |.met f x=>h.get? a=some (Y2O (.ref f) (.ref x))
 |.ext φ=>φ h/\(∃o,h.get? a=some o)/\∀h1 h2:Heap,φ h1->(∀o,h1.get? a=some o->h2.get? a=some o)->φ h2
noncomputable def HOk(H:Hp)(h:Heap):Prop:=∀a o,H a=some o->ObjOk P w H h a o
end
section
variable{P:Program}{w:World}{H H':Hp}{h h':Heap}{a:Addr}{o:HO}
theorem ObjOk.lt(x:ObjOk P w H h a o):a<h.objs.size:=by
 cases o with
 |lst xs=>obtain⟨_,_,_,_,e⟩:=x;exact Y08 e
 |tup xs=>obtain⟨_,_,_,p⟩:=x;exact p.1.lt
 |dK kvs=>obtain⟨_,_,_,_,o,_,_,e,_⟩:=x;exact Y08 e
 |dT kvs=>obtain⟨_,_,_,_,o,_,_,e,_⟩:=x;exact Y08 e
 |set S n=>obtain⟨o,_,_,_,e,_⟩:=x;exact Y08 e
 |ins C dx fs=>obtain⟨_,_,_,e,_⟩:=x;exact Y08 e
 |own y=>obtain⟨_,e⟩:=x;exact Y08 e
 |xd fs=>obtain⟨_,⟨_,_,_,e,_⟩,_⟩:=x;exact Y08 e
 |rng lo hi=>obtain⟨_,_,_,e⟩:=x;exact Y08 e
 |frz ob u=>obtain⟨e,_⟩:=x;exact Y08 e
 |tbl ps=>exact Y08 (show h.get? a=some _ from x)
 |met f y=>exact Y08 (show h.get? a=some _ from x)
 |ext φ=>obtain⟨_,⟨_,e⟩,_⟩:=x;exact Y08 e
theorem Paired.mapP{α β:Type}{F G:α->β->Prop}:∀{l₁:List α} {l₂:List β},Paired F l₁ l₂->(∀a b,F a b->G a b)->Paired G l₁ l₂
 |_,_,.nil,_=>.nil
 |_,_,.cons r t,f=>.cons (f _ _ r) (Paired.mapP t f)
theorem ObjOk.stay(x:ObjOk P w H h a o)(k:∀b u,(b=a\/H b=some (.own a))->h.get? b=some u->h'.get? b=some u)
  (ho:∀b,H b=some (.own a)->H' b=some (.own a)) (ht:∀b xs,H b=some (.tup xs)->H' b=some (.tup xs)):ObjOk P w H' h' a o:=by
 induction o with
 |lst xs=>obtain⟨z,its,n,r,e⟩:=x;exact⟨z,its,n,r,k _ _ (.inl rfl) e⟩
 |tup xs=>obtain⟨z,its,r,⟨ob,e,c⟩,o2,e2,c2⟩:=x;exact⟨z,its,r,⟨ob,k _ _ (.inl rfl) e,c⟩,o2,k _ _ (.inl rfl) e2,c2⟩
 |dK kvs=>obtain⟨z,y,vs,r,ob,es,ep,e,c⟩:=x;exact⟨z,y,vs,r,ob,es,ep,k _ _ (.inl rfl) e,c⟩
 |dT kvs=>
  obtain⟨z,y,xs,r,ob,es,ep,e,c⟩:=x
  exact⟨z,y,xs,Paired.mapP r λp q z=>⟨z.1,ht _ _ z.2.1,z.2.2⟩,ob,es,ep,k _ _ (.inl rfl) e,c⟩
 |set S n=>obtain⟨ob,es,ep,t,e,c⟩:=x;exact⟨ob,es,ep,t,k _ _ (.inl rfl) e,c⟩
 |ins C dx fs=>
  obtain⟨d,z,ne,e,mA,⟨od,es,ep,e2,c⟩,r⟩:=x
  exact⟨ho _ d,z,ne,k _ _ (.inl rfl) e,mA,⟨od,es,ep,k _ _ (.inr d) e2,c⟩,r⟩
 |own y=>obtain⟨ob,e⟩:=x;exact⟨ob,k _ _ (.inl rfl) e⟩
 |xd fs=>obtain⟨mA,⟨od,es,ep,e,c⟩,r⟩:=x;exact⟨mA,⟨od,es,ep,k _ _ (.inl rfl) e,c⟩,r⟩
 |rng lo hi=>obtain⟨t,u,v,e⟩:=x;exact⟨t,u,v,k _ _ (.inl rfl) e⟩
 |frz ob u ih=>obtain⟨e,q⟩:=x;exact⟨k _ _ (.inl rfl) e,ih q⟩
 |tbl ps=>
  have e:h.get? a=some {cls:=.none,data:=.fields ps}:=x
  show h'.get? a=some {cls:=.none,data:=.fields ps}
  exact k a _ (.inl rfl) e
 |met f y=>
  have e:h.get? a=some (Y2O (.ref f) (.ref y)):=x
  show h'.get? a=some (Y2O (.ref f) (.ref y))
  exact k a _ (.inl rfl) e
 |ext φ=>obtain⟨p,⟨o,e⟩,st⟩:=x;exact⟨st _ _ p λo q=>k _ _ (.inl rfl) q,⟨o,k _ _ (.inl rfl) e⟩,st⟩
theorem HOk.lt(x:HOk P w H h)(e:H a=some o):a<h.objs.size:=(x a o e).lt
theorem HOk.fresh(x:HOk P w H h)(e:h.objs.size≤a):H a=none:=by
 cases q:H a with
 |none=>rfl
 |some u=>exact absurd (Y0x (x.lt q) e) (Y1E _)
theorem HOk.kept(x:HOk P w H h)(k:∀b u,h.get? b=some u->h'.get? b=some u):HOk P w H h':=λa o e=>
 (x a o e).stay (λb u _ q=>k b u q) (λ_ q=>q) λ_ _ q=>q
theorem HOk.laid(x:HOk P w H h)(k:∀b u,h.get? b=some u->h'.get? b=some u)(hp:h.objs.size≤a)(new:ObjOk P w (upd H a o) h' a o):HOk P w (upd H a o) h':=λb u e=>by
 have hn:=x.fresh hp
 by_cases hb:b=a
 ·subst hb;rw[Z1F]at e;cases e;exact new
 ·rw[Z0e hb]at e
  exact(x b u e).stay (λc v _ q=>k c v q) (λc q=>by rw[Z0e (Z1x q hn)];exact q) λc xs q=>by rw[Z0e (Z1x q hn)];exact q
end
noncomputable def Rd(H:Hp)(a:Addr)(u:HO):Prop:=H a=some u\/∃o,H a=some (.frz o u)
theorem Rd.of{H:Hp}{a:Addr}{u:HO}(h:H a=some u):Rd H a u:=.inl h
theorem Rd.ok{P:Program}{w:World}{H:Hp}{h:Heap}{a:Addr}{u:HO}(r:Rd H a u)(x:HOk P w H h):ObjOk P w H h a u:=by
 rcases r with r|⟨o,r⟩
 ·exact x a u r
 ·obtain⟨_,q⟩:=x a _ r
  exact q
noncomputable def Mut:Option HO->Prop
 |some (.lst _)=>True
 |some (.dK _)=>True
 |some (.dT _)=>True
 |some (.set _ _)=>True
 |some (.ins _ _ _)=>True
 |some (.ext _)=>True
 |_=>False
section
variable{P:Program}{w:World}{H:Hp}{h h':Heap}{x e:Addr}{o':HO}
theorem HOk.write(ok:HOk P w H h)(mu:Mut (H x))(he:e=x\/H e=some (.own x))(k:∀b u,b≠e->h.get? b=some u->h'.get? b=some u)(heo:∃u,h'.get? e=some u)
  (new:ObjOk P w (upd H x o') h' x o'):HOk P w (upd H x o') h':=λb u q=>by
 have nown:∀c y,H c=some (.own y)->c≠x:=λc y r z=>by subst z;rw[r]at mu;exact mu
 have ntup:∀c xs,H c=some (.tup xs)->c≠x:=λc xs r z=>by subst z;rw[r]at mu;exact mu
 by_cases hb:b=x
 ·subst hb;rw[Z1F]at q;cases q;exact new
 ·rw[Z0e hb]at q
  by_cases hbe:b=e
  ·have q':H b=some (.own x):=by
    rcases he with z|z
    ·exact absurd (hbe.trans z) hb
    ·rw[hbe];exact z
   rw[q]at q';cases q'
   obtain⟨v,hv⟩:=heo
   exact⟨v,by rw[hbe];exact hv⟩
  ·refine(ok b u q).stay (λc v hc r=>k c v ?_ r) (λc r=>by rw[Z0e (nown c b r)];exact r) λc xs r=>by rw[Z0e (ntup c xs r)];exact r
   rcases hc with rfl|hc
   ·exact hbe
   ·rintro rfl
    rcases he with z|z
    ·exact nown c b hc z
    ·rw[hc]at z;cases z;exact hb rfl
end
structure Un (fs ex:List Addr) (H H':Hp) (h h':Heap):Prop where
 keep:∀b o,h.get? b=some o->H b=none->b∉fs->b∉ex->h'.get? b=some o
 slot:∀b o,h.get? b=some o->H b=none->b∈fs->b∉ex->∃sl,h'.get? b=some {o with slots:=sl}
 free:∀b o,h.get? b=some o->H b=none->b∉ex->H' b=none
 there:∀b o,h.get? b=some o->b∉ex->∃o',h'.get? b=some o'
 tups:∀b xs,H b=some (.tup xs)->H' b=some (.tup xs)
 frzs:∀b o u,H b=some (.frz o u)->H' b=some (.frz o u)
 tbls:∀b ps,H b=some (.tbl ps)->∃more,H' b=some (.tbl (ps++more))
section
variable{fs fs' ex ex':List Addr}{H H1 H2:Hp}{h h1 h2 h':Heap}{a x e:Addr}{o:HO}
theorem Un.any(u:Un fs ex H H1 h h1){b:Addr}{ob:Obj}(q:h.get? b=some ob)(n:H b=none)(hx:b∉ex):∃sl,h1.get? b=some {ob with slots:=sl}:=by
 by_cases hb:b∈fs
 ·exact u.slot b ob q n hb hx
 ·exact⟨ob.slots,u.keep b ob q n hb hx⟩
theorem Un.trans(a:Un fs ex H H1 h h1)(b:Un fs ex H1 H2 h1 h2):Un fs ex H H2 h h2 where
 keep:=λc ob q n hc hx=>b.keep c ob (a.keep c ob q n hc hx) (a.free c ob q n hx) hc hx
 slot:=λc ob q n hc hx=>by
  obtain⟨sl,e1⟩:=a.slot c ob q n hc hx
  obtain⟨sl',e2⟩:=b.slot c _ e1 (a.free c ob q n hx) hc hx
  exact⟨sl',e2⟩
 free:=λc ob q n hx=>by
  obtain⟨o',e1⟩:=a.there c ob q hx
  exact b.free c o' e1 (a.free c ob q n hx) hx
 there:=λc ob q hx=>by
  obtain⟨o',e1⟩:=a.there c ob q hx
  exact b.there c o' e1 hx
 tups:=λc xs q=>b.tups c xs (a.tups c xs q)
 frzs:=λc ob xs q=>b.frzs c ob xs (a.frzs c ob xs q)
 tbls:=λc ps q=>by
  obtain⟨m1,e1⟩:=a.tbls c ps q
  obtain⟨m2,e2⟩:=b.tbls c _ e1
  exact⟨m1++m2,by rw[e2,Array.append_assoc]⟩
theorem Un.kept(k:∀b u,h.get? b=some u->h'.get? b=some u):Un fs ex H H h h':=
 ⟨λb ob q _ _ _=>k b ob q,λb ob q _ _ _=>⟨ob.slots,k b ob q⟩,λ_ _ _ n _=>n,λb ob q _=>⟨ob,k b ob q⟩,λ_ _ q=>q,λ_ _ _ q=>q,λ_ ps q=>⟨#[],by rw[q];simp⟩⟩
theorem Un.refl:Un fs ex H H h h:=Un.kept λ_ _ q=>q
theorem Un.laid(k:∀b u,h.get? b=some u->h'.get? b=some u)(hp:h.objs.size≤a)(hn:H a=none):Un fs ex H (upd H a o) h h' where
 keep:=λb u q _ _ _=>k b u q
 slot:=λb u q _ _ _=>⟨u.slots,k b u q⟩
 free:=λb u q n _=>by rw[Z0e (Y0f (Y0x (Y08 q) hp))];exact n
 there:=λb u q _=>⟨u,k b u q⟩
 tups:=λb xs q=>by rw[Z0e (Z1x q hn)];exact q
 frzs:=λb u xs q=>by rw[Z0e (Z1x q hn)];exact q
 tbls:=λb ps q=>⟨#[],by rw[Z0e (Z1x q hn),q];simp⟩
theorem Un.write(mu:Mut (H x))(he:e=x\/H e=some (.own x))(k:∀b u,b≠e->h.get? b=some u->h'.get? b=some u)(heo:∃u,h'.get? e=some u):Un fs ex H (upd H x o) h h':=by
 have hx:∀b,H b=none->b≠x:=λb n z=>by subst z;rw[n]at mu;exact mu
 have hb:∀b,H b=none->b≠e:=λb n z=>by
  subst z
  rcases he with r|r
  ·exact hx b n r
  ·rw[n]at r;cases r
 have hm:∀b u,H b=some u->¬Mut (some u)->b≠x:=λb u q nm z=>by subst z;rw[q]at mu;exact nm mu
 refine⟨λb u q n _ _=>k b u (hb b n) q,λb u q n _ _=>⟨u.slots,k b u (hb b n) q⟩,λb u q n _=>by rw[Z0e (hx b n)];exact n,λb u q _=>?_,
  λb xs q=>by rw[Z0e (hm b _ q λz=>z)];exact q,λb u xs q=>by rw[Z0e (hm b _ q λz=>z)];exact q,λb ps q=>⟨#[],by rw[Z0e (hm b _ q λz=>z),q];simp⟩⟩
 by_cases hbe:b=e
 ·subst hbe;exact heo
 ·exact⟨u,k b u hbe q⟩
end
noncomputable def trk(h:Heap)(H:Hp):List Addr:=(Y0I h.objs.size).filter λa=>(H a).isSome
noncomputable def hidT(h:Heap)(H:Hp):Heap:=Y28 h (trk h H)
theorem hidT_size(h:Heap)(H:Hp):(hidT h H).objs.size=h.objs.size:=PySem.W.hideAll_size _ _
theorem hidT_get{h:Heap}{H:Hp}{b:Addr}{o:Obj}(e:h.get? b=some o)(n:H b=none):(hidT h H).get? b=some o:=
 Y3A _ e λhm=>by
  have q:(H b).isSome=true:=(List.mem_filter.mp hm).2
  rw[n]at q;simp at q
theorem of_hidT{h:Heap}{H:Hp}{b:Addr}{o:Obj}(e:(hidT h H).get? b=some o):h.get? b=some o/\H b=none:=by
 have e':h.get? b=some o:=PySem.W.of_hideAll (trk h H) e
 refine⟨e',?_⟩
 cases q:H b with
 |none=>rfl
 |some x=>
  have hm:b∈trk h H:=List.mem_filter.mpr ⟨Y3r.mpr (Y08 e'),by simp[q]⟩
  have z:(hidT h H).get? b=none:=PySem.W.hideAll_none (trk h H) hm
  rw[z]at e;cases e
noncomputable def allNews(g h:Heap)(L:Addr):List (Addr×Obj):=(Y0I h.objs.size).filterMap λa=>if a=L\/(g.get? a).isSome=true then none else(h.get? a).map λo=>(a,o)
noncomputable def rest(g h:Heap)(L d:Addr):List (Addr×Obj):=(allNews g h L).filter λp=>decide (p.1≠d)
end L2
namespace L2
open PySem PySem.Spec PyProof.Rows
structure Mod (K:Y00) (mg:Str->Option Value) (base:Heap):Prop where
 kin:K.In base
 glob:base.Ns mainGlobals mg
 blt:∃mb,base.Ns builtinsNs mb/\∀x:Str,x≠"__name__"->mb x=bootBuiltins x
 nolimit:base.NoLimit
structure Cx where
 prog:Program
 w:World
 K:Y00
 mg:Str->Option Value
 base:Heap
 A:Around
 N:List Str
 s₀:Shared
 H₀:Hp
 env:Env
 outer:List Env
 stack:List Env
 ex:List Addr
 fn:Str->Bool
 calm:Bool
 pn:List (Addr×Obj)
 xe:Value->Shared->Prop
noncomputable def frs(l:List Env):List Addr:=l.filterMap (·.frame)
noncomputable abbrev Cx.fs(X:Cx):List Addr:=frs X.outer
noncomputable def Vis(sc:Scope)(x:Str):Prop:=sc.names.lookup x=some .local\/sc.names.lookup x=some .cell\/sc.names.lookup x=some .free
noncomputable def Loc(sc:Scope)(x:Str):Prop:=sc.names.lookup x=some .local\/sc.names.lookup x=some .cell
noncomputable def Look(env:Env)(h:Heap)(m:Str->Option Value)(x:Str)(u:Value):Prop:=
 (env.kindOf x=some .local/\m x=some u)\/((env.kindOf x=some .cell\/env.kindOf x=some .free)/\∃c,env.cells.lookup x=some c/\h.IsCell c (some u))
structure Cx.Ok (X:Cx):Prop where
 mod:Mod X.K X.mg X.base
 kind:X.env.scope.kind=.function
 glob:X.env.globals=mainGlobals
 blt:X.env.builtins=builtinsNs
 above:X.s₀.heap.objs.size≤X.env.locals
 inj:∀x y c,X.env.cells.lookup x=some c->X.env.cells.lookup y=some c->x=y
 has:∀x,(X.env.kindOf x=some .cell\/X.env.kindOf x=some .free)->∃c,X.env.cells.lookup x=some c
 cab:∀x c,X.fn x=true->X.env.cells.lookup x=some c->X.s₀.heap.objs.size≤c
 hd:X.calm=true->X.A.handled=none
 frames:X.A.frames=some X.stack
 stk:X.stack=X.outer\/(X.stack=X.env::X.outer/\X.env.frame=some X.env.locals)
 exf:∀b∈X.ex,b≠X.env.locals/\∀x c,X.env.cells.lookup x=some c->c≠b
 bs:∀b o,X.base.get? b=some o->X.s₀.heap.get? b=some o/\X.H₀ b=none
 bsz:X.base.objs.size≤X.s₀.heap.objs.size
 noex:∀b o,X.base.get? b=some o->b∉X.ex
 exfs:∀b∈X.ex,b∉X.fs
 funs:X.s₀.heap.FunFrames X.base X.outer
 frf:∀b∈X.fs,X.H₀ b=none
structure Inv (X:Cx) (pins:List (Addr×Obj)) (σ:List (Option V)) (H:Hp) (s:Shared):Prop where
 ok:X.Ok
 os:s.os=X.s₀.os
 bare:AllBare s.gens
 base:Un X.fs X.ex X.H₀ H X.s₀.heap s.heap
 loc:∃m,s.heap.Ns X.env.locals m/\∀(i:Nat) (x:Str) (v:V),X.N[i]?=some x->σ[i]?=some (some v)->Vis X.env.scope x->∃u,RelV v u/\Look X.env s.heap m x u
 cell:∀x c,X.env.cells.lookup x=some c->∃v,s.heap.IsCell c v
 free:H X.env.locals=none
 freeC:∀x c,X.env.cells.lookup x=some c->H c=none
 pin:∀p∈X.pn++pins,s.heap.get? p.1=some p.2/\H p.1=none/\p.1≠X.env.locals/\p.1∉X.fs/\∀v,p.2.data≠.cell v
 hok:HOk X.prog X.w H s.heap
 len:σ.length=X.N.length
section
variable{X:Cx}{pins:List (Addr×Obj)}{σ:List (Option V)}{H H':Hp}{s:Shared}{h':Heap}
theorem Cx.Ok.nofr(ok:X.Ok){b:Addr}{o:Obj}(e:X.base.get? b=some o):b∉X.fs:=λhb=>by
 have:=(ok.funs.mem hb).1
 rw[e]at this;cases this
theorem Inv.bs(I:Inv X pins σ H s):∀b o,X.base.get? b=some o->s.heap.get? b=some o/\H b=none:=λb o e=>
 ⟨I.base.keep b o (I.ok.bs b o e).1 (I.ok.bs b o e).2 (I.ok.nofr e) (I.ok.noex b o e),I.base.free b o (I.ok.bs b o e).1 (I.ok.bs b o e).2 (I.ok.noex b o e)⟩
theorem Inv.bk(I:Inv X pins σ H s):∀b o,X.base.get? b=some o->s.heap.get? b=some o:=λb o e=>(I.bs b o e).1
theorem Inv.mod(I:Inv X pins σ H s):Mod X.K X.mg X.base:=I.ok.mod
theorem Inv.kIn(I:Inv X pins σ H s):X.K.In s.heap:=I.ok.mod.kin.keeps I.bk
theorem Inv.fr(I:Inv X pins σ H s):∃m,Fr X.base X.env.locals s.heap m:=
 let⟨m,hn,_⟩:=I.loc
 ⟨m,hn,I.bk,Y0M I.ok.bsz I.ok.above⟩
theorem Inv.lt(I:Inv X pins σ H s):X.env.locals<s.heap.objs.size:=let⟨_,hn,_⟩:=I.loc;hn.lt
theorem Inv.sz(I:Inv X pins σ H s):X.s₀.heap.objs.size≤s.heap.objs.size:=Y0M I.ok.above (Y39 I.lt)
theorem Inv.nofs(I:Inv X pins σ H s){a:Addr}(h:s.heap.objs.size≤a):a∉X.fs:=λhb=>by
 obtain⟨_,o,ho,_⟩:=I.ok.funs.mem hb
 exact absurd (Y0x (Y08 ho) (Y0M I.sz h)) (Y1E _)
theorem Inv.cne(I:Inv X pins σ H s):∀x c,X.env.cells.lookup x=some c->c≠X.env.locals:=λx c e z=>by
 obtain⟨v,o,ho,hd⟩:=I.cell x c e
 obtain⟨m,⟨o',es,ep,ho',hd',_⟩,_⟩:=I.loc
 rw[z,ho']at ho;cases ho;rw[hd']at hd;cases hd
theorem Inv.funs(I:Inv X pins σ H s):s.heap.FunFrames X.base X.outer:=by
 have all:∀(l:List Env),(∀b∈frs l,b∈X.fs)->X.s₀.heap.FunFrames X.base l->s.heap.FunFrames X.base l:=by
  intro l
  induction l with
  |nil=>intro _ _;trivial
  |cons env r ih=>
   intro hs hl
   obtain⟨hk,⟨L,o,hf,hn,ho,hd⟩,hr⟩:=hl
   have hL:L∈X.fs:=hs L (by unfold frs;rw[Y1F,hf];exact Y0l)
   obtain⟨sl,e⟩:=I.base.slot L o ho (I.ok.frf L hL) hL λz=>I.ok.exfs L z hL
   exact⟨hk,⟨L,_,hf,hn,e,hd⟩,ih (λb hb=>hs b (by unfold frs;rw[Y1F,hf];exact Y0c _ hb)) hr⟩
 exact all X.outer (λ_ hb=>hb) I.ok.funs
theorem Inv.stack(I:Inv X pins σ H s):s.heap.FunFrames X.base X.stack:=by
 rcases I.ok.stk with e|⟨e,hf⟩
 ·rw[e];exact I.funs
 ·rw[e]
  obtain⟨m,hn,_⟩:=I.loc
  refine .cons (by rw[I.ok.kind];decide) hf hn ?_ I.funs
  exact Heap.get?_none_of_le (Y0M I.ok.bsz I.ok.above)
theorem Inv.stkSub(I:Inv X pins σ H s):∀b∈frs X.stack,b∈X.env.locals::X.fs:=λb hb=>by
 rcases I.ok.stk with e|⟨e,hf⟩
 ·rw[e]at hb;exact Y0c _ hb
 ·rw[e]at hb
  unfold frs at hb
  rw[Y1F,hf]at hb
  exact hb
theorem Inv.stkFree(I:Inv X pins σ H s):∀b∈frs X.stack,H b=none:=λb hb=>by
 rcases Y05.mp (I.stkSub b hb)with e|hb
 ·rw[e];exact I.free
 ·obtain⟨_,o,ho,_⟩:=I.ok.funs.mem hb
  exact I.base.free b o ho (I.ok.frf b hb) λz=>I.ok.exfs b z hb
theorem Inv.step{g':Array GenState}{t':Nat}{d':Drawn}{ch:List Addr}(I:Inv X pins σ H s)
  (hch:∀b∈ch,(b∈X.ex\/X.s₀.heap.objs.size≤b)/\b≠X.env.locals/\(∀x c,X.env.cells.lookup x=some c->c≠b)/\∀p∈X.pn++pins,p.1≠b)
  (keep:∀b o,b≠X.env.locals->b∉X.fs->b∉ch->s.heap.get? b=some o->H b=none->h'.get? b=some o)
  (slot:∀b o,b≠X.env.locals->b∈X.fs->b∉ch->s.heap.get? b=some o->H b=none->∃sl,h'.get? b=some {o with slots:=sl}) (free:∀b o,b∉ch->s.heap.get? b=some o->H b=none->H' b=none)
  (there:∀b o,b∉ch->s.heap.get? b=some o->∃o',h'.get? b=some o')
  (tups:∀b xs,H b=some (.tup xs)->H' b=some (.tup xs)) (frzs:∀b o u,H b=some (.frz o u)->H' b=some (.frz o u)) (tbls:∀b ps,H b=some (.tbl ps)->∃more,H' b=some (.tbl (ps++more)))
  (ns:∀m,s.heap.Ns X.env.locals m->h'.Ns X.env.locals m) (hok:HOk X.prog X.w H' h') (hg:AllBare g'):
  Inv X pins σ H' {s with heap:=h',gens:=g',drawn:=d',toks:=t'}:=by
 have neL:∀b o,X.s₀.heap.get? b=some o->b≠X.env.locals:=λb o e=>Y0f (Y0x (Y08 e) I.ok.above)
 have neC:∀b o,X.s₀.heap.get? b=some o->b∉X.ex->b∉ch:=λb o e hx hb=>by
  rcases(hch b hb).1 with z|z
  ·exact hx z
  ·exact absurd (Y0x (Y08 e) z) (Y1E _)
 have cellK:∀x c,X.env.cells.lookup x=some c->∀v,s.heap.IsCell c v->h'.IsCell c v:=λx c e v ⟨o,ho,hd⟩=>by
  have nch:c∉ch:=λz=>(hch c z).2.2.1 x c e rfl
  by_cases hc:c∈X.fs
  ·obtain⟨sl,q⟩:=slot c o (I.cne x c e) hc nch ho (I.freeC x c e)
   exact⟨_,q,hd⟩
  ·exact⟨o,keep c o (I.cne x c e) hc nch ho (I.freeC x c e),hd⟩
 refine⟨I.ok,I.os,hg,⟨λb o e n hb hx=>?_,λb o e n hb hx=>?_,λb o e n hx=>?_,λb o e hx=>?_,λb xs e=>tups b xs (I.base.tups b xs e),λb o xs e=>frzs b o xs (I.base.frzs b o xs e),λb ps e=>?_⟩,?_,λx c e=>?_,?_,λx c e=>?_,λp hp=>?_,hok,I.len⟩
 ·exact keep b o (neL b o e) hb (neC b o e hx) (I.base.keep b o e n hb hx) (I.base.free b o e n hx)
 ·obtain⟨sl,e1⟩:=I.base.slot b o e n hb hx
  obtain⟨sl',e2⟩:=slot b _ (neL b o e) hb (neC b o e hx) e1 (I.base.free b o e n hx)
  exact⟨sl',e2⟩
 ·obtain⟨o',e1⟩:=I.base.there b o e hx
  exact free b o' (neC b o e hx) e1 (I.base.free b o e n hx)
 ·obtain⟨o',e1⟩:=I.base.there b o e hx
  exact there b o' (neC b o e hx) e1
 ·obtain⟨m1,e1⟩:=I.base.tbls b ps e
  obtain⟨m2,e2⟩:=tbls b _ e1
  exact⟨m1++m2,by rw[e2,Array.append_assoc]⟩
 ·obtain⟨m,hn,hl⟩:=I.loc
  refine⟨m,ns m hn,λi x v e1 e2 e3=>?_⟩
  obtain⟨u,r,l⟩:=hl i x v e1 e2 e3
  refine⟨u,r,?_⟩
  rcases l with l|⟨k,c,e,z⟩
  ·exact .inl l
  ·exact .inr ⟨k,c,e,cellK x c e _ z⟩
 ·obtain⟨v,z⟩:=I.cell x c e
  exact⟨v,cellK x c e v z⟩
 ·obtain⟨m,⟨o,_,_,ho,_⟩,_⟩:=I.loc
  exact free _ o (λz=>(hch _ z).2.1 rfl) ho I.free
 ·obtain⟨v,o,ho,hd⟩:=I.cell x c e
  exact free c o (λz=>(hch c z).2.2.1 x c e rfl) ho (I.freeC x c e)
 ·obtain⟨e,n,ne,nf,d⟩:=I.pin p hp
  have nch:p.1∉ch:=λz=>(hch p.1 z).2.2.2 p hp rfl
  exact⟨keep p.1 p.2 ne nf nch e n,free p.1 p.2 nch e n,ne,nf,d⟩
theorem Inv.un{t':Nat}(I:Inv X pins σ H s)(u:Un X.fs [] H H' s.heap h')(hok:HOk X.prog X.w H' h'):Inv X pins σ H' {s with heap:=h',toks:=t'}:=by
 obtain⟨m,⟨o,es,ep,ho,r⟩,_⟩:=id I.loc
 obtain⟨sl,hL⟩:=u.any ho I.free (by simp)
 exact I.step (g':=s.gens) (d':=s.drawn) (ch:=[]) (λ_ z=>nomatch z) (λb o _ hb _ e n=>u.keep b o e n hb (by simp)) (λb o _ hb _ e n=>u.slot b o e n hb (by simp)) (λb o _ e n=>u.free b o e n (by simp)) (λb o _ e=>u.there b o e (by simp)) u.tups u.frzs u.tbls (λm' hm=>by
  obtain⟨o',es',ep',ho',r'⟩:=hm
  rw[ho]at ho';cases ho'
  exact⟨_,es',ep',hL,r'⟩) hok I.bare
theorem Inv.call{g':Array GenState}{t':Nat}{d':Drawn}{ch:List Addr}(I:Inv X pins σ H s)(u:Un (frs X.stack) ch H H' s.heap h')(hok:HOk X.prog X.w H' h')(hg:AllBare g')
  (hch:∀b∈ch,(b∈X.ex\/X.s₀.heap.objs.size≤b)/\b≠X.env.locals/\(∀x c,X.env.cells.lookup x=some c->c≠b)/\∀p∈X.pn++pins,p.1≠b):
  Inv X pins σ H' {s with heap:=h',gens:=g',drawn:=d',toks:=t'}:=by
 obtain⟨m,⟨o,es,ep,ho,r⟩,_⟩:=id I.loc
 obtain⟨sl,hL⟩:=u.any ho I.free λz=>(hch _ z).2.1 rfl
 exact I.step (ch:=ch) hch (λb o hL hb hc e n=>u.keep b o e n (λz=>(Y05.mp (I.stkSub b z)).elim hL hb) hc) (λb o _ _ hc e n=>u.any e n hc) (λb o hc e n=>u.free b o e n hc) (λb o hc e=>u.there b o e hc) u.tups u.frzs u.tbls (λm' hm=>by
  obtain⟨o',es',ep',ho',r'⟩:=hm
  rw[ho]at ho';cases ho'
  exact⟨_,es',ep',hL,r'⟩) hok hg
theorem Inv.turned{t':Nat}{it:Addr}(I:Inv X pins σ H s)(k:∀b o,b≠it->s.heap.get? b=some o->h'.get? b=some o)(hn:H it=none)(hL:it≠X.env.locals)
  (h1:it∈X.ex\/X.s₀.heap.objs.size≤it) (h2:∀x c,X.env.cells.lookup x=some c->c≠it) (h3:∀p∈X.pn++pins,p.1≠it):Inv X pins σ H {s with heap:=h',toks:=t'}:=by
 have nit:∀b u,H b=some u->b≠it:=λb u e z=>by rw[z,hn]at e;cases e
 refine I.step (g':=s.gens) (d':=s.drawn) (ch:=[it]) (λb hb=>?_) (λb o _ _ hc e _=>k b o (λz=>hc (by simp[z])) e) (λb o _ _ hc e _=>⟨o.slots,k b o (λz=>hc (by simp[z])) e⟩) (λ_ _ _ _ n=>n)
  (λb o hc e=>⟨o,k b o (λz=>hc (by simp[z])) e⟩) (λ_ _ e=>e) (λ_ _ _ e=>e) (λb ps e=>⟨#[],by rw[e];simp⟩) (λm hm=>?_) (λb u e=>?_) I.bare
 ·have e:b=it:=by simpa using hb
  subst e
  exact⟨h1,hL,h2,h3⟩
 ·obtain⟨o,es,ep,ho,r⟩:=hm
  exact⟨o,es,ep,k _ o (Y2J hL) ho,r⟩
 ·refine(I.hok b u e).stay (λc v hc q=>k c v ?_ q) (λ_ q=>q) λ_ _ q=>q
  rcases hc with z|z
  ·rw[z];exact nit b u e
  ·exact nit c _ z
theorem Inv.tok(I:Inv X pins σ H s)(t:Nat):Inv X pins σ H {s with toks:=t}:=I.un (h':=s.heap) (t':=t) Un.refl I.hok
theorem Inv.kept{t':Nat}(I:Inv X pins σ H s)(k:∀b u,s.heap.get? b=some u->h'.get? b=some u):Inv X pins σ H {s with heap:=h',toks:=t'}:=I.un (Un.kept k) (I.hok.kept k)
theorem Inv.laid{a:Addr}{o:HO}{t':Nat}(I:Inv X pins σ H s)(k:∀b u,s.heap.get? b=some u->h'.get? b=some u)(hp:s.heap.objs.size≤a)(new:ObjOk X.prog X.w (upd H a o) h' a o):
  Inv X pins σ (upd H a o) {s with heap:=h',toks:=t'}:=I.un (Un.laid k hp (I.hok.fresh hp)) (I.hok.laid k hp new)
theorem Inv.write{x e:Addr}{o:HO}{t':Nat}(I:Inv X pins σ H s)(mu:Mut (H x))(he:e=x\/H e=some (.own x))(k:∀b u,b≠e->s.heap.get? b=some u->h'.get? b=some u)(heo:∃u,h'.get? e=some u)
  (new:ObjOk X.prog X.w (upd H x o) h' x o):Inv X pins σ (upd H x o) {s with heap:=h',toks:=t'}:=I.un (Un.write mu he k heo) (I.hok.write mu he k heo new)
theorem Inv.weak{σ':List (Option V)}(I:Inv X pins σ H s)(hl:σ'.length=σ.length)(w:∀(i:Nat) v,σ'[i]?=some (some v)->σ[i]?=some (some v)):Inv X pins σ' H s:=
 ⟨I.ok,I.os,I.bare,I.base,let⟨m,hn,hl'⟩:=I.loc;⟨m,hn,λi x v e1 e2 e3=>hl' i x v e1 (w i v e2) e3⟩,I.cell,I.free,I.freeC,I.pin,I.hok,hl.trans I.len⟩
theorem Inv.pins_of{pins':List (Addr×Obj)}(I:Inv X pins σ H s)(h:∀p∈pins',s.heap.get? p.1=some p.2/\H p.1=none/\p.1≠X.env.locals/\p.1∉X.fs/\∀v,p.2.data≠.cell v):Inv X pins' σ H s:=
 ⟨I.ok,I.os,I.bare,I.base,I.loc,I.cell,I.free,I.freeC,λp hp=>(Y0z.mp hp).elim (λz=>I.pin p (List.mem_append_left _ z)) (h p),I.hok,I.len⟩
theorem nodup_ix{N:List Str}(hN:N.Nodup){i j:Nat}{x:Str}(a:N[i]?=some x) (b:N[j]?=some x):i=j:=by
 obtain⟨h1,e1⟩:=Y07.mp a
 obtain⟨h2,e2⟩:=Y07.mp b
 exact(List.getElem_inj hN).mp (e1.trans e2.symm)
theorem store_ok2{M:Model}{A:Around}{E:Value->Shared->Prop}{i:Nat}{x:Str}{v:V}{u:Value}{Q:Unit->Shared->Prop}(I:Inv X pins σ H s)(hN:X.N.Nodup)(hi:X.N[i]?=some x) (hx:Loc X.env.scope x) (r:RelV v u)
  (h:∀s',Inv X pins (σ.set i (some v)) H s'->(∃a,Y1N a s.heap s'.heap/\(a=X.env.locals\/X.env.cells.lookup x=some a))->Q () s') (hf:X.fn x=true\/X.env.scope.names.lookup x=some .local:=by first|exact .inl rfl|exact .inr rfl|assumption):wpAny M A (storeName X.env x u) Q E s:=by
 obtain⟨m,hn,hl⟩:=id I.loc
 have hcls:(X.env.scope.kind==.class||(X.env.scope.kind==.module&&X.env.locals != X.env.globals))=false:=by rw[I.ok.kind];rfl
 have hiσ:i<σ.length:=by rw[I.len];exact(Y07.mp hi).1
 have cne:=I.cne
 have tracked:∀{a:Addr} {h':Heap},(∃o,s.heap.get? a=some o/\H a=none)->Y1N a s.heap h'->HOk X.prog X.w H h':=fun{a h'} ha hs b ob e=>by
  obtain⟨_,_,hfree⟩:=ha
  refine(I.hok b ob e).stay (λc w' hc q=>(hs.2 c ?_).trans q) (λ_ q=>q) λ_ _ q=>q
  rintro rfl
  rcases hc with rfl|hc
  ·rw[hfree]at e;cases e
  ·rw[hfree]at hc;cases hc
 rcases hx with hk|hk
 ·refine wpAny_storeName_local hk hn (λh' hn' hs=>?_) hcls
  obtain⟨oL,_,_,hoL,_⟩:=id hn
  refine h _ ⟨I.ok,I.os,I.bare,⟨λb o e n hb hx=>?_,λb o e n hb hx=>?_,I.base.free,λb o e hx=>?_,I.base.tups,I.base.frzs,I.base.tbls⟩,⟨_,hn',λj y v' e1 e2 e3=>?_⟩,λy c e=>?_,I.free,I.freeC,λp hp=>?_,tracked ⟨oL,hoL,I.free⟩ hs,by simpa using I.len⟩ ⟨_,hs,.inl rfl⟩
  ·exact(hs.2 b (Y0f (Y0x (Y08 e) I.ok.above))).trans (I.base.keep b o e n hb hx)
  ·obtain⟨sl,e1⟩:=I.base.slot b o e n hb hx
   exact⟨sl,(hs.2 b (Y0f (Y0x (Y08 e) I.ok.above))).trans e1⟩
  ·obtain⟨o',e1⟩:=I.base.there b o e hx
   exact⟨o',(hs.2 b (Y0f (Y0x (Y08 e) I.ok.above))).trans e1⟩
  ·by_cases hj:j=i
   ·subst hj
    rw[hi]at e1;cases e1
    rw[Y33 hiσ]at e2
    cases e2
    exact⟨u,r,.inl ⟨hk,by simp⟩⟩
   ·rw[Y1i (Y2J hj)]at e2
    obtain⟨u',r',q⟩:=hl j y v' e1 e2 e3
    refine⟨u',r',?_⟩
    rcases q with⟨k,e⟩|⟨k,c,e,z⟩
    ·refine .inl ⟨k,?_⟩
     have:y≠x:=λe=>hj (nodup_ix hN e1 (e▸hi))
     simp[this,e]
    ·exact .inr ⟨k,c,e,z.sameBut hs (cne y c e)⟩
  ·obtain⟨w',z⟩:=I.cell y c e
   exact⟨w',z.sameBut hs (cne y c e)⟩
  ·obtain⟨e,n,ne,nf,d⟩:=I.pin p hp
   exact⟨(hs.2 p.1 ne).trans e,n,ne,nf,d⟩
 ·have hfn:X.fn x=true:=by
   rcases hf with z|z
   ·exact z
   ·rw[z]at hk;cases hk
  obtain⟨c,hc⟩:=I.ok.has x (.inl hk)
  obtain⟨w',z⟩:=I.cell x c hc
  refine wpAny_storeName_cell I.ok.kind hk hc z (λh' hc' hs=>?_)
  obtain⟨oc,hoc,hocd⟩:=id z
  refine h {s with heap:=h'} ⟨I.ok,I.os,I.bare,⟨λb o e n hb hx=>?_,λb o e n hb hx=>?_,I.base.free,λb o e hx=>?_,I.base.tups,I.base.frzs,I.base.tbls⟩,⟨m,hn.sameBut hs (Y2J (cne x c hc)),λj y v' e1 e2 e3=>?_⟩,λy c' e=>?_,I.free,I.freeC,λp hp=>?_,tracked ⟨oc,hoc,I.freeC x c hc⟩ hs,by simpa using I.len⟩ ⟨c,hs,.inr hc⟩
  ·exact(hs.2 b (Y0f (Y0x (Y08 e) (I.ok.cab x c hfn hc)))).trans (I.base.keep b o e n hb hx)
  ·obtain⟨sl,e1⟩:=I.base.slot b o e n hb hx
   exact⟨sl,(hs.2 b (Y0f (Y0x (Y08 e) (I.ok.cab x c hfn hc)))).trans e1⟩
  ·obtain⟨o',e1⟩:=I.base.there b o e hx
   exact⟨o',(hs.2 b (Y0f (Y0x (Y08 e) (I.ok.cab x c hfn hc)))).trans e1⟩
  ·by_cases hj:j=i
   ·subst hj
    rw[hi]at e1;cases e1
    rw[Y33 hiσ]at e2
    cases e2
    exact⟨u,r,.inr ⟨.inl hk,c,hc,hc'⟩⟩
   ·rw[Y1i (Y2J hj)]at e2
    obtain⟨u',r',q⟩:=hl j y v' e1 e2 e3
    refine⟨u',r',?_⟩
    rcases q with q|⟨k,c',e,z'⟩
    ·exact .inl q
    ·refine .inr ⟨k,c',e,z'.sameBut hs ?_⟩
     rintro rfl
     exact hj (nodup_ix hN e1 (I.ok.inj _ _ _ e hc▸hi))
  ·by_cases hcc:c'=c
   ·subst hcc;exact⟨_,hc'⟩
   ·obtain⟨w2,z2⟩:=I.cell y c' e
    exact⟨w2,z2.sameBut hs hcc⟩
  ·obtain⟨e,n,ne,nf,d⟩:=I.pin p hp
   refine⟨(hs.2 p.1 ?_).trans e,n,ne,nf,d⟩
   intro q
   rw[q,hoc]at e
   have q':oc=p.2:=Y0w e
   exact d w' (by rw[<- q'];exact hocd)
theorem store_ok{M:Model}{A:Around}{E:Value->Shared->Prop}{i:Nat}{x:Str}{v:V}{u:Value}{Q:Unit->Shared->Prop}(I:Inv X pins σ H s)(hN:X.N.Nodup)(hi:X.N[i]?=some x) (hx:Loc X.env.scope x) (r:RelV v u)
  (h:∀s',Inv X pins (σ.set i (some v)) H s'->Q () s') (hf:X.fn x=true\/X.env.scope.names.lookup x=some .local:=by first|exact .inl rfl|exact .inr rfl|assumption):wpAny M A (storeName X.env x u) Q E s:=
 store_ok2 I hN hi hx r (λs' I' _=>h s' I') hf
theorem Inv.call'{s':Shared}{ch:List Addr}(I:Inv X pins σ H s)(ho:s'.os=s.os)(u:Un (frs X.stack) ch H H' s.heap s'.heap)(hok:HOk X.prog X.w H' s'.heap)(hg:AllBare s'.gens)
  (hch:∀b∈ch,(b∈X.ex\/X.s₀.heap.objs.size≤b)/\b≠X.env.locals/\(∀x c,X.env.cells.lookup x=some c->c≠b)/\∀p∈X.pn++pins,p.1≠b):Inv X pins σ H' s':=by
 obtain⟨h',g',d',t',o'⟩:=s'
 have e:o'=s.os:=ho
 subst e
 exact I.call (g':=g') (t':=t') (d':=d') u hok hg hch
end
noncomputable abbrev XK:=Value->Option Addr->Hp->Prop
noncomputable abbrev St:=List (Option V)
noncomputable abbrev VK:=V->Hp->Prop
noncomputable abbrev TE:=St->Hp->VK->Prop
noncomputable abbrev TT:=St->Hp->(Bool->Hp->Prop)->Prop
noncomputable abbrev TA:=St->Hp->(List V->Hp->Prop)->Prop
structure Ends where
 nx:St->Hp->Prop
 rt:VK
 bk:St->Hp->Prop:=λ_ _=>False
 ct:St->Hp->Prop:=λ_ _=>False
noncomputable abbrev TS:=Ends->St->Hp->Prop
noncomputable def EP(X:Cx)(pins:List (Addr×Obj))(σ:St)(Q:VK)(u:Value)(s':Shared):Prop:=∃v H',Inv X pins σ H' s'/\RelV v u/\Q v H'
noncomputable def TP(X:Cx)(pins:List (Addr×Obj))(σ:St)(Q:Bool->Hp->Prop)(b:Bool)(s':Shared):Prop:=∃H',Inv X pins σ H' s'/\Q b H'
noncomputable def AP(X:Cx)(pins:List (Addr×Obj))(σ:St)(Q:List V->Hp->Prop)(us:List Value)(s':Shared):Prop:=∃vs H',Inv X pins σ H' s'/\Vals vs us/\Q vs H'
noncomputable def SP(X:Cx)(pins:List (Addr×Obj))(D:Ends)(f:Flow)(s':Shared):Prop:=
 match f with
 |.next=>∃σ' H',Inv X pins σ' H' s'/\D.nx σ' H'
 |.brk=>∃σ' H',Inv X pins σ' H' s'/\D.bk σ' H'
 |.cont=>∃σ' H',Inv X pins σ' H' s'/\D.ct σ' H'
 |.ret u=>∃v σ' H',Inv X pins σ' H' s'/\RelV v u/\D.rt v H'
noncomputable def PE(X:Cx)(e:Expr)(t:TE):Prop:=
 ∀(pins:List (Addr×Obj)) (s:Shared) (σ:St) (H:Hp) (Q:VK),Inv X pins σ H s->t σ H Q->wpAny (model X.prog X.w) X.A (eval e X.env) (EP X pins σ Q) X.xe s
noncomputable def PT(X:Cx)(e:Expr)(t:TT):Prop:=
 ∀(pins:List (Addr×Obj)) (s:Shared) (σ:St) (H:Hp) (Q:Bool->Hp->Prop),Inv X pins σ H s->t σ H Q->wpAny (model X.prog X.w) X.A (isTrue e X.env (eval e X.env)) (TP X pins σ Q) X.xe s
noncomputable def PW(X:Cx)(e:Expr)(t:TT):Prop:=
 ∀(whole:Sem Value) (pins:List (Addr×Obj)) (s:Shared) (σ:St) (H:Hp) (Q:Bool->Hp->Prop),Inv X pins σ H s->t σ H Q->wpAny (model X.prog X.w) X.A (isTrue e X.env whole) (TP X pins σ Q) X.xe s
theorem PW.pt{X:Cx}{e:Expr}{t:TT}(h:PW X e t):PT X e t:=h _
noncomputable def PA(X:Cx)(es:List Expr)(t:TA):Prop:=
 ∀(pos:Pos) (pins:List (Addr×Obj)) (s:Shared) (σ:St) (H:Hp) (Q:List V->Hp->Prop),Inv X pins σ H s->t σ H Q->wpAny (model X.prog X.w) X.A (spliced (backTo pos (starEach es X.env))) (AP X pins σ Q) X.xe s
noncomputable def PS(X:Cx)(st:Stmt)(t:TS):Prop:=
 ∀(pins:List (Addr×Obj)) (s:Shared) (σ:St) (H:Hp) (D:Ends),Inv X pins σ H s->t D σ H->wpAny (model X.prog X.w) X.A (exec st X.env) (SP X pins D) X.xe s
noncomputable def PSs(X:Cx)(st:List Stmt)(t:TS):Prop:=
 ∀(pins:List (Addr×Obj)) (s:Shared) (σ:St) (H:Hp) (D:Ends),Inv X pins σ H s->t D σ H->wpAny (model X.prog X.w) X.A (execs st X.env) (SP X pins D) X.xe s
theorem thn{α:Type}{t:Sem α}{Q Q':α->Shared->Prop}{M:Model}{A:Around}{E:Value->Shared->Prop}{s:Shared}(h:wpAny M A t Q E s)(hQ:∀a s,Q a s->Q' a s):wpAny M A t Q' E s:=wpAny_mono h hQ λ_ _ x=>x
end L2
namespace L2
open PySem PySem.Spec PyProof.Rows
section
variable{X:Cx}
theorem bin{a b:Expr}{ta tb:TE}(ha:PE X a ta)(hb:PE X b tb){pins:List (Addr×Obj)}{s:Shared}{σ:St}{H:Hp}{R:V->V->Hp->Prop}(I:Inv X pins σ H s)(h:ta σ H λx H1=>tb σ H1 λy H2=>R x y H2)
  {α:Type} {Q:α->Shared->Prop} {f:Value->Value->Sem α}
  (hf:∀v u s2 x y H2,Inv X pins σ H2 s2->RelV x v->RelV y u->R x y H2->wpAny (model X.prog X.w) X.A (f v u) Q X.xe s2):
  wpAny (model X.prog X.w) X.A (eval a X.env) (λv s₁=>wpAny (model X.prog X.w) X.A (eval b X.env) (λu s₂=>wpAny (model X.prog X.w) X.A (f v u) Q X.xe s₂) X.xe s₁) X.xe s:=by
 refine thn (ha pins s σ H _ I h) λv s1 ⟨x,H1,I1,r1,q1⟩=>?_
 refine thn (hb pins s1 σ H1 _ I1 q1) λu s2 ⟨y,H2,I2,r2,q2⟩=>?_
 exact hf v u s2 x y H2 I2 r1 r2 q2
noncomputable def tVar(i:Nat):TE:=λσ H Q=>∃v,σ[i]?=some (some v)/\Q v H
noncomputable def tC(v:V):TE:=λ_ H Q=>Q v H
theorem pe_var{i:Nat}{x:Str}{pos:Pos}(hN:X.N[i]?=some x) (hv:Vis X.env.scope x) (hd:(x==("__debug__":Str))=false:=by decide) (hcd:(x==("__classdict__":Str))=false:=by decide):PE X (.Name x pos) (tVar i):=by
 intro pins s σ H Q I h
 obtain⟨v,e,h⟩:=h
 obtain⟨m,hn,hl⟩:=I.loc
 obtain⟨u,r,l⟩:=hl i x v hN e hv
 have fin:EP X pins σ Q u s:=⟨v,H,I,r,h⟩
 rcases l with⟨hk,hm⟩|⟨hk,c,hc,hcell⟩
 ·exact wpAny_Name (wpAny_loadName_local I.ok.kind hk hn hm fin) hd
 ·rcases hk with hk|hk
  ·exact wpAny_Name (wpAny_loadName_cell I.ok.kind hk hc hcell fin) hd
  ·exact wpAny_Name (wpAny_loadName_free I.ok.kind hk hc hcell fin hcd) hd
theorem pe_int{i j pos}:PE X (.Constant (.int i) j pos) (tC (.int i)):=λ_ _ _ H _ I h=>wpAny_Constant_int ⟨.int i,H,I.tok _,⟨_,rfl⟩,h⟩
theorem pe_bl{b j pos}:PE X (.Constant (.bool b) j pos) (tC (.bl b)):=λ_ _ _ H _ I h=>Constant_bool ⟨.bl b,H,I,rfl,h⟩
theorem pe_non{j pos}:PE X (.Constant .none j pos) (tC .non):=λ_ _ _ H _ I h=>Constant_none ⟨.non,H,I,rfl,h⟩
theorem pe_str{x j pos}:PE X (.Constant (.str x) j pos) (tC (.str x)):=λ_ _ _ H _ I h=>Calls.Constant_str ⟨.str x,H,I.tok _,⟨_,rfl⟩,h⟩
noncomputable def Gl(X:Cx)(x:Str):Prop:=X.env.kindOf x=some .globalImplicit
theorem ld_glob{E:Value->Shared->Prop}{pins:List (Addr×Obj)}{s:Shared}{σ:St}{H:Hp}{x:Str}{u:Value}{pos:Pos}{Q:Value->Shared->Prop}(I:Inv X pins σ H s)(hg:Gl X x)(hm:X.mg x=some u)(h:Q u s)
  (hd:(x==("__debug__":Str))=false:=by decide):wpAny (model X.prog X.w) X.A (eval (.Name x pos) X.env) Q E s:=
 Y2y I.ok.kind hg (Calls.loadGlobal_global (by rw[I.ok.glob];exact I.mod.glob.keeps I.bk) hm h) hd
theorem ld_blt{E:Value->Shared->Prop}{pins:List (Addr×Obj)}{s:Shared}{σ:St}{H:Hp}{x:Str}{u:Value}{pos:Pos}{Q:Value->Shared->Prop}(I:Inv X pins σ H s)(hg:Gl X x)(hm:X.mg x=none)(hv:bootBuiltins x=some u)(h:Q u s)
  (hn:x≠"__name__":=by decide) (hd:(x==("__debug__":Str))=false:=by decide):wpAny (model X.prog X.w) X.A (eval (.Name x pos) X.env) Q E s:=by
 obtain⟨mb,h1,h2⟩:=I.mod.blt
 exact Y2y I.ok.kind hg (Calls.loadGlobal_builtin (by rw[I.ok.glob];exact I.mod.glob.keeps I.bk) hm (by rw[I.ok.blt];exact h1.keeps I.bk) ((h2 x hn).trans hv) h) hd
theorem pe_glob{x:Str}{v:V}{u:Value}{pos:Pos}(hg:Gl X x)(hm:X.mg x=some u)(r:RelV v u)(hd:(x==("__debug__":Str))=false:=by decide):PE X (.Name x pos) (tC v):=
 λ_ _ _ H _ I h=>ld_glob I hg hm ⟨v,H,I,r,h⟩ hd
theorem pe_bltn{x:Str}{v:V}{u:Value}{pos:Pos}(hg:Gl X x)(hm:X.mg x=none)(hv:bootBuiltins x=some u)(r:RelV v u)(hn:x≠"__name__":=by decide)(hd:(x==("__debug__":Str))=false:=by decide):PE X (.Name x pos) (tC v):=
 λ_ _ _ H _ I h=>ld_blt I hg hm hv ⟨v,H,I,r,h⟩ hn hd
variable{a b:Expr}{ta tb:TE}{pos:Pos}
noncomputable def tB(t:TE):TT:=λσ H Q=>t σ H λx H1=>∃c,x=.bl c/\Q c H1
theorem pt_val{e:Expr}{t:TE}(h:PE X e t)(he:∀whole,isTrue e X.env whole=(do let v<- whole;standAt e.pos;holding [v] (truthy v)):=by intro _;rfl):PT X e (tB t):=by
 intro pins s σ H Q I hw
 refine isTrue_plain (thn (h pins s σ H _ I hw) λv s1 ⟨x,H1,I1,r1,q1⟩=>?_) (he _)
 obtain⟨d,rfl,q⟩:=q1
 cases r1
 exact wpAny_truthy_bool ⟨H1,I1,q⟩
variable{tA tB':TT}{rest:List Expr}
noncomputable def tAnd(t u:TT):TT:=λσ H Q=>t σ H λc H1=>if c=true then u σ H1 Q else Q false H1
noncomputable def tOr(t u:TT):TT:=λσ H Q=>t σ H λc H1=>if c=true then Q true H1 else u σ H1 Q
noncomputable def tNot(t:TT):TT:=λσ H Q=>t σ H λc H1=>Q (!c) H1
theorem pw_and1(ha:PT X a tA):PW X (.BoolOp .And [a] pos) tA:=by
 intro wh pins s σ H Q I h
 refine isTrue_and (thn (ha pins s σ H Q I h) λc s1 e=>?_)
 cases c with
 |true=>exact isTrue_and_nil e
 |false=>exact e
theorem pw_or1(ha:PT X a tA):PW X (.BoolOp .Or [a] pos) tA:=by
 intro wh pins s σ H Q I h
 refine isTrue_or (thn (ha pins s σ H Q I h) λc s1 e=>?_)
 cases c with
 |false=>exact isTrue_or_nil e
 |true=>exact e
theorem pw_and(ha:PT X a tA)(hb:PW X (.BoolOp .And (b::rest) pos) tB'):PW X (.BoolOp .And (a::b::rest) pos) (tAnd tA tB'):=by
 intro wh pins s σ H Q I h
 refine isTrue_and (thn (ha pins s σ H _ I h) λc s1 ⟨H1,I1,q1⟩=>?_)
 cases c with
 |true=>exact hb wh pins s1 σ H1 Q I1 q1
 |false=>exact⟨H1,I1,q1⟩
theorem pw_or(ha:PT X a tA)(hb:PW X (.BoolOp .Or (b::rest) pos) tB'):PW X (.BoolOp .Or (a::b::rest) pos) (tOr tA tB'):=by
 intro wh pins s σ H Q I h
 refine isTrue_or (thn (ha pins s σ H _ I h) λc s1 ⟨H1,I1,q1⟩=>?_)
 cases c with
 |true=>exact⟨H1,I1,q1⟩
 |false=>exact hb wh pins s1 σ H1 Q I1 q1
theorem pt_not(ha:PT X a tA):PT X (.UnaryOp .Not a pos) (tNot tA):=by
 intro pins s σ H Q I h
 exact isTrue_not (ha pins s σ H (λc H1=>Q (!c) H1) I h)
noncomputable def tAndV(ta tb:TE):TE:=λσ H Q=>ta σ H λx H1=>∃c,x=.bl c/\if c=true then tb σ H1 Q else Q (.bl false) H1
noncomputable def tOrV(ta tb:TE):TE:=λσ H Q=>ta σ H λx H1=>∃c,x=.bl c/\if c=true then Q (.bl true) H1 else tb σ H1 Q
noncomputable def tNotV(ta:TE):TE:=λσ H Q=>ta σ H λx H1=>∃c,x=.bl c/\Q (.bl (!c)) H1
theorem pe_one{op}{t:TE}(h:PE X a t):PE X (.BoolOp op [a] pos) t:=λpins s σ H Q I hw=>BoolOp_one (h pins s σ H Q I hw)
theorem pe_and(ha:PE X a ta)(hb:PE X (.BoolOp .And (b::rest) pos) tb):PE X (.BoolOp .And (a::b::rest) pos) (tAndV ta tb):=by
 intro pins s σ H Q I h
 refine BoolOp_and (thn (ha pins s σ H _ I h) λv s1 ⟨x,H1,I1,r1,q1⟩=>?_)
 obtain⟨c,rfl,q1⟩:=q1
 cases r1
 refine wpAny_truthy_bool ?_
 cases c with
 |true=>exact hb pins s1 σ H1 Q I1 q1
 |false=>exact⟨.bl false,H1,I1,rfl,q1⟩
theorem pe_or(ha:PE X a ta)(hb:PE X (.BoolOp .Or (b::rest) pos) tb):PE X (.BoolOp .Or (a::b::rest) pos) (tOrV ta tb):=by
 intro pins s σ H Q I h
 refine BoolOp_or (thn (ha pins s σ H _ I h) λv s1 ⟨x,H1,I1,r1,q1⟩=>?_)
 obtain⟨c,rfl,q1⟩:=q1
 cases r1
 refine wpAny_truthy_bool ?_
 cases c with
 |false=>exact hb pins s1 σ H1 Q I1 q1
 |true=>exact⟨.bl true,H1,I1,rfl,q1⟩
theorem pe_not(ha:PE X a ta):PE X (.UnaryOp .Not a pos) (tNotV ta):=by
 intro pins s σ H Q I h
 refine UnaryOp_ (thn (ha pins s σ H _ I h) λv s1 ⟨x,H1,I1,r1,q1⟩=>?_)
 obtain⟨c,rfl,q1⟩:=q1
 cases r1
 exact not_of (wpAny_truthy_bool ⟨.bl (!c),H1,I1,rfl,q1⟩)
end
end L2
namespace L2
open PySem PySem.Spec PyProof.Rows
noncomputable def SqL(K:Y00)(H:Hp)(a:Addr)(xs:List V):Prop:=
 Rd H a (.lst xs)\/
  ∃(o:Obj) (its:Array Value) (n:Nat),K.lookup a=some o/\o.cls=.type "list"/\o.dict=none/\o.data=.seq its n/\its.size≤sizeLine/\Vals xs its.toList
noncomputable def SqT(K:Y00)(H:Hp)(a:Addr)(xs:List V):Prop:=
 Rd H a (.tup xs)\/
  ∃(o:Obj) (its:Array Value) (n:Nat),K.lookup a=some o/\o.cls=.type "tuple"/\o.data=.seq its n/\its.size≤sizeLine/\Vals xs its.toList
noncomputable def absV:Value->Option V
 |.none=>some .non
 |.bool b=>some (.bl b)
 |.int i _=>some (.int i)
 |.str x _=>some (.str x)
 |.bytes b _=>some (.byt b)
 |.float b _=>some (.flt b)
 |.ref a=>some (.ref a)
 |.type n=>some (.ty n)
 |_=>none
theorem RelV.abs{x:V}{u:Value}(r:RelV x u):absV u=some x:=by
 cases x with
 |non=>cases r;rfl
 |bl _=>cases r;rfl
 |int _=>obtain⟨t,rfl⟩:=r;rfl
 |str _=>obtain⟨t,rfl⟩:=r;rfl
 |byt _=>obtain⟨t,rfl⟩:=r;rfl
 |flt _=>obtain⟨t,rfl⟩:=r;rfl
 |ref _=>cases r;rfl
 |ty _=>cases r;rfl
theorem RelV.inj{x y:V}{u:Value}(r:RelV x u)(q:RelV y u):x=y:=Y0w (r.abs.symm.trans q.abs)
theorem Vals.inj:∀{xs ys:List V} {us:List Value},Vals xs us->Vals ys us->xs=ys
 |_,_,_,.nil,.nil=>rfl
 |_,_,_,.cons r t,.cons r' t'=>by rw[r.inj r',Vals.inj t t']
section
variable{X:Cx}{pins:List (Addr×Obj)}{σ:St}{H:Hp}{s:Shared}{a:Addr}{xs ys:List V}
theorem SqL.of{K:Y00}(h:H a=some (.lst xs)):SqL K H a xs:=.inl (.inl h)
theorem SqT.of{K:Y00}(h:H a=some (.tup xs)):SqT K H a xs:=.inl (.inl h)
theorem Inv.list(I:Inv X pins σ H s)(h:SqL X.K H a xs):∃its:List Value,Vals xs its/\PlainL s.heap a its.toArray/\xs.length≤sizeLine:=by
 rcases h with h|⟨o,its,n,hk,hc,hd,hs,hz,r⟩
 ·obtain⟨z,its,n,r,e⟩:=h.ok I.hok
  exact⟨its,r,⟨_,n,e,rfl,rfl,rfl⟩,z⟩
 ·refine⟨its.toList,r,⟨o,n,I.kIn a o hk,hc,hd,by simpa using hs⟩,?_⟩
  have e:=r.length
  simp only[Y0g]at e
  lia
theorem Inv.tuple(I:Inv X pins σ H s)(h:SqT X.K H a xs):∃its:List Value,Vals xs its/\IsTup s.heap a its.toArray/\xs.length≤sizeLine:=by
 rcases h with h|⟨o,its,n,hk,hc,hs,hz,r⟩
 ·obtain⟨z,its,r,p⟩:=h.ok I.hok
  exact⟨its,r,p.1,z⟩
 ·refine⟨its.toList,r,⟨o,I.kIn a o hk,hc,n,by simpa using hs⟩,?_⟩
  have e:=r.length
  simp only[Y0g]at e
  lia
theorem Inv.list_inj(I:Inv X pins σ H s)(h:SqL X.K H a xs)(h':SqL X.K H a ys):xs=ys:=by
 obtain⟨its,r,⟨o,n,e,_,_,d⟩,_⟩:=I.list h
 obtain⟨its',r',⟨o',n',e',_,_,d'⟩,_⟩:=I.list h'
 rw[e]at e';cases e'
 rw[d]at d'
 injection d' with d1 _
 have:its=its':=by simpa using congrArg Array.toList d1
 subst this
 exact r.inj r'
theorem Inv.tuple_inj(I:Inv X pins σ H s)(h:SqT X.K H a xs)(h':SqT X.K H a ys):xs=ys:=by
 obtain⟨its,r,⟨o,e,_,n,d⟩,_⟩:=I.tuple h
 obtain⟨its',r',⟨o',e',_,n',d'⟩,_⟩:=I.tuple h'
 rw[e]at e';cases e'
 rw[d]at d'
 injection d' with d1 _
 have:its=its':=by simpa using congrArg Array.toList d1
 subst this
 exact r.inj r'
end
noncomputable abbrev Cx.wish(X:Cx)(E:Value->Shared->Prop):Cx:={X with xe:=E}
noncomputable abbrev Cx.nox(X:Cx):Cx:=X.wish λ_ _=>False
theorem Cx.Ok.wish{X:Cx}(ok:X.Ok)(E:Value->Shared->Prop):(X.wish E).Ok:=
 ⟨ok.mod,ok.kind,ok.glob,ok.blt,ok.above,ok.inj,ok.has,ok.cab,ok.hd,ok.frames,ok.stk,ok.exf,ok.bs,ok.bsz,ok.noex,ok.exfs,ok.funs,ok.frf⟩
theorem Cx.Ok.unwish{X:Cx}{E:Value->Shared->Prop}(ok:(X.wish E).Ok):X.Ok:=
 ⟨ok.mod,ok.kind,ok.glob,ok.blt,ok.above,ok.inj,ok.has,ok.cab,ok.hd,ok.frames,ok.stk,ok.exf,ok.bs,ok.bsz,ok.noex,ok.exfs,ok.funs,ok.frf⟩
section
variable{X:Cx}{pins:List (Addr×Obj)}{σ:St}{H:Hp}{s:Shared}{E:Value->Shared->Prop}
theorem Inv.wish(I:Inv X pins σ H s)(E:Value->Shared->Prop):Inv (X.wish E) pins σ H s:=⟨I.ok.wish E,I.os,I.bare,I.base,I.loc,I.cell,I.free,I.freeC,I.pin,I.hok,I.len⟩
theorem Inv.unwish(I:Inv (X.wish E) pins σ H s):Inv X pins σ H s:=⟨I.ok.unwish,I.os,I.bare,I.base,I.loc,I.cell,I.free,I.freeC,I.pin,I.hok,I.len⟩
theorem SP.unwish{D:Ends}{f:Flow}{s':Shared}(h:SP (X.wish E) pins D f s'):SP X pins D f s':=by
 cases f with
 |next=>obtain⟨σ',H',I,q⟩:=h;exact⟨σ',H',I.unwish,q⟩
 |brk=>obtain⟨σ',H',I,q⟩:=h;exact⟨σ',H',I.unwish,q⟩
 |cont=>obtain⟨σ',H',I,q⟩:=h;exact⟨σ',H',I.unwish,q⟩
 |ret u=>obtain⟨v,σ',H',I,r,q⟩:=h;exact⟨v,σ',H',I.unwish,r,q⟩
theorem PT.nox{e:Expr}{t:TT}(h:PT X.nox e t):PT X e t:=λpins s σ H Q I hw=>
 wpAny_mono (h pins s σ H Q (I.wish _) hw) (λ_ _ ⟨H',I',q⟩=>⟨H',I'.unwish,q⟩) λ_ _ z=>Y0D z
theorem PSs.nox{st:List Stmt}{t:TS}(h:PSs X.nox st t):PSs X st t:=λpins s σ H D I hw=>
 wpAny_mono (h pins s σ H D (I.wish _) hw) (λ_ _ q=>q.unwish) λ_ _ z=>Y0D z
end
section
variable{X:Cx}{st:Stmt}{rest:List Stmt}{t u:TS}{e:Expr}{te:TE}{pos:Pos}
noncomputable def tNext:TS:=λD σ H=>D.nx σ H
noncomputable def tSeq(t u:TS):TS:=λD σ H=>t {D with nx:=u D} σ H
theorem pss_nil:PSs X [] tNext:=λ_ _ σ H _ I h=>wpAny_execs_nil ⟨σ,H,I,h⟩
theorem pss_cons(h1:PS X st t)(h2:PSs X rest u):PSs X (st::rest) (tSeq t u):=by
 intro pins s σ H D I h
 refine wpAny_execs_cons (thn (h1 pins s σ H {D with nx:=u D} I h) λf s1 q=>?_)
 cases f with
 |next=>
  obtain⟨σ',H',I',q⟩:=q
  exact h2 pins s1 σ' H' D I' q
 |ret v=>exact q
 |brk=>exact q
 |cont=>exact q
theorem pss_one(h1:PS X st t):PSs X [st] t:=by
 intro pins s σ H D I h
 refine wpAny_execs_cons (thn (h1 pins s σ H D I h) λf s1 q=>?_)
 cases f with
 |next=>exact wpAny_execs_nil q
 |ret v=>exact q
 |brk=>exact q
 |cont=>exact q
theorem Inv.quiet{pins:List (Addr×Obj)}{σ:St}{H:Hp}{s:Shared}(I:Inv X pins σ H s):interactive X.env=false:=by simp[interactive,I.ok.kind]
noncomputable def tDrop(te:TE):TS:=λD σ H=>te σ H λ_ H1=>D.nx σ H1
theorem ps_expr(he:PE X e te)(hs:swapsWith e none pos.line X.env=pure false:=by rfl):PS X (.Expr e pos) (tDrop te):=by
 intro pins s σ H D I h
 exact wpAny_Expr_any (thn (he pins s σ H _ I h) λv s1 ⟨x,H1,I1,r1,q1⟩=>⟨σ,H1,I1,q1⟩) I.quiet hs
noncomputable def tRet(te:TE):TS:=λD σ H=>te σ H D.rt
theorem ps_ret(he:PE X e te):PS X (.Return (some e) pos) (tRet te):=by
 intro pins s σ H D I h
 exact wpAny_Return_some (thn (he pins s σ H _ I h) λv s1 ⟨x,H1,I1,r1,q1⟩=>⟨x,σ,H1,I1,r1,q1⟩)
noncomputable def tIfS(c:TT)(t u:TS):TS:=λD σ H=>c σ H λb H1=>if b=true then t D σ H1 else u D σ H1
theorem ps_if{c:Expr}{a b:List Stmt}{tc:TT}(hc:PT X c tc)(ha:PSs X a t)(hb:PSs X b u):PS X (.If c a b pos) (tIfS tc t u):=by
 intro pins s σ H D I h
 refine wpAny_If (thn (hc pins s σ H _ I h) λd s1 ⟨H1,I1,q1⟩=>?_)
 cases d with
 |true=>exact ha pins s1 σ H1 D I1 q1
 |false=>exact hb pins s1 σ H1 D I1 q1
noncomputable def tNever:TS:=λ_ _ _=>False
theorem ps_never:PS X st tNever:=λ_ _ _ _ _ _ h=>h.elim
end
noncomputable abbrev TG:=V->St->Hp->(St->Hp->Prop)->Prop
noncomputable abbrev TGs:=List V->St->Hp->(St->Hp->Prop)->Prop
noncomputable def PG(X:Cx)(target:Expr)(t:TG):Prop:=
 ∀(pins:List (Addr×Obj)) (s:Shared) (σ:St) (H:Hp) (v:V) (u:Value) (Q:St->Hp->Prop),Inv X pins σ H s->RelV v u->t v σ H Q->
  wpAny (model X.prog X.w) X.A (assign target X.env u) (λ_ s'=>∃σ' H',Inv X pins σ' H' s'/\Q σ' H') X.xe s
noncomputable def PGs(X:Cx)(ts:List Expr)(t:TGs):Prop:=
 ∀(pins:List (Addr×Obj)) (s:Shared) (σ:St) (H:Hp) (vs:List V) (us:List Value) (Q:St->Hp->Prop),Inv X pins σ H s->Vals vs us->t vs σ H Q->
  wpAny (model X.prog X.w) X.A (assignInOrder ((assignEach ts X.env).map (·.2)) us) (λ_ s'=>∃σ' H',Inv X pins σ' H' s'/\Q σ' H') X.xe s
section
variable{X:Cx}{pos:Pos}
noncomputable def gName(i:Nat):TG:=λv σ H Q=>Q (σ.set i (some v)) H
theorem pg_name{i:Nat}{x:Str}(hN:X.N.Nodup)(hi:X.N[i]?=some x) (hx:Loc X.env.scope x) (hf:X.fn x=true\/X.env.scope.names.lookup x=some .local:=by first|exact .inl rfl|exact .inr rfl|assumption):PG X (.Name x pos) (gName i):=by
 intro pins s σ H v u Q I r h
 exact wpAny_assign_Name (store_ok I hN hi hx r (λs' I'=>⟨_,H,I',h⟩) hf)
noncomputable def gNil:TGs:=λvs σ H Q=>vs=[]/\Q σ H
noncomputable def gCons(t:TG)(u:TGs):TGs:=λvs σ H Q=>∃v r,vs=v::r/\t v σ H λσ' H'=>u r σ' H' Q
theorem pgs_nil:PGs X [] gNil:=by
 intro pins s σ H vs us Q I r h
 obtain⟨e,h⟩:=h
 subst e
 cases r
 exact assignInOrder_nil ⟨σ,H,I,h⟩
theorem pgs_cons{e:Expr}{es:List Expr}{t:TG}{u:TGs}(h1:PG X e t)(h2:PGs X es u)
  (hs:(assignEach (e::es) X.env).map (·.2)=assign e X.env::(assignEach es X.env).map (·.2):=by rfl):PGs X (e::es) (gCons t u):=by
 intro pins s σ H vs us Q I r h
 obtain⟨v,vr,e1,h⟩:=h
 subst e1
 cases r with
 |cons r rr=>
  rw[hs]
  refine assignInOrder_cons (thn (h1 pins s σ H _ _ _ I r h) λ_ s1 ⟨σ1,H1,I1,q1⟩=>?_)
  exact h2 pins s1 σ1 H1 _ _ Q I1 rr q1
noncomputable def gTup(K:Y00)(n:Nat)(t:TGs):TG:=λv σ H Q=>∃a xs,v=.ref a/\SqT K H a xs/\xs.length=n/\t xs σ H Q
theorem pg_tup{es:List Expr}{k:Nat}{t:TGs}{n:Nat}(hc:X.calm=true)(h:PGs X es t)
  (hn:(assignEach es X.env).length=n:=by rfl) (hst:(assignEach es X.env).findIdx? (·.1)=none:=by rfl):PG X (.Tuple es k pos) (gTup X.K n t):=by
 intro pins s σ H v u Q I r hw
 obtain⟨a,xs,e1,hq,hl,hw⟩:=hw
 subst e1
 cases r
 obtain⟨its,rv,ht,hz⟩:=I.tuple hq
 refine assign_Tuple_tuple (I.ok.hd hc) ht (by simp[hn,<- hl,rv.length]) hst λh' hx=>?_
 have I1:Inv X pins σ H {s with heap:=h'}:=I.kept (t':=s.toks) λb o e=>hx b o (Y0f (Y08 e)) e
 exact h pins _ σ H xs _ Q I1 (by simpa using rv) hw
noncomputable def tAsg(te:TE)(g:TG):TS:=λD σ H=>te σ H λx H1=>g x σ H1 D.nx
theorem ps_asg{tg e:Expr}{te:TE}{g:TG}(he:PE X e te)(hg:PG X tg g)(hs:swapsWithSole [tg] e pos.line X.env=pure false:=by rfl)(hw:swappedStores [tg] e X.env=pure none:=by rfl)
  (h1:(assignEach [tg] X.env).map (·.2)=[assign tg X.env]:=by rfl):PS X (.Assign [tg] e pos) (tAsg te g):=by
 intro pins s σ H D I h
 refine wpAny_Assign_stores (thn (he pins s σ H _ I h) λv s1 ⟨x,H1,I1,r1,q1⟩=>?_) hs hw
 rw[h1]
 exact thn (hg pins s1 σ H1 x v _ I1 r1 q1) λ_ s2 q=>q
theorem ps_set{i:Nat}{x:Str}{e:Expr}{te:TE}{pos':Pos}(hN:X.N.Nodup)(hi:X.N[i]?=some x) (hx:Loc X.env.scope x) (he:PE X e te) (hs:swapsWith e (some (.Name x pos')) pos.line X.env=pure false:=by rfl) (hf:X.fn x=true\/X.env.scope.names.lookup x=some .local:=by first|exact .inl rfl|exact .inr rfl|assumption):
  PS X (.Assign [.Name x pos'] e pos) (tAsg te (gName i)):=by
 intro pins s σ H D I h
 refine wpAny_Assign_Name (thn (he pins s σ H _ I h) λv s1 ⟨y,H1,I1,r1,q1⟩=>?_) hs
 exact store_ok I1 hN hi hx r1 (λs2 I2=>⟨_,H1,I2,q1⟩) hf
end
section
variable{X:Cx}{pos:Pos}
end
structure It where
 go:Nat->Hp->Prop
 yld:Nat->Hp->V->Hp->Prop
 stop:Nat->Hp->Prop
noncomputable def FpOk(X:Cx)(pins:List (Addr×Obj))(H:Hp)(b:Addr):Prop:=
 H b=none/\b≠X.env.locals/\b∉X.fs/\(b∈X.ex\/X.s₀.heap.objs.size≤b)/\(∀x c,X.env.cells.lookup x=some c->c≠b)/\∀p∈X.pn++pins,p.1≠b
theorem Inv.fpOk{X:Cx}{pins:List (Addr×Obj)}{σ:St}{H H':Hp}{s:Shared}{b:Addr}(I:Inv X pins σ H s)(hb:s.heap.objs.size≤b)(hn:H' b=none):FpOk X pins H' b:=by
 refine⟨hn,Y21 (Y0x I.lt hb),I.nofs hb,.inr (Y0M I.sz hb),λx c e z=>?_,λp hp z=>?_⟩
 ·obtain⟨v,q⟩:=I.cell x c e
  exact absurd (Y0x q.lt (by rw[z];exact hb)) (Y1E _)
 ·exact absurd (Y0x (Y08 (I.pin p hp).1) (by rw[z];exact hb)) (Y1E _)
structure Turn (P:Program) (w:World) (K:Y00) (tg:Expr) (J:It) (fp:List Addr) (it:Addr) (tn:Nat->Heap->Prop):Prop where
 mem:it∈fp
 obj:∀i h,tn i h->∀b∈fp,∃o,h.get? b=some o/\∀v,o.data≠.cell v
 keep:∀i h h',tn i h->(∀b∈fp,∀o,h.get? b=some o->h'.get? b=some o)->tn i h'
 item:∀(X:Cx),X.prog=P->X.w=w->X.K=K->X.calm=true->∀(i:Nat) (pins:List (Addr×Obj)) (s:Shared) (σ:St) (H:Hp) (E:Value->Shared->Prop),Inv X pins σ H s->(∀b∈fp,FpOk X pins H b)->tn i s.heap->J.go i H->
  wpAny (model P w) X.A (pyNext (.ref it)) (λr s1=>∃u,r=some u/\
   wpAny (model P w) X.A (letOwnedTupleGo tg (.ref it) u) (λ_ s2=>∃x H',Inv X pins σ H' s2/\RelV x u/\J.yld i H x H'/\tn (i+1) s2.heap/\∀b∈fp,H' b=none) E s1) E s
 done:∀(X:Cx),X.prog=P->X.w=w->X.K=K->X.calm=true->∀(i:Nat) (pins:List (Addr×Obj)) (s:Shared) (σ:St) (H:Hp) (E:Value->Shared->Prop),Inv X pins σ H s->(∀b∈fp,FpOk X pins H b)->tn i s.heap->J.stop i H->
  wpAny (model P w) X.A (pyNext (.ref it)) (λr s1=>r=none/\Inv X pins σ H s1) E s
 self:∀(A:Around) (i:Nat) (s:Shared) (Q:Value->Shared->Prop) (E:Value->Shared->Prop),tn i s.heap->Q (.ref it) s->wpAny (model P w) A (pyIter (.ref it)) Q E s
noncomputable abbrev TI:=St->Hp->(It->Hp->Prop)->Prop
noncomputable def PIE(X:Cx)(pins:List (Addr×Obj))(σ:St)(tg:Expr)(R:It->Hp->Prop)(itv:Value)(s2:Shared):Prop:=
 ∃(it:Addr) (fp:List Addr) (tn:Nat->Heap->Prop) (J:It) (H':Hp),itv=.ref it/\Inv X pins σ H' s2/\Turn X.prog X.w X.K tg J fp it tn/\tn 0 s2.heap/\(∀b∈fp,FpOk X pins H' b)/\R J H'
noncomputable def PI(X:Cx)(tg iter:Expr)(wi:TI):Prop:=
 ∀(pins:List (Addr×Obj)) (s:Shared) (σ:St) (H:Hp) (R:It->Hp->Prop),Inv X pins σ H s->wi σ H R->
  wpAny (model X.prog X.w) X.A (eval iter X.env) (λv s1=>wpAny (model X.prog X.w) X.A (pyIter v) (PIE X pins σ tg R) X.xe s1) X.xe s
theorem go_of{M:Model}{A:Around}{E:Value->Shared->Prop}{s:Shared}{tg:Expr}{it:Addr}{u:Value}{o:Obj}{n:String}{vs:Array Value}{Q:Unit->Shared->Prop}(ho:s.heap.get? it=some o)(hc:o.cls=.type n)(hd:o.data=.fields vs)
  (hn:["enumerate","zip","dict_itemiterator","dict_reverseitemiterator","odict_iterator","itertools.zip_longest","itertools.pairwise"].contains n=false) (hQ:Q () s):wpAny M A (letOwnedTupleGo tg (.ref it) u) Q E s:=by
 unfold letOwnedTupleGo
 cases tg<;>first
  |exact wpAny_pure hQ
  |(cases u<;>first
    |exact wpAny_pure hQ
    |(refine wpAny_bind (wpAny_load ho ?_)
      rw[hc,hd]
      show wpAny M A (if(["enumerate","zip","dict_itemiterator","dict_reverseitemiterator","odict_iterator","itertools.zip_longest","itertools.pairwise"].contains n&&vs[0]?==some (rawInt _))=true then _ else _) Q E s
      rw[if_neg (by intro h;rw[hn,Y3s]at h;cases h)]
      exact wpAny_pure hQ))
noncomputable def Itl(K:Y00)(a:Addr):It:=
 ⟨λi H=>∃xs x,SqL K H a xs/\xs[i]?=some x,λi H x H'=>H'=H/\∀xs,SqL K H a xs->xs[i]?=some x,λi H=>∃xs,SqL K H a xs/\xs.length≤i⟩
noncomputable def Itt(K:Y00)(a:Addr):It:=
 ⟨λi H=>∃xs x,SqT K H a xs/\xs[i]?=some x,λi H x H'=>H'=H/\∀xs,SqT K H a xs->xs[i]?=some x,λi H=>∃xs,SqT K H a xs/\xs.length≤i⟩
noncomputable def Itr(lo:Int)(n:Nat):It:=⟨λi _=>i<n,λi H x H'=>H'=H/\x=.int (lo+i),λi _=>n≤i⟩
theorem turn_list{P:Program}{w:World}{K:Y00}{tg:Expr}(a it:Addr):Turn P w K tg (Itl K a) [it] it (λi h=>h.IsListIter it a i)where
 mem:=by simp
 obj:=λi h st b hb=>by
  have e:b=it:=by simpa using hb
  subst e
  obtain⟨o,e,c,d⟩:=st
  exact⟨o,e,λv z=>by rw[d]at z;cases z⟩
 keep:=λi h h' st k=>st.at λo e=>k it (by simp) o e
 item:=by
  intro X hP hw hK hc i pins s σ H E I hf st hg
  subst hP hw hK
  obtain⟨xs,x,hq,hx⟩:=hg
  obtain⟨its,rv,p,hz⟩:=I.list hq
  obtain⟨u,hu,ru⟩:=rv.get hx
  obtain⟨f0,f1,f2,f3,f4,f5⟩:=hf it (by simp)
  refine wpAny_pyNext_list_item st p.isList (x:=u) (by simpa using hu) λh' st' sb=>?_
  have I1:Inv X pins σ H {s with heap:=h'}:=I.turned (t':=s.toks) (λb o hb e=>(sb.2 b hb).trans e) f0 f1 f3 f4 f5
  obtain⟨o,e,c,d⟩:=id st'
  exact⟨u,rfl,go_of (s:={s with heap:=h'}) e c d (by decide) ⟨x,H,I1,ru,⟨rfl,λys hy=>by rw[I.list_inj hy hq];exact hx⟩,st',λb hb=>(hf b hb).1⟩⟩
 done:=by
  intro X hP hw hK hc i pins s σ H E I hf st hg
  subst hP hw hK
  obtain⟨xs,hq,hx⟩:=hg
  obtain⟨its,rv,p,hz⟩:=I.list hq
  obtain⟨f0,f1,f2,f3,f4,f5⟩:=hf it (by simp)
  have hl:=rv.length
  exact wpAny_pyNext_list_end (I.ok.hd hc) st p.isList (by simp;lia) λh' eb=>⟨rfl,I.turned (t':=s.toks) (λb o hb e=>eb b o hb e) f0 f1 f3 f4 f5⟩
 self:=λ_ _ _ _ _ st h=>wpAny_pyIter_listiter st h
theorem turn_tuple{P:Program}{w:World}{K:Y00}{tg:Expr}(a it:Addr):Turn P w K tg (Itt K a) [it] it (λi h=>h.IsTupleIter it a i)where
 mem:=by simp
 obj:=λi h st b hb=>by
  have e:b=it:=by simpa using hb
  subst e
  obtain⟨o,e,c,d⟩:=st
  exact⟨o,e,λv z=>by rw[d]at z;cases z⟩
 keep:=λi h h' st k=>st.at λo e=>k it (by simp) o e
 item:=by
  intro X hP hw hK hc i pins s σ H E I hf st hg
  subst hP hw hK
  obtain⟨xs,x,hq,hx⟩:=hg
  obtain⟨its,rv,p,hz⟩:=I.tuple hq
  obtain⟨u,hu,ru⟩:=rv.get hx
  obtain⟨f0,f1,f2,f3,f4,f5⟩:=hf it (by simp)
  refine wpAny_pyNext_tuple_item st (show s.heap.IsTuple a its.toArray from p) (x:=u) (by simpa using hu) λh' st' sb=>?_
  have I1:Inv X pins σ H {s with heap:=h'}:=I.turned (t':=s.toks) (λb o hb e=>(sb.2 b hb).trans e) f0 f1 f3 f4 f5
  obtain⟨o,e,c,d⟩:=id st'
  exact⟨u,rfl,go_of (s:={s with heap:=h'}) e c d (by decide) ⟨x,H,I1,ru,⟨rfl,λys hy=>by rw[I.tuple_inj hy hq];exact hx⟩,st',λb hb=>(hf b hb).1⟩⟩
 done:=by
  intro X hP hw hK hc i pins s σ H E I hf st hg
  subst hP hw hK
  obtain⟨xs,hq,hx⟩:=hg
  obtain⟨its,rv,p,hz⟩:=I.tuple hq
  obtain⟨f0,f1,f2,f3,f4,f5⟩:=hf it (by simp)
  have hl:=rv.length
  exact wpAny_pyNext_tuple_end (I.ok.hd hc) st (show s.heap.IsTuple a its.toArray from p) (by simp;lia) λh' eb=>⟨rfl,I.turned (t':=s.toks) (λb o hb e=>eb b o hb e) f0 f1 f3 f4 f5⟩
 self:=λ_ _ _ _ _ st h=>wpAny_pyIter_tupleiter st h
theorem turn_range{P:Program}{w:World}{K:Y00}{tg:Expr}(it:Addr)(lo:Int)(n:Nat):Turn P w K tg (Itr lo n) [it] it (λi h=>IsRangeIter h it (lo+(i:Nat)*1) ((n:Int) - (i:Nat)) 1)where
 mem:=by simp
 obj:=λi h st b hb=>by
  have e:b=it:=by simpa using hb
  subst e
  exact⟨_,st,λv z=>by
   have z':Y1G _=Data.cell v:=z
   cases z'⟩
 keep:=λi h h' st k=>k it (by simp) _ st
 item:=by
  intro X hP hw hK hc i pins s σ H E I hf st hg
  subst hP hw hK
  obtain⟨f0,f1,f2,f3,f4,f5⟩:=hf it (by simp)
  have W:=Walks.range (prog:=X.prog) (w:=X.w) (I.ok.hd hc) it lo 1 n
  refine W.item i s _ _ hg st λv h' tk hv st' kk=>?_
  obtain⟨t,rfl⟩:=hv
  have I1:Inv X pins σ H {s with heap:=h',toks:=tk}:=I.turned (λb o hb e=>kk b o (by simpa using hb) e) f0 f1 f3 f4 f5
  refine⟨_,rfl,go_of (s:={s with heap:=h',toks:=tk}) (n:="range_iterator") st' rfl rfl (by decide) ⟨.int (lo+i),H,I1,⟨t,?_⟩,⟨rfl,rfl⟩,st',fun b hb=>(hf b hb).1⟩⟩
  rw[Int.mul_one]
 done:=by
  intro X hP hw hK hc i pins s σ H E I hf st hg
  subst hP hw hK
  obtain⟨f0,f1,f2,f3,f4,f5⟩:=hf it (by simp)
  exact wpAny_pyNext_range_end (I.ok.hd hc) st (by have:n≤i:=hg;lia) λh' eb=>⟨rfl,I.turned (t':=s.toks) (λb o hb e=>eb b o hb e) f0 f1 f3 f4 f5⟩
 self:=λ_ _ _ _ _ st h=>wpAny_pyIter_rangeiter st h
end L2
namespace L2
open PySem PySem.Spec PyProof.Rows
section
variable{X:Cx}{tg:Expr}
theorem range_it{pins:List (Addr×Obj)}{σ:St}{H:Hp}{s:Shared}{R:It->Hp->Prop}{E:Value->Shared->Prop}{lo hi:Int}{t u v:Tok}{tk:Nat}(I:Inv X pins σ H s)(h1:-(2^62)≤lo)(h2:lo<2^62)(h3:-(2^62)≤hi)(h4:hi<2^62)
  (q:R (Itr lo (hi - lo).toNat) H):wpAny (model X.prog X.w) X.A (pyIter (.ref s.heap.objs.size)) (PIE X pins σ tg R) E {s with heap:=s.heap.push {cls:=.type "range",data:=.fields #[.int lo t,.int hi u,.int 1 v]},toks:=tk}:=by
 refine wpAny_pyIter_range (Y3Q ..) (small_one h1 h2 h3 h4) ?_
 have I1:Inv X pins σ H {s with heap:=s.heap.push {cls:=.type "range",data:=.fields #[.int lo t,.int hi u,.int 1 v]},toks:=tk}:=I.kept fun b o e=>Y01 _ e
 refine⟨(s.heap.push {cls:=.type "range",data:=.fields #[.int lo t,.int hi u,.int 1 v]}).objs.size,[(s.heap.push {cls:=.type "range",data:=.fields #[.int lo t,.int hi u,.int 1 v]}).objs.size],_,_,H,rfl,
  I1.kept (t':=tk) λb o e=>Y01 _ e,turn_range _ lo (hi - lo).toNat,?_,λb hb=>?_,q⟩
 ·have e1:lo+((0:Nat):Int)*1=lo:=by simp
  have e2:(((hi - lo).toNat:Nat):Int) - ((0:Nat):Int)=Y18 lo hi 1:=by rw[rangeSize_one];split<;>lia
  show IsRangeIter _ _ (lo+((0:Nat):Int)*1) ((((hi - lo).toNat:Nat):Int) - ((0:Nat):Int)) 1
  rw[e1,e2]
  exact Y0a _ rfl
 ·have e:b=(s.heap.push {cls:=.type "range",data:=.fields #[.int lo t,.int hi u,.int 1 v]}).objs.size:=by simpa using hb
  subst e
  exact I1.fpOk (Y09 _) (I1.hok.fresh (Y09 _))
noncomputable def iRng1(ta:TA):TI:=λσ H R=>ta σ H λvs H1=>∃j:Int,vs=[.int j]/\ -(2^62)≤j/\j<2^62/\R (Itr 0 j.toNat) H1
noncomputable def iRng2(ta:TA):TI:=λσ H R=>ta σ H λvs H1=>∃i j:Int,vs=[.int i,.int j]/\(-(2^62)≤i/\i<2^62/\ -(2^62)≤j/\j<2^62)/\R (Itr i (j - i).toNat) H1
theorem pi_range1{a:Expr}{ta:TA}{p pos:Pos}(hg:Gl X "range")(hm:X.mg "range"=none)(ha:PA X [a] ta)(hs:starEach [a] X.env=[(false,eval a X.env)]:=by rfl):PI X tg (.Call (.Name "range" p) [a] [] pos) (iRng1 ta):=by
 intro pins s σ H R I h
 refine Call_ (ld_blt I hg hm boot_range (Y0Q (thn (ha pos pins s σ H _ I h) λus s1 ⟨vs,H1,I1,r1,q1⟩=>?_) hs rfl))
 obtain⟨j,e,q1,q2,q⟩:=q1
 subst e
 cases r1 with
 |cons r rr=>
  cases rr
  obtain⟨t,rfl⟩:=r
  exact call_range_1 (range_it I1 (by lia) (by lia) q1 q2 (by simpa using q))
theorem pi_range2{a b:Expr}{ta:TA}{p pos:Pos}(hg:Gl X "range")(hm:X.mg "range"=none)(ha:PA X [a,b] ta)(hs:starEach [a,b] X.env=[(false,eval a X.env),(false,eval b X.env)]:=by rfl)(hs2:starEach [b] X.env=[(false,eval b X.env)]:=by rfl):
  PI X tg (.Call (.Name "range" p) [a,b] [] pos) (iRng2 ta):=by
 intro pins s σ H R I h
 refine Call_ (ld_blt I hg hm boot_range (Y0Q (thn (ha pos pins s σ H _ I h) λus s1 ⟨vs,H1,I1,r1,q1⟩=>?_) (by rw[hs,hs2]) (by rw[hs2];rfl)))
 obtain⟨i,j,e,⟨q1,q2,q3,q4⟩,q⟩:=q1
 subst e
 cases r1 with
 |cons r rr=>
  cases rr with
  |cons r' rr=>
   cases rr
   obtain⟨t,rfl⟩:=r
   obtain⟨t',rfl⟩:=r'
   exact call_range_2 (range_it I1 q1 q2 q3 q4 q)
noncomputable def tFor(wi:TI)(g:TG)(tb:TS):TS:=λD σ H=>wi σ H λJ H1=>∃W:Nat->Nat->St->Hp->Prop,(∃m,W 0 m σ H1)/\∀i m σ H,W i m σ H->
 (J.stop i H/\D.nx σ H)\/(J.go i H/\∃N:St->Hp->Prop,(∀σ' H',N σ' H'->∃m',m'<m/\W (i+1) m' σ' H')/\∀x H',J.yld i H x H'->g x σ H' λσ2 H2=>tb {D with nx:=N,ct:=N,bk:=D.nx} σ2 H2)
noncomputable def pinsAt(fp:List Addr)(h:Heap):List (Addr×Obj):=fp.filterMap λb=>(h.get? b).map λo=>(b,o)
theorem mem_pinsAt{fp:List Addr}{h:Heap}{b:Addr}{o:Obj}(hb:b∈fp)(e:h.get? b=some o):(b,o)∈pinsAt fp h:=Y2D.mpr ⟨b,hb,by rw[e];rfl⟩
theorem of_pinsAt{fp:List Addr}{h:Heap}{p:Addr×Obj}(hp:p∈pinsAt fp h):p.1∈fp/\h.get? p.1=some p.2:=by
 obtain⟨b,hb,e⟩:=Y2D.mp hp
 cases q:h.get? b with
 |none=>rw[q]at e;cases e
 |some o=>
  rw[q]at e
  have e':(b,o)=p:=Y0w e
  subst e'
  exact⟨hb,q⟩
theorem Inv.pinned{pins:List (Addr×Obj)}{σ:St}{H:Hp}{s:Shared}{fp:List Addr}(I:Inv X pins σ H s)(hf:∀b∈fp,FpOk X pins H b)(ho:∀b∈fp,∃o,s.heap.get? b=some o/\∀v,o.data≠.cell v):Inv X (pins++pinsAt fp s.heap) σ H s:=
 I.pins_of λp hp=>(Y0z.mp hp).elim (λz=>I.pin p (Y0N _ z)) λz=>by
  obtain⟨hb,e⟩:=of_pinsAt z
  obtain⟨f0,f1,f2,_⟩:=hf p.1 hb
  obtain⟨o,e',d⟩:=ho p.1 hb
  rw[e]at e';cases e'
  exact⟨e,f0,f1,f2,d⟩
theorem Inv.unpinned{pins pl:List (Addr×Obj)}{σ:St}{H:Hp}{s:Shared}(I:Inv X (pins++pl) σ H s):Inv X pins σ H s:=I.pins_of λp hp=>I.pin p (Y0N _ (List.mem_append_left _ hp))
theorem ps_for{iter:Expr}{body:List Stmt}{wi:TI}{g:TG}{tb:TS}{pos:Pos}(hp:PassesOwn (model X.prog X.w) X.A X.env X.xe)(hc:X.calm=true)(hi:PI X tg iter wi)(hg:PG X tg g)(hb:PSs X body tb)
  (hs:∀x,foldedSetIterable iter X.env x=pure x:=by intro _;rfl):PS X (.For tg iter body [] pos) (tFor wi g tb):=by
 intro pins s σ H D I h
 refine wpAny_For (thn (hi pins s σ H _ I h) λv s1 h1=>thn h1 λitv s2 h2=>?_) hs
 obtain⟨it,fp,tn,J,H2,e,I2,T,st2,f2,W,⟨m0,w0⟩,turn⟩:=h2
 subst e
 have stat:∀{H':Hp},(∀b∈fp,H' b=none)->∀b∈fp,FpOk X pins H' b:=λhn b hb=>⟨hn b hb,(f2 b hb).2⟩
 refine codeAny_forLoop_any (λn s'=>∃i σ' H',Inv X pins σ' H' s'/\tn i s'.heap/\(∀b∈fp,H' b=none)/\W i n σ' H') ?_ m0 ⟨0,σ,H2,I2,st2,λb hb=>(f2 b hb).1,w0⟩
 rintro n s3 ⟨i,σ3,H3,I3,st3,fr3,w3⟩
 rcases turn i n σ3 H3 w3 with⟨stop,qn⟩|⟨go,N,hN,step⟩
 ·refine wpAny_passesOwn hp (thn (T.done X rfl rfl rfl hc i pins s3 σ3 H3 X.xe I3 (stat fr3) st3 stop) λr s4 ⟨hr,I4⟩=>?_)
  subst hr
  exact wpAny_execs_nil ⟨σ3,H3,I4,qn⟩
 ·refine wpAny_passesOwn hp (thn (T.item X rfl rfl rfl hc i pins s3 σ3 H3 X.xe I3 (stat fr3) st3 go) λr s4 ⟨u,hr,h4⟩=>?_)
  subst hr
  refine wpAny_passesOwn hp (thn h4 λ_ s5 ⟨x,H5,I5,r5,y5,st5,fr5⟩=>?_)
  have I5':=I5.pinned (stat fr5) (T.obj _ _ st5)
  refine wpAny_passesOwn hp (thn (hg _ s5 σ3 H5 x u _ I5' r5 (step x H5 y5)) λ_ s6 ⟨σ6,H6,I6,q6⟩=>?_)
  refine wpAny_passesOwn hp (thn (hb _ s6 σ6 H6 _ I6 q6) λf s7 q7=>?_)
  have again:∀{σ7:St} {H7:Hp},Inv X (pins++pinsAt fp s5.heap) σ7 H7 s7->N σ7 H7->∃m,m<n/\∃i σ' H',Inv X pins σ' H' s7/\tn i s7.heap/\(∀b∈fp,H' b=none)/\W i m σ' H':=fun{σ7 H7} I7 n7=>by
   obtain⟨m',hm,w7⟩:=hN σ7 H7 n7
   refine⟨m',hm,i+1,σ7,H7,I7.unpinned,T.keep _ _ _ st5 λb hb o e=>(I7.pin (b,o) (Y0N _ (Y0N _ (mem_pinsAt hb e)))).1,λb hb=>?_,w7⟩
   obtain⟨o,e,d⟩:=T.obj _ _ st5 b hb
   exact(I7.pin (b,o) (Y0N _ (Y0N _ (mem_pinsAt hb e)))).2.1
  cases f with
  |next=>obtain⟨σ7,H7,I7,n7⟩:=q7;exact again I7 n7
  |cont=>obtain⟨σ7,H7,I7,n7⟩:=q7;exact again I7 n7
  |brk=>obtain⟨σ7,H7,I7,q7⟩:=q7;exact⟨σ7,H7,I7.unpinned,q7⟩
  |ret v=>obtain⟨x7,σ7,H7,I7,r7,q7⟩:=q7;exact⟨x7,σ7,H7,I7.unpinned,r7,q7⟩
end
end L2
namespace L2
open PySem PySem.Spec PyProof.Rows
noncomputable abbrev R2:=V->V->Hp->VK->Prop
noncomputable def OpR(X:Cx)(f:Value->Value->Sem Value)(r:R2):Prop:=
 ∀(pins:List (Addr×Obj)) (s:Shared) (σ:St) (H:Hp) (x y:V) (v u:Value) (Q:VK),Inv X pins σ H s->RelV x v->RelV y u->r x y H Q->
  wpAny (model X.prog X.w) X.A (f v u) (EP X pins σ Q) X.xe s
noncomputable def UnR(X:Cx)(f:Value->Sem Value)(r:V->Hp->VK->Prop):Prop:=
 ∀(pins:List (Addr×Obj)) (s:Shared) (σ:St) (H:Hp) (x:V) (v:Value) (Q:VK),Inv X pins σ H s->RelV x v->r x H Q->
  wpAny (model X.prog X.w) X.A (f v) (EP X pins σ Q) X.xe s
noncomputable def CallR(X:Cx)(f:Value)(r:List V->Hp->VK->Prop):Prop:=
 ∀(pins:List (Addr×Obj)) (s:Shared) (σ:St) (H:Hp) (xs:List V) (us:List Value) (Q:VK),Inv X pins σ H s->Vals xs us->r xs H Q->
  wpAny (model X.prog X.w) X.A (call f us) (EP X pins σ Q) X.xe s
noncomputable def tOp(r:R2)(ta tb:TE):TE:=λσ H Q=>ta σ H λx H1=>tb σ H1 λy H2=>r x y H2 Q
noncomputable def tUn(r:V->Hp->VK->Prop)(ta:TE):TE:=λσ H Q=>ta σ H λx H1=>r x H1 Q
noncomputable def rI(C:Int->Int->Prop)(g:Int->Int->V):R2:=λx y H Q=>∃i j,x=.int i/\y=.int j/\C i j/\Q (g i j) H
noncomputable def rI0(g:Int->Int->V):R2:=λx y H Q=>∃i j,x=.int i/\y=.int j/\Q (g i j) H
noncomputable def rU(g:Int->V):V->Hp->VK->Prop:=λx H Q=>∃i,x=.int i/\Q (g i) H
section
variable{X:Cx}{a b c:Expr}{ta tb tc:TE}{pos:Pos}
theorem binT(ha:PE X a ta)(hb:PE X b tb){pins:List (Addr×Obj)}{s:Shared}{σ:St}{H:Hp}{R:V->V->Hp->Prop}(I:Inv X pins σ H s)
  (h:ta σ H λx H1=>tb σ H1 λy H2=>R x y H2) {Q:Value->Shared->Prop} {f:Value->Value->Sem Value}
  (hf:∀v u s2 x y H2,Inv X pins σ H2 s2->RelV x v->RelV y u->R x y H2->wpAny (model X.prog X.w) X.A (f v u) Q X.xe s2):
  wpAny (model X.prog X.w) X.A (eval a X.env) (λv s₁=>wpAny (model X.prog X.w) X.A (eval b X.env) (λu s₂=>wpAny (model X.prog X.w) X.A (f v u) Q X.xe s₂) X.xe s₁) X.xe s:=by
 refine thn (ha pins s σ H _ I h) λv s1 ⟨x,H1,I1,r1,q1⟩=>?_
 refine thn (hb pins s1 σ H1 _ I1 q1) λu s2 ⟨y,H2,I2,r2,q2⟩=>?_
 exact hf v u s2 x y H2 I2 r1 r2 q2
theorem pe_op{op:Operator}{r:R2}(ho:OpR X (binaryOp op) r)(ha:PE X a ta)(hb:PE X b tb):PE X (.BinOp a op b pos) (tOp r ta tb):=by
 intro pins s σ H Q I h
 exact wpAny_BinOp (binT ha hb I h λv u s2 x y H2 I2 rx ry q=>ho pins s2 σ H2 x y v u Q I2 rx ry q)
theorem pe_un{op:UnaryOp}{r:V->Hp->VK->Prop}(ho:UnR X (unaryOp op) r)(ha:PE X a ta):PE X (.UnaryOp op a pos) (tUn r ta):=by
 intro pins s σ H Q I h
 exact UnaryOp_ (thn (ha pins s σ H _ I h) λv s1 ⟨x,H1,I1,r1,q1⟩=>ho pins s1 σ H1 x v Q I1 r1 q1)
theorem opI{f:Value->Value->Sem Value}{C:Int->Int->Prop}{g:Int->Int->Int}
  (rule:∀(i j:Int) (t u:Tok) (s:Shared) (Q:Value->Shared->Prop) (E:Value->Shared->Prop),C i j->Q (.int (g i j) s.toks) {s with toks:=s.toks+1}->wpAny (model X.prog X.w) X.A (f (.int i t) (.int j u)) Q E s):
  OpR X f (rI C λi j=>.int (g i j)):=by
 intro pins s σ H x y v u Q I rx ry h
 obtain⟨i,j,rfl,rfl,hc,q⟩:=h
 obtain⟨t,rfl⟩:=rx
 obtain⟨t',rfl⟩:=ry
 exact rule i j t t' s _ _ hc ⟨.int (g i j),H,I.tok _,⟨_,rfl⟩,q⟩
theorem opI0{f:Value->Value->Sem Value}{g:Int->Int->Int}
  (rule:∀(i j:Int) (t u:Tok) (s:Shared) (Q:Value->Shared->Prop) (E:Value->Shared->Prop),Q (.int (g i j) s.toks) {s with toks:=s.toks+1}->wpAny (model X.prog X.w) X.A (f (.int i t) (.int j u)) Q E s):
  OpR X f (rI0 λi j=>.int (g i j)):=by
 intro pins s σ H x y v u Q I rx ry h
 obtain⟨i,j,rfl,rfl,q⟩:=h
 obtain⟨t,rfl⟩:=rx
 obtain⟨t',rfl⟩:=ry
 exact rule i j t t' s _ _ ⟨.int (g i j),H,I.tok _,⟨_,rfl⟩,q⟩
theorem opB0{f:Value->Value->Sem Value}{g:Int->Int->Bool}
  (rule:∀(i j:Int) (t u:Tok) (s:Shared) (Q:Value->Shared->Prop) (E:Value->Shared->Prop),Q (.bool (g i j)) s->wpAny (model X.prog X.w) X.A (f (.int i t) (.int j u)) Q E s):
  OpR X f (rI0 λi j=>.bl (g i j)):=by
 intro pins s σ H x y v u Q I rx ry h
 obtain⟨i,j,rfl,rfl,q⟩:=h
 obtain⟨t,rfl⟩:=rx
 obtain⟨t',rfl⟩:=ry
 exact rule i j t t' s _ _ ⟨.bl (g i j),H,I,rfl,q⟩
noncomputable def CPow(i j:Int):Prop:=0≤j/\j≤1000000/\i.natAbs<2^64
noncomputable def CMul(i j:Int):Prop:=(-(2^64)<i/\i<2^64)\/(-(2^64)<j/\j<2^64)
theorem CMul.ok{i j:Int}(h:CMul i j):IntMulOk i j:=by
 rcases h with⟨h1,h2⟩|⟨h1,h2⟩
 ·exact .of_left (intBits_le_64 h1 h2)
 ·exact .of_right (intBits_le_64 h1 h2)
theorem op_add:OpR X (binaryOp .Add) (rI0 λi j=>.int (i+j)):=opI0 λ_ _ _ _ _ _ _ q=>add_int q
theorem op_sub:OpR X (binaryOp .Sub) (rI0 λi j=>.int (i - j)):=opI0 λ_ _ _ _ _ _ _ q=>sub_int q
theorem op_mul:OpR X (binaryOp .Mult) (rI CMul λi j=>.int (i*j)):=opI λ_ _ _ _ _ _ _ hc q=>mul_int q hc.ok
theorem op_mod:OpR X (binaryOp .Mod) (rI (λ_ j=>0<j) λi j=>.int (i%j)):=opI λi j _ _ _ _ _ hc q=>by
 have h1:(0:Int)<j:=hc
 exact mod_int' (by lia) (by rw[Int.fmod_eq_emod_of_nonneg i (by lia)];exact q)
theorem op_shl:OpR X (binaryOp .LShift) (rI CPow λi j=>.int (i*2^j.toNat)):=opI λ_ _ _ _ _ _ _ hc q=>lshift_int_small hc.1 hc.2.1 hc.2.2 q
theorem unI{f:Value->Sem Value}{g:Int->Int}
  (rule:∀(i:Int) (t:Tok) (s:Shared) (Q:Value->Shared->Prop) (E:Value->Shared->Prop),Q (.int (g i) s.toks) {s with toks:=s.toks+1}->wpAny (model X.prog X.w) X.A (f (.int i t)) Q E s):
  UnR X f (rU λi=>.int (g i)):=by
 intro pins s σ H x v Q I rx h
 obtain⟨i,rfl,q⟩:=h
 obtain⟨t,rfl⟩:=rx
 exact rule i t s _ _ ⟨.int (g i),H,I.tok _,⟨_,rfl⟩,q⟩
theorem un_neg:UnR X (unaryOp .USub) (rU λi=>.int (-i)):=unI λ_ _ _ _ _ q=>neg_int q
end
noncomputable def scal:V->V->Bool
 |.non,.non=>true|.non,.int _=>true|.int _,.non=>true|.non,.bl _=>true|.bl _,.non=>true|.non,.str _=>true|.str _,.non=>true
 |.int _,.int _=>true|.bl _,.bl _=>true|.str _,.str _=>true|.byt _,.byt _=>true
 |.int _,.str _=>true|.str _,.int _=>true|.bl _,.str _=>true|.str _,.bl _=>true
 |_,_=>false
noncomputable def rEq:R2:=λx y H Q=>scal x y=true/\Q (.bl (decide (x=y))) H
noncomputable def rNe:R2:=λx y H Q=>scal x y=true/\Q (.bl (!decide (x=y))) H
theorem dec_int{i j:Int}:decide (V.int i=V.int j)=(i==j):=by
 rw[Y2u]
 simp
theorem dec_bl{i j:Bool}:decide (V.bl i=V.bl j)=(i==j):=by
 rw[Y2u]
 simp
theorem dec_str{i j:Str}:decide (V.str i=V.str j)=(i==j):=by
 rw[Y2u]
 simp
theorem dec_byt{i j:Array UInt8}:decide (V.byt i=V.byt j)=(i.toList==j.toList):=by
 rw[Y2u]
 cases i
 cases j
 simp
section
variable{X:Cx}{a b c:Expr}{ta tb tc:TE}{pos:Pos}
theorem Z0d{pins:List (Addr×Obj)}{σ:St}{H:Hp}{s:Shared}{Q:VK}{k k':Bool}(I:Inv X pins σ H s)(q:Q (.bl k) H)(e:k=k'):EP X pins σ Q (.bool k') s:=by
 subst e
 exact⟨.bl k,H,I,rfl,q⟩
theorem op_eq:OpR X (compareOp .Eq) rEq:=by
 intro pins s σ H x y v u Q I rx ry h
 obtain⟨hs,q⟩:=h
 cases x with
 |non=>
  cases rx
  cases y with
  |non=>cases ry;exact PySem.EqNone.eq_none_none (Z0d I q (by simp))
  |bl j=>cases ry;exact PySem.EqNone.eq_none_bool (Z0d I q (by simp))
  |int j=>obtain⟨t',rfl⟩:=ry;exact PySem.EqNone.eq_none_int (Z0d I q (by simp))
  |str j=>obtain⟨t',rfl⟩:=ry;exact PySem.EqNone.eq_none_str (Z0d I q (by simp))
  |_=>exact absurd (show false=true from hs) Y04
 |bl i=>
  cases rx
  cases y with
  |non=>cases ry;exact PySem.EqNone.eq_bool_none (Z0d I q (by simp))
  |bl j=>cases ry;exact eq_bool (Z0d I q dec_bl)
  |str j=>obtain⟨t',rfl⟩:=ry;exact PySem.EqMixed.eq_bool_str (Z0d I q (by simp))
  |_=>exact absurd (show false=true from hs) Y04
 |int i=>
  obtain⟨t,rfl⟩:=rx
  cases y with
  |non=>cases ry;exact PySem.EqNone.eq_int_none (Z0d I q (by simp))
  |int j=>obtain⟨t',rfl⟩:=ry;exact eq_int (Z0d I q dec_int)
  |str j=>obtain⟨t',rfl⟩:=ry;exact PySem.EqMixed.eq_int_str (Z0d I q (by simp))
  |_=>exact absurd (show false=true from hs) Y04
 |str i=>
  obtain⟨t,rfl⟩:=rx
  cases y with
  |non=>cases ry;exact PySem.EqNone.eq_str_none (Z0d I q (by simp))
  |bl j=>cases ry;exact PySem.EqMixed.eq_str_bool (Z0d I q (by simp))
  |int j=>obtain⟨t',rfl⟩:=ry;exact PySem.EqMixed.eq_str_int (Z0d I q (by simp))
  |str j=>obtain⟨t',rfl⟩:=ry;exact eq_str (Z0d I q dec_str)
  |_=>exact absurd (show false=true from hs) Y04
 |byt i=>
  obtain⟨t,rfl⟩:=rx
  cases y with
  |byt j=>obtain⟨t',rfl⟩:=ry;exact PySem.W.eq_bytes (Z0d I q dec_byt)
  |_=>exact absurd (show false=true from hs) Y04
 |_=>cases y<;>exact absurd (show false=true from hs) Y04
theorem op_ne:OpR X (compareOp .NotEq) rNe:=by
 intro pins s σ H x y v u Q I rx ry h
 obtain⟨hs,q⟩:=h
 cases x with
 |non=>
  cases rx
  cases y with
  |non=>cases ry;exact PySem.EqNone.ne_none_none (Z0d I q (by simp))
  |bl j=>cases ry;exact PySem.EqNone.ne_none_bool (Z0d I q (by simp))
  |int j=>obtain⟨t',rfl⟩:=ry;exact PySem.EqNone.ne_none_int (Z0d I q (by simp))
  |str j=>obtain⟨t',rfl⟩:=ry;exact PySem.EqNone.ne_none_str (Z0d I q (by simp))
  |_=>exact absurd (show false=true from hs) Y04
 |bl i=>
  cases rx
  cases y with
  |non=>cases ry;exact PySem.EqNone.ne_bool_none (Z0d I q (by simp))
  |bl j=>cases ry;exact ne_bool (Z0d I q (congrArg not dec_bl))
  |str j=>obtain⟨t',rfl⟩:=ry;exact PySem.EqMixed.ne_bool_str (Z0d I q (by simp))
  |_=>exact absurd (show false=true from hs) Y04
 |int i=>
  obtain⟨t,rfl⟩:=rx
  cases y with
  |non=>cases ry;exact PySem.EqNone.ne_int_none (Z0d I q (by simp))
  |int j=>obtain⟨t',rfl⟩:=ry;exact ne_int (Z0d I q (congrArg not dec_int))
  |str j=>obtain⟨t',rfl⟩:=ry;exact PySem.EqMixed.ne_int_str (Z0d I q (by simp))
  |_=>exact absurd (show false=true from hs) Y04
 |str i=>
  obtain⟨t,rfl⟩:=rx
  cases y with
  |non=>cases ry;exact PySem.EqNone.ne_str_none (Z0d I q (by simp))
  |bl j=>cases ry;exact PySem.EqMixed.ne_str_bool (Z0d I q (by simp))
  |int j=>obtain⟨t',rfl⟩:=ry;exact PySem.EqMixed.ne_str_int (Z0d I q (by simp))
  |str j=>obtain⟨t',rfl⟩:=ry;exact ne_str (Z0d I q (congrArg not dec_str))
  |_=>exact absurd (show false=true from hs) Y04
 |byt i=>
  obtain⟨t,rfl⟩:=rx
  cases y with
  |byt j=>obtain⟨t',rfl⟩:=ry;exact PySem.W.ne_bytes (Z0d I q (congrArg not dec_byt))
  |_=>exact absurd (show false=true from hs) Y04
 |_=>cases y<;>exact absurd (show false=true from hs) Y04
theorem op_lt:OpR X (compareOp .Lt) (rI0 λi j=>.bl (decide (i<j))):=opB0 λ_ _ _ _ _ _ _ q=>lt_int q
theorem op_le:OpR X (compareOp .LtE) (rI0 λi j=>.bl (decide (i≤j))):=opB0 λ_ _ _ _ _ _ _ q=>le_int q
theorem op_gt:OpR X (compareOp .Gt) (rI0 λi j=>.bl (decide (j<i))):=opB0 λ_ _ _ _ _ _ _ q=>gt_int q
theorem op_ge:OpR X (compareOp .GtE) (rI0 λi j=>.bl (decide (j≤i))):=opB0 λ_ _ _ _ _ _ _ q=>ge_int q
theorem op_isN:OpR X (compareOp .Is) (λx y H Q=>y=.non/\Q (.bl (decide (x=.non))) H):=by
 intro pins s σ H x y v u Q I rx ry h
 obtain⟨rfl,q⟩:=h
 cases ry
 refine is_none_gen (Z0d I q ?_)
 cases x<;>first
  |(cases rx;rfl)
  |(obtain⟨t,rfl⟩:=rx;rfl)
theorem op_notN:OpR X (compareOp .IsNot) (λx y H Q=>y=.non/\Q (.bl (!decide (x=.non))) H):=by
 intro pins s σ H x y v u Q I rx ry h
 obtain⟨rfl,q⟩:=h
 cases ry
 refine isnot_none_gen (Z0d I q ?_)
 cases x<;>first
  |(cases rx;rfl)
  |(obtain⟨t,rfl⟩:=rx;rfl)
theorem OpR.or{f:Value->Value->Sem Value}{r r':R2}(h:OpR X f r)(h':OpR X f r'):OpR X f (λx y H Q=>r x y H Q\/r' x y H Q):=by
 intro pins s σ H x y v u Q I rx ry q
 rcases q with q|q
 ·exact h pins s σ H x y v u Q I rx ry q
 ·exact h' pins s σ H x y v u Q I rx ry q
theorem pe_cmpR{op:CmpOp}{r:R2}(ho:OpR X (compareOp op) r)(ha:PE X a ta)(hb:PE X b tb)(hm:behindInMarks op b=false):PE X (.Compare a [op] [b] pos) (tOp r ta tb):=by
 intro pins s σ H Q I h
 exact wpAny_Compare1 (binT ha hb I h λv u s2 x y H2 I2 rx ry q=>ho pins s2 σ H2 x y v u Q I2 rx ry q) hm
noncomputable def tTest(t:TE):TT:=λσ H Q=>t σ H λx H'=>∃k,x=.bl k/\Q k H'
theorem pt_cmpR{op:CmpOp}{r:R2}(ho:OpR X (compareOp op) r)(ha:PE X a ta)(hb:PE X b tb)(hm:behindInMarks op b=false):PT X (.Compare a [op] [b] pos) (tTest (tOp r ta tb)):=by
 intro pins s σ H Q I h
 refine wpAny_isTrue_Compare1 (thn (ha pins s σ H _ I h) λv s1 ⟨x,H1,I1,r1,q1⟩=>thn (hb pins s1 σ H1 _ I1 q1) λu s2 ⟨y,H2,I2,r2,q2⟩=>
  thn (ho pins s2 σ H2 x y v u _ I2 r1 r2 q2) λc s3 ⟨z,H3,I3,r3,k,e,q3⟩=>?_) hm
 subst e
 cases r3
 exact wpAny_truthy_bool ⟨H3,I3,q3⟩
noncomputable def tChain(r r':R2)(ta tb tc:TE):TE:=λσ H Q=>ta σ H λx H1=>tb σ H1 λy H2=>r x y H2 λz H3=>∃k,z=.bl k/\
 (if k=true then tc σ H3 λw' H4=>r' y w' H4 Q else Q (.bl false) H3)
theorem pe_chain{op op':CmpOp}{r r':R2}(ho:OpR X (compareOp op) r)(ho':OpR X (compareOp op') r')(ha:PE X a ta)(hb:PE X b tb)(hc:PE X c tc)
  (hm:lastMarks [op,op'] [b,c]=false:=by with_unfolding_all rfl):PE X (.Compare a [op,op'] [b,c] pos) (tChain r r' ta tb tc):=by
 intro pins s σ H Q I h
 refine Compare_chain (thn (ha pins s σ H _ I h) λv s1 ⟨x,H1,I1,r1,q1⟩=>chain_link (thn (hb pins s1 σ H1 _ I1 q1) λu s2 ⟨y,H2,I2,r2,q2⟩=>
  thn (ho pins s2 σ H2 x y v u _ I2 r1 r2 q2) λd s3 ⟨z,H3,I3,r3,k,e,q3⟩=>?_)) hm
 subst e
 cases r3
 refine wpAny_truthy_bool ?_
 cases k with
 |false=>exact ite_ff ⟨.bl false,H3,I3,rfl,q3⟩
 |true=>exact ite_tt (chain_last (thn (hc pins s3 σ H3 _ I3 q3) λw' s4 ⟨z',H4,I4,r4,q4⟩=>ho' pins s4 σ H4 y z' u w' Q I4 r2 r4 q4))
theorem pt_chain{op op':CmpOp}{r r':R2}(ho:OpR X (compareOp op) r)(ho':OpR X (compareOp op') r')(ha:PE X a ta)(hb:PE X b tb)(hc:PE X c tc)
  (hm:lastMarks [op,op'] [b,c]=false:=by with_unfolding_all rfl):PT X (.Compare a [op,op'] [b,c] pos) (tTest (tChain r r' ta tb tc)):=by
 intro pins s σ H Q I h
 refine isTrue_chain (thn (ha pins s σ H _ I h) λv s1 ⟨x,H1,I1,r1,q1⟩=>test_link (thn (hb pins s1 σ H1 _ I1 q1) λu s2 ⟨y,H2,I2,r2,q2⟩=>
  thn (ho pins s2 σ H2 x y v u _ I2 r1 r2 q2) λd s3 ⟨z,H3,I3,r3,k,e,q3⟩=>?_)) hm
 subst e
 cases r3
 refine wpAny_truthy_bool ?_
 cases k with
 |false=>
  obtain⟨k',e',q'⟩:=q3
  cases e'
  exact ite_ff ⟨H3,I3,q'⟩
 |true=>
  refine ite_tt (test_last (thn (hc pins s3 σ H3 _ I3 q3) λw' s4 ⟨z',H4,I4,r4,q4⟩=>thn (ho' pins s4 σ H4 y z' u w' _ I4 r2 r4 q4) λd' s5 ⟨z2,H5,I5,r5,k2,e2,q5⟩=>?_))
  subst e2
  cases r5
  exact wpAny_truthy_bool ⟨H5,I5,q5⟩
theorem line63:(sizeLine:Nat)<2^63:=by rw[sizeLine_eq];decide
theorem op_add_str:OpR X (binaryOp .Add) (λx y H Q=>∃i j,x=.str i/\y=.str j/\i.length+j.length≤sizeLine/\Q (.str (i++j)) H):=by
 intro pins s σ H x y v u Q I rx ry h
 obtain⟨i,j,rfl,rfl,hz,q⟩:=h
 obtain⟨t,rfl⟩:=rx
 obtain⟨t',rfl⟩:=ry
 exact add_str (λt' tk=>⟨.str (i++j),H,I.tok _,⟨_,rfl⟩,q⟩) hz
theorem vals1{x:V}{us:List Value}(r:Vals [x] us):∃u,us=[u]/\RelV x u:=by
 cases r with
 |cons r1 r2=>cases r2;exact⟨_,rfl,r1⟩
theorem vals2{x y:V}{us:List Value}(r:Vals [x,y] us):∃u w',us=[u,w']/\RelV x u/\RelV y w':=by
 cases r with
 |cons r1 r2=>
  cases r2 with
  |cons r3 r4=>cases r4;exact⟨_,_,rfl,r1,r3⟩
theorem call_abs:CallR X (.builtin "abs") (fun xs H Q=>∃i,xs=[.int i]/\Q (.int (if i<0 then -i else i)) H):=by
 intro pins s σ H xs us Q I r h
 obtain⟨i,rfl,q⟩:=h
 obtain⟨u,rfl,t,rfl⟩:=vals1 r
 exact call_abs_int λu tk=>⟨.int (if i<0 then -i else i),H,I.tok _,⟨_,rfl⟩,q⟩
theorem call_max2(hc:X.calm=true):CallR X (.builtin "max") (fun xs H Q=>∃i j,xs=[.int i,.int j]/\Q (.int (if j>i then j else i)) H):=by
 intro pins s σ H xs us Q I r h
 obtain⟨i,j,rfl,q⟩:=h
 obtain⟨u,w',rfl,⟨t,rfl⟩,⟨t',rfl⟩⟩:=vals2 r
 refine max_two_ints (I.ok.hd hc) λh' tk k=>⟨_,H,I.kept k,?_,q⟩
 by_cases hj:j>i
 ·rw[if_pos hj,if_pos hj];exact⟨_,rfl⟩
 ·rw[if_neg hj,if_neg hj];exact⟨_,rfl⟩
theorem call_int1:CallR X (.type "int") (fun xs H Q=>(∃i,xs=[.int i]/\Q (.int i) H)\/∃k,xs=[.bl k]/\Q (.int (if k then 1 else 0)) H):=by
 intro pins s σ H xs us Q I r h
 rcases h with⟨i,rfl,q⟩|⟨k,rfl,q⟩
 ·obtain⟨u,rfl,t,rfl⟩:=vals1 r
  exact call_int_int ⟨.int i,H,I,⟨_,rfl⟩,q⟩
 ·obtain⟨u,rfl,r1⟩:=vals1 r
  cases r1
  exact call_int_bool ⟨.int (if k then 1 else 0),H,I.tok _,⟨_,rfl⟩,q⟩
end
end L2
namespace L2
open PySem PySem.Spec PyProof.Rows
structure ObjM (h:Heap) (x dx C:Addr) (mA:Str->Option Value):Prop where
 obj:h.get? x=some (Y38 C dx)
 ns:h.Ns1 dx mA
 ne:dx≠x
theorem lookIn_ns{h:Heap}{dx:Addr}{mA:Str->Option Value}(n:h.Ns1 dx mA):∃od,h.get? dx=some od/\∀name,Y3t name od=some (mA name):=by
 obtain⟨o,es,ep,ho,hd,hk,_,hm⟩:=n
 refine⟨o,ho,λname=>?_⟩
 have e:=hm name
 unfold nsFind findBy at e
 rw[<- Array.find?_toList]at e
 unfold Y3t
 rw[hd]
 dsimp only
 split
 ·rename_i y q
  rw[q]at e
  exact congrArg some e
 ·rename_i q
  rw[q]at e
  have a:es.toList.any (·.refKey)=false:=by
   rw[List.any_eq_false]
   intro y hy
   obtain⟨z,t,hkey⟩:=hk y (Array.mem_toList_iff.mp hy)
   simp[DictEntry.refKey,hkey]
  have a':¬es.toList.any (·.refKey)=true:=by rw[a];exact Y04
  rw[if_neg a']
  exact congrArg some e
theorem ObjM.look{h:Heap}{x dx C:Addr}{mA:Str->Option Value}(I:ObjM h x dx C mA):∃od,PySem.W.InstAt h x (Y38 C dx) C (some od)/\∀name,Y3t name od=some (mA name):=
 let⟨od,ho,hl⟩:=lookIn_ns I.ns
 ⟨od,⟨I.obj,rfl,rfl,ho⟩,hl⟩
section
variable{prog:Program}{w:World}{A:Around}{E:Value->Shared->Prop}{s:Shared}{K:Y00}{x dx C f:Addr}{mA:Str->Option Value}{name:Str}{v:Value}
end
theorem RelO.some_of{v:V}{o:Option Value}(r:RelO (some v) o):∃u,o=some u/\RelV v u:=by
 cases o with
 |none=>exact(show False from r).elim
 |some u=>exact⟨u,rfl,r⟩
section
variable{P:Program}{w:World}{H H':Hp}{h h':Heap}{a C dx:Addr}{fs fs':List (Str×V)}
theorem ins_get(hok:HOk P w H h)(e:H a=some (.ins C dx fs)):∃mA,ObjM h a dx C mA/\(∀f,RelO (fs.lookup f) (mA f))/\PySem.Within mA (fs.map (·.1))/\fs.length≤1000/\H dx=some (.own a):=by
 obtain⟨d,z,ne,ob,mA,n,r,q⟩:=(show ObjOk P w H h a (.ins C dx fs)from hok a _ e)
 exact⟨mA,⟨ob,n,ne⟩,r,q,z,d⟩
end
structure Cls (K:Y00) (C:Addr):Prop where
 pg:PySem.W.plainGet K C Y3a=true
 hd:PySem.W.hasDictIn K C=true
 po:PySem.W.plainOver K C=true
 sa:Y1V K (.ref C) "__setattr__"=some (some (.builtin "object.__setattr__"))
theorem Cls.get{K:Y00}{C:Addr}(c:Cls K C)(f:Str):PySem.W.plainGet K C f=true:=c.pg
noncomputable def NoAttr(K:Y00)(C:Addr)(f:Str):Prop:=Y1V K (.ref C) f=some none
structure Con (K:Y00) (C:Addr) (f:Str) (v:V) (u:Value):Prop where
 at_:Y1V K (.ref C) f=some (some u)
 rel:RelV v u
 get:PySem.W.specialIn K u "__get__"=some none
 cp:PySem.W.copiedNames.contains f=false
structure Meth (K:Y00) (C:Addr) (m:Str) (f:Addr):Prop where
 at_:Y1V K (.ref C) m=some (some (.ref f))
 fn:PySem.W.isFn K (.ref f)=true
 kp:Y0U K (.ref f)=true
section
variable{X:Cx}{pins:List (Addr×Obj)}{σ:St}{H:Hp}{s:Shared}{a C dx:Addr}{fs:List (Str×V)}{f:Str}{v:V}{A:Around}{E:Value->Shared->Prop}
end
section
variable{X:Cx}{o e value:Expr}{f:Str}{pos pos' tpos:Pos}{ta tv:TE}
end
section
variable{X:Cx}{pins:List (Addr×Obj)}{σ:St}{H:Hp}{s:Shared}{A:Around}{E:Value->Shared->Prop}{Q:Value->Shared->Prop}{c:Value}{b:Bool}
inductive TyOf (K:Y00) (H:Hp):V->Value->Prop where
 |non:TyOf K H .non (.type "NoneType")
 |bl (x:Bool):TyOf K H (.bl x) (.type "bool")
 |int (i:Int):TyOf K H (.int i) (.type "int")
 |str (x:Str):TyOf K H (.str x) (.type "str")
 |flt (x:UInt64):TyOf K H (.flt x) (.type "float")
 |lst {a:Addr} {xs:List V} (e:H a=some (.lst xs)):TyOf K H (.ref a) (.type "list")
 |frz {a:Addr} {o:Obj} {xs:List V} (e:H a=some (.frz o (.lst xs))):TyOf K H (.ref a) (.type "list")
 |tup {a:Addr} {xs:List V} (e:H a=some (.tup xs)):TyOf K H (.ref a) (.type "tuple")
 |dK {a:Addr} {kvs:List (Key×V)} (e:H a=some (.dK kvs)):TyOf K H (.ref a) (.type "dict")
 |dT {a:Addr} {kvs:List (List Key×V)} (e:H a=some (.dT kvs)):TyOf K H (.ref a) (.type "dict")
 |ins {a C dx:Addr} {fs:List (Str×V)} (e:H a=some (.ins C dx fs)) (cl:Cls K C) (ha:Y1V K (.ref C) "__class__"=some (some (.builtin "object.__class__")))
   (hn:PySem.W.specialIn K (.builtin "object.__class__") "__get__"=some (some (.builtin "getset_descriptor.__get__"))) (htk:PySem.W.takesIn K (.builtin "object.__class__")=some true)
   (hm:PySem.W.mroIn K C (.type "object")=some true):TyOf K H (.ref a) (.ref C)
theorem isinst_ok{x:V}{u t:Value}(I:Inv X pins σ H s)(rx:RelV x u)(ty:TyOf X.K H x t)(e:Y1k X.K t c=some b)(h:∀tk,Q (.bool b) {s with toks:=tk}):
  wpAny (model X.prog X.w) A (call (.builtin "isinstance") [u,c]) Q E s:=by
 cases ty with
 |non=>cases(show u=Y0i from rx);exact Y14 PySem.W.kitx_none I.kIn Y1z e (λz=>nomatch z) h
 |bl y=>cases(show u=Y0X y from rx);exact Y14 PySem.W.kitx_bool I.kIn Y1z e (λz=>nomatch z) h
 |int i=>obtain⟨t,q⟩:=(show∃t,u=Y3F i t from rx);cases q;exact Y14 PySem.W.kitx_int I.kIn Y1z e (λz=>nomatch z) h
 |str y=>obtain⟨t,q⟩:=(show∃t,u=Y0r y t from rx);cases q;exact Y14 PySem.W.kitx_str I.kIn Y1z e (λz=>nomatch z) h
 |flt y=>obtain⟨t,q⟩:=(show∃t,u=Value.float y t from rx);cases q;exact Y14 PySem.W.kitx_float I.kIn Y1z e (λz=>nomatch z) h
 | @lst a xs ea=>
  cases(show u=Y0k a from rx)
  obtain⟨_,_,n,_,h1⟩:=(show ObjOk X.prog X.w H s.heap a (.lst xs)from I.hok a _ ea)
  exact Y14 Y2g I.kIn ⟨_,h1,rfl⟩ e (λz=>nomatch z) h
 | @frz a ob xs ea=>
  cases(show u=Y0k a from rx)
  obtain⟨_,_,_,n,_,h1⟩:=(show ObjOk X.prog X.w H s.heap a (.frz ob (.lst xs))from I.hok a _ ea)
  exact Y14 Y2g I.kIn ⟨_,h1,rfl⟩ e (λz=>nomatch z) h
 | @tup a xs ea=>
  cases(show u=Y0k a from rx)
  obtain⟨_,_,_,p⟩:=(show ObjOk X.prog X.w H s.heap a (.tup xs)from I.hok a _ ea)
  obtain⟨o,h1,h2,_⟩:=p.1
  exact Y14 PySem.W.kitx_tuple I.kIn ⟨o,h1,h2⟩ e (λz=>nomatch z) h
 | @dK a kvs ea=>
  cases(show u=Y0k a from rx)
  obtain⟨_,_,vs,_,p⟩:=(show ObjOk X.prog X.w H s.heap a (.dK kvs)from I.hok a _ ea)
  obtain⟨o,es,ep,h1,h2,_⟩:=p
  exact Y14 Y2h I.kIn ⟨o,h1,h2.1⟩ e (λz=>nomatch z) h
 | @dT a kvs ea=>
  cases(show u=Y0k a from rx)
  obtain⟨_,_,xs,_,o,es,ep,h1,h2,_⟩:=(show ObjOk X.prog X.w H s.heap a (.dT kvs)from I.hok a _ ea)
  exact Y14 Y2h I.kIn ⟨o,h1,h2.1⟩ e (λz=>nomatch z) h
 | @ins a C dx fs ea cl ha hn htk hm=>
  cases(show u=Y0k a from rx)
  obtain⟨mA,O,_⟩:=ins_get I.hok ea
  obtain⟨od,J,_⟩:=O.look
  exact Y14 (PySem.W.kitx_own (cl.get _) cl.hd ha hn htk hm) I.kIn J e (λz=>nomatch z) h
end
end L2
namespace L2
open PySem PySem.Spec PyProof.Rows
structure Room (k:Nat) (A:Around):Prop where
 hd:A.handled=none
 dp:A.depth+3*k+5<recursionLimit
 un:A.units+16*k+200<cLine
theorem Room.mono{j k:Nat}{A:Around}(r:Room k A)(h:j≤k):Room j A:=⟨r.hd,by have:=r.dp;lia,by have:=r.un;lia⟩
theorem Room.deeper{k:Nat}{A:Around}(r:Room (k+1) A)(env:Env):Room k (A.deeper env):=
 ⟨r.hd,by have:=r.dp;show A.depth+1+3*k+5<_;lia,by have:=r.un;show A.units+3+16*k+200<_;lia⟩
theorem Room.depth{k:Nat}{A:Around}(r:Room k A):A.depth<recursionLimit:=by have:=r.dp;lia
noncomputable def tNil:TA:=λ_ H Q=>Q [] H
noncomputable def tCons(ta:TE)(tr:TA):TA:=λσ H Q=>ta σ H λx H1=>tr σ H1 λxs H2=>Q (x::xs) H2
section
variable{X:Cx}{e:Expr}{es:List Expr}{te:TE}{t:TA}{pos:Pos}
theorem pa_nil:PA X [] tNil:=λ_ _ _ _ H Q I h=>Y1R ⟨[],H,I,.nil,h⟩
theorem Z0K(ha:PE X e te)(hr:PA X es t)(hs:starEach (e::es) X.env=(false,eval e X.env)::starEach es X.env:=by rfl):PA X (e::es) (tCons te t):=by
 intro pos pins s σ H Q I h
 rw[hs]
 show wpAny _ _ (spliced ((false,eval e X.env)::backTo pos (starEach es X.env))) _ _ s
 refine Y1M (thn (ha pins s σ H _ I h) λu s1 ⟨x,H1,I1,r1,q1⟩=>?_)
 exact thn (hr pos pins s1 σ H1 _ I1 q1) λus s2 ⟨xs,H2,I2,r2,q2⟩=>⟨x::xs,H2,I2,.cons r1 r2,q2⟩
noncomputable def tTup(t:TA):TE:=λσ H Q=>t σ H λxs H1=>xs.length≤sizeLine/\∀p,H1 p=none->Q (.ref p) (upd H1 p (.tup xs))
noncomputable def tLst(t:TA):TE:=λσ H Q=>t σ H λxs H1=>xs.length≤sizeLine/\∀p,H1 p=none->Q (.ref p) (upd H1 p (.lst xs))
theorem pe_tup{x1}(h:PA X es t):PE X (.Tuple es x1 pos) (tTup t):=by
 intro pins s σ H Q I hq
 refine wpAny_Tuple_spliced (thn (h pos pins s σ H _ I hq) λus s1 ⟨xs,H1,I1,r,z,q⟩=>⟨by rw[<- r.length];exact z,?_⟩)
 have hf:H1 s1.heap.objs.size=none:=I1.hok.fresh (Y09 _)
 refine⟨.ref s1.heap.objs.size,upd H1 s1.heap.objs.size (.tup xs),I1.laid (t':=s1.toks) (λb u e=>Y01 _ e) (Y09 _) ?_,rfl,q _ hf⟩
 exact⟨z,us,r,⟨_,Y0a _ rfl,rfl,_,rfl⟩,_,Y0a _ rfl,rfl⟩
theorem pe_lst(h:PA X es t):PE X (.List es pos) (tLst t):=by
 intro pins s σ H Q I hq
 refine wpAny_List_spliced (thn (h pos pins s σ H _ I hq) λus s1 ⟨xs,H1,I1,r,z,q⟩=>⟨by rw[<- r.length];exact z,?_⟩)
 have hf:H1 s1.heap.objs.size=none:=I1.hok.fresh (Y09 _)
 refine⟨.ref s1.heap.objs.size,upd H1 s1.heap.objs.size (.lst xs),I1.laid (t':=s1.toks) (λb u e=>Y01 _ e) (Y09 _) ?_,rfl,q _ hf⟩
 exact⟨z,us,0,r,Y0a _ rfl⟩
end
noncomputable abbrev Sp:=List V->Hp->VK->XK->Prop
noncomputable abbrev CXT:=List Env->Hp->Shared->XK->Value->Shared->Prop
structure Env0 (P:Program) (w:World) (K:Y00) (mg:Str->Option Value) (base:Heap) (A:Around) (outer:List Env) (s:Shared) (H:Hp):Prop where
 frames:A.frames=some outer
 mod:Mod K mg base
 bs:∀b o,base.get? b=some o->s.heap.get? b=some o/\H b=none
 bsz:base.objs.size≤s.heap.objs.size
 funs:s.heap.FunFrames base outer
 frf:∀b∈frs outer,H b=none
 hok:HOk P w H s.heap
 bare:AllBare s.gens
noncomputable def CE(outer:List Env)(P:Program)(w:World)(H:Hp)(s:Shared)(Q:VK)(u:Value)(s':Shared):Prop:=
 ∃v H',s'.os=s.os/\AllBare s'.gens/\Un (frs outer) [] H H' s.heap s'.heap/\HOk P w H' s'.heap/\RelV v u/\Q v H'
noncomputable def CR(CX:CXT)(outer:List Env)(P:Program)(w:World)(H:Hp)(s:Shared)(Q:VK)(E:XK)(r:Result)(s':Shared):Prop:=
 match r with
 |.ok (.ret u)=>CE outer P w H s Q u s'
 |.ok _=>False
 |.error e=>CX outer H s E e s'
structure FnOk (P:Program) (w:World) (K:Y00) (mg:Str->Option Value) (base:Heap) (CX:CXT) (k:Nat) (f:Addr) (fd:FuncData) (ps:List Str) (sp:Sp):Prop where
 len:∀vs H Q E,sp vs H Q E->vs.length=ps.length
 run:∀(A:Around) (outer:List Env) (s:Shared) (H:Hp) (args:Args) (us:List Value) (vs:List V) (Q:VK) (E:XK),Room k A->Env0 P w K mg base A outer s H->BindsTo s fd args (ps.zip us)->Vals vs us->sp vs H Q E->
  codeAny (model P w) A (.call (.ref f) args) (CR CX outer P w H s Q E) s
theorem FnOk.mono{P:Program}{w:World}{K:Y00}{mg:Str->Option Value}{base:Heap}{CX:CXT}{j k:Nat}{f:Addr}{fd:FuncData}{ps:List Str}{sp:Sp}(F:FnOk P w K mg base CX j f fd ps sp)(h:j≤k):
  FnOk P w K mg base CX k f fd ps sp:=⟨F.len,λA outer s H args us vs Q E hr=>F.run A outer s H args us vs Q E (hr.mono h)⟩
theorem FnOk.imp{P:Program}{w:World}{K:Y00}{mg:Str->Option Value}{base:Heap}{CX:CXT}{k:Nat}{f:Addr}{fd:FuncData}{ps:List Str}{sp sp':Sp}(F:FnOk P w K mg base CX k f fd ps sp)
  (h:∀vs H Q E,sp' vs H Q E->sp vs H Q E):FnOk P w K mg base CX k f fd ps sp':=
 ⟨λvs H Q E q=>F.len vs H Q E (h _ _ _ _ q),λA outer s H args us vs Q E hr he hb hv hs=>F.run A outer s H args us vs Q E hr he hb hv (h _ _ _ _ hs)⟩
section
variable{X:Cx}{pins:List (Addr×Obj)}{σ:St}{H:Hp}{s s':Shared}
theorem Inv.env0(I:Inv X pins σ H s):Env0 X.prog X.w X.K X.mg X.base X.A X.stack s H:=
 ⟨I.ok.frames,I.ok.mod,I.bs,Y0M I.ok.bsz I.sz,I.stack,I.stkFree,I.hok,I.bare⟩
theorem Inv.after{Q:VK}{u:Value}(I:Inv X pins σ H s)(h:CE X.stack X.prog X.w H s Q u s'):EP X pins σ Q u s':=by
 obtain⟨v,H',os,bare,un,hok,r,q⟩:=h
 obtain⟨hh,g,d,t,os'⟩:=s'
 obtain rfl:os'=s.os:=os
 exact⟨v,H',I.call (h':=hh) (g':=g) (d':=d) (t':=t) (ch:=[]) un hok bare (λb z=>absurd z (by simp)),r,q⟩
end
noncomputable def tCall(sp:Sp)(dvs:List V)(E:XK)(t:TA):TE:=λσ H Q=>t σ H λvs H1=>sp (vs++dvs) H1 Q E
noncomputable def Binds(K:Y00)(fd:FuncData)(ps:List Str)(ds:List Value):Prop:=
 ∀(s:Shared) (us:List Value),K.In s.heap->(us++ds).length=ps.length->BindsTo s fd ⟨us,[]⟩ (ps.zip (us++ds))
theorem Binds.all{K:Y00}{fd:FuncData}{ps:List Str}(h:∀us:List Value,us.length=ps.length->bindArgs fd ⟨us,[]⟩=pure (ps.zip us)):Binds K fd ps []:=λs us _ hl=>by
 rw[Y1e]at hl ⊢
 exact .of_eq (h us hl)
noncomputable def Passes(CX:CXT)(X:Cx)(E:XK):Prop:=∀(pins:List (Addr×Obj)) (σ:St) (H:Hp) (s:Shared) (e:Value) (s':Shared),Inv X pins σ H s->CX X.stack H s E e s'->X.xe e s'
section
variable{X:Cx}{CX:CXT}{k:Nat}{f C:Addr}{fd:FuncData}{ps:List Str}{sp:Sp}{dvs:List V}{ds:List Value}{E:XK}{x m:Str}{p pos apos:Pos}{e o:Expr}{es:List Expr}{ta:TE}{t:TA}
theorem run_fn{pins:List (Addr×Obj)}{σ:St}{H:Hp}{s:Shared}{Q:VK}{us:List Value}{vs:List V}(F:FnOk X.prog X.w X.K X.mg X.base CX k f fd ps sp)(hr:Room k X.A)(hb:Binds X.K fd ps ds)(hd:Vals dvs ds)(hx:Passes CX X E)
  (I:Inv X pins σ H s) (r:Vals vs us) (h:sp (vs++dvs) H Q E):wpAny (model X.prog X.w) X.A (call (.ref f) us) (EP X pins σ Q) X.xe s:=by
 have r2:Vals (vs++dvs) (us++ds):=r.append hd
 have hl:(us++ds).length=ps.length:=by rw[<- r2.length];exact F.len _ _ _ _ h
 refine wpAny_call (codeAny_mono (F.run X.A X.stack s H ⟨us,[]⟩ (us++ds) (vs++dvs) Q E hr I.env0 (hb s us I.kIn hl) r2 h) λr s' hq=>?_)
 cases r with
 |error e=>exact hx pins σ H s e s' I hq
 |ok fl=>
  cases fl with
  |ret u=>exact I.after hq
  |next=>exact Y0D hq
  |brk=>exact Y0D hq
  |cont=>exact Y0D hq
theorem pe_call(F:FnOk X.prog X.w X.K X.mg X.base CX k f fd ps sp)(hr:Room k X.A)(hg:Gl X x)(hm:X.mg x=some (.ref f))(hk:Y0U X.K (.ref f)=true)(hb:Binds X.K fd ps ds)(hd:Vals dvs ds)(hx:Passes CX X E)
  (ha:PA X (e::es) t) (hdb:(x==("__debug__":Str))=false:=by decide) (he:starEach (e::es) X.env=(false,eval e X.env)::starEach es X.env:=by rfl) (hpl:(backTo pos (starEach es X.env)).any (·.1)=false:=by rfl):
  PE X (.Call (.Name x p) (e::es) [] pos) (tCall sp dvs E t):=by
 intro pins s σ H Q I h
 refine wpAny_Call_Name_kw (ld_glob I hg hm ?_ hdb)
 refine PySem.W.callWith_K (h₀:=X.base) I.ok.mod.kin hk (thn (ha pos pins s σ H _ I h) λus s1 ⟨vs,H1,I1,r,q⟩=>⟨I1.kIn,?_⟩) he hpl
 exact run_fn F hr hb hd hx I1 r q
structure Mk (K:Y00) (C f:Addr):Prop where
 makes:PySem.W.makesIn K C=true
 init:Y1V K (.ref C) "__init__"=some (some (.ref f))
 fn:PySem.W.isFn K (.ref f)=true
 kp:Y0U K (.ref C)=true
end
section
variable{X:Cx}{CX:CXT}{k:Nat}{f C:Addr}{fd:FuncData}{ps ks:List Str}{sp:Sp}{E:XK}{x m:Str}{p pos apos kpos:Pos}{e o:Expr}{es:List Expr}{kws:List Keyword}{te ta:TE}{t tk:TA}{nm:Option Str}
structure KBinds (K:Y00) (fd:FuncData) (ps ks:List Str) (g:List Value->List Value->List Value) (gV:List V->List V->List V):Prop where
 to:∀(s:Shared) (us ws:List Value),K.In s.heap->(g us ws).length=ps.length->BindsTo s fd ⟨us,ks.zip ws⟩ (ps.zip (g us ws))
 rel:∀{vs:List V} {us:List Value} {zs:List V} {ws:List Value},Vals vs us->Vals zs ws->Vals (gV vs zs) (g us ws)
variable{g:List Value->List Value->List Value}{gV:List V->List V->List V}
end
structure FnScope (N P:List Str) (sc:Scope):Prop where
 kind:sc.kind=.function
 co:sc.isCoroutine=false
 gen:sc.isGenerator=false
 nd:N.Nodup
 pre:N.take P.length=P
 par:∀x∈P,sc.names.lookup x=some .local\/sc.names.lookup x=some .cell
 nofree:∀y∈sc.names,y.2≠.free
theorem bindL_out{kindOf:Str->Option NameKind}{x:Str}:∀{binds:List (Str×Value)} {m:Str->Option Value},(∀v,(x,v)∉binds)->bindL kindOf binds m x=m x
 |[],_,_=>rfl
 |(n,v)::r,m,h=>by
  unfold bindL
  rw[bindL_out λw hw=>h w (Y0c _ hw)]
  split
  ·have:x≠n:=by rintro rfl;exact h v Y0l
   simp[this]
  ·rfl
theorem bindC_out{kindOf:Str->Option NameKind}{x:Str}:∀{binds:List (Str×Value)} {m:Str->Option Value},(∀v,(x,v)∉binds)->bindC kindOf binds m x=m x
 |[],_,_=>rfl
 |(n,v)::r,m,h=>by
  unfold bindC
  rw[bindC_out λw hw=>h w (Y0c _ hw)]
  split
  ·rfl
  ·have:x≠n:=by rintro rfl;exact h v Y0l
   simp[this]
theorem bindL_get{kindOf:Str->Option NameKind}{x:Str}{v:Value}:∀{P:List Str} {vs:List Value} {i:Nat} {m:Str->Option Value},P.Nodup->P[i]?=some x->vs[i]?=some v->kindOf x=some .local->
  bindL kindOf (P.zip vs) m x=some v
 |[],_,_,_,_,h,_,_=>by simp at h
 |_::_,[],_,_,_,_,h,_=>by simp at h
 |p::P,w::vs,0,m,nd,h1,h2,hk=>by
  simp at h1 h2;subst h1;subst h2
  show bindL kindOf ((p,w)::P.zip vs) m p=_
  unfold bindL
  rw[bindL_out λv hv=>(Y19.mp nd).1 (Y3b hv).1,if_pos hk]
  simp
 |p::P,w::vs,i+1,m,nd,h1,h2,hk=>by
  show bindL kindOf ((p,w)::P.zip vs) m x=_
  unfold bindL
  exact bindL_get (i:=i) (Y19.mp nd).2 (by simpa using h1) (by simpa using h2) hk
theorem bindC_get{kindOf:Str->Option NameKind}{x:Str}{v:Value}:∀{P:List Str} {vs:List Value} {i:Nat} {m:Str->Option Value},P.Nodup->P[i]?=some x->vs[i]?=some v->kindOf x≠some .local->
  bindC kindOf (P.zip vs) m x=some v
 |[],_,_,_,_,h,_,_=>by simp at h
 |_::_,[],_,_,_,_,h,_=>by simp at h
 |p::P,w::vs,0,m,nd,h1,h2,hk=>by
  simp at h1 h2;subst h1;subst h2
  show bindC kindOf ((p,w)::P.zip vs) m p=_
  unfold bindC
  rw[bindC_out λv hv=>(Y19.mp nd).1 (Y3b hv).1,if_neg hk]
  simp
 |p::P,w::vs,i+1,m,nd,h1,h2,hk=>by
  show bindC kindOf ((p,w)::P.zip vs) m x=_
  unfold bindC
  exact bindC_get (i:=i) (Y19.mp nd).2 (by simpa using h1) (by simpa using h2) hk
noncomputable def start(N:List Str)(vs:List V):St:=vs.map some++Y1J (N.length - vs.length) none
noncomputable def cxOf(CX:CXT)(P:Program)(w:World)(K:Y00)(mg:Str->Option Value)(base:Heap)(N:List Str)(qual:Str)(scope:Scope)(f:Addr)(cd:Value)(A:Around)(outer:List Env)(s:Shared)(H:Hp)(E:XK):Cx where
 prog:=P
 w:=w
 K:=K
 mg:=mg
 base:=base
 A:=A.deeper (envOfC qual scope s.heap.objs.size f cd)
 N:=N
 s₀:=s
 H₀:=H
 env:=envOfC qual scope s.heap.objs.size f cd
 outer:=outer
 stack:=envOfC qual scope s.heap.objs.size f cd::outer
 ex:=[]
 calm:=true
 fn:=λ_=>true
 pn:=[]
 xe:=λe s'=>wpAny (model P w) (A.deeper (envOfC qual scope s.heap.objs.size f cd)) (leaving (envOfC qual scope s.heap.objs.size f cd) e) (λ_ s''=>CX outer H s E e s'') (λe' s''=>CX outer H s E e' s'') s'
theorem cell_has{sc:Scope}{n:Nat}{x:Str}(h:sc.names.lookup x=some .cell):∃c,(cellsFrom n sc.names []).lookup x=some c:=by
 have q:=Y34 sc.names n [] (.inl h)
 exact Option.isSome_iff_exists.mp q
theorem inv_start{CX:CXT}{P:Program}{w:World}{K:Y00}{mg:Str->Option Value}{base:Heap}{N ps:List Str}{qual:Str}{scope:Scope}{f:Addr}{cd:Value}{A:Around}{outer:List Env}{s s1:Shared}{H:Hp}{E:XK}{us:List Value}{vs:List V}
  (S:FnScope N ps scope) (hd:A.handled=none) (e0:Env0 P w K mg base A outer s H) (hl:vs.length=ps.length) (r:Vals vs us)
  (x:InCallC s s.heap.objs.size (bindL (envOfC qual scope s.heap.objs.size f cd).kindOf (ps.zip us) λ_=>none) (cellsFrom (s.heap.objs.size+1) scope.names []) (bindC (envOfC qual scope s.heap.objs.size f cd).kindOf (ps.zip us) λ_=>none) s1):
  Inv (cxOf CX P w K mg base N qual scope f cd A outer s H E) [] (start N vs) H s1:=by
 have hpl:ps.length≤N.length:=by have:=congrArg List.length S.pre;rw[Y0p]at this;lia
 obtain⟨h1,tk,rfl,hk⟩:=x.done
 have noA:∀b:Addr,b∉(cxOf CX P w K mg base N qual scope f cd A outer s H E).ex:=λb z=>absurd (show b∈([]:List Addr)from z) (by simp)
 refine⟨⟨e0.mod,S.kind,rfl,rfl,Y09 _,λy z c h1 h2=>?_,λy hy=>?_,λy c _ h=>?_,λ_=>hd,Around.frames_deeper e0.frames,.inr ⟨rfl,rfl⟩,λb z=>absurd z (noA b),e0.bs,e0.bsz,λb _ _=>noA b,λb z=>absurd z (noA b),e0.funs,e0.frf⟩,
  rfl,e0.bare,Un.kept hk,⟨_,x.toInCall.ns,λi y v h1 h2 h3=>?_⟩,λy c h=>⟨_,x.cell y c h⟩,e0.hok.fresh (Y09 _),λy c h=>?_,λp hp=>absurd (show p∈([]:List (Addr×Obj))from hp) (by simp),e0.hok.kept hk,?_⟩
 ·exact name_of_addr x.apart (Y1o h1) (Y1o h2)
 ·have hy:scope.names.lookup y=some .cell\/scope.names.lookup y=some .free:=hy
  rcases hy with hy|hy
  ·exact cell_has hy
  ·exact absurd rfl (S.nofree _ (Y1o hy))
 ·exact Y39 (x.above y c (Y1o h))
 ·have hi:i<vs.length:=by
   unfold start at h2
   by_cases hi:i<vs.length
   ·exact hi
   ·rw[Y0v (by simpa using hi)]at h2
    rw[Y2Y]at h2
    split at h2<;>cases h2
  have ha:vs[i]?=some v:=by
   unfold start at h2
   rw[Y0s (by simpa using hi),Y0b]at h2
   cases e:vs[i]? with
   |none=>rw[e]at h2;cases h2
   |some a=>rw[e]at h2;cases h2;rfl
  obtain⟨u,hu,rv⟩:=r.get ha
  have hp:ps[i]?=some y:=by
   rw[<- S.pre,Y2P (by lia)];exact h1
  have ndP:ps.Nodup:=by rw[<- S.pre];exact S.nd.sublist (List.take_sublist _ _)
  refine⟨u,rv,?_⟩
  rcases S.par y (Y0C hp)with k|k
  ·exact .inl ⟨k,bindL_get ndP hp hu k⟩
  ·obtain⟨c,e⟩:=cell_has (n:=s.heap.objs.size+1) k
   refine .inr ⟨.inl k,c,e,?_⟩
   have q:=x.cell y c e
   rw[bindC_get ndP hp hu (by show scope.names.lookup y≠_;rw[k];decide)]at q
   exact q
 ·exact e0.hok.fresh (Y39 (x.above y c (Y1o h)))
 ·unfold start
  show _=N.length
  rw[Y0o,Y03,Y2k]
  lia
theorem fn_of{CX:CXT}{P:Program}{w:World}{K:Y00}{mg:Str->Option Value}{base:Heap}{k:Nat}{f:Addr}{name qual:Str}{params:Arguments}{body:List Stmt}{scope:Scope}{dV kV doc pm cdv ct oc:Value}{an od:Option Addr}
  {osl:Array (Option Value)} {N ps:List Str} {sp:Sp} (lk:K.lookup f=some ⟨oc,od,.func (Y1O name qual params body scope dV kV doc pm an cdv ct),osl⟩) (hcd:Y3u K cdv qual=true) (S:FnScope N ps scope)
  (len:∀vs H Q E,sp vs H Q E->vs.length=ps.length)
  (hbody:∀(A:Around) (outer:List Env) (s:Shared) (H:Hp) (vs:List V) (Q:VK) (E:XK),Room k (A.deeper (envOfC qual scope s.heap.objs.size f cdv))->sp vs H Q E->
   ∃t,PSs (cxOf CX P w K mg base N qual scope f cdv A outer s H E) body t/\t {nx:=λ_ H'=>Q .non H',rt:=Q} (start N vs) H):
  FnOk P w K mg base CX (k+1) f (Y1O name qual params body scope dV kV doc pm an cdv ct) ps sp:=by
 refine⟨len,λA outer s H args us vs Q E hr e0 hb r hsp=>?_⟩
 have hl:=len _ _ _ _ hsp
 have KX:K.In s.heap:=e0.mod.kin.keeps λb o e=>(e0.bs b o e).1
 have lim:s.heap.NoLimit:=e0.mod.nolimit.keeps λb o e=>(e0.bs b o e).1
 have hkind:∀y∈ps.zip us,scope.names.lookup y.1=some .local\/(scope.names.lookup y.1=some .cell/\((cellsFrom (s.heap.objs.size+1) scope.names []).lookup y.1).isSome=true):=fun⟨n,v⟩ hy=>by
  rcases S.par n (Y3b hy).1 with q|q
  ·exact .inl q
  ·exact .inr ⟨q,Y34 _ _ _ (.inl q)⟩
 refine codeAny_call_function hr.depth (KX _ _ lk) rfl S.co S.gen rfl (PySem.W.codeRec_of KX hcd) (hb _ _ _ _ ?_)
 refine wpAny_newFunctionEnv_cells S.kind hkind λenv he s1 x=>?_
 subst he
 refine⟨lim.keeps x.toInCall.keep,codeAny_func ?_⟩
 obtain⟨t,ht,hq⟩:=hbody A outer s H vs Q E (hr.deeper _) hsp
 have I:Inv (cxOf CX P w K mg base N qual scope f cdv A outer s H E) [] (start N vs) H s1:=inv_start S hr.hd e0 hl r x
 refine wpAny_mono (ht [] s1 (start N vs) H _ I hq) (λfl s' hs=>?_) λe s' hs=>hs
 have fin:∀{σ':St} {H':Hp} {v:V} {u:Value},Inv (cxOf CX P w K mg base N qual scope f cdv A outer s H E) [] σ' H' s'->RelV v u->Q v H'->CE outer P w H s Q u s':=
  fun{σ' H' v u} J rv q=>⟨v,H',J.os,J.bare,J.base,J.hok,rv,q⟩
 cases fl with
 |ret u=>
  obtain⟨v,σ',H',J,rv,q⟩:=hs
  exact fin J rv q
 |next=>
  obtain⟨σ',H',J,q⟩:=hs
  exact fin (v:=V.non) (u:=Y0i) J rfl q
 |brk=>
  obtain⟨_,_,_,q⟩:=hs
  exact Y0D q
 |cont=>
  obtain⟨_,_,_,q⟩:=hs
  exact Y0D q
end L2
namespace L2
open PySem PySem.Spec PyProof.Rows
section
variable{X:Cx}{x:Str}{p pos:Pos}{e:Expr}{es:List Expr}{t:TA}{id T:String}{r:List V->Hp->VK->Prop}
noncomputable def tCB(r:List V->Hp->VK->Prop)(t:TA):TE:=λσ H Q=>t σ H λvs H1=>r vs H1 Q
theorem pe_callB(hc:CallR X (.builtin id) r)(hg:Gl X x)(hm:X.mg x=none)(hv:bootBuiltins x=some (.builtin id))(ha:PA X (e::es) t)(hn:x≠"__name__":=by decide)(hdb:(x==("__debug__":Str))=false:=by decide)
  (he:starEach (e::es) X.env=(false,eval e X.env)::starEach es X.env:=by rfl) (hpl:(backTo pos (starEach es X.env)).any (·.1)=false:=by rfl):PE X (.Call (.Name x p) (e::es) [] pos) (tCB r t):=by
 intro pins s σ H Q I h
 refine wpAny_Call_Name_kw (ld_blt I hg hm hv ?_ hn hdb)
 exact Y2l (thn (ha pos pins s σ H _ I h) λus s1 ⟨vs,H1,I1,r1,q1⟩=>hc pins s1 σ H1 vs us Q I1 r1 q1) he hpl
theorem pe_callTy(hc:CallR X (.type T) r)(hg:Gl X x)(hm:X.mg x=none)(hv:bootBuiltins x=some (.type T))(ha:PA X (e::es) t)(hn:x≠"__name__":=by decide)(hdb:(x==("__debug__":Str))=false:=by decide)
  (he:starEach (e::es) X.env=(false,eval e X.env)::starEach es X.env:=by rfl) (hpl:(backTo pos (starEach es X.env)).any (·.1)=false:=by rfl):PE X (.Call (.Name x p) (e::es) [] pos) (tCB r t):=by
 intro pins s σ H Q I h
 refine wpAny_Call_Name_kw (ld_blt I hg hm hv ?_ hn hdb)
 exact Y0Q (thn (ha pos pins s σ H _ I h) λus s1 ⟨vs,H1,I1,r1,q1⟩=>hc pins s1 σ H1 vs us Q I1 r1 q1) he hpl
end
end L2
namespace HT
open PySem PyProof.Rows
section
open PySem.SeqAt
open PySem.AutoSeq1 (wpAny_loadPart')
open PySem.MeetsSeq PySem.MeetsSeq2 PySem.MeetsSeq3
end
section
variable{prog:Program}{w:World}{A:Around}{E:Value->Shared->Prop}{s:Shared}
noncomputable def sIx(n d:Nat):Option Int->Nat
 |none=>d
 |some v=>if v<0 then(v+(n:Int)).toNat else min v.toNat n
theorem sIx_none(n d:Nat):sIx n d none=d:=rfl
theorem sIx_nat(n d k:Nat):sIx n d (some (k:Int))=min k n:=by
 show(if(k:Int)<0 then((k:Int)+(n:Int)).toNat else min (k:Int).toNat n)=min k n
 rw[if_neg (by lia),Y1A]
theorem sIx_le(n d:Nat)(hd:d≤n)(o:Option Int):sIx n d o≤n:=by
 cases o with
 |none=>exact hd
 |some v=>
  show(if v<0 then(v+(n:Int)).toNat else min v.toNat n)≤n
  by_cases hv:v<0
  ·rw[if_pos hv];lia
  ·rw[if_neg hv];exact Nat.min_le_right _ _
theorem clip_eq(v:Int)(n d:Nat):(if v<0 then max (v+(n:Int)) 0 else min v (n:Int))=((sIx n d (some v):Nat):Int):=by
 show(if v<0 then max (v+(n:Int)) 0 else min v (n:Int))=(((if v<0 then(v+(n:Int)).toNat else min v.toNat n):Nat):Int)
 by_cases hv:v<0
 ·simp only[if_pos hv];lia
 ·simp only[if_neg hv];lia
theorem adjust_gen(lo hi:Option Int)(n:Nat):Y1W lo hi 1 (n:Int)=(((sIx n 0 lo:Nat):Int),((sIx n n hi:Nat):Int)):=by
 have h1:¬((1:Int)<0):=by lia
 unfold Y1W
 simp only[h1,if_false]
 refine Prod.ext ?_ ?_
 ·cases lo with
  |none=>rfl
  |some v=>exact clip_eq v n 0
 ·cases hi with
  |none=>rfl
  |some v=>exact clip_eq v n n
theorem places_gen(i j:Nat):Y1v (i:Int) (j:Int) 1=j - i:=by
 unfold Y1v
 have h1:(1:Int)>0:=by lia
 simp only[h1,if_true,Int.ediv_one]
 split<;>lia
theorem slicePart_{v:Value}{o:Option Int}{Q:Option Int->Shared->Prop}(p:IsPart v o)(h:Q o s):wpAny (model prog w) A (Builtin.Slice.slicePartIndex v) Q E s:=by
 cases p with
 |none=>exact slicePart_none h
 |int i t=>exact slicePart_int h
theorem sliceApplied_gen{sl:Addr}{vl vu:Value}{lo hi:Option Int}{n:Nat}{Q:Int×Int×Nat->Shared->Prop}(hs:s.heap.IsSliceOf sl vl vu .none)(pl:IsPart vl lo)(pu:IsPart vu hi)
  (h:Q (((sIx n 0 lo:Nat):Int),1,sIx n n hi - sIx n 0 lo) s):wpAny (model prog w) A (Y2z (.ref sl) (pure (n:Int))) Q E s:=by
 obtain⟨os,hos,hcs,hds⟩:=id hs
 unfold Y2z Builtin.Slice.sliceFields
 refine wpAny_bind (wpAny_bind (wpAny_field hos hds (x:=vl) rfl (wpAny_bind (wpAny_field hos hds (x:=vu) rfl (wpAny_bind (wpAny_field hos hds (x:=.none) rfl (wpAny_pure ?_)))))))
 refine wpAny_bind (slicePart_none ?_)
 show wpAny _ _ (if((1:Int)==0)=true then _ else _) _ _ s
 rw[if_neg (by decide)]
 refine wpAny_bind (slicePart_ pl (wpAny_bind (slicePart_ pu (wpAny_bind (wpAny_pure ?_)))))
 show wpAny _ _ (match Y1W lo hi 1 (n:Int)with|(lo,hi)=>pure (lo,(1:Int),Y1v lo hi 1)) _ _ s
 rw[adjust_gen lo hi n]
 show wpAny _ _ (pure (((sIx n 0 lo:Nat):Int),(1:Int),Y1v ((sIx n 0 lo:Nat):Int) ((sIx n n hi:Nat):Int) 1)) _ _ s
 rw[places_gen]
 exact wpAny_pure h
theorem pick_gen(xs:Array Value)(i k:Nat):((Y0I k).filterMap fun(m:Nat)=>xs[((i:Int)+(m:Int)*1).toNat]?).toArray=((xs.toList.drop i).take k).toArray:=by
 have e:(fun(m:Nat)=>xs[((i:Int)+(m:Int)*1).toNat]?)=λm=>xs[i+m]?:=by
  funext m
  have:((i:Int)+(m:Int)*1).toNat=i+m:=by lia
  rw[this]
 rw[e]
 have:=pick_run xs i k
 rw[List.filterMap_map]at this
 have e2:((λx=>xs[x]?)∘ λx=>i+x)=λm=>xs[i+m]?:=rfl
 rw[e2]at this
 rw[this]
theorem getItem_tuple_cut{t sl:Addr}{items:Array Value}{vl vu:Value}{lo hi:Option Int}{Q:Value->Shared->Prop}(ht:IsTup s.heap t items)(hs:s.heap.IsSliceOf sl vl vu .none)(pl:IsPart vl lo)(pu:IsPart vu hi)
  (hw:¬(sIx items.size 0 lo=0/\sIx items.size items.size hi=items.size))
  (h:Q (.ref s.heap.objs.size) {s with heap:=s.heap.push {cls:=.type "tuple",data:=.seq ((items.toList.drop (sIx items.size 0 lo)).take (sIx items.size items.size hi - sIx items.size 0 lo)).toArray} })
  (hsz:items.size≤sizeLine):wpAny (model prog w) A (getItem (.ref t) (.ref sl)) Q E s:=by
 have htake:sizeOk (.seq ((items.toList.drop (sIx items.size 0 lo)).take (sIx items.size items.size hi - sIx items.size 0 lo)).toArray):=by
  show((items.toList.drop (sIx items.size 0 lo)).take (sIx items.size items.size hi - sIx items.size 0 lo)).toArray.size≤sizeLine
  rw[Y0h,Y0p,Y0T,Y0g]
  lia
 have hj:sIx items.size items.size hi≤items.size:=sIx_le _ _ (Y09 _) hi
 obtain⟨os,hos,hcs,hds⟩:=id hs
 have hTs:s.TypeIs (.ref sl) "slice":=⟨os,hos,hcs⟩
 unfold getItem
 try with_reducible refine wpAny_holding ?_
 first|refine wpAny_bind (wpAny_pure ?_)|skip
 refine wpAny_bind (wpAny_sequenceKey ht.typeIs (by decide) ?_)
 refine wpAny_bind (wpAny_callSpecial?_slot (name:=Y0t "__getitem__") ht.typeIs Y0R
  (wpAny_call_entry Y0R ht.typeIs entry_tuple_getitem ?_ (args_tuple_getitem _ _)))
 show wpAny _ _ (Y2A (.ref t)>>= _) _ _ s
 refine wpAny_bind (tupleItemsOf_ ht ?_)
 refine wpAny_bind (wpAny_typeOf hTs ?_)
 rw[if_pos (by decide)]
 refine wpAny_bind (sliceApplied_gen hs pl pu ?_)
 have hno:¬((((sIx items.size 0 lo:Nat):Int)==0&&(1:Int)==1&&(sIx items.size items.size hi - sIx items.size 0 lo)==items.size)=true):=by
  intro q
  rw[Y06,Y06]at q
  have q1:((sIx items.size 0 lo:Nat):Int)=0:=eq_of_beq q.1.1
  have q2:sIx items.size items.size hi - sIx items.size 0 lo=items.size:=eq_of_beq q.2
  exact hw ⟨by lia,by lia⟩
 show wpAny _ _ (if(((sIx items.size 0 lo:Nat):Int)==0&&(1:Int)==1&&(sIx items.size items.size hi - sIx items.size 0 lo)==items.size)=true then _ else _) _ _ s
 rw[if_neg hno,pick_gen]
 first
  |exact wpAny_bind (m:=Y1B _) (wpAny_newObj_type (wpAny_pure ⟨_,rfl,wpAny_pure h⟩) htake)
  |exact wpAny_bind (m:=Y1B _) (wpAny_newObj_type (wpAny_bind (wpAny_pure (wpAny_pure ⟨_,rfl,wpAny_pure h⟩))) htake)
  |exact wpAny_bind (wpAny_bind (m:=Y1B _) (wpAny_newObj_type (wpAny_pure (wpAny_pure ⟨_,rfl,wpAny_pure h⟩)) htake))
  |exact wpAny_bind (wpAny_bind (m:=Y1B _) (wpAny_newObj_type (wpAny_pure ⟨_,rfl,wpAny_pure h⟩) htake))
end
end HT
namespace L2
open PySem PySem.Spec PyProof.Rows
noncomputable abbrev TO:=St->Hp->(Option Int->Hp->Prop)->Prop
noncomputable def PO(X:Cx)(e:Option Expr)(t:TO):Prop:=
 ∀(pins:List (Addr×Obj)) (s:Shared) (σ:St) (H:Hp) (Q:Option Int->Hp->Prop),Inv X pins σ H s->t σ H Q->
  wpAny (model X.prog X.w) X.A (evalPart e X.env) (λu s'=>∃o H',Inv X pins σ H' s'/\IsPart u o/\Q o H') X.xe s
noncomputable def tNoPart:TO:=λ_ H Q=>Q none H
noncomputable def tPart(t:TE):TO:=λσ H Q=>t σ H λx H1=>∃i,x=.int i/\Q (some i) H1
theorem intsAre_of{ns:List Int}:∀{us:List Value},Vals (ns.map V.int) us->IntsAre us ns:=by
 induction ns with
 |nil=>intro us r;rw[Y0W]at r;cases r;exact .nil
 |cons n ns ih=>
  intro us r
  rw[Y0d]at r
  cases r with
  |cons r1 r2=>
   obtain⟨t,e⟩:=r1
   subst e
   exact .cons n t (ih r2)
section
variable{X:Cx}{e:Expr}{te:TE}{lo hi:Option Expr}{tl th:TO}{pos p2:Pos}
theorem po_none:PO X none tNoPart:=by
 intro pins s σ H Q I h
 rw[evalPart_none]
 exact wpAny_pure ⟨none,H,I,.none,h⟩
theorem po_some(h:PE X e te):PO X (some e) (tPart te):=by
 intro pins s σ H Q I hw
 rw[evalPart_some]
 refine thn (h pins s σ H _ I hw) λu s1 ⟨x,H1,I1,r1,q1⟩=>?_
 obtain⟨i,rfl,q⟩:=q1
 obtain⟨t,rfl⟩:=r1
 exact⟨some i,H1,I1,.int i t,q⟩
noncomputable def SlR(X:Cx)(r:V->Option Int->Option Int->Hp->VK->Prop):Prop:=
 ∀(pins:List (Addr×Obj)) (s:Shared) (σ:St) (H:Hp) (x:V) (v vl vu:Value) (lo hi:Option Int) (sl:Addr) (Q:VK),Inv X pins σ H s->RelV x v->s.heap.IsSliceOf sl vl vu .none->IsPart vl lo->IsPart vu hi->r x lo hi H Q->
  ∃T id,typeLookup (.type T) "__getitem__"=pure (some (.builtin id))/\s.TypeIs v T/\wpAny (model X.prog X.w) X.A (getItem v (.ref sl)) (EP X pins σ Q) X.xe s
theorem SlR.or{r r':V->Option Int->Option Int->Hp->VK->Prop}(h:SlR X r)(h':SlR X r'):SlR X (λx lo hi H Q=>r x lo hi H Q\/r' x lo hi H Q):=by
 intro pins s σ H x v vl vu lo hi sl Q I rx hs pl pu q
 rcases q with q|q
 ·exact h pins s σ H x v vl vu lo hi sl Q I rx hs pl pu q
 ·exact h' pins s σ H x v vl vu lo hi sl Q I rx hs pl pu q
noncomputable def tSl(r:V->Option Int->Option Int->Hp->VK->Prop)(te:TE)(tl th:TO):TE:=λσ H Q=>te σ H λx H1=>tl σ H1 λl H2=>th σ H2 λu H3=>r x l u H3 Q
theorem pe_slice{r:V->Option Int->Option Int->Hp->VK->Prop}(hr:SlR X r)(he:PE X e te)(hl:PO X lo tl)(hu:PO X hi th):PE X (.Subscript e (.Slice lo hi none p2) pos) (tSl r te tl th):=by
 intro pins s σ H Q I h
 refine Subscript_ (thn (he pins s σ H _ I h) λv s1 ⟨x,H1,I1,r1,q1⟩=>?_)
 refine wpAny_Slice (thn (hl pins s1 σ H1 _ I1 q1) λvl s2 ⟨l,H2,I2,pl,q2⟩=>thn (hu pins s2 σ H2 _ I2 q2) λvu s3 ⟨u,H3,I3,pu,q3⟩=>?_)
 rw[evalPart_none]
 refine wpAny_pure ?_
 have I4:Inv X pins σ H3 {s3 with heap:=s3.heap.push {cls:=.type "slice",data:=.fields #[vl,vu,.none]} }:=I3.kept (t':=s3.toks) fun b ob q=>Y01 _ q
 obtain⟨T,id,hT,ht,hg⟩:=hr pins {s3 with heap:=s3.heap.push {cls:=.type "slice",data:=.fields #[vl,vu,.none]} } σ H3 x v vl vu l u s3.heap.objs.size Q I4 r1 (Heap.IsSliceOf.new ..) pl pu q3
 show wpAny (model X.prog X.w) X.A (subscriptTail e (.Slice lo hi none p2) v (.ref s3.heap.objs.size)) (EP X pins σ Q) X.xe {s3 with heap:=s3.heap.push {cls:=.type "slice",data:=.fields #[vl,vu,.none]} }
 exact tail_any (ops:=[.ref s3.heap.objs.size,v]) ht hT hg (by with_unfolding_all rfl)
noncomputable def cutV(xs:List V)(lo hi:Option Int):List V:=(xs.drop (HT.sIx xs.length 0 lo)).take (HT.sIx xs.length xs.length hi - HT.sIx xs.length 0 lo)
theorem cutV_length(xs:List V)(lo hi:Option Int):(cutV xs lo hi).length≤xs.length:=by
 unfold cutV
 rw[Y0p,Y0T]
 lia
noncomputable def rSlT(K:Y00):V->Option Int->Option Int->Hp->VK->Prop:=λx lo hi H Q=>∃a xs,x=.ref a/\SqT K H a xs/\
 ¬(HT.sIx xs.length 0 lo=0/\HT.sIx xs.length xs.length hi=xs.length)/\∀p,H p=none->Q (.ref p) (upd H p (.tup (cutV xs lo hi)))
theorem sl_tup:SlR X (rSlT X.K):=by
 intro pins s σ H x v vl vu lo hi sl Q I rx hs pl pu h
 obtain⟨a,xs,rfl,hx,hw,q⟩:=h
 cases rx
 obtain⟨its,r,ht,hz⟩:=I.tuple hx
 have hlen:its.toArray.size=xs.length:=by rw[Y0h];exact r.length.symm
 refine⟨"tuple",_,Y0R.lookup,ht.typeIs,?_⟩
 refine HT.getItem_tuple_cut ht hs pl pu (by rw[hlen];exact hw) ?_ (by rw[hlen];exact hz)
 rw[hlen]
 refine⟨.ref s.heap.objs.size,_,I.laid (t':=s.toks) (o:=.tup (cutV xs lo hi)) (λb ob q=>Y01 _ q) (Y09 _) ?_,rfl,q _ (I.hok.fresh (Y09 _))⟩
 exact⟨Y0M (cutV_length xs lo hi) hz,_,(r.drop (HT.sIx xs.length 0 lo)).take (HT.sIx xs.length xs.length hi - HT.sIx xs.length 0 lo),IsTup.new _ _,_,Y0a _ rfl,rfl⟩
end
end L2
namespace L2
open PySem PySem.Spec PyProof.Rows
noncomputable def ixN(n:Nat)(i:Int):Option Nat:=if 0≤i then(if i<n then some i.toNat else none)else if -(n:Int)≤i then some (i+n).toNat else none
noncomputable def atI{α:Type}(xs:List α)(i:Int):Option α:=(ixN xs.length i).bind λj=>xs[j]?
theorem ixN_seq{n:Nat}{i:Int}{j:Nat}(h:ixN n i=some j):seqIndex? i n=some j/\j<n/\ -(n:Int)≤i/\i<n:=by
 unfold ixN at h
 by_cases h0:0≤i
 ·rw[if_pos h0]at h
  by_cases h1:i<n
  ·rw[if_pos h1]at h
   have e:i.toNat=j:=Y0w h
   exact⟨by rw[seqIndex_of h0 h1,e],by lia,by lia,h1⟩
  ·rw[if_neg h1]at h;cases h
 ·rw[if_neg h0]at h
  by_cases h1:-(n:Int)≤i
  ·rw[if_pos h1]at h
   have e:(i+n).toNat=j:=Y0w h
   exact⟨by rw[seqIndex_neg (by lia) h1,e],by lia,h1,by lia⟩
  ·rw[if_neg h1]at h;cases h
theorem atI_get{α:Type}{xs:List α}{i:Int}{v:α}(h:atI xs i=some v):∃j,seqIndex? i xs.length=some j/\xs[j]?=some v/\j<xs.length/\ -(xs.length:Int)≤i/\i<xs.length:=by
 unfold atI at h
 cases e:ixN xs.length i with
 |none=>rw[e]at h;cases h
 |some j=>
  rw[e]at h
  obtain⟨h1,h2,h3,h4⟩:=ixN_seq e
  exact⟨j,h1,h,h2,h3,h4⟩
theorem Z0X{α:Type}{xs:List α}{j:Nat}{v:α}(h:xs[j]?=some v):atI xs (j:Int)=some v:=by
 have hj:j<xs.length:=(Y07.mp h).1
 have e:ixN xs.length (j:Int)=some j:=by
  unfold ixN
  rw[if_pos (by lia),if_pos (by lia)];simp
 unfold atI;rw[e];exact h
noncomputable def PlainIx(b:Expr):Prop:=∀o i,subscripted b false o i=operate [o,i] (getItem o i)
noncomputable def IxR(X:Cx)(r:R2):Prop:=
 ∀(value slice:Expr) (pins:List (Addr×Obj)) (s:Shared) (σ:St) (H:Hp) (x y:V) (v u:Value) (Q:VK),Inv X pins σ H s->RelV x v->RelV y u->r x y H Q->
  subscripted slice false v u=operate [v,u] (getItem v u)->wpAny (model X.prog X.w) X.A (subscriptTail value slice v u) (EP X pins σ Q) X.xe s
noncomputable def MtR(X:Cx)(id:String)(r:V->List V->Hp->VK->Prop):Prop:=
 ∀(pins:List (Addr×Obj)) (s:Shared) (σ:St) (H:Hp) (x:V) (xs:List V) (v:Value) (us:List Value) (Q:VK),Inv X pins σ H s->RelV x v->Vals xs us->r x xs H Q->
  wpAny (model X.prog X.w) X.A (call (.builtin id) (v::us)) (EP X pins σ Q) X.xe s
section
variable{X:Cx}{a b:Expr}{ta tb:TE}{pos:Pos}
theorem IxR.or{r r':R2}(h:IxR X r)(h':IxR X r'):IxR X (λx y H Q=>r x y H Q\/r' x y H Q):=by
 intro value slice pins s σ H x y v u Q I rx ry q hs
 rcases q with q|q
 ·exact h value slice pins s σ H x y v u Q I rx ry q hs
 ·exact h' value slice pins s σ H x y v u Q I rx ry q hs
theorem MtR.or{id:String}{r r':V->List V->Hp->VK->Prop}(h:MtR X id r)(h':MtR X id r'):MtR X id (λx xs H Q=>r x xs H Q\/r' x xs H Q):=by
 intro pins s σ H x xs v us Q I rx rs q
 rcases q with q|q
 ·exact h pins s σ H x xs v us Q I rx rs q
 ·exact h' pins s σ H x xs v us Q I rx rs q
theorem pe_ix{r:R2}(hr:IxR X r)(ha:PE X a ta)(hb:PE X b tb)(hs:PlainIx b):PE X (.Subscript a b pos) (tOp r ta tb):=by
 intro pins s σ H Q I h
 exact Subscript_ (binT ha hb I h λv u s2 x y H2 I2 rx ry q=>hr a b pins s2 σ H2 x y v u Q I2 rx ry q (hs _ _))
noncomputable def rIxL(K:Y00):R2:=λx y H Q=>∃p xs i v,x=.ref p/\y=.int i/\SqL K H p xs/\atI xs i=some v/\Q v H
noncomputable def rIxT(K:Y00):R2:=λx y H Q=>∃p xs i v,x=.ref p/\y=.int i/\SqT K H p xs/\atI xs i=some v/\Q v H
noncomputable def rIxS:R2:=λx y H Q=>∃z i c,x=.str z/\y=.int i/\z.length≤sizeLine/\atI z.cps.toList i=some c/\Q (.str ⟨#[c]⟩) H
theorem ix_list:IxR X (rIxL X.K):=by
 intro value slice pins s σ H x y v u Q I rx ry h hs
 obtain⟨p,xs,i,z,rfl,rfl,hq,he,q⟩:=h
 cases rx
 obtain⟨t,rfl⟩:=ry
 obtain⟨its,r,pl,hz⟩:=I.list hq
 obtain⟨j,h1,h2,h3,h4,h5⟩:=atI_get he
 obtain⟨w,ew,rw'⟩:=r.get h2
 have hl:=r.length
 have hn:=line63
 have fin:EP X pins σ Q w s:=⟨z,H,I,rw',q⟩
 by_cases h0:0≤i
 ·have hj:i.toNat=j:=by
   rw[seqIndex_of h0 h5]at h1
   exact Y0w h1
  exact item_listR pl.isList h0 (by lia) (by rw[hj];simpa using ew) fin hs
 ·have hj:(i+(its.toArray.size:Int)).toNat=j:=by
   rw[seqIndex_neg (by lia) h4]at h1
   rw[Y0h,<- hl]
   exact Y0w h1
  exact subscriptTail_builtinR (x:=w) pl.isList.typeIs slot_list_getitem.lookup
   (wpAny_getItem_list_neg (Q:=λr s'=>r=w/\EP X pins σ Q r s') pl.isList (by lia) (by rw[Y0h]<;>lia) (by lia) (by rw[hj];simpa using ew) ⟨rfl,fin⟩) hs
theorem ix_tup:IxR X (rIxT X.K):=by
 intro value slice pins s σ H x y v u Q I rx ry h hs
 obtain⟨p,xs,i,z,rfl,rfl,hq,he,q⟩:=h
 cases rx
 obtain⟨t,rfl⟩:=ry
 obtain⟨its,r,pl,hz⟩:=I.tuple hq
 obtain⟨j,h1,h2,h3,h4,h5⟩:=atI_get he
 obtain⟨w,ew,rw'⟩:=r.get h2
 have hl:=r.length
 have hn:=line63
 have fin:EP X pins σ Q w s:=⟨z,H,I,rw',q⟩
 exact subscriptTail_builtinR (x:=w) pl.typeIs slot_tuple_getitem.lookup
  (getItem_tuple (j:=j) (Q:=λr s'=>r=w/\EP X pins σ Q r s') pl (by lia) (by lia) (by rw[Y0h,<- hl];exact h1) (by simpa using ew) ⟨rfl,fin⟩) hs
theorem ix_str:IxR X rIxS:=by
 intro value slice pins s σ H x y v u Q I rx ry h hs
 obtain⟨z,i,c,rfl,rfl,hz,he,q⟩:=h
 obtain⟨t,rfl⟩:=rx
 obtain⟨t',rfl⟩:=ry
 obtain⟨j,h1,h2,h3,h4,h5⟩:=atI_get he
 have hl:z.cps.toList.length=z.length:=by simp[Y3M]
 rw[hl]at h1 h4 h5
 have hn:=line63
 exact tail_any (typeIs_str s z t) slot_str_getitem.lookup (getItem_str (c:=c) (by
  have e1:decide (i< -(2^63:Int))=false:=decide_eq_false (by lia)
  have e2:decide (i ≥ 2^63)=false:=decide_eq_false (by lia)
  rw[e1,e2,Bool.or_false]) (by rw[h1];simpa using h2) ⟨.str ⟨#[c]⟩,H,I.tok _,⟨_,rfl⟩,q⟩) hs
theorem slice_bounds(lo hi:Option Int)(n:Nat):(sliceBounds lo hi none n).1=((HT.sIx n 0 lo:Nat):Int)/\(sliceBounds lo hi none n).2.1=((HT.sIx n n hi:Nat):Int)/\(sliceBounds lo hi none n).2.2=1:=by
 refine⟨?_,?_,rfl⟩
 ·cases lo with
  |none=>simp[sliceBounds,HT.sIx]
  |some i=>
   simp only[sliceBounds,HT.sIx,Option.getD_none,show(1:Int)>0 by decide,if_true]
   by_cases h:i<0
   ·simp only[h,if_true]<;>lia
   ·simp only[h,if_false]<;>lia
 ·cases hi with
  |none=>simp[sliceBounds,HT.sIx]
  |some i=>
   simp only[sliceBounds,HT.sIx,Option.getD_none,show(1:Int)>0 by decide,if_true]
   by_cases h:i<0
   ·simp only[h,if_true]<;>lia
   ·simp only[h,if_false]<;>lia
theorem slicePick_cut(its:List Value)(lo hi:Option Int):slicePick its.toArray lo hi none=((its.drop (HT.sIx its.length 0 lo)).take (HT.sIx its.length its.length hi - HT.sIx its.length 0 lo)).toArray:=by
 obtain⟨h1,h2,h3⟩:=slice_bounds lo hi its.toArray.size
 unfold slicePick
 rw[h1,h2,h3]
 simp only[sliceRange_one,pick_run,Y0h]<;>rfl
noncomputable def rSlL(K:Y00):V->Option Int->Option Int->Hp->VK->Prop:=λx lo hi H Q=>∃a xs,x=.ref a/\SqL K H a xs/\∀p,H p=none->Q (.ref p) (upd H p (.lst (cutV xs lo hi)))
theorem sl_list:SlR X (rSlL X.K):=by
 intro pins s σ H x v vl vu lo hi sl Q I rx hs pl pu h
 obtain⟨a,xs,rfl,hx,q⟩:=h
 cases rx
 obtain⟨its,r,ht,hz⟩:=I.list hx
 have hlen:=r.length
 refine⟨"list",_,slot_list_getitem.lookup,ht.isList.typeIs,?_⟩
 refine wpAny_getItem_list_slice ht.isList hs pl pu .none (by simp) ?_ (by rw[Y0h]<;>lia)
 rw[slicePick_cut,<- hlen]
 refine⟨.ref s.heap.objs.size,_,I.laid (t':=s.toks) (o:=.lst (cutV xs lo hi)) (λb ob q=>Y01 _ q) (Y09 _) ?_,rfl,q _ (I.hok.fresh (Y09 _))⟩
 exact⟨Y0M (cutV_length xs lo hi) hz,_,0,(r.drop (HT.sIx xs.length 0 lo)).take (HT.sIx xs.length xs.length hi - HT.sIx xs.length 0 lo),Y0a _ rfl⟩
noncomputable def flatV:V->Bool
 |.non=>true
 |.bl _=>true
 |.int _=>true
 |.str _=>true
 |_=>false
noncomputable def eqV:V->V->Bool
 |.non,.non=>true
 |.bl a,.bl b=>a==b
 |.bl a,.int b=>(if a then 1 else 0)==b
 |.int a,.bl b=>a==(if b then 1 else 0)
 |.int a,.int b=>a==b
 |.str a,.str b=>a==b
 |_,_=>false
theorem eqAt_V{A:Around}{s:Shared}{y x:V}{u v:Value}(ry:RelV y u)(rx:RelV x v)(fy:flatV y=true)(fx:flatV x=true):SeqAt.EqAt A s u v (eqV y x):=by
 cases y with
 |non=>
  cases ry
  cases x with
  |non=>cases rx;exact SeqAt.EqAt.same _
  |bl b=>cases rx;exact SeqAt.EqAt.none_bool b
  |int b=>obtain⟨t,rfl⟩:=rx;exact SeqAt.EqAt.none_int b t
  |str b=>obtain⟨t,rfl⟩:=rx;exact SeqAt.EqAt.none_str b t
  |_=>exact absurd (show false=true from fx) Y04
 |bl a=>
  cases ry
  cases x with
  |non=>cases rx;exact SeqAt.EqAt.bool_none a
  |bl b=>cases rx;exact SeqAt.EqAt.bool_bool a b
  |int b=>obtain⟨t,rfl⟩:=rx;exact SeqAt.EqAt.bool_int a b t
  |str b=>obtain⟨t,rfl⟩:=rx;exact SeqAt.EqAt.bool_str a b t
  |_=>exact absurd (show false=true from fx) Y04
 |int a=>
  obtain⟨t',rfl⟩:=ry
  cases x with
  |non=>cases rx;exact SeqAt.EqAt.int_none a t'
  |bl b=>cases rx;exact SeqAt.EqAt.int_bool a t' b
  |int b=>obtain⟨t,rfl⟩:=rx;exact SeqAt.EqAt.int_int a t' b t
  |str b=>obtain⟨t,rfl⟩:=rx;exact Y3G a t' b t
  |_=>exact absurd (show false=true from fx) Y04
 |str a=>
  obtain⟨t',rfl⟩:=ry
  cases x with
  |non=>cases rx;exact SeqAt.EqAt.str_none a t'
  |bl b=>cases rx;exact SeqAt.EqAt.str_bool a t' b
  |int b=>obtain⟨t,rfl⟩:=rx;exact Y3H a t' b t
  |str b=>obtain⟨t,rfl⟩:=rx;exact SeqAt.EqAt.str_str a t' b t
  |_=>exact absurd (show false=true from fx) Y04
 |_=>exact absurd (show false=true from fy) Y04
noncomputable def eqU(x:V)(u:Value):Bool:=match u with
 |.none=>eqV .non x
 |.bool b=>eqV (.bl b) x
 |.int i _=>eqV (.int i) x
 |.str z _=>eqV (.str z) x
 |_=>false
theorem eqU_of{x y:V}{u:Value}(r:RelV y u)(f:flatV y=true):eqU x u=eqV y x:=by
 cases y with
 |non=>cases r;rfl
 |bl b=>cases r;rfl
 |int i=>obtain⟨t,rfl⟩:=r;rfl
 |str z=>obtain⟨t,rfl⟩:=r;rfl
 |_=>exact absurd (show false=true from f) Y04
theorem any_eqU{x:V}:∀{xs:List V} {us:List Value},Vals xs us->xs.all flatV=true->us.any (eqU x)=xs.any λy=>eqV y x
 |_,_,.nil,_=>rfl
 |y::xs,u::us,.cons r t,f=>by
  rw[Y1a,Y06]at f
  rw[Y1j,Y1j,eqU_of r f.1,any_eqU t f.2]
theorem mem_eqAt{A:Around}{s:Shared}{x:V}{v:Value}(rx:RelV x v)(fx:flatV x=true):∀{xs:List V} {us:List Value},Vals xs us->xs.all flatV=true->∀u∈us,SeqAt.EqAt A s u v (eqU x u)
 |_,_,.nil,_=>λu hu=>by cases hu
 |y::xs,u::us,.cons r t,f=>λu' hu=>by
  rw[Y1a,Y06]at f
  rcases Y05.mp hu with rfl|hu
  ·rw[eqU_of r f.1];exact eqAt_V r rx f.1 fx
  ·exact mem_eqAt rx fx t f.2 u' hu
noncomputable def inV(x:V)(xs:List V):Bool:=xs.any λy=>eqV y x
noncomputable def rIn(K:Y00)(neg:Bool):R2:=λx y H Q=>∃p xs,y=.ref p/\(SqL K H p xs\/SqT K H p xs)/\flatV x=true/\xs.all flatV=true/\Q (.bl (if neg then !inV x xs else inV x xs)) H
theorem op_in_seq:OpR X (compareOp .In) (rIn X.K false):=by
 intro pins s σ H x y v u Q I rx ry h
 obtain⟨p,xs,rfl,hq,fx,fs,q⟩:=h
 cases ry
 rcases hq with hq|hq
 ·obtain⟨its,r,pl,hz⟩:=I.list hq
  refine SeqAt.in_listAt (eqU x) pl.isList (λw hw=>mem_eqAt rx fx r fs w (by simpa using hw)) ⟨.bl _,H,I,rfl,?_⟩
  rw[show its.toArray.any (eqU x)=its.any (eqU x) by simp,any_eqU r fs]
  exact q
 ·obtain⟨its,r,pl,hz⟩:=I.tuple hq
  refine SeqAt.in_tupleAt (eqU x) pl (λw hw=>mem_eqAt rx fx r fs w (by simpa using hw)) ⟨.bl _,H,I,rfl,?_⟩
  rw[show its.toArray.any (eqU x)=its.any (eqU x) by simp,any_eqU r fs]
  exact q
theorem op_notIn_seq:OpR X (compareOp .NotIn) (rIn X.K true):=by
 intro pins s σ H x y v u Q I rx ry h
 obtain⟨p,xs,rfl,hq,fx,fs,q⟩:=h
 cases ry
 rcases hq with hq|hq
 ·obtain⟨its,r,pl,hz⟩:=I.list hq
  refine SeqAt.notIn_listAt (eqU x) pl.isList (λw hw=>mem_eqAt rx fx r fs w (by simpa using hw)) ⟨.bl _,H,I,rfl,?_⟩
  rw[show its.toArray.any (eqU x)=its.any (eqU x) by simp,any_eqU r fs]
  exact q
 ·obtain⟨its,r,pl,hz⟩:=I.tuple hq
  refine SeqAt.notIn_tupleAt (eqU x) pl (λw hw=>mem_eqAt rx fx r fs w (by simpa using hw)) ⟨.bl _,H,I,rfl,?_⟩
  rw[show its.toArray.any (eqU x)=its.any (eqU x) by simp,any_eqU r fs]
  exact q
theorem call_len_seq:CallR X (.builtin "len") (fun xs H Q=>∃p ys,xs=[.ref p]/\(SqL X.K H p ys\/SqT X.K H p ys)/\Q (.int ys.length) H):=by
 intro pins s σ H xs us Q I r h
 obtain⟨p,ys,rfl,hq,q⟩:=h
 obtain⟨u,rfl,rx⟩:=vals1 r
 cases rx
 have hn:=line63
 rcases hq with hq|hq
 ·obtain⟨its,r',pl,hz⟩:=I.list hq
  have hlen:=r'.length
  exact Calls.call_len_list pl.isList (by simp only[Y0h]<;>lia) ⟨.int ys.length,H,I.tok _,⟨s.toks+1,by rw[Y0h,hlen]⟩,q⟩
 ·obtain⟨its,r',pl,hz⟩:=I.tuple hq
  have hlen:=r'.length
  exact len_tuple pl (by simp only[Y0h]<;>lia) ⟨.int ys.length,H,I.tok _,⟨s.toks+1,by rw[Y0h,hlen]⟩,q⟩
theorem call_len_str:CallR X (.builtin "len") (fun xs H Q=>∃z,xs=[.str z]/\z.length≤sizeLine/\Q (.int z.length) H):=by
 intro pins s σ H xs us Q I r h
 obtain⟨z,rfl,hz,q⟩:=h
 obtain⟨u,rfl,t,rfl⟩:=vals1 r
 have hn:=line63
 exact len_str (by lia) ⟨.int z.length,H,I.tok _,⟨_,rfl⟩,q⟩
theorem CallR.or{f:Value}{r r':List V->Hp->VK->Prop}(h:CallR X f r)(h':CallR X f r'):CallR X f (λxs H Q=>r xs H Q\/r' xs H Q):=by
 intro pins s σ H xs us Q I rs q
 rcases q with q|q
 ·exact h pins s σ H xs us Q I rs q
 ·exact h' pins s σ H xs us Q I rs q
theorem call_list_of:CallR X (.type "list") (fun xs H Q=>∃p ys,xs=[.ref p]/\(SqL X.K H p ys\/SqT X.K H p ys)/\∀l,H l=none->Q (.ref l) (upd H l (.lst ys))):=by
 intro pins s σ H xs us Q I r h
 obtain⟨p,ys,rfl,hq,q⟩:=h
 obtain⟨u,rfl,rx⟩:=vals1 r
 cases rx
 have fin:∀(its:List Value),Vals ys its->ys.length≤sizeLine->∀(h':Heap) (c':Nat),(∀b o',s.heap.get? b=some o'->h'.get? b=some o')->
   h'.get? s.heap.objs.size=some {cls:=.type "list",dict:=none,data:=.seq its.toArray c',slots:=#[]}->EP X pins σ Q (.ref s.heap.objs.size) {s with heap:=h'}:=fun its r' hz h' c' kp e=>
  ⟨.ref s.heap.objs.size,_,I.laid (t':=s.toks) kp (Y09 _) (show ObjOk X.prog X.w _ h' _ (.lst ys)from⟨hz,its,c',r',e⟩),rfl,q _ (I.hok.fresh (Y09 _))⟩
 rcases hq with hq|hq
 ·obtain⟨its,r',pl,hz⟩:=I.list hq
  have hlen:=r'.length
  obtain⟨o,ho,hc,n,hd⟩:=pl.isList
  exact call_list_seq p (.inl rfl) ho hc hd (λh' c' kp e=>fin its r' hz h' c' kp e) (by simp only[Y0h]<;>lia)
 ·obtain⟨its,r',pl,hz⟩:=I.tuple hq
  have hlen:=r'.length
  obtain⟨o,ho,hc,n,hd⟩:=pl
  exact call_list_seq p (.inr rfl) ho hc hd (λh' c' kp e=>fin its r' hz h' c' kp e) (by simp only[Y0h]<;>lia)
theorem call_tuple_of:CallR X (.type "tuple") (fun xs H Q=>∃p ys,xs=[.ref p]/\((SqL X.K H p ys/\∀l,H l=none->Q (.ref l) (upd H l (.tup ys)))\/(SqT X.K H p ys/\Q (.ref p) H))):=by
 intro pins s σ H xs us Q I r h
 obtain⟨p,ys,rfl,h⟩:=h
 obtain⟨u,rfl,rx⟩:=vals1 r
 cases rx
 rcases h with⟨hq,q⟩|⟨hq,q⟩
 ·obtain⟨its,r',pl,hz⟩:=I.list hq
  have hlen:=r'.length
  refine call_tuple_list pl.isList (λh' kp=>?_) (by simp only[Y0h]<;>lia)
  have I1:Inv X pins σ H {s with heap:=h'}:=I.kept (t':=s.toks) kp
  have I2:Inv X pins σ (upd H h'.objs.size (.tup ys)) {s with heap:=h'.push {cls:=.type "tuple",data:=.seq its.toArray} }:=
   I1.laid (t':=s.toks) (λb o e=>Y01 _ e) (Y09 _) (show ObjOk X.prog X.w _ _ _ (.tup ys)from⟨hz,its,r',IsTup.new _ _,_,Y0a _ rfl,rfl⟩)
  exact⟨.ref h'.objs.size,_,I2,rfl,q _ (I1.hok.fresh (Y09 _))⟩
 ·obtain⟨its,r',pl,hz⟩:=I.tuple hq
  exact call_tuple_same pl ⟨.ref p,H,I,rfl,q⟩
noncomputable def tyV(K:Y00)(T:String)(x:V)(H:Hp):Prop:=match x with
 |.str _=>T="str"
 |.int _=>T="int"
 |.ref p=>(T="list"/\∃xs,SqL K H p xs)\/(T="tuple"/\∃o,K.lookup p=some o/\o.cls=.type "tuple"/\o.dict=none)\/
   (T="dict"/\((∃kvs,H p=some (.dK kvs))\/∃kvs,H p=some (.dT kvs)))\/(T="set"/\∃S n,H p=some (.set S n))
 |_=>False
theorem tyV_is{pins:List (Addr×Obj)}{σ:St}{H:Hp}{s:Shared}{T:String}{x:V}{v:Value}(I:Inv X pins σ H s)(r:RelV x v)(ty:tyV X.K T x H):
  s.TypeIs v T/\∀a,v=.ref a->∃ob,s.heap.get? a=some ob/\ob.dict=none:=by
 cases x with
 |str z=>
  obtain⟨t,rfl⟩:=r
  cases(show T="str" from ty)
  exact⟨typeIs_str s z t,λ_ e=>nomatch e⟩
 |int i=>
  obtain⟨t,rfl⟩:=r
  cases(show T="int" from ty)
  exact⟨typeIs_int s i t,λ_ e=>nomatch e⟩
 |ref p=>
  cases r
  rcases ty with⟨rfl,xs,hq⟩|⟨rfl,o,hk,hc,hd⟩|⟨rfl,hk⟩|⟨rfl,S,n,hk⟩
  ·obtain⟨its,_,pl,_⟩:=I.list hq
   refine⟨pl.isList.typeIs,λa e=>?_⟩
   cases e
   obtain⟨o,n,e,c,hd,_⟩:=pl
   exact⟨o,e,hd⟩
  ·refine⟨⟨o,I.kIn p o hk,hc⟩,λa e=>?_⟩
   cases e
   exact⟨o,I.kIn _ o hk,hd⟩
  ·have z:∃o,s.heap.get? p=some o/\o.ExactDict:=by
    rcases hk with⟨kvs,hk⟩|⟨kvs,hk⟩
    ·obtain⟨_,_,_,_,o,_,_,e,ex,_⟩:=I.hok p _ hk
     exact⟨o,e,ex⟩
    ·obtain⟨_,_,_,_,o,_,_,e,ex,_⟩:=I.hok p _ hk
     exact⟨o,e,ex⟩
   obtain⟨o,e,ex⟩:=z
   refine⟨⟨o,e,ex.1⟩,λa e2=>?_⟩
   cases e2
   exact⟨o,e,ex.2.1⟩
  ·obtain⟨o,_,_,_,e,ex,_⟩:=I.hok p _ hk
   refine⟨⟨o,e,ex.1⟩,λa e2=>?_⟩
   cases e2
   exact⟨o,e,ex.2.1⟩
 |_=>exact Y0D ty
noncomputable def tBM0(K:Y00)(T:String)(r:V->List V->Hp->VK->Prop)(to:TE):TE:=λσ H Q=>to σ H λx H1=>tyV K T x H1/\r x [] H1 Q
noncomputable def tBM(K:Y00)(T:String)(r:V->List V->Hp->VK->Prop)(to:TE)(t:TA):TE:=λσ H Q=>to σ H λx H1=>tyV K T x H1/\t σ H1 λxs H2=>r x xs H2 Q
variable{o e:Expr}{es:List Expr}{to:TE}{t:TA}{name:Str}{apos cpos:Pos}{T id:String}{r:V->List V->Hp->VK->Prop}
theorem pe_bm0(pa:PlainAttrs T)(slot:Slot T name id)(hty:typeOf (.builtin id)=pure (.type "method_descriptor"))(hm:MtR X id r)(ho:PE X o to)
  (hbase:attributeBase o name X.env (eval o X.env)=eval o X.env:=by rfl) (hline:(apos.endLine==cpos.line)=true:=by rfl):PE X (.Call (.Attribute o name apos) [] [] cpos) (tBM0 X.K T r to):=by
 intro pins s σ H Q I h
 refine wpAny_Call_method0_late hbase hline (thn (ho pins s σ H _ I h) λv s1 ⟨x,H1,I1,r1,ty,q1⟩=>?_)
 obtain⟨h1,h2⟩:=tyV_is I1 r1 ty
 exact⟨T,id,pa,slot,hty,h1,h2,Y35 rfl (PySem.evalArgs_none (hm pins s1 σ H1 x [] v [] Q I1 r1 .nil q1))⟩
theorem pe_bm(pa:PlainAttrs T)(slot:Slot T name id)(hty:typeOf (.builtin id)=pure (.type "method_descriptor"))(hm:MtR X id r)(ho:PE X o to)(ha:PA X (e::es) t)
  (hbase:attributeBase o name X.env (eval o X.env)=eval o X.env:=by rfl)
  (hfew:((backTo cpos (starEach (e::es) X.env)).all (λx=>!x.1)&&(backToKw cpos (keywordEach [] X.env)).all (λx=>x.1.isSome)
   &&decide ((e::es).length+([]:List Keyword).length+(if([]:List Keyword).isEmpty then 0 else 1)<30))=true:=by rfl)
  (hline:(apos.endLine==cpos.line)=true:=by rfl) (hs:starEach (e::es) X.env=(false,eval e X.env)::starEach es X.env:=by rfl) (hplain:(backTo cpos (starEach es X.env)).any (·.1)=false:=by rfl):
  PE X (.Call (.Attribute o name apos) (e::es) [] cpos) (tBM X.K T r to t):=by
 intro pins s σ H Q I h
 refine wpAny_Call_method_late hbase hfew hline rfl (thn (ho pins s σ H _ I h) λv s1 ⟨x,H1,I1,r1,ty,q1⟩=>?_)
 obtain⟨h1,h2⟩:=tyV_is I1 r1 ty
 refine⟨T,id,pa,slot,hty,h1,h2,?_⟩
 have hA:=ha cpos pins s1 σ H1 _ I1 q1
 rw[hs]at hA ⊢
 refine Y35 (by show(false||(backTo cpos (starEach es X.env)).any (·.1))=false;rw[hplain]<;>rfl) (Calls.evalArgs_plain ?_)
 exact thn hA λus s2 ⟨vs,H2,I2,r2,q2⟩=>hm pins s2 σ H2 x vs v us Q I2 r1 r2 q2
/- xs.append(e),list.index on a module's tuple .. are MtR facts of 06m -/
end
end L2
namespace L2
open PySem PySem.Spec PyProof.Rows
noncomputable def MtM(X:Cx)(id:String)(r:V->List V->Hp->VK->Prop):Prop:=
 ∀(pins:List (Addr×Obj)) (s:Shared) (σ:St) (H:Hp) (x:V) (xs:List V) (v:Value) (us:List Value) (Q:VK),Inv X pins σ H s->RelV x v->Vals xs us->r x xs H Q->
  wpAny (model X.prog X.w) X.A (call (.builtin id) (v::us)) (EP X pins σ Q) X.xe s
theorem Vals.one:∀{x:V} {us:List Value},Vals [x] us->∃u,us=[u]/\RelV x u
 |_,_,.cons r .nil=>⟨_,rfl,r⟩
section
variable{X:Cx}{pins:List (Addr×Obj)}{σ:St}{H:Hp}{s:Shared}{l b:Addr}{xs ys zs:List V}
theorem Inv.lset{its its':List Value}{n:Nat}{f:Array Value->Array Value}{t':Nat}(I:Inv X pins σ H s)(hH:H l=some (.lst xs))
  (e:s.heap.get? l=some {cls:=.type "list",data:=.seq its.toArray n}) (hf:f its.toArray=its'.toArray) (hv:Vals ys its') (hz:ys.length≤sizeLine):
  Inv X pins σ (upd H l (.lst ys)) {s with heap:=s.heap.update l (Y2Q f),toks:=t'}:=by
 have q:=PySem.IsL.update e f
 rw[hf]at q
 refine I.write (x:=l) (e:=l) (by rw[hH];exact trivial) (.inl rfl) (λb' u hb hu=>(Y1q s.heap (Y2Q f) (Y2J hb)).trans hu) ⟨_,q⟩ ?_
 exact⟨hz,its',_,hv,q⟩
theorem Inv.lnew{its:List Value}{t':Nat}(I:Inv X pins σ H s)(hv:Vals ys its)(hz:ys.length≤sizeLine):
  Inv X pins σ (upd H s.heap.objs.size (.lst ys)) {s with heap:=s.heap.push {cls:=.type "list",data:=.seq its.toArray},toks:=t'}:=
 I.laid (λ_ _ q=>Y01 _ q) (Y09 _) ⟨hz,its,0,hv,Y0a _ rfl⟩
theorem Inv.fresh(I:Inv X pins σ H s):H s.heap.objs.size=none:=I.hok.fresh (Y09 _)
theorem Inv.lstM(I:Inv X pins σ H s)(hH:H l=some (.lst xs)):xs.length≤sizeLine/\∃(its:List Value) (n:Nat),Vals xs its/\xs.length=its.length/\s.heap.get? l=some {cls:=.type "list",data:=.seq its.toArray n}:=by
 obtain⟨z,its,n,r,e⟩:=I.hok l _ hH
 exact⟨z,its,n,r,r.length,e⟩
theorem notLongL{n:Nat}(h:n≤sizeLine):Y22 n=false:=by
 unfold Y22
 exact decide_eq_false (by lia)
end
section
variable{X:Cx}
noncomputable def rAppend:V->List V->Hp->VK->Prop:=λx vs H Q=>∃l xs y,x=.ref l/\vs=[y]/\H l=some (.lst xs)/\xs.length<sizeLine/\Q .non (upd H l (.lst (xs++[y])))
theorem mt_append:MtM X "list.append" rAppend:=by
 intro pins s σ H x vs v us Q I rx rv h
 obtain⟨l,xs,y,rfl,rfl,hH,hz,q⟩:=h
 cases rx
 obtain⟨u,rfl,ru⟩:=rv.one
 obtain⟨z,its,n,r,hl,e⟩:=I.lstM hH
 refine call_meets F.slot_list_append ⟨_,e,rfl⟩ F.entry_list_append (F.args_list_append_2 _ _) (PySem.list_append l its.toArray n u (by rw[Y0h];lia)) ⟨e,?_⟩
 refine⟨.non,_,I.lset (its':=its++[u]) hH e (by simp) (r.append (.cons ru .nil)) ?_,rfl,q⟩
 rw[Y0o,Y1s]
 lia
noncomputable def rExtend:V->List V->Hp->VK->Prop:=λx vs H Q=>∃l b xs zs,x=.ref l/\vs=[.ref b]/\H l=some (.lst xs)/\H b=some (.lst zs)/\xs.length+zs.length≤sizeLine/\Q .non (upd H l (.lst (xs++zs)))
theorem mt_extend:MtM X "list.extend" rExtend:=by
 intro pins s σ H x vs v us Q I rx rv h
 obtain⟨l,b,xs,zs,rfl,rfl,hH,hB,hz,q⟩:=h
 cases rx
 obtain⟨u,rfl,ru⟩:=rv.one
 cases ru
 obtain⟨z,its,n,r,hl,e⟩:=I.lstM hH
 obtain⟨z2,its2,n2,r2,hl2,e2⟩:=I.lstM hB
 have hsz:its.toArray.size+its2.toArray.size≤sizeLine:=by rw[Y0h,Y0h];lia
 have hlong:¬(!its.toArray.isEmpty&&Y22 (its.toArray.size+its2.toArray.size))=true:=by
  rw[notLongL hsz,Y3v]
  exact Y04
 refine call_meets F.slot_list_extend ⟨_,e,rfl⟩ F.entry_list_extend (F.args_list_extend_2 _ _)
  (AutoSeq1.list_extend_list_list_0 l its.toArray n b its2.toArray n2 hlong (by rw[Y0h];lia) (by lia)) ⟨e,e2,?_⟩
 refine⟨.non,_,I.lset (its':=its++its2) hH e (by simp) (r.append r2) ?_,rfl,q⟩
 rw[Y0o]
 lia
noncomputable def rCat:R2:=λx y H Q=>∃l b xs zs,x=.ref l/\y=.ref b/\H l=some (.lst xs)/\H b=some (.lst zs)/\xs.length+zs.length≤sizeLine/\∀p,H p=none->Q (.ref p) (upd H p (.lst (xs++zs)))
theorem op_cat:OpR X (binaryOp .Add) rCat:=by
 intro pins s σ H x y v u Q I rx ry h
 obtain⟨l,b,xs,zs,rfl,rfl,hH,hB,hz,q⟩:=h
 cases rx
 cases ry
 obtain⟨z,its,n,r,hl,e⟩:=I.lstM hH
 obtain⟨z2,its2,n2,r2,hl2,e2⟩:=I.lstM hB
 refine PySem.P.add_list e e2 ?_ (by rw[Y0h,Y0h];lia)
 have ea:its.toArray++its2.toArray=(its++its2).toArray:=by simp
 rw[ea]
 exact⟨.ref _,_,I.lnew (t':=s.toks) (r.append r2) (by rw[Y0o];lia),rfl,q _ I.fresh⟩
end
section
variable{prog:Program}{w:World}{A:Around}{E:Value->Shared->Prop}{s:Shared}
set_option maxRecDepth 100000 in
end
section
variable{X:Cx}
end
end L2
namespace L2
open PySem PySem.Spec PyProof.Rows
section
variable{κ:Type} [DecidableEq κ]
noncomputable def valV(kvs:List (κ×V))(k:κ):Option V:=(kvs.find? λkv=>decide (kv.1=k)).map (·.2)
noncomputable def putK(kvs:List (κ×V))(k:κ)(v:V):List (κ×V):=
 if(kvs.any λkv=>decide (kv.1=k))=true then kvs.map (λkv=>if kv.1=k then(kv.1,v)else kv)else kvs++[(k,v)]
theorem valV_pos{p:κ×V}{r:List (κ×V)}{k:κ}(e:p.1=k):valV (p::r) k=some p.2:=by simp[valV,Y1P,e]
theorem valV_neg{p:κ×V}{r:List (κ×V)}{k:κ}(e:¬p.1=k):valV (p::r) k=valV r k:=by simp[valV,Y1P,e]
theorem valV_any(k:κ):∀kvs:List (κ×V),(kvs.any λkv=>decide (kv.1=k))=(valV kvs k).isSome
 |[]=>rfl
 |p::r=>by
  rw[Y1j]
  by_cases e:p.1=k
  ·simp only[valV_pos e,decide_eq_true e,Y3c,Option.isSome_some]
  ·rw[valV_neg e,decide_eq_false e,Y3I];exact valV_any k r
theorem RelO.isSome_eq{o:Option V}{u:Option Value}(r:RelO o u):o.isSome=u.isSome:=by
 cases o with
 |none=>cases u with
  |none=>rfl
  |some _=>exact(show False from r).elim
 |some _=>cases u with
  |none=>exact(show False from r).elim
  |some _=>rfl
theorem KV.val{kvs:List (κ×V)}{vs:List (κ×Value)}(r:KV kvs vs)(k:κ):RelO (valV kvs k) (valueAt vs k):=by
 unfold KV at r
 induction r with
 |nil=>exact Y1z
 | @cons p q ps qs h t ih=>
  obtain⟨h1,h2⟩:=h
  by_cases e:p.1=k
  ·have e':q.1=k:=h1.symm.trans e
   have b:valueAt (q::qs) k=some q.2:=by simp[valueAt,Y1P,e']
   rw[valV_pos e,b];exact h2
  ·have e':¬q.1=k:=λz=>e (h1.trans z)
   have b:valueAt (q::qs) k=valueAt qs k:=by simp[valueAt,Y1P,e']
   rw[valV_neg e,b];exact ih
theorem KV.any{kvs:List (κ×V)}{vs:List (κ×Value)}(r:KV kvs vs)(k:κ):(kvs.any λkv=>decide (kv.1=k))=vs.any λkv=>decide (kv.1=k):=by
 unfold KV at r
 induction r with
 |nil=>rfl
 |cons h t ih=>rw[Y1j,Y1j,ih,h.1]
theorem KV.repl{kvs:List (κ×V)}{vs:List (κ×Value)}(r:KV kvs vs)(k:κ){y:V}{u:Value}(ry:RelV y u):
  KV (kvs.map λkv=>if kv.1=k then(kv.1,y)else kv) (vs.map λkv=>if kv.1=k then(kv.1,u)else kv):=by
 unfold KV at r ⊢
 induction r with
 |nil=>exact .nil
 | @cons p q ps qs h t ih=>
  rw[Y0d,Y0d]
  refine .cons ?_ ih
  obtain⟨h1,h2⟩:=h
  by_cases e:p.1=k
  ·rw[if_pos e,if_pos (h1.symm.trans e)];exact⟨h1,ry⟩
  ·rw[if_neg e,if_neg (λz=>e (h1.trans z))];exact⟨h1,h2⟩
theorem KV.put{kvs:List (κ×V)}{vs:List (κ×Value)}(r:KV kvs vs)(k:κ){y:V}{u:Value}(ry:RelV y u):KV (putK kvs k y) (stored vs k u):=by
 unfold putK stored
 rw[r.any k]
 by_cases e:(vs.any λkv=>decide (kv.1=k))=true
 ·rw[if_pos e,if_pos e];exact r.repl k ry
 ·rw[if_neg e,if_neg e];exact Paired.snoc r ⟨rfl,ry⟩
theorem KV.length{kvs:List (κ×V)}{vs:List (κ×Value)}(r:KV kvs vs):kvs.length=vs.length:=Paired.length r
end
theorem kV_is{P:Program}{w:World}{k:Key}{u:Value}(r:RelV (kV k) u):(Z0Q P w).is k u=true:=by
 cases k with
 |inl i=>obtain⟨t,e⟩:=(show∃t,u=Y3F i t from r);subst e;exact mixKind_int P w i t
 |inr x=>obtain⟨t,e⟩:=(show∃t,u=Y0r x t from r);subst e;exact mixKind_str P w x t
theorem items_are{P:Program}{w:World}:∀{ks:List Key} {us:List Value},Vals (ks.map kV) us->ItemsAre (Z0Q P w) ks us
 |[],_,r=>by rw[Y0W]at r;cases r;exact .nil
 |k::ks,_,r=>by
  rw[Y0d]at r
  cases r with
  |cons h t=>exact .cons (kV_is h) (items_are t)
noncomputable abbrev KT(H:Hp):List (List Key×V)->List (List Key×Addr×Value)->Prop:=Paired λp q=>p.1=q.1/\H q.2.1=some (.tup (p.1.map kV))/\RelV p.2 q.2.2
theorem KT.val{H:Hp}{kvs:List (List Key×V)}{xs:List (List Key×Addr×Value)}(r:KT H kvs xs)(k:List Key):RelO (valV kvs k) ((atKey xs k).map (·.2)):=by
 induction r with
 |nil=>exact Y1z
 | @cons p q ps qs h t ih=>
  obtain⟨h1,_,h2⟩:=h
  by_cases e:p.1=k
  ·have e':q.1=k:=h1.symm.trans e
   have b:atKey (q::qs) k=some q.2:=by simp[atKey,Y1P,e']
   rw[valV_pos e,b];exact h2
  ·have e':¬q.1=k:=λz=>e (h1.trans z)
   have b:atKey (q::qs) k=atKey qs k:=by simp[atKey,Y1P,e']
   rw[valV_neg e,b];exact ih
theorem KT.repl{H:Hp}{kvs:List (List Key×V)}{xs:List (List Key×Addr×Value)}(r:KT H kvs xs)(k:List Key){y:V}{u:Value}(ry:RelV y u):
  KT H (kvs.map λkv=>if kv.1=k then(kv.1,y)else kv) (xs.map (putAt k u)):=by
 induction r with
 |nil=>exact .nil
 | @cons p q ps qs h t ih=>
  rw[Y0d,Y0d]
  refine .cons ?_ ih
  obtain⟨h1,h2,h3⟩:=h
  unfold putAt
  by_cases e:p.1=k
  ·rw[if_pos e,if_pos (h1.symm.trans e)];exact⟨h1,h2,ry⟩
  ·rw[if_neg e,if_neg (λz=>e (h1.trans z))];exact⟨h1,h2,h3⟩
theorem KT.put{H:Hp}{kvs:List (List Key×V)}{xs:List (List Key×Addr×Value)}(r:KT H kvs xs)(k:List Key){b:Addr}{y:V}{u:Value}(hb:H b=some (.tup (k.map kV)))(ry:RelV y u):
  KT H (putK kvs k y) (storedH xs k b u):=by
 have e:(kvs.any λkv=>decide (kv.1=k))=(atKey xs k).isSome:=by
  rw[valV_any,(r.val k).isSome_eq,Y2R]
 unfold putK storedH
 rw[e]
 by_cases q:(atKey xs k).isSome=true
 ·rw[if_pos q,if_pos q];exact r.repl k ry
 ·rw[if_neg q,if_neg q];exact Paired.snoc r ⟨rfl,hb,ry⟩
section
variable{P:Program}{w:World}{H:Hp}{h:Heap}{a:Addr}
theorem rd_of{u:HO}(ok:HOk P w H h)(e:Rd H a u):ObjOk P w H h a u:=e.ok ok
theorem dk_rd{kvs:List (Key×V)}(ok:HOk P w H h)(e:Rd H a (.dK kvs)):kvs.length≤sizeLine/\(a==sysModules)=false/\∃vs,KV kvs vs/\h.DictOf (Z0Q P w) a vs:=
 show ObjOk P w H h a (.dK kvs)from rd_of ok e
theorem dk_of{kvs:List (Key×V)}(ok:HOk P w H h)(e:H a=some (.dK kvs)):kvs.length≤sizeLine/\(a==sysModules)=false/\∃vs,KV kvs vs/\h.DictOf (Z0Q P w) a vs:=dk_rd ok (.inl e)
theorem key_of{ks:List Key}(ok:HOk P w H h)(e:H a=some (.tup (ks.map kV))):(tupleKind (Z0Q P w)).is h ks a:=by
 obtain⟨_,its,r,⟨o,h1,h2,n,h3⟩,_⟩:=(show ObjOk P w H h a (.tup (ks.map kV))from ok a _ e)
 exact⟨o,its.toArray,n,h1,h2,h3,by simpa using items_are r⟩
theorem dt_rd{kvs:List (List Key×V)}(ok:HOk P w H h)(e:Rd H a (.dT kvs)):kvs.length≤sizeLine/\(a==sysModules)=false/\
  ∃xs,KT H kvs xs/\h.DictOfH (tupleKind (Z0Q P w)) a xs:=by
 obtain⟨z,y,xs,r,o,es,ep,h1,h2,h3,h4,h5⟩:=(show ObjOk P w H h a (.dT kvs)from rd_of ok e)
 refine⟨z,y,xs,r,o,es,ep,h1,h2,h3,h4,λx hx=>?_,h5⟩
 have all:∀{l:List (List Key×V)} {m:List (List Key×Addr×Value)},KT H l m->∀x∈m,(tupleKind (Z0Q P w)).is h x.1 x.2.1:=by
  intro l m q
  induction q with
  |nil=>intro x hx;exact nomatch hx
  | @cons p q ps qs hq t ih=>
   intro x hx
   rcases Y05.mp hx with e|hx
   ·subst e
    exact key_of ok (by rw[<- hq.1];exact hq.2.1)
   ·exact ih x hx
 exact all r x hx
end
noncomputable def DGet(H:Hp)(a:Addr)(y:V)(r:Option V):Prop:=
 (∃kvs k,Rd H a (.dK kvs)/\y=kV k/\r=valV kvs k)\/∃kvs k b,Rd H a (.dT kvs)/\y=.ref b/\H b=some (.tup (k.map kV))/\r=valV kvs k
noncomputable def DPut(H:Hp)(a:Addr)(y v:V)(H':Hp):Prop:=
 (∃kvs k,H a=some (.dK kvs)/\y=kV k/\kvs.length<sizeLine/\H'=upd H a (.dK (putK kvs k v)))\/
 ∃kvs k b,H a=some (.dT kvs)/\y=.ref b/\H b=some (.tup (k.map kV))/\kvs.length<sizeLine/\H'=upd H a (.dT (putK kvs k v))
theorem DGet.k{H:Hp}{a:Addr}{kvs:List (Key×V)}{k:Key}(e:H a=some (.dK kvs)):DGet H a (kV k) (valV kvs k):=.inl ⟨kvs,k,.inl e,rfl,rfl⟩
theorem DGet.t{H:Hp}{a b:Addr}{kvs:List (List Key×V)}{k:List Key}(e:H a=some (.dT kvs))(eb:H b=some (.tup (k.map kV))):DGet H a (.ref b) (valV kvs k):=.inr ⟨kvs,k,b,.inl e,rfl,eb,rfl⟩
theorem DPut.k{H:Hp}{a:Addr}{kvs:List (Key×V)}{k:Key}{v:V}(e:H a=some (.dK kvs))(hl:kvs.length<sizeLine):DPut H a (kV k) v (upd H a (.dK (putK kvs k v))):=.inl ⟨kvs,k,e,rfl,hl,rfl⟩
theorem DPut.t{H:Hp}{a b:Addr}{kvs:List (List Key×V)}{k:List Key}{v:V}(e:H a=some (.dT kvs))(eb:H b=some (.tup (k.map kV)))(hl:kvs.length<sizeLine):
  DPut H a (.ref b) v (upd H a (.dT (putK kvs k v))):=.inr ⟨kvs,k,b,e,rfl,eb,hl,rfl⟩
section
variable{X:Cx}{pins:List (Addr×Obj)}{σ:St}{H:Hp}{s:Shared}{a:Addr}{y v:V}{u r:Value}{o:Option V}{A:Around}{E:Value->Shared->Prop}
theorem Inv.big(I:Inv X pins σ H s):sysModules<s.heap.objs.size:=by
 have h:mainGlobals<s.heap.objs.size:=(I.mod.glob.keeps I.bk).lt
 exact Y23 (by decide) h
theorem d_getItem{Q:Value->Shared->Prop}(hu:A.units+1<cLine)(I:Inv X pins σ H s)(g:DGet H a y (some v))(ry:RelV y u)(h:∀w' s',Inv X pins σ H s'->RelV v w'->Q w' s'):
  wpAny (model X.prog X.w) A (getItem (.ref a) u) Q E s:=by
 rcases g with⟨kvs,k,e,ey,l⟩|⟨kvs,k,b,e,ey,eb,l⟩
 ·subst ey
  obtain⟨z,hd,vs,rel,dd⟩:=dk_rd I.hok e
  obtain⟨w',hw,rw'⟩:=RelO.some_of (v:=v) (o:=valueAt vs k) (by rw[l];exact rel.val k)
  exact wpAny_getItem_of (kV_is ry) dd.mapOf hw (h w' _ (I.tok _) rw')
 ·subst ey
  cases(show u=Y0k b from ry)
  obtain⟨z,hd,xs,rel,dd⟩:=dt_rd I.hok e
  obtain⟨w',hw,rw'⟩:=RelO.some_of (v:=v) (o:=(atKey xs k).map (·.2)) (by rw[l];exact rel.val k)
  obtain⟨p,hp,hp2⟩:=Y2e.mp hw
  refine wpAny_getItem_heap (tupleKind_room_in1 hu) (key_of I.hok eb) dd hp ?_
  rw[hp2]
  exact h w' _ (I.tok _) rw'
theorem d_in{Q:Value->Shared->Prop}(hu:A.units+1<cLine)(I:Inv X pins σ H s)(g:DGet H a y o)(ry:RelV y u)(h:∀s',Inv X pins σ H s'->Q (.bool o.isSome) s'):
  wpAny (model X.prog X.w) A (compareOp .In u (.ref a)) Q E s:=by
 rcases g with⟨kvs,k,e,ey,l⟩|⟨kvs,k,b,e,ey,eb,l⟩
 ·subst ey
  obtain⟨z,hd,vs,rel,dd⟩:=dk_rd I.hok e
  refine wpAny_in_of (kV_is ry) hd dd.mapOf ?_
  rw[<- (rel.val k).isSome_eq,<- l]
  exact h _ (I.tok _)
 ·subst ey
  cases(show u=Y0k b from ry)
  obtain⟨z,hd,xs,rel,dd⟩:=dt_rd I.hok e
  refine wpAny_in_heap (tupleKind_room_in1 hu) (key_of I.hok eb) hd dd ?_
  have q:=(rel.val k).isSome_eq
  rw[Y2R]at q
  rw[<- q,<- l]
  exact h _ (I.tok _)
theorem d_notIn{Q:Value->Shared->Prop}(hu:A.units+1<cLine)(I:Inv X pins σ H s)(g:DGet H a y o)(ry:RelV y u)(h:∀s',Inv X pins σ H s'->Q (.bool (!o.isSome)) s'):
  wpAny (model X.prog X.w) A (compareOp .NotIn u (.ref a)) Q E s:=by
 rcases g with⟨kvs,k,e,ey,l⟩|⟨kvs,k,b,e,ey,eb,l⟩
 ·subst ey
  obtain⟨z,hd,vs,rel,dd⟩:=dk_rd I.hok e
  refine wpAny_notIn_of (kV_is ry) hd dd.mapOf ?_
  rw[<- (rel.val k).isSome_eq,<- l]
  exact h _ (I.tok _)
 ·subst ey
  cases(show u=Y0k b from ry)
  obtain⟨z,hd,xs,rel,dd⟩:=dt_rd I.hok e
  refine wpAny_notIn_heap (tupleKind_room_in1 hu) (key_of I.hok eb) hd dd ?_
  have q:=(rel.val k).isSome_eq
  rw[Y2R]at q
  rw[<- q,<- l]
  exact h _ (I.tok _)
theorem dk_new{P:Program}{w:World}{H':Hp}{h':Heap}{kvs:List (Key×V)}{vs:List (Key×Value)}(z:kvs.length≤sizeLine)(hd:(a==sysModules)=false)(rel:KV kvs vs)(dd:h'.DictOf (Z0Q P w) a vs):
  ObjOk P w H' h' a (.dK kvs):=⟨z,hd,vs,rel,dd⟩
end
section
variable{X:Cx}{pins:List (Addr×Obj)}{σ:St}{H:Hp}{s:Shared}{a:Addr}{kvs:List (Key×V)}{k:Key}{u:Value}{A:Around}{E:Value->Shared->Prop}
theorem d_len{Q:Value->Shared->Prop}(I:Inv X pins σ H s)(e:Rd H a (.dK kvs))(h:∀t s',Inv X pins σ H s'->Q (.int kvs.length t) s'):wpAny (model X.prog X.w) A (call (.builtin "len") [.ref a]) Q E s:=by
 obtain⟨z,hd,vs,rel,dd⟩:=dk_rd I.hok e
 refine call_len_dict hd dd (by rw[<- rel.length];rw[sizeLine_eq]at z;lia) ?_
 rw[<- rel.length]
 exact h _ _ (I.tok _)
end
theorem dict_typeIs{X:Cx}{pins:List (Addr×Obj)}{σ:St}{H:Hp}{s:Shared}{a:Addr}{y:V}{o:Option V}(I:Inv X pins σ H s)(g:DGet H a y o):s.TypeIs (.ref a) "dict":=by
 rcases g with⟨kvs,k,e,_,_⟩|⟨kvs,k,b,e,_,_,_⟩
 ·obtain⟨_,_,vs,_,dd⟩:=dk_rd I.hok e
  exact dd.typeIs
 ·obtain⟨_,_,xs,_,dd⟩:=dt_rd I.hok e
  exact dd.typeIs
section
variable{X:Cx}{o i e value:Expr}{pos pos' tpos:Pos}{td ty tv:TE}
end
section
variable{X:Cx}{pos:Pos}
end
noncomputable def tPairs:List (TE×TE)->St->Hp->(List (V×V)->Hp->Prop)->Prop
 |[],_,H,Q=>Q [] H
 |(tk,tv)::r,σ,H,Q=>tk σ H λx H1=>tv σ H1 λy H2=>tPairs r σ H2 λps H3=>Q ((x,y)::ps) H3
noncomputable abbrev VV:List (V×V)->List (Value×Value)->Prop:=Paired λp q=>RelV p.1 q.1/\RelV p.2 q.2
noncomputable def PPs(X:Cx)(pos:Pos)(keys:List (Option Expr))(values:List Expr)(trs:List (TE×TE)):Prop:=
 ∀(pins:List (Addr×Obj)) (s:Shared) (σ:St) (H:Hp) (Q:List (V×V)->Hp->Prop),Inv X pins σ H s->tPairs trs σ H Q->
  wpAny (model X.prog X.w) X.A (evalPairs (pairTrees keys values X.env pos)) (λvs s'=>∃ps H',Inv X pins σ H' s'/\VV ps vs/\Q ps H') X.xe s
theorem pps_nil{X:Cx}{pos:Pos}:PPs X pos [] [] []:=λpins s σ H Q I h=>pairTrees_nil_walk ⟨[],H,I,.nil,h⟩
theorem pps_cons{X:Cx}{pos:Pos}{k v:Expr}{ks:List (Option Expr)}{vs:List Expr}{tk tv:TE}{trs:List (TE×TE)}(hk:PE X k tk)(hv:PE X v tv)(hr:PPs X pos ks vs trs):
  PPs X pos (some k::ks) (v::vs) ((tk,tv)::trs):=λpins s σ H Q I h=>
 pairTrees_cons_walk (thn (hk pins s σ H _ I h) λu s1 ⟨x,H1,I1,rx,q1⟩=>thn (hv pins s1 σ H1 _ I1 q1) λw2 s2 ⟨y,H2,I2,ry,q2⟩=>
  thn (hr pins s2 σ H2 _ I2 q2) λws s3 ⟨ps,H3,I3,rel,q3⟩=>⟨(x,y)::ps,H3,I3,.cons ⟨rx,ry⟩ rel,q3⟩)
structure M1 (X:Cx) (o:Expr) (m:Str) (apos:Pos) (e:Expr) (cpos:Pos):Prop where
 base:attributeBase o m X.env (eval o X.env)=eval o X.env
 few:((backTo cpos (starEach [e] X.env)).all (λx=>!x.1)&&(backToKw cpos (keywordEach [] X.env)).all (λx=>x.1.isSome)
  &&decide (([e]:List Expr).length+([]:List Keyword).length+(if([]:List Keyword).isEmpty then 0 else 1)<30))=true
 line:(apos.endLine==cpos.line)=true
 trees:backTo cpos (starEach [e] X.env)=[(false,eval e X.env)]
structure M2 (X:Cx) (o:Expr) (m:Str) (apos:Pos) (e f:Expr) (cpos:Pos):Prop where
 base:attributeBase o m X.env (eval o X.env)=eval o X.env
 few:((backTo cpos (starEach [e,f] X.env)).all (λx=>!x.1)&&(backToKw cpos (keywordEach [] X.env)).all (λx=>x.1.isSome)
  &&decide (([e,f]:List Expr).length+([]:List Keyword).length+(if([]:List Keyword).isEmpty then 0 else 1)<30))=true
 line:(apos.endLine==cpos.line)=true
 trees:backTo cpos (starEach [e,f] X.env)=[(false,eval e X.env),(false,eval f X.env)]
section
variable{X:Cx}{pins:List (Addr×Obj)}{σ:St}{H:Hp}{s:Shared}{a:Addr}{y d:V}{u r:Value}{o:Option V}{A:Around}{E:Value->Shared->Prop}
end
section
variable{X:Cx}{o e f:Expr}{apos cpos:Pos}{td ty tx:TE}
end
section
variable{X:Cx}{pins:List (Addr×Obj)}{σ:St}{H:Hp}{s:Shared}{a:Addr}{kvs:List (Key×V)}{A:Around}{E:Value->Shared->Prop}
theorem d_copyOf{Q:Value->Shared->Prop}(I:Inv X pins σ H s)(e:Rd H a (.dK kvs))(h:∀p s',H p=none->Inv X pins σ (upd H p (.dK kvs)) s'->Q (.ref p) s'):wpAny (model X.prog X.w) A (call (.type "dict") [.ref a]) Q E s:=by
 obtain⟨z,hd,vs,rel,dd⟩:=dk_rd I.hok e
 refine kt_call_dict hd dd (by rw[<- rel.length];exact z) λh' dd' hs=>?_
 refine h _ _ (I.hok.fresh (Y09 _)) (I.laid (a:=s.heap.objs.size) (o:=.dK kvs) (t':=s.toks) (λb q hq=>?_) (Y09 _) (dk_new z (beq_eq_false_iff_ne.mpr (Y2J (Y0f I.big))) rel dd'))
 exact(hs.2 b (Y0f (Y08 hq))).trans (Y01 _ hq)
end
section
variable{X:Cx}{pins:List (Addr×Obj)}{σ:St}{H:Hp}{s:Shared}{a:Addr}{y:V}{u:Value}{A:Around}{E:Value->Shared->Prop}
end
end L2
namespace Att
open PySem PySem.W PySem.Calls PyProof.Rows
theorem ints_of_wellAll{P:Params}{h:Heap}:∀(ns:List Int) (vs:List Value),WellAll P h vs (ns.map WData.int)->IntsAre vs ns:=by
 intro ns
 induction ns with
 |nil=>
  intro vs w
  rw[Y0W]at w
  cases w
  exact .nil
 |cons n ns ih=>
  intro vs w
  rw[Y0d]at w
  cases w with
  |cons a b=>
   cases a
   exact .cons _ _ (ih _ b)
theorem script_of{l:OpenLaw}{n:Nat}(hn:l.most=some n){P:Params}{h:Heap}{args:List WData}{vals:List Value}
  (hpre:l.row.toRowW.claim.pre args=true) (hwl:WellAll P h vals args):
  ∃a vs ns,vals=[Y0k a]/\args=[WData.list (ns.map WData.int)]/\h.get? a=some {cls:=.type "list",data:=.seq vs.toArray}/\IntsAre vs ns/\ns.length≤n:=by
 have hsh:WShape.hasAll [] args [.list .int]=true:=(pre_splitW hpre).1
 have hc:l.pre.holds [] {args:=args}=true:=(pre_splitW hpre).2
 obtain⟨d,r,rfl,h1,h2⟩:=hasAllW_cons hsh
 obtain rfl:=hasAllW_nil h2
 obtain⟨xs,rfl,h3⟩:=hasW_list h1
 obtain⟨ns,rfl⟩:=items_int h3
 have hlen:ns.length≤n:=by
  unfold OpenLaw.pre at hc
  have h4:(WTm.not (.lt (.lit (.int (n:Int))) (.len (.arg 0)))).holds [] {args:=[.list (ns.map .int)]}=true:=by
   have h4:=(holds_andW hc).1
   rw[hn]at h4
   exact h4
  have h5:=condW_of h4 (w_not (w_lt w_lit (w_len_list (w_arg rfl))))
  rw[Y03]at h5
  refine Nat.le_of_not_lt λq=>?_
  have q':(n:Int)<((ns.length:Nat):Int):=by lia
  first
   |(rw[decide_eq_true q']at h5;exact absurd h5 (by decide))
   |(simp at h5;lia)
 cases hwl with
 |cons w1 w2=>
  cases w2
  cases w1 with
  |list ho hall=>exact⟨_,_,ns,rfl,rfl,ho,ints_of_wellAll ns _ hall,hlen⟩
theorem post_true(l:OpenLaw)(args:List WData):l.row.toRowW.claim.post args (.bool true) args=true:=
 postW_of (r:=l.row.toRowW) (X:=(true==true))
  (show WShape.has [] (.bool true) .bool=true by first|rfl|decide|simp[WShape.has,WShape.arms,WShape.armsAll])
  (show(WTm.eq .res (.lit (.bool true))).value [] {args:=args,res:=some (.bool true),after:=args}=some (.bool (true==true))from w_eq_bool (w_res rfl) w_lit) rfl
theorem attach_call{l:OpenLaw}{n:Nat}{q:Program}{loose:List Str}{XP:(Str->Option Value)->Heap->Prop}{YP:World->Heap->Prop}{d:DefRec}
  (hn:l.most=some n) (hdf:d.params.defaults=[])
  (call:∀(w:World) (s₀ s₁:Shared) (mg mb:Str->Option Value) (fa:Addr) (o:Obj) (pm cd doc:Value) (a:Addr) (vs:List Value) (ns:List Int),
   Ground q loose [] XP w s₀ mg mb s₁.heap->YP w s₁.heap->
   s₁.heap.get? fa=some o->o.data=.func (docDef d.name d.params d.body d.scope pm cd doc)->s₁.heap.CodeRec cd d.name->mg d.name=some (.ref fa)->
   s₁.heap.get? a=some {cls:=.type "list",data:=.seq vs.toArray}->IntsAre vs ns->ns.length≤n->s₁.gens=#[]->
   codeAny (model l.prog w) callerA (.call (.ref fa) ⟨[.ref a],[]⟩) (λr s'=>r=.ok (.ret (.bool true))/\OldK s₁.heap s'.heap/\s'.os=s₁.os/\AllBare s'.gens) s₁):
  WalkO q loose XP YP l.row.toRowW d [] (λf vs=>PySem.call f vs):=by
 intro w s₀ s₁ mg mb G Y fa o pm cd doc dV kV ho hd hcd hD hmg hg args vals as hpre hlay hrd hwl hlo
 obtain rfl:dV=.none:=Dflts.none hD hdf
 obtain rfl:kV=.none:=Dflts.noKw hD
 obtain⟨a,vs,ns,rfl,rfl,hobj,hints,hlen⟩:=script_of hn hpre hwl
 refine enter_call (codeAny_mono (call w s₀ s₁ mg mb fa o pm cd doc a vs ns G Y ho (fd_plain hd) hcd hmg hobj hints hlen hg) λr s' hq=>?_)
 obtain⟨rfl,h2,h3,h4⟩:=hq
 exact⟨.inl ⟨.bool true,.bool true,[],rfl,λ_=>rfl,.bool true,post_true l _,λ_=>⟨List.Pairwise.nil,λ_ hm=>(nomatch hm)⟩⟩,h2,h3,h4⟩
section
variable{prog:Program}{w:World}{A:Around}{E:Value->Shared->Prop}{s:Shared}{K:Frag}
noncomputable def ledger(h:Heap)(L d:Addr):List (Addr×Obj):=(Y0I h.objs.size).filterMap λa=>if a=L\/a=d then none else(h.get? a).map λo=>(a,o)
end
end Att
namespace L2
open PySem PySem.Spec PyProof.Rows
theorem vals_ints:∀{vs:List Value} {ns:List Int},IntsAre vs ns->Vals (ns.map V.int) vs
 |_,_,.nil=>.nil
 |_,_,.cons n t h=>.cons ⟨t,rfl⟩ (vals_ints h)
noncomputable def Only(H:Hp):Prop:=∀b,H b=none\/∃o xs,H b=some (.frz o (.lst xs))
theorem law_call{P:Program}{w:World}{K:Y00}{mg mb:Str->Option Value}{CX:CXT}{k:Nat}{fa a:Addr}{fd:FuncData}{x:Str}{sp:Sp}{s₁:Shared}{vs:List Value}{ns:List Int}
  (KX:K.In s₁.heap) (hns:s₁.heap.Ns mainGlobals mg) (hb:s₁.heap.Ns builtinsNs mb) (hbb:∀x:Str,x≠"__name__"->mb x=bootBuiltins x) (hlim:s₁.heap.NoLimit) (hg:s₁.gens=#[])
  (ha:s₁.heap.get? a=some {cls:=.type "list",data:=.seq vs.toArray}) (hi:IntsAre vs ns) (hl:ns.length≤sizeLine) (hr:Room k callerA)
  (F:∀base:Heap,K.In base->base.Ns mainGlobals mg->FnOk P w K mg base CX k fa fd [x] sp) (hbind:∀(s:Shared) (u:Value),BindsTo s fd ⟨[u],[]⟩ [(x,u)])
  (hsp:∀H:Hp,Only H->SqL K H a (ns.map V.int)->sp [.ref a] H (λv _=>v=.bl true) λ_ _ _=>False)
  (hCX:∀H e s',CX [] H s₁ (λ_ _ _=>False) e s'->False):
  codeAny (model P w) callerA (.call (.ref fa) ⟨[.ref a],[]⟩) (λr s'=>r=.ok (.ret (.bool true))/\OldK s₁.heap s'.heap/\s'.os=s₁.os/\AllBare s'.gens) s₁:=by
 have rv:=vals_ints hi
 have lenV:=hi.length
 have core:∀H:Hp,Only H->SqL K H a (ns.map V.int)->HOk P w H s₁.heap->(∀b,H b≠none->b=a)->(H a≠none->K.lookup a=none)->
   codeAny (model P w) callerA (.call (.ref fa) ⟨[.ref a],[]⟩) (λr s'=>r=.ok (.ret (.bool true))/\OldK s₁.heap s'.heap/\s'.os=s₁.os/\AllBare s'.gens) s₁:=by
  intro H hO hS hok hA hK
  have base_of:∀{b:Addr} {o:Obj},s₁.heap.get? b=some o->H b=none->(hidT s₁.heap H).get? b=some o:=λe n=>hidT_get e n
  have noA:∀{b:Addr} {o:Obj} {es:Array DictEntry} {ep:Nat},s₁.heap.get? b=some o->o.data=.dict es ep->H b=none:=fun{b o es ep} e d=>by
   cases q:H b with
   |none=>rfl
   |some u=>
    have e':b=a:=hA b (by rw[q];simp)
    subst e'
    rw[ha]at e;cases e
    have d':Y1Y vs.toArray _=Data.dict es ep:=d
    cases d'
  have nsK:∀{b:Addr} {m:Str->Option Value},s₁.heap.Ns b m->(hidT s₁.heap H).Ns b m:=fun{b m} ⟨o,es,ep,e,d,r⟩=>⟨o,es,ep,base_of e (noA e d),d,r⟩
  have hKb:K.In (hidT s₁.heap H):=λb o e=>base_of (KX b o e) (by
   cases q:H b with
   |none=>rfl
   |some u=>
    have e':b=a:=hA b (by rw[q];simp)
    subst e'
    rw[hK (by rw[q];simp)]at e;cases e)
  have hM:Mod K mg (hidT s₁.heap H):=⟨hKb,nsK hns,⟨mb,nsK hb,hbb⟩,let⟨mc,h1,h2⟩:=hlim;⟨mc,nsK h1,h2⟩⟩
  have e0:Env0 P w K mg (hidT s₁.heap H) callerA [] s₁ H:=⟨rfl,hM,λb o e=>of_hidT e,Y24 (hidT_size _ _),trivial,λb hb=>absurd (show b∈([]:List Addr)from hb) (by simp),hok,.of_eq hg⟩
  refine codeAny_mono ((F _ hKb (nsK hns)).run callerA [] s₁ H ⟨[.ref a],[]⟩ [.ref a] [.ref a] _ _ hr e0 (hbind s₁ (.ref a)) (.cons rfl .nil) (hsp H hO hS)) λr s' h=>?_
  cases r with
  |error e=>exact(hCX H e s' h).elim
  |ok fl=>
   cases fl with
   |next=>exact Y0D h
   |brk=>exact Y0D h
   |cont=>exact Y0D h
   |ret u=>
    obtain⟨v,H',os,bare,un,hok',r',q⟩:=h
    have q':v=.bl true:=q
    subst q'
    obtain rfl:u=Y0X true:=r'
    refine⟨rfl,OldK.of_keep λb o e=>?_,os,bare⟩
    cases q:H b with
    |none=>exact un.keep b o e q (by intro z;exact absurd (show b∈([]:List Addr)from z) (by simp)) (by simp)
    |some u=>
     rcases hO b with z|⟨ob,xs,z⟩
     ·rw[q]at z;cases z
     ·have z2:=un.frzs b ob _ z
      obtain⟨e1,_⟩:=hok b _ z
      obtain⟨e2,_⟩:=hok' b _ z2
      rw[e]at e1;cases e1
      exact e2
 cases hk:K.lookup a with
 |some o=>
  have e:=KX a o hk
  rw[ha]at e
  cases e
  refine core (λ_=>none) (λ_=>.inl rfl) (.inr ⟨_,vs.toArray,_,hk,rfl,rfl,rfl,by rw[Y0h,lenV];exact hl,by simpa using rv⟩) (λb u z=>by have z':(none:Option HO)=some u:=z;cases z') (λb z=>absurd rfl z) λz=>absurd rfl z
 |none=>
  refine core (fun b=>if b=a then some (.frz {cls:=.type "list",data:=.seq vs.toArray} (.lst (ns.map V.int)))else none) (fun b=>?_) (.inl (.inr ⟨{cls:=.type "list",data:=.seq vs.toArray},if_pos rfl⟩)) (fun b u z=>?_) (fun b z=>?_) fun _=>hk
  ·by_cases hb:b=a
   ·exact .inr ⟨_,_,if_pos hb⟩
   ·exact .inl (if_neg hb)
  ·by_cases hb:b=a
   ·have z':=(if_pos hb).symm.trans z
    cases z'
    subst hb
    exact⟨ha,by rw[Y03];exact hl,vs,_,rv,ha⟩
   ·have z':=(if_neg hb).symm.trans z
    cases z'
  ·by_cases hb:b=a
   ·exact hb
   ·exact absurd (if_neg hb) z
end L2
namespace L2
open PySem PySem.Spec PyProof.Rows
noncomputable abbrev KOf{K:Y00}{h:Heap}(_:K.In h):Y00:=K
theorem walk_of{l:Y3d}{n k:Nat}{q:Program}{loose:List Str}{XP:(Str->Option Value)->Heap->Prop}{YP:World->Heap->Prop}{d:DefRec}{K:Params->Y00}{CX:World->CXT}{sp:World->Sp}{x:Str}
  (hn:l.most=some n) (hn2:n≤sizeLine) (hdf:d.params.defaults=[]) (hr:Room k callerA)
  (hY:∀(w:World) (h:Heap),YP w h->(K w.params).In h)
  (F:∀(w:World) (mg:Str->Option Value) (fa:Addr) (h:Heap),(K w.params).In h->h.Ns mainGlobals mg->mg d.name=some (.ref fa)->
   ∃fd:FuncData,(∀(s:Shared) (u:Value),BindsTo s fd ⟨[u],[]⟩ [(x,u)])/\
    ∀base:Heap,(K w.params).In base->base.Ns mainGlobals mg->FnOk l.prog w (K w.params) mg base (CX w) k fa fd [x] (sp w))
  (hsp:∀(w:World) (H:Hp) (a:Addr) (ns:List Int),ns.length≤n->Only H->SqL (K w.params) H a (ns.map V.int)->sp w [.ref a] H (λv _=>v=.bl true) λ_ _ _=>False)
  (hCX:∀(w:World) (H:Hp) (s:Shared) (e:Value) (s':Shared),CX w [] H s (λ_ _ _=>False) e s'->False):
  PySem.W.WalkO q loose XP YP l.row.toRowW d [] (λf vs=>PySem.call f vs):=by
 refine Att.attach_call hn hdf λw s₀ s₁ mg mb fa o pm cd doc a vs ns G Y ho hd hcd hmg hobj hints hlen hg=>?_
 have KX:=hY w _ Y
 obtain⟨fd,hb,hF⟩:=F w mg fa _ KX G.T.g hmg
 exact law_call KX G.T.g G.T.b G.T.builtins G.T.nolimit hg hobj hints (Y0M hlen hn2) hr hF hb (λH hO hS=>hsp w H a ns hlen hO hS) λH e s'=>hCX w H s₁ e s'
end L2
/- THE LAST THEOREM (shape;LID,My.*are yours):
  My.Adr:a structure of the addresses that your layer names (classes,functions);My.Txt K t:a structure(Prop) of the equations over K;
  My.txt_mk:{K} {implicit addresses ..} (e1:nsIn K mainGlobals "law"=some (some (.ref f))) (e2:K.lookup f=some ⟨oc,od,.func (fnOf "law" "law" params body scope dV kV doc pm an cdv ct),sl⟩) (e3:codeIn K cdv "law"=true) ..:∃t,My.Txt K t
set_option maxRecDepth 100000 in
set_option maxHeartbeats 0 in
theorem PySem.Challenge.cw_LID_holds : PySem.Challenge.rw_LID.Holds := by
 w_on;o_law;k_head;(case hw=>w_witness2)
 k_fill
 refine L2.walk_of (l:=PySem.Challenge.rw_LID) (n:=63) (k:=40) (x:="script") (CX:=fun w=>..) (sp:=fun _=>My.sp_law) rfl (by decide) rfl ⟨rfl,by decide,by decide⟩ (fun w h Y=>PySem.W.kIn_of Y) ?F ?S ?C
 case F=>
  intro w mg fa h KX G hmg
  have T:∃t,My.Txt (L2.KOf KX) t:=by
   dsimp only[L2.KOf] -- K must stand as «<heap const> w.params» for k_is
   refine' My.txt_mk ?e1 ?e2 ?e3 ..
   (case e1=>PySem.W.k_is) -- in the order:a name->its address->its object->its parts
   (case e2=>PySem.W.k_is)
   ..
  obtain⟨t,T⟩:=T
  have e0:=hmg.symm.trans (Y0S KX G T.law)
  cases e0 -- fa is the law's own address
  exact⟨_,λs u=>.of_eq rfl,λbase kb nb=>My.law_fn T kb nb⟩ -- if «.of_eq rfl» comes too early:refine' ⟨_,?b,λbase kb nb=>My.law_fn T kb nb⟩;exact λs u=>.of_eq rfl
 case S=>exact λw H a ns hl hO hS=>..
 case C=>exact ..
(the tactic k_is has no namespace:write k_is) -/
namespace L2
open PySem PySem.Spec PyProof.Rows
noncomputable def defArgs(s:Stmt):Arguments:=match s with
 |.FunctionDef _ a _ _ _ _ _ _ _ _=>a
 |_=>{posonlyargs:=[],args:=[],vararg:=none,kwonlyargs:=[],kw_defaults:=[],kwarg:=none,defaults:=[]}
noncomputable def Z05(s:Stmt):List Stmt:=match s with
 |.FunctionDef _ _ b _ _ _ _ _ _ _=>b
 |_=>[]
noncomputable def Z00(s:Stmt):Scope:=match s with
 |.FunctionDef _ _ _ _ _ _ sc _ _ _=>sc
 |_=>{kind:=.function,names:=[],isGenerator:=false,isCoroutine:=false}
noncomputable abbrev CX0:CXT:=λ_ _ _ _ _ _=>False
noncomputable abbrev E0:XK:=λ_ _ _=>False
theorem pass0{X:Cx}:Passes CX0 X E0:=λ_ _ _ _ _ _ _ h=>h.elim
structure Fun (K:Y00) (x qual:Str) (st:Stmt) (f:Addr) (fd:FuncData):Prop where
 ex:∃(oc:Value) (od:Option Addr) (kV doc pm:Value) (an:Option Addr) (cdv ct:Value) (osl:Array (Option Value)),
  fd=Y1O x qual (defArgs st) (Z05 st) (Z00 st) .none kV doc pm an cdv ct/\K.lookup f=some ⟨oc,od,.func fd,osl⟩/\Y3u K cdv qual=true
 kp:Y0U K (.ref f)=true
section
variable{P:Program}{w:World}{K:Y00}{mg:Str->Option Value}{base:Heap}
theorem Fun.ok{x qual:Str}{st:Stmt}{f:Addr}{fd:FuncData}{N ps:List Str}{k:Nat}{sp:Sp}(F:Fun K x qual st f fd)(S:FnScope N ps (Z00 st))(len:∀vs H Q E,sp vs H Q E->vs.length=ps.length)
  (hbody:∀(cdv:Value) (A:Around) (outer:List Env) (s:Shared) (H:Hp) (vs:List V) (Q:VK) (E:XK),Room k (A.deeper (envOfC qual (Z00 st) s.heap.objs.size f cdv))->sp vs H Q E->
   ∃t,PSs (cxOf CX0 P w K mg base N qual (Z00 st) f cdv A outer s H E).nox (Z05 st) t/\t {nx:=λ_ H'=>Q .non H',rt:=Q} (start N vs) H):FnOk P w K mg base CX0 (k+1) f fd ps sp:=by
 obtain⟨oc,od,kV,doc,pm,an,cdv,ct,osl,rfl,lk,hcd⟩:=F.ex
 refine fn_of lk hcd S len λA outer s H vs Q E hr hsp=>?_
 obtain⟨t,h,q⟩:=hbody cdv A outer s H vs Q E hr hsp
 exact⟨t,h.nox,q⟩
theorem Fun.binds{x qual:Str}{st:Stmt}{f:Addr}{fd:FuncData}{ps:List Str}(F:Fun K x qual st f fd)
  (h:∀(kV doc pm:Value) (an:Option Addr) (cdv ct:Value) (us:List Value),us.length=ps.length->bindArgs (Y1O x qual (defArgs st) (Z05 st) (Z00 st) .none kV doc pm an cdv ct) ⟨us,[]⟩=pure (ps.zip us)):Binds K fd ps []:=by
 obtain⟨oc,od,kV,doc,pm,an,cdv,ct,osl,rfl,lk,hcd⟩:=F.ex
 exact .all (h kV doc pm an cdv ct)
theorem fun_mk{x qual:Str}{st:Stmt}{f:Addr}{oc:Value}{od an:Option Addr}{osl:Array (Option Value)}{kV doc pm cdv ct:Value}(l:K.lookup f=some ⟨oc,od,.func (Y1O x qual (defArgs st) (Z05 st) (Z00 st) .none kV doc pm an cdv ct),osl⟩)
  (c:Y3u K cdv qual=true) (k:Y0U K (.ref f)=true):Fun K x qual st f (Y1O x qual (defArgs st) (Z05 st) (Z00 st) .none kV doc pm an cdv ct):=⟨⟨oc,od,kV,doc,pm,an,cdv,ct,osl,rfl,l,c⟩,k⟩
end
section
variable{X:Cx}
theorem pv(i:Nat){x:Str}{pos:Pos}(hN:X.N[i]?=some x:=by rfl) (hv:Vis X.env.scope x:=by first|exact Or.inl rfl|exact Or.inr (Or.inl rfl)|exact Or.inr (Or.inr rfl)) (hd:(x==("__debug__":Str))=false:=by decide)
  (hcd:(x==("__classdict__":Str))=false:=by decide):PE X (.Name x pos) (tVar i):=pe_var hN hv hd hcd
end
noncomputable def Same(H H':Hp):Prop:=∀b o,H b=some o->H' b=some o
theorem Same.trans{H H1 H2:Hp}(a:Same H H1)(b:Same H1 H2):Same H H2:=λc o h=>b c o (a c o h)
theorem Same.free{H H':Hp}(e:Same H H'){l:Addr}(h:H' l=Option.none):H l=Option.none:=by
 cases q:H l with
 |none=>rfl
 |some o=>
  rw[e l o q]at h
  cases h
end L2
namespace L2
open PySem PySem.Spec PyProof.Rows
section
variable{X:Cx}
theorem call_lenD:CallR X (.builtin "len") (fun xs H Q=>∃a kvs,xs=[V.ref a]/\H a=some (.dK kvs)/\Q (.int kvs.length) H):=by
 intro pins s σ H xs us Q I r h
 obtain⟨a,kvs,rfl,ha,q⟩:=h
 obtain⟨u,rfl,ru⟩:=vals1 r
 cases ru
 exact d_len I (.inl ha) λt s' I'=>⟨.int kvs.length,H,I',⟨t,rfl⟩,q⟩
end
section
variable{κ:Type} [DecidableEq κ]
theorem nd_snoc:∀{l:List κ} {k:κ},l.Nodup->¬k∈l->(l++[k]).Nodup
 |[],k,_,_=>by simp
 |a::r,k,h,hk=>by
  obtain⟨h1,h2⟩:=Y19.mp h
  show(a::(r++[k])).Nodup
  refine Y19.mpr ⟨λm=>?_,nd_snoc h2 λm=>hk (Y05.mpr (Or.inr m))⟩
  rcases Y0z.mp m with q|q
  ·exact h1 q
  ·exact hk (Y05.mpr (Or.inl (Y0O.mp q).symm))
end
end L2
namespace L2
open PySem PySem.Spec PyProof.Rows
theorem bt_isinstance:bootBuiltins "isinstance"=some (.builtin "isinstance"):=by decide+kernel
section
variable{X:Cx}
noncomputable def CDivB(i j:Int):Prop:=0<j/\j<2^256
theorem log2_small{j:Int}(h:CDivB i j):j.natAbs.log2<9000:=by
 have h1:(0:Int)<j:=h.1
 have h2:j<2^256:=h.2
 have h0:j.natAbs≠0:=by lia
 have:j.natAbs<2^256:=by lia
 have:=(Nat.log2_lt h0).mpr this
 lia
theorem op_fdivB:OpR X (binaryOp .FloorDiv) (rI CDivB λi j=>.int (i/j)):=opI λi j _ _ _ _ _ hc q=>by
 have h1:(0:Int)<j:=hc.1
 exact floordiv_int (by lia) (by rw[Int.fdiv_eq_ediv_of_nonneg i (by lia)];exact q) (.inl (PyProof.noPylong_of_log2 (log2_small hc)))
theorem call_isinst:CallR X (.builtin "isinstance") (fun xs H Q=>∃x c t b,xs=[x,.ty c]/\TyOf X.K H x t/\Y1k X.K t (.type c)=some b/\Q (.bl b) H):=by
 intro pins s σ H xs us Q I r h
 obtain⟨x,c,t,b,rfl,ty,e,q⟩:=h
 obtain⟨u,w',rfl,ru,rw'⟩:=vals2 r
 cases rw'
 exact isinst_ok I ru ty e λtk=>⟨.bl b,H,I.tok tk,rfl,q⟩
end
mutual
inductive Dp (K:Y00) (H:Hp):V->PyData->Prop
 |non:Dp K H .non .none
 |bl (b:Bool):Dp K H (.bl b) (.bool b)
 |int (i:Int):Dp K H (.int i) (.int i)
 |str (x:Str):Dp K H (.str x) (.str x)
 |lst {a:Addr} {xs:List V} {ds:List PyData}:SqL K H a xs->DpAll K H xs ds->Dp K H (.ref a) (.list ds)
 |tup {a:Addr} {xs:List V} {ds:List PyData}:SqT K H a xs->DpAll K H xs ds->Dp K H (.ref a) (.tuple ds)
inductive DpAll (K:Y00) (H:Hp):List V->List PyData->Prop
 |nil:DpAll K H [] []
 |cons {x:V} {xs:List V} {d:PyData} {ds:List PyData}:Dp K H x d->DpAll K H xs ds->DpAll K H (x::xs) (d::ds)
end
section
variable{X:Cx}{pins:List (Addr×Obj)}{σ:St}{H:Hp}{s:Shared}
mutual
theorem Dp.reads(I:Inv X pins σ H s):∀{x:V} {d:PyData} {u:Value},Dp X.K H x d->RelV x u->∃as,Reads s.heap u d as
 |_,_,_,.non,r=>by cases r;exact⟨_,.none⟩
 |_,_,_,.bl b,r=>by cases r;exact⟨_,.bool b⟩
 |_,_,_,.int i,r=>by obtain⟨t,rfl⟩:=r;exact⟨_,.int i t⟩
 |_,_,_,.str x,r=>by obtain⟨t,rfl⟩:=r;exact⟨_,.str x t⟩
 |_,_,_,.lst hq ha,r=>by
  cases r
  obtain⟨its,rv,pl,hz⟩:=I.list hq
  obtain⟨as,rs⟩:=DpAll.reads I ha rv
  obtain⟨o,ho,hc,n,hd⟩:=pl.isList
  exact⟨_,.list ho hc hd (by simpa using rs)⟩
 |_,_,_,.tup hq ha,r=>by
  cases r
  obtain⟨its,rv,pl,hz⟩:=I.tuple hq
  obtain⟨as,rs⟩:=DpAll.reads I ha rv
  obtain⟨o,ho,hc,n,hd⟩:=pl
  exact⟨_,.tuple ho hc hd (by simpa using rs)⟩
theorem DpAll.reads(I:Inv X pins σ H s):∀{xs:List V} {ds:List PyData} {us:List Value},DpAll X.K H xs ds->Vals xs us->∃as,ReadsAll s.heap us ds as
 |_,_,_,.nil,r=>by cases r;exact⟨_,.nil⟩
 |_,_,_,.cons h t,r=>by
  cases r with
  |cons r1 r2=>
   obtain⟨as,a⟩:=Dp.reads I h r1
   obtain⟨bs,b⟩:=DpAll.reads I t r2
   exact⟨_,.cons a b⟩
end
end
section
variable{X:Cx}
end
end L2
namespace L2
end L2
namespace L2
open PySem PySem.Spec PyProof.Rows
noncomputable def clOf(cells:List (Str×Addr)):List (Str×NameKind)->List (Str×Addr)->List (Str×Addr)
 |[],acc=>acc
 |(n,k)::r,acc=>if k=.free then(match cells.lookup n with|some a=>clOf cells r ((n,a)::acc)|none=>clOf cells r acc)else clOf cells r acc
theorem clOf_spec(cells:List (Str×Addr)):∀(names:List (Str×NameKind)) (acc:List (Str×Addr)) (x:Str) (c:Addr),(clOf cells names acc).lookup x=some c->acc.lookup x=some c\/cells.lookup x=some c
 |[],acc,x,c,h=>.inl h
 |(n,k)::r,acc,x,c,h=>by
  unfold clOf at h
  by_cases hk:k=.free
  ·rw[if_pos hk]at h
   cases hc:cells.lookup n with
   |none=>rw[hc]at h;exact clOf_spec cells r acc x c h
   |some a=>
    rw[hc]at h
    rcases clOf_spec cells r _ x c h with q|q
    ·by_cases hx:x=n
     ·subst hx
      simp at q
      subst q
      exact .inr hc
     ·have hb:(x==n)=false:=beq_eq_false_iff_ne.mpr hx
      simp only[Y16,hb]at q
      exact .inl q
    ·exact .inr q
  ·rw[if_neg hk]at h
   exact clOf_spec cells r acc x c h
theorem clOf_keep(cells:List (Str×Addr)):∀(names:List (Str×NameKind)) (acc:List (Str×Addr)) (x:Str) (c:Addr),cells.lookup x=some c->acc.lookup x=some c->(clOf cells names acc).lookup x=some c
 |[],acc,x,c,_,h=>h
 |(n,k)::r,acc,x,c,h,ha=>by
  unfold clOf
  by_cases hk:k=.free
  ·rw[if_pos hk]
   cases hc:cells.lookup n with
   |none=>exact clOf_keep cells r acc x c h ha
   |some a=>
    refine clOf_keep cells r _ x c h ?_
    by_cases hx:x=n
    ·subst hx
     rw[h]at hc;cases hc
     simp
    ·have hb:(x==n)=false:=beq_eq_false_iff_ne.mpr hx
     simp only[Y16,hb]
     exact ha
  ·rw[if_neg hk]
   exact clOf_keep cells r acc x c h ha
theorem clOf_has(cells:List (Str×Addr)):∀(names:List (Str×NameKind)) (acc:List (Str×Addr)) (x:Str) (c:Addr),(x,Y0H)∈names->cells.lookup x=some c->(clOf cells names acc).lookup x=some c
 |[],acc,x,c,h,_=>by cases h
 |(n,k)::r,acc,x,c,h,ha=>by
  unfold clOf
  rcases Y05.mp h with e|h
  ·cases e
   rw[if_pos rfl,ha]
   exact clOf_keep cells r _ _ c ha (by simp)
  ·by_cases hk:k=.free
   ·rw[if_pos hk]
    cases hc:cells.lookup n with
    |none=>exact clOf_has cells r acc x c h ha
    |some a=>exact clOf_has cells r _ x c h ha
   ·rw[if_neg hk]
    exact clOf_has cells r acc x c h ha
theorem closure_walk{env:Env}(f:Str×NameKind->List (Str×Addr)->Sem (ForInStep (List (Str×Addr))))
  (hf:∀n k r,f (n,k) r=if(k==Y0H)=true then(cellOf env n >>= λa=>pure (Y2v ((n,a)::r)))else pure (Y2v r)):
  ∀(names:List (Str×NameKind)) (acc:List (Str×Addr)),(∀y∈names,y.2=.free->∃c,env.cells.lookup y.1=some c)->(forIn names acc f:Sem (List (Str×Addr)))=pure (clOf env.cells names acc)
 |[],acc,_=>by rw[List.forIn_nil];rfl
 |(n,k)::r,acc,h=>by
  rw[List.forIn_cons,hf]
  have hr:∀y∈r,y.2=.free->∃c,env.cells.lookup y.1=some c:=λy hy=>h y (Y0c _ hy)
  by_cases hk:k=.free
  ·subst hk
   obtain⟨c,hc⟩:=h (n,.free) Y0l rfl
   have hc':env.cells.lookup n=some c:=hc
   have e:cellOf env n=pure c:=by unfold cellOf;rw[hc']
   rw[if_pos (by decide),e,pure_bind,pure_bind]
   show forIn r ((n,c)::acc) f=_
   rw[closure_walk f hf r _ hr]
   simp only[clOf,if_pos,hc']
  ·have hb:(k==Y0H)=false:=by simpa using hk
   rw[hb,if_neg Y04,pure_bind]
   show forIn r acc f=_
   rw[closure_walk f hf r _ hr]
   simp only[clOf,if_neg hk]
theorem closure_is{scope:Scope}{env:Env}(h:∀y∈scope.names,y.2=.free->∃c,env.cells.lookup y.1=some c):closureFor scope env=pure (clOf env.cells scope.names []):=by
 unfold closureFor
 simp only[bind_pure]
 exact closure_walk _ (λn k r=>by
  by_cases hk:(k==Y0H)=true
  ·simp only[hk,if_true]
  ·simp only[hk,if_false]) scope.names [] h
noncomputable def compOk(osc scope:Scope)(N own:List Str)(fr:List Nat):Bool:=
 decide (scope.kind=.function)&&scope.names.all (λy=>decide (y.2≠.cell))&&scope.names.all (λy=>decide (y.2=.local->scope.names.lookup y.1=some .local))&&
 scope.names.all (λy=>decide (y.2=.free->osc.names.lookup y.1=some .cell\/osc.names.lookup y.1=some .free))&&
 fr.all (λi=>match N[i]? with|some x=>decide ((x,Y0H)∈scope.names/\scope.names.lookup x=some .free/\(osc.names.lookup x=some .cell\/osc.names.lookup x=some .free))|none=>false)
structure CompOk (osc scope:Scope) (N:List Str) (fr:List Nat):Prop where
 kind:scope.kind=.function
 nocell:∀y∈scope.names,y.2≠.cell
 names:∀y∈scope.names,y.2=.local->scope.names.lookup y.1=some .local
 has:∀y∈scope.names,y.2=.free->osc.names.lookup y.1=some .cell\/osc.names.lookup y.1=some .free
 frees:∀i∈fr,∃x,N[i]?=some x/\(x,Y0H)∈scope.names/\scope.names.lookup x=some .free/\(osc.names.lookup x=some .cell\/osc.names.lookup x=some .free)
theorem compOk_of{osc scope:Scope}{N own:List Str}{fr:List Nat}(h:compOk osc scope N own fr=true):CompOk osc scope N fr:=by
 unfold compOk at h
 simp only[Y06,Y1g,decide_eq_true_eq]at h
 obtain⟨⟨⟨⟨h1,h2⟩,h3⟩,h4⟩,h5⟩:=h
 refine⟨h1,h2,h3,h4,λi hi=>?_⟩
 have q:=h5 i hi
 cases e:N[i]? with
 |none=>rw[e]at q;simp at q
 |some x=>rw[e]at q;simp only[decide_eq_true_eq]at q;exact⟨x,rfl,q⟩
noncomputable def sC(own:List Str)(fr:List Nat)(σ:St):St:=own.map (λ_=>none)++fr.map (λi=>σ.getD i none)
noncomputable def nC(own:List Str)(fr:List Nat)(N:List Str):List Str:=own++fr.map (λi=>N.getD i Y3a)
noncomputable def cxC(X:Cx)(scope:Scope)(own:List Str)(fr:List Nat)(C:Addr)(fp:List Addr)(s₃:Shared)(H₃:Hp):Cx:=
 {X with N:=nC own fr X.N,s₀:=s₃,H₀:=H₃,env:=compEnvC scope (clOf X.env.cells scope.names []) C X.env,outer:=X.stack,ex:=fp,fn:=λ_=>false,xe:=λ_ _=>False}
noncomputable def Keep(σ σ':St):Prop:=σ.length=σ'.length/\∀(i:Nat) (v:V),σ[i]?=some (some v)->σ'[i]?=some (some v)
noncomputable def tAll:TT:=λ_ H Q=>Q true H
noncomputable def PTs(X:Cx)(ifs:List Expr)(t:TT):Prop:=(ifs=[]/\t=tAll)\/∃c,ifs=[c]/\PT X c t
section
variable{prog:Program}{w:World}{A:Around}{R:Result->Shared->Prop}{s:Shared}
theorem compLoop_any{elt target iter:Expr}{ifs:List Expr}{scope:Scope}{pos:Pos}{it acc:Value}{env:Env}(I:Nat->Shared->Prop)
  (turn:∀n s,I n s->wpAny (model prog w) A (pyNext it) (λr s₁=>match r with
   |none=>R (.ok .next) s₁
   |some v=>wpAny (model prog w) A (letOwnedTupleGo target it v) (λ_ s₁'=>wpAny (model prog w) A (assign target env v) (λ_ s₂=>
     wpAny (model prog w) A (forIn ifs true λc r=>if r=true then do let ok<- isTrue c env (eval c env);pure (Y2v ok)else pure (Y2v r)) (λok s₃=>
      if ok=true then wpAny (model prog w) A (eval elt env) (λx s₄=>
       wpAny (model prog w) A (call (.builtin "list.append") [acc,x]) (fun _ s₅=>∃m,m<n/\I m s₅) (fun _ _=>False) s₄) (fun _ _=>False) s₃
      else∃m,m<n/\I m s₃) (λ_ _=>False) s₂) (λ_ _=>False) s₁') (λ_ _=>False) s₁) (λ_ _=>False) s)
  (n:Nat) (h:I n s):
  codeAny (model prog w) A (.compLoop (.ListComp elt [⟨target,iter,ifs,0⟩] scope pos) 0 it acc env) R s:=by
 refine codeAny_loop rfl I (λn s hI=>?_) n h
 show wpAny _ A ((compTurn (.ListComp elt [⟨target,iter,ifs,0⟩] scope pos) 0 it acc env).onRaise (λx=>do noteFrame x env;theTreesLotGoes x)) _ _ s
 refine wpAny_noted ?_
 rw[compTurn_list]
 refine wpAny_bind (wpAny_standAt (wpAny_bind (wpAny_mono (turn n s hI) (λr s₁ h₁=>?_) λ_ _ h'=>h'.elim)))
 cases r with
 |none=>exact wpAny_pure h₁
 |some v=>
  refine wpAny_bind (wpAny_mono h₁ (λ_ s₁' h₁'=>?_) λ_ _ h'=>h'.elim)
  refine wpAny_bind (wpAny_mono h₁' (λ_ s₂ h₂=>wpAny_bind (wpAny_mono h₂ (λok s₃ h₃=>?_) λ_ _ h'=>h'.elim)) λ_ _ h'=>h'.elim)
  cases ok with
  |false=>exact wpAny_pure ⟨rfl,h₃⟩
  |true=>
   exact wpAny_bind (wpAny_bind (wpAny_mono h₃ (λx s₄ h₄=>wpAny_bind (wpAny_mono h₄ (λ_ s₅ h₅=>wpAny_pure (wpAny_pure ⟨rfl,h₅⟩)) λ_ _ h'=>h'.elim)) λ_ _ h'=>h'.elim))
end
theorem all_go{σ:St}{H:Hp}{Q:Bool->Hp->Prop}(h:Q true H):tAll σ H Q:=h
section
variable{X:Cx}{pins:List (Addr×Obj)}{σ:St}{H1:Hp}{s2:Shared}{tg elt iter:Expr}{ifs:List Expr}{scope:Scope}{pos:Pos}{own:List Str}{fr:List Nat}{g:TG}{tt:TT}{te:TE}
theorem relabel_free{scope:Scope}{env:Env}{x:Str}:∀{names:List (Str×NameKind)},names.lookup x=some .free->
  (names.map fun(n,k)=>if(k==Y0H&&env.scope.kind==.function&&env.kindOf n==some .cell)then(n,Y29)else(n,k)).lookup x=some .cell\/
  (names.map fun(n,k)=>if(k==Y0H&&env.scope.kind==.function&&env.kindOf n==some .cell)then(n,Y29)else(n,k)).lookup x=some .free
 |[],h=>by simp at h
 |(n,k)::r,h=>by
  have ih:=@relabel_free scope env x r
  show List.lookup x ((if(k==Y0H&&env.scope.kind==.function&&env.kindOf n==some .cell)=true then(n,Y29)else(n,k))::_)=_\/List.lookup x ((if(k==Y0H&&env.scope.kind==.function&&env.kindOf n==some .cell)=true then(n,Y29)else(n,k))::_)=_
  cases hx:x==n with
  |true=>
   simp only[Y16,hx]at h
   cases h
   by_cases hc:(Y0H==Y0H&&env.scope.kind==.function&&env.kindOf n==some .cell)=true
   ·rw[if_pos hc];simp only[Y16,hx];exact .inl trivial
   ·rw[if_neg hc];simp only[Y16,hx];exact .inr trivial
  |false=>
   simp only[Y16,hx]at h
   by_cases hc:(k==Y0H&&env.scope.kind==.function&&env.kindOf n==some .cell)=true
   ·rw[if_pos hc];simp only[Y16,hx];exact ih h
   ·rw[if_neg hc];simp only[Y16,hx];exact ih h
theorem relabel_kind{scope:Scope}{env:Env}(hn:∀y∈scope.names,y.2≠.cell){x:Str}:∀{names:List (Str×NameKind)},(∀y∈names,y.2≠.cell)->
  ((names.map fun(n,k)=>if(k==Y0H&&env.scope.kind==.function&&env.kindOf n==some .cell)then(n,Y29)else(n,k)).lookup x=some .cell\/
  (names.map fun(n,k)=>if(k==Y0H&&env.scope.kind==.function&&env.kindOf n==some .cell)then(n,Y29)else(n,k)).lookup x=some .free)->(x,Y0H)∈names
 |[],_,h=>by simp at h
 |(n,k)::r,hnc,h=>by
  have ih:=@relabel_kind scope env hn x r (λy hy=>hnc y (Y0c _ hy))
  have hk:k≠.cell:=hnc (n,k) Y0l
  simp only[Y0d]at h
  cases hx:x==n with
  |true=>
   have e:x=n:=eq_of_beq hx
   subst e
   by_cases hc:(k==Y0H&&env.scope.kind==.function&&env.kindOf x==some .cell)=true
   ·have:k=.free:=by
     simp only[Y06,beq_iff_eq]at hc
     exact hc.1.1
    subst this
    exact Y0l
   ·rw[if_neg hc]at h
    simp at h
    rcases h with h|h
    ·exact absurd h hk
    ·subst h;exact Y0l
  |false=>
   by_cases hc:(k==Y0H&&env.scope.kind==.function&&env.kindOf n==some .cell)=true
   ·rw[if_pos hc]at h
    simp only[Y16,hx]at h
    exact Y0c _ (ih h)
   ·rw[if_neg hc]at h
    simp only[Y16,hx]at h
    exact Y0c _ (ih h)
theorem comp_start{C:Addr}{fp:List Addr}{s3:Shared}{H3:Hp}{h4:Heap}{tk:Nat}{m:Str->Option Value}(ok:CompOk X.env.scope scope X.N fr)(I3:Inv X pins σ H3 s3)(hC:C=s3.heap.objs.size)(hf:∀b∈fp,FpOk X pins H3 b)(hfo:∀b∈fp,∃o,s3.heap.get? b=some o)
  (ns:h4.Ns C m) (kp:∀b o,s3.heap.get? b=some o->h4.get? b=some o):
  Inv (cxC X scope own fr C fp s3 H3) pins (sC own fr σ) H3 {s3 with heap:=h4,toks:=tk}:=by
 have cellsub:∀x c,(clOf X.env.cells scope.names []).lookup x=some c->X.env.cells.lookup x=some c:=λx c h=>(clOf_spec _ _ _ _ _ h).elim (λz=>by simp at z) id
 have cellt:∀x c,X.env.cells.lookup x=some c->c<s3.heap.objs.size:=λx c e=>let⟨v,q⟩:=I3.cell x c e;q.lt
 have fplt:∀b∈fp,b<s3.heap.objs.size:=λb hb=>let⟨o,e⟩:=hfo b hb;Y08 e
 have kindOf_of:∀x,(X.env.scope.names.lookup x=some .cell\/X.env.scope.names.lookup x=some .free)->∃c,X.env.cells.lookup x=some c:=λx h=>I3.ok.has x h
 refine⟨⟨I3.ok.mod,ok.kind,I3.ok.glob,I3.ok.blt,Y24 hC.symm,λx y c h1 h2=>I3.ok.inj x y c (cellsub x c h1) (cellsub y c h2),λx hx=>?_,λx c z=>?_,I3.ok.hd,I3.ok.frames,.inl rfl,λb hb=>⟨?_,λx c e=>?_⟩,λb o e=>I3.bs b o e,Y0M I3.ok.bsz I3.sz,λb o e hb=>?_,λb hb hz=>?_,I3.stack,λb hb=>I3.stkFree b hb⟩,
  rfl,I3.bare,Un.kept kp,⟨m,ns,λi x v e1 e2 e3=>?_⟩,λx c e=>?_,?_,λx c e=>I3.freeC x c (cellsub x c e),λp hp=>?_,I3.hok.kept kp,?_⟩
 · -- has
  have hm:(x,Y0H)∈scope.names:=relabel_kind (scope:=scope) (env:=X.env) ok.nocell ok.nocell hx
  obtain⟨c,hc⟩:=kindOf_of x (ok.has _ hm rfl)
  exact⟨c,clOf_has _ _ _ _ _ hm hc⟩
 ·exact absurd z Y04
 ·exact Y0f (by rw[hC];exact fplt b hb)
 ·exact(hf b hb).2.2.2.2.1 x c (cellsub x c e)
 ·rcases(hf b hb).2.2.2.1 with z|z
  ·exact I3.ok.noex b o e z
  ·exact absurd (Y0x (Y08 e) (Y0M I3.ok.bsz z)) (Y1E _)
 ·rcases Y05.mp (I3.stkSub b hz)with z|z
  ·exact(hf b hb).2.1 z
  ·exact(hf b hb).2.2.1 z
 · -- a free name's value
  have e2':(own.map (λ_=>(none:Option V))++fr.map (λi=>σ.getD i none))[i]?=some (some v):=e2
  have e1':(own++fr.map (λi=>X.N.getD i Y3a))[i]?=some x:=e1
  by_cases hi:i<own.length
  ·rw[Y0s (by simpa using hi),Y0b]at e2'
   cases q:own[i]? with
   |none=>rw[q]at e2';cases e2'
   |some z=>rw[q]at e2';cases e2'
  ·rw[Y0v (by simpa using hi)]at e2'
   rw[Y0v (by simpa using hi)]at e1'
   simp only[Y03]at e2'
   rw[Y0b]at e1' e2'
   cases q:fr[i - own.length]? with
   |none=>rw[q]at e2';cases e2'
   |some j=>
    rw[q]at e1' e2'
    obtain⟨y,hy,hm,hl,ho⟩:=ok.frees j (Y0C q)
    have ex:x=y:=by
     have:X.N.getD j Y3a=y:=by rw[Y0K,hy];rfl
     simp only[Option.map_some,this,Y2i]at e1'
     exact e1'.symm
    subst ex
    have ev:σ[j]?=some (some v):=by
     simp only[Option.map_some,Y2i]at e2'
     rw[Y0K]at e2'
     cases z:σ[j]? with
     |none=>rw[z]at e2';cases e2'
     |some o=>rw[z]at e2';cases e2';rfl
    obtain⟨m0,hn0,hl0⟩:=I3.loc
    obtain⟨u,ru,lk⟩:=hl0 j x v hy ev (.inr ho)
    refine⟨u,ru,.inr ⟨relabel_free (scope:=scope) hl,?_⟩⟩
    rcases lk with⟨k1,_⟩|⟨_,c,hc,z⟩
    ·have k1':X.env.scope.names.lookup x=some .local:=k1
     rw[k1']at ho
     rcases ho with z|z<;>cases z
    ·exact⟨c,clOf_has _ _ _ _ _ hm hc,z.keeps kp⟩
 ·obtain⟨v,z⟩:=I3.cell x c (cellsub x c e)
  exact⟨v,z.keeps kp⟩
 ·show H3 C=none
  exact I3.hok.fresh (Y24 hC.symm)
 ·obtain⟨e,n,ne,nf,d⟩:=I3.pin p hp
  refine⟨kp _ _ e,n,Y0f (by rw[hC];exact Y08 e),λz=>?_,d⟩
  rcases Y05.mp (I3.stkSub p.1 z)with z|z
  ·exact ne z
  ·exact nf z
 ·show(own.map (λ_=>(none:Option V))++fr.map (λi=>σ.getD i none)).length=(own++fr.map (λi=>X.N.getD i Y3a)).length
  simp
end
end L2
namespace L2
open PySem PySem.Spec PyProof.Rows
section
variable{X:Cx}
theorem call_maxL(hc:X.calm=true):CallR X (.builtin "max") (fun xs H Q=>∃(p:Addr) (ns:List Int),xs=[.ref p]/\SqL X.K H p (ns.map V.int)/\0<ns.length/\∀M,M∈ns->(∀a∈ns,a≤M)->Q (.int M) H):=by
 intro pins s σ H xs us Q I r h
 obtain⟨p,ns,rfl,hq,hne,q⟩:=h
 obtain⟨u,rfl,ru⟩:=vals1 r
 cases ru
 obtain⟨its,rv,pl,hz⟩:=I.list hq
 have hi:IntsAre its ns:=intsAre_of rv
 obtain⟨xs,e⟩:=hi.allInts.items
 have hns:ns=xs.toList.map (·.1):=by rw[<- hi.numsOf,<- nums_intItems,<- e]
 have hsz:0<xs.size:=by
  have h3:=hne;rw[hns,Y03,Y0g]at h3;exact h3
 have hl:=pl.isList
 rw[e]at hl
 refine max_intList (I.ok.hd hc) hl hsz λv h' tk hv hk=>?_
 obtain⟨t,rfl⟩:=intItems_at hv
 obtain⟨h1,h2⟩:=argBest_gt (numAt xs) (xs.size - 1)
 refine⟨.int _,H,I.kept hk,⟨t,rfl⟩,q _ ?_ λa ha=>?_⟩
 ·rw[hns,numAt_eq];exact getD_mem (by rw[Y03,Y0g];lia)
 ·rw[hns]at ha
  obtain⟨j,hj,rfl⟩:=mem_getD ha
  rw[Y03,Y0g]at hj
  rw[<- numAt_eq];exact h2 j (by lia)
end
section
variable{X:Cx}
end
end L2
namespace L2
open PySem PySem.Spec PyProof.Rows
section
variable{X:Cx}
end
end L2
namespace L2
open PySem PySem.Spec PyProof.Rows
section
variable{X:Cx}
theorem mulOk_small{z:Str}{i:Int}(hz:z.length≤16)(h0:-1000≤i)(h1:i≤1000):MulOk z i:=by
 refine⟨?_,λh2 _=>?_,λh2 _=>?_⟩
 ·rw[decide_eq_false (by lia),decide_eq_false (by lia)];rfl
 ·have hi:1≤i:=by lia
  have:(16:Int)≤(2^63 - 1)/i:=by
   rw[Int.le_ediv_iff_mul_le (by lia)]
   lia
  lia
 ·have:z.length*i.toNat≤16*1000:=Nat.mul_le_mul hz (by lia)
  have h3:z.length*i.toNat<2^20:=by lia
  generalize z.length*i.toNat=n at h3
  revert n
  intro n hn
  have hs:sizeLine=16777216:=by decide
  show decide (n>sizeLine)=false
  rw[hs]
  exact decide_eq_false (by lia)
theorem op_mulS:OpR X (binaryOp .Mult) (λx y H Q=>∃z i,x=.str z/\y=.int i/\z.length≤16/\ -1000≤i/\i≤1000/\Q (.str (Txt.mul z i)) H):=by
 intro pins s σ H x y v u Q I rx ry h
 obtain⟨z,i,rfl,rfl,hz,h0,h1,q⟩:=h
 obtain⟨t,rfl⟩:=rx
 obtain⟨t',rfl⟩:=ry
 exact SB.mul (mulOk_small hz h0 h1) (λt' k=>⟨.str (Txt.mul z i),H,I.tok _,⟨_,rfl⟩,q⟩)
theorem op_eqNil(hu:X.A.units<cLine):OpR X (compareOp .Eq) (λx y H Q=>∃a b xs,x=.ref a/\y=.ref b/\SqL X.K H a xs/\SqL X.K H b []/\Q (.bl xs.isEmpty) H):=by
 intro pins s σ H x y v u Q I rx ry h
 obtain⟨a,b,xs,rfl,rfl,ha,hb,q⟩:=h
 cases rx
 cases ry
 obtain⟨its,rv,pl,hz⟩:=I.list ha
 obtain⟨jts,rw',pl',_⟩:=I.list hb
 have hj:jts=[]:=Y1h rw'.length.symm
 subst hj
 cases xs with
 |nil=>
  have hi:its=[]:=Y1h rv.length.symm
  subst hi
  exact SeqAt.eq_listAt (e:=λ_=>true) pl.isList pl'.isList rfl hu (λj h1 _=>absurd h1 (Nat.not_lt_zero j)) (Z0d I q rfl)
 |cons x r=>
  have hl:its.length=r.length+1:=by rw[<- rv.length];rfl
  exact SeqAt.eq_list_lengthsAt pl.isList pl'.isList (by simp;intro e;rw[e]at hl;simp at hl) hu (Z0d I q rfl)
theorem op_neNil(hu:X.A.units<cLine):OpR X (compareOp .NotEq) (λx y H Q=>∃a b xs,x=.ref a/\y=.ref b/\SqL X.K H a xs/\SqL X.K H b []/\Q (.bl (!xs.isEmpty)) H):=by
 intro pins s σ H x y v u Q I rx ry h
 obtain⟨a,b,xs,rfl,rfl,ha,hb,q⟩:=h
 cases rx
 cases ry
 obtain⟨its,rv,pl,hz⟩:=I.list ha
 obtain⟨jts,rw',pl',_⟩:=I.list hb
 have hj:jts=[]:=Y1h rw'.length.symm
 subst hj
 cases xs with
 |nil=>
  have hi:its=[]:=Y1h rv.length.symm
  subst hi
  exact SeqAt.RcNeAt.lists (e:=λ_=>true) pl.isList pl'.isList rfl hu (λj h1 _=>absurd h1 (Nat.not_lt_zero j)) X.prog X.w _ _ (Z0d I q rfl)
 |cons x r=>
  have hl:its.length=r.length+1:=by rw[<- rv.length];rfl
  exact SeqAt.RcNeAt.lists_lengths pl.isList pl'.isList (by simp;intro e;rw[e]at hl;simp at hl) hu X.prog X.w _ _ (Z0d I q rfl)
end
end L2
namespace L2
open PySem PySem.Spec PyProof.Rows
end L2
namespace L2
open PySem PySem.Spec PyProof.Rows
open AutoSeq1 (wpAny_loadPart')
open MeetsSeq MeetsSeq2 MeetsSeq3 SeqRoads2
noncomputable def AliP(P:Program)(w:World)(A:Around)(s:Shared)(y x:Value):Prop:=∀(E:Value->Shared->Prop) (Q:Bool->Shared->Prop),Q true s->wpAny (model P w) A (eqBool y x) Q E s
noncomputable def RcP(P:Program)(w:World)(A:Around)(s:Shared)(y x:Value):Prop:=∀(E Q:Value->Shared->Prop),Q (.bool true) s->wpAny (model P w) A (richCompare .Eq y x) Q E s
noncomputable def RnP(P:Program)(w:World)(A:Around)(s:Shared)(y x:Value):Prop:=∀(E Q:Value->Shared->Prop),Q (.bool false) s->wpAny (model P w) A (richCompare .NotEq y x) Q E s
section
variable{P:Program}{w:World}{A:Around}{s:Shared}{a b:Addr}{xs ys:Array Value}
theorem AliP.of_at{y x:Value}(h:SeqAt.EqAt A s y x true):AliP P w A s y x:=λE Q q=>h P w E Q q
theorem AliP.refs(h:RcP P w A s (.ref a) (.ref b)):AliP P w A s (.ref a) (.ref b):=by
 intro E Q q
 by_cases e:a=b
 ·subst e;exact SeqAt.EqAt.same _ P w E Q q
 ·unfold eqBool
  refine wpAny_holding (wpAny_ite_split (λz=>absurd (by injection (eq_of_beq z)) e) λ_=>?_)
  exact wpAny_bind (h E _ (wpAny_truthy_bool q))
theorem rc_tup(ha:s.heap.IsTuple a xs)(hb:s.heap.IsTuple b ys)(hz:xs.size=ys.size)(hu:A.units<cLine)(he:∀p∈xs.toList.zip ys.toList,AliP P w A.in1 s p.1 p.2):RcP P w A s (.ref a) (.ref b):=by
 intro E Q q
 obtain⟨⟨c1,d1,t1,l1⟩,o1,k1,n1,e1⟩:=id ha
 obtain⟨⟨c2,d2,t2,l2⟩,o2,k2,n2,e2⟩:=id hb
 dsimp only at k1 e1 k2 e2
 subst k1 e1 k2 e2
 refine wpAny_richCompare_same_room (op:=.Eq) ⟨_,o1,rfl⟩ ⟨_,o2,rfl⟩ F.slot_tuple_eq (wpAny_call_entry F.slot_tuple_eq ⟨_,o1,rfl⟩ F.entry_tuple_eq ?_ (F.args_tuple_eq_2 _ _)) hu
 obtain⟨h0,g0,dd,tk,os⟩:=s
 have f2:=Y2S
 wp_walk using wpAny_loadPart' o1,wpAny_loadPart' o2,wpAny_forIn_list _ (λrest r s'=>r.1=none/\s'=⟨h0,g0,dd,tk,os⟩/\∀p∈rest,AliP P w A.in1 ⟨h0,g0,dd,tk,os⟩ p.1 p.2) _
 case turn=>
  rintro⟨y,x⟩ rest r s' ⟨z1,rfl,m⟩
  refine wpAny_bind (m (y,x) Y0l _ _ ?_)
  wp_walk
  exact⟨rfl,rfl,λp hp=>m p (Y0c _ hp)⟩
 case fin=>
  rintro⟨r1,r2⟩ s' ⟨z1,rfl,-⟩
  dsimp only at z1
  subst z1
  wp_walk
  have tc:Y1b .Eq xs.size ys.size=.bool true:=by simp[Y1b,hz]
  rw[tc]
  exact⟨_,rfl,(λz=>nomatch z),q⟩
 case h=>exact⟨rfl,rfl,he⟩
theorem eq_turns{n1 n2:Nat}{d1 d2:Option Addr}{l1 l2:Array (Option Value)}(hz:xs.size=ys.size){R:Result->Shared->Prop}
  (o1:s.heap.get? a=some {cls:=.type "list",dict:=d1,data:=.seq xs n1,slots:=l1}) (o2:s.heap.get? b=some {cls:=.type "list",dict:=d2,data:=.seq ys n2,slots:=l2})
  (he:∀j (h1:j<xs.size) (h2:j<ys.size),AliP P w A.in1 s xs[j] ys[j]) (q:R (.ok (.ret (.bool true))) s):∀k i:Nat,xs.size - i=k->
  wpAny (model P w) A.in1 (Builtin.«list.__eq__.loop» ⟨[.ref a,.ref b,rawInt i,rawInt 2],[]⟩) (λfin s'=>match fin with|.done f=>R (.ok f) s'|.again c'=>c'.quiet=true/\codeAny (model P w) A c' R s') (λe s'=>R (.error e) s') s:=by
 obtain⟨h0,g0,dd,tk,os⟩:=s
 intro k
 induction k with
 |zero=>
  intro i hk
  wp_walk using wpAny_loadPart' o1,wpAny_loadPart' o2
  rw[show xs[((i:Nat):Int).toNat]?=none by simp;lia,show ys[((i:Nat):Int).toNat]?=none by simp;lia]
  wp_walk using wpAny_loadPart' o1,wpAny_loadPart' o2
  show R (.ok (.ret (.bool (xs.size==ys.size)))) _
  simpa [hz]using q
 |succ k ih=>
  intro i hk
  have h1:i<xs.size:=by lia
  have h2:i<ys.size:=by lia
  wp_walk using wpAny_loadPart' o1,wpAny_loadPart' o2
  rw[show xs[((i:Nat):Int).toNat]?=some xs[i] by simp[h1],show ys[((i:Nat):Int).toNat]?=some ys[i] by simp[h2]]
  refine wpAny_bind (he i h1 h2 _ _ ?_)
  wp_walk
  rw[show((i:Int)+1)=((i+1:Nat):Int) by push_cast;rfl]
  refine⟨plainId_quiet plain_eq_loop _,codeAny_builtin entry_eq_loop ?_⟩
  rw[Y0J plain_eq_loop _]
  exact ih (i+1) (by lia)
theorem rc_lst(ha:s.heap.IsList a xs)(hb:s.heap.IsList b ys)(hz:xs.size=ys.size)(hu:A.units<cLine)(he:∀j (h1:j<xs.size) (h2:j<ys.size),AliP P w A.in1 s xs[j] ys[j]):RcP P w A s (.ref a) (.ref b):=by
 intro E Q q
 obtain⟨⟨c1,d1,t1,l1⟩,o1,k1,n1,e1⟩:=id ha
 obtain⟨⟨c2,d2,t2,l2⟩,o2,k2,n2,e2⟩:=id hb
 dsimp only at k1 e1 k2 e2
 subst k1 e1 k2 e2
 have t1:s.TypeIs (.ref a) "list":=⟨_,o1,rfl⟩
 refine wpAny_richCompare_same_room (op:=.Eq) t1 ⟨_,o2,rfl⟩ Y3w (wpAny_call (codeAny_call_builtin Y3w.plain F.entry_list_eq (Y3w.check _ _ _ _ _ _ _ _ t1 (F.args_list_eq_2 _ _) ?_))) hu
 obtain⟨h0,g0,dd,tk,os⟩:=s
 have f3:=Y36
 have nz:¬(xs.size != ys.size)=true:=by simp[hz]
 wp_walk using wpAny_loadPart' o1,wpAny_loadPart' o2
 refine⟨plainId_quiet plain_eq_loop _,codeAny_builtin entry_eq_loop ?_⟩
 rw[Y0J plain_eq_loop _]
 exact eq_turns (R:=wants (λv s'=>v≠.notImplemented/\Q v s') E) hz o1 o2 he (show Y0X true≠.notImplemented/\Q (.bool true) _ from⟨(λz=>nomatch z),q⟩) _ 0 rfl
theorem nrc_tup(ha:s.heap.IsTuple a xs)(hb:s.heap.IsTuple b ys)(hz:xs.size=ys.size)(hu:A.units<cLine)(he:∀p∈xs.toList.zip ys.toList,AliP P w A.in1 s p.1 p.2):RnP P w A s (.ref a) (.ref b):=by
 intro E Q q
 obtain⟨⟨c1,d1,t1,l1⟩,o1,k1,n1,e1⟩:=id ha
 obtain⟨⟨c2,d2,t2,l2⟩,o2,k2,n2,e2⟩:=id hb
 dsimp only at k1 e1 k2 e2
 subst k1 e1 k2 e2
 refine wpAny_richCompare_same_room (op:=.NotEq) ⟨_,o1,rfl⟩ ⟨_,o2,rfl⟩ F.slot_tuple_ne (wpAny_call_entry F.slot_tuple_ne ⟨_,o1,rfl⟩ F.entry_tuple_ne ?_ (F.args_tuple_ne_2 _ _)) hu
 obtain⟨h0,g0,dd,tk,os⟩:=s
 have f2:=Y2S
 wp_walk using wpAny_loadPart' o1,wpAny_loadPart' o2,wpAny_forIn_list _ (λrest r s'=>r.1=none/\s'=⟨h0,g0,dd,tk,os⟩/\∀p∈rest,AliP P w A.in1 ⟨h0,g0,dd,tk,os⟩ p.1 p.2) _
 case turn=>
  rintro⟨y,x⟩ rest r s' ⟨z1,rfl,m⟩
  refine wpAny_bind (m (y,x) Y0l _ _ ?_)
  wp_walk
  exact⟨rfl,rfl,λp hp=>m p (Y0c _ hp)⟩
 case fin=>
  rintro⟨r1,r2⟩ s' ⟨z1,rfl,-⟩
  dsimp only at z1
  subst z1
  wp_walk
  have tc:Y1b .NotEq xs.size ys.size=.bool false:=by simp[Y1b,hz]
  rw[tc]
  exact⟨_,rfl,(λz=>nomatch z),q⟩
 case h=>exact⟨rfl,rfl,he⟩
theorem ne_turns{n1 n2:Nat}{d1 d2:Option Addr}{l1 l2:Array (Option Value)}(hz:xs.size=ys.size){R:Result->Shared->Prop}
  (o1:s.heap.get? a=some {cls:=.type "list",dict:=d1,data:=.seq xs n1,slots:=l1}) (o2:s.heap.get? b=some {cls:=.type "list",dict:=d2,data:=.seq ys n2,slots:=l2})
  (he:∀j (h1:j<xs.size) (h2:j<ys.size),AliP P w A.in1 s xs[j] ys[j]) (q:R (.ok (.ret (.bool false))) s):∀k i:Nat,xs.size - i=k->
  wpAny (model P w) A.in1 (Builtin.«list.__eq__.loop» ⟨[.ref a,.ref b,rawInt i,rawInt 3],[]⟩) (λfin s'=>match fin with|.done f=>R (.ok f) s'|.again c'=>c'.quiet=true/\codeAny (model P w) A c' R s') (λe s'=>R (.error e) s') s:=by
 obtain⟨h0,g0,dd,tk,os⟩:=s
 intro k
 induction k with
 |zero=>
  intro i hk
  wp_walk using wpAny_loadPart' o1,wpAny_loadPart' o2
  rw[show xs[((i:Nat):Int).toNat]?=none by simp;lia,show ys[((i:Nat):Int).toNat]?=none by simp;lia]
  wp_walk using wpAny_loadPart' o1,wpAny_loadPart' o2
  show R (.ok (.ret (.bool (xs.size != ys.size)))) _
  simpa [hz]using q
 |succ k ih=>
  intro i hk
  have h1:i<xs.size:=by lia
  have h2:i<ys.size:=by lia
  wp_walk using wpAny_loadPart' o1,wpAny_loadPart' o2
  rw[show xs[((i:Nat):Int).toNat]?=some xs[i] by simp[h1],show ys[((i:Nat):Int).toNat]?=some ys[i] by simp[h2]]
  refine wpAny_bind (he i h1 h2 _ _ ?_)
  wp_walk
  rw[show((i:Int)+1)=((i+1:Nat):Int) by push_cast;rfl]
  refine⟨plainId_quiet plain_eq_loop _,codeAny_builtin entry_eq_loop ?_⟩
  rw[Y0J plain_eq_loop _]
  exact ih (i+1) (by lia)
theorem nrc_lst(ha:s.heap.IsList a xs)(hb:s.heap.IsList b ys)(hz:xs.size=ys.size)(hu:A.units<cLine)(he:∀j (h1:j<xs.size) (h2:j<ys.size),AliP P w A.in1 s xs[j] ys[j]):RnP P w A s (.ref a) (.ref b):=by
 intro E Q q
 obtain⟨⟨c1,d1,t1,l1⟩,o1,k1,n1,e1⟩:=id ha
 obtain⟨⟨c2,d2,t2,l2⟩,o2,k2,n2,e2⟩:=id hb
 dsimp only at k1 e1 k2 e2
 subst k1 e1 k2 e2
 have t1:s.TypeIs (.ref a) "list":=⟨_,o1,rfl⟩
 refine wpAny_richCompare_same_room (op:=.NotEq) t1 ⟨_,o2,rfl⟩ Y3x (wpAny_call (codeAny_call_builtin Y3x.plain F.entry_list_ne (Y3x.check _ _ _ _ _ _ _ _ t1 (F.args_list_ne_2 _ _) ?_))) hu
 obtain⟨h0,g0,dd,tk,os⟩:=s
 have f3:=Y36
 have nz:¬(xs.size != ys.size)=true:=by simp[hz]
 wp_walk using wpAny_loadPart' o1,wpAny_loadPart' o2
 refine⟨plainId_quiet plain_eq_loop _,codeAny_builtin entry_eq_loop ?_⟩
 rw[Y0J plain_eq_loop _]
 exact ne_turns (R:=wants (λv s'=>v≠.notImplemented/\Q v s') E) hz o1 o2 he (show Y0X false≠.notImplemented/\Q (.bool false) _ from⟨(λz=>nomatch z),q⟩) _ 0 rfl
theorem pairs_alike{K:Type} [DecidableEq K] {knd:KeyKind P w K}{nm:String}{ka kb:List (K×Value)}{E:Value->Shared->Prop}{Q:Bool->Shared->Prop}(na:(a==sysModules)=false)(nb:(b==sysModules)=false)
  (da:s.heap.DictOf knd a ka) (db:s.heap.DictOf knd b kb) (hz:ka.length=kb.length) (he:∀p∈ka,∃y,valueAt kb p.1=some y/\AliP P w A s p.2 y) (q:Q true s):
  wpAny (model P w) A (Y37 nm a b) Q E s:=by
 obtain⟨oa,ea,pa,o1,_,t1,k1,v1,_⟩:=da
 obtain⟨ob,eb,pb,o2,_,t2,k2,v2,_⟩:=db
 have za:ka.length=ea.size:=v1.length.symm.trans Y0g
 have zb:kb.length=eb.size:=v2.length.symm.trans Y0g
 have fd:∀k,findBy knd.is eb k=valueAt kb k:=by
  intro k
  rw[<- v2.find k]
  clear zb v2 k2 t2 o2
  obtain⟨l⟩:=eb
  simp[findBy]
 have zz:ea.size=eb.size:=by lia
 unfold Y37 Builtin.Dict.showsAll
 rw[na,nb]
 refine wpAny_bind (wpAny_pure (wpAny_bind (wpAny_pure (wpAny_bind (wpAny_dictEntries o1 t1 ?_)))))
 dsimp only
 refine wpAny_bind (wpAny_dictEntries o2 t2 ?_)
 rw[if_neg (by simp[zz])]
 refine wpAny_bind (wpAny_dictEpoch o1 t1 (wpAny_bind ?_))
 rw[Std.Legacy.Range.forIn_eq_forIn_range']
 simp only[Std.Legacy.Range.size,Nat.sub_zero,Nat.add_sub_cancel,Nat.div_one]
 refine wpAny_forIn_list _ (λrest r s'=>s'=s/\r=(none,())/\∀i∈rest,i<ea.size) _ ?_ ?_ _ _ ⟨rfl,rfl,λi hi=>by simpa using hi⟩
 ·rintro i rest r s' ⟨rfl,rfl,m⟩
  have lt:i<ea.size:=m i Y0l
  have lt':i<ka.length:=by lia
  refine wpAny_bind (wpAny_dictEntries o1 t1 ?_)
  rw[Y0V lt]
  obtain⟨key,val⟩:=v1.get? (i:=i) (e:=ea[i]) (k:=ka[i].1) (v:=ka[i].2) (by rw[Y3e];exact Y0V lt) (Y02 lt')
  obtain⟨k',i',hh⟩:=k1 ea[i] (Array.getElem_mem lt)
  obtain rfl:k'=ka[i].1:=knd.inj _ _ _ i' key
  obtain⟨y,fy,al⟩:=he ka[i] (Y0u lt')
  show wpAny _ _ (holding [ea[i].key,ea[i].val] _ >>= _) _ _ _
  rw[hh]
  refine wpAny_bind (wpAny_holding (wpAny_bind (wpAny_dictFind_of key o2 t2 k2 ?_)))
  have fy':=fy
  rw[<- fd,findBy_of_findIdx?]at fy'
  cases hj:eb.findIdx? λe=>knd.is ka[i].1 e.key with
  |none=>rw[hj]at fy';cases fy'
  |some j=>
   rw[hj]at fy'
   obtain⟨jl,_,_⟩:=Array.findIdx?_eq_some_iff_getElem.mp hj
   refine wpAny_bind (wpAny_dictEntries o2 t2 ?_)
   rw[Y0V jl]
   have ey:eb[j].val=y:=by simpa [Y0V jl]using fy'
   rw[<- ey,<- val]at al
   refine wpAny_holding (al _ _ ?_)
   show wpAny _ _ (if(!true)=true then _ else _) _ _ _
   rw[if_neg (show¬(!true)=true from Y04)]
   refine wpAny_bind (wpAny_dictEpoch o1 t1 ?_)
   rw[if_neg (by simp)]
   exact wpAny_pure ⟨rfl,rfl,λz hz=>m z (Y0c _ hz)⟩
 ·rintro r s' ⟨rfl,rfl,-⟩
  exact wpAny_pure q
theorem rc_dic{K:Type} [DecidableEq K] {knd:KeyKind P w K}{ka kb:List (K×Value)}(na:(a==sysModules)=false)(nb:(b==sysModules)=false)
  (da:s.heap.DictOf knd a ka) (db:s.heap.DictOf knd b kb) (hu:A.units<cLine) (hz:ka.length=kb.length) (he:∀p∈ka,∃y,valueAt kb p.1=some y/\AliP P w A.in1 s p.2 y):RcP P w A s (.ref a) (.ref b):=by
 intro E Q q
 refine wpAny_richCompare_same_room (op:=.Eq) da.typeIs db.typeIs Y3p (wpAny_call_entry Y3p da.typeIs PySem.F.entry_dict_eq ?_ (PySem.F.args_dict_eq_2 _ _)) hu
 show wpAny _ _ (Y1w "__eq__" ⟨[.ref a,.ref b],[]⟩>>= _) _ _ s
 refine wpAny_bind ?_
 unfold Y1w
 refine wpAny_bind (wpAny_notOrdered_dict da.typeIs (wpAny_pure (wpAny_bind (wpAny_isInstance (T:="dict") db.typeIs Y3f ?_))))
 rw[if_neg (by decide)]
 refine wpAny_bind (wpAny_pure (wpAny_bind (wpAny_pure (wpAny_bind (pairs_alike na nb da db hz he ?_)))))
 exact wpAny_pure ⟨_,rfl,(λz=>nomatch z),q⟩
theorem nrc_dic{K:Type} [DecidableEq K] {knd:KeyKind P w K}{ka kb:List (K×Value)}(na:(a==sysModules)=false)(nb:(b==sysModules)=false)
  (da:s.heap.DictOf knd a ka) (db:s.heap.DictOf knd b kb) (hu:A.units<cLine) (hz:ka.length=kb.length) (he:∀p∈ka,∃y,valueAt kb p.1=some y/\AliP P w A.in1 s p.2 y):RnP P w A s (.ref a) (.ref b):=by
 intro E Q q
 refine wpAny_richCompare_same_room (op:=.NotEq) da.typeIs db.typeIs Y3q (wpAny_call_entry Y3q da.typeIs PySem.F.entry_dict_ne ?_ (PySem.F.args_dict_ne_2 _ _)) hu
 show wpAny _ _ (Y1w "__ne__" ⟨[.ref a,.ref b],[]⟩>>= _) _ _ s
 refine wpAny_bind ?_
 unfold Y1w
 refine wpAny_bind (wpAny_notOrdered_dict da.typeIs (wpAny_pure (wpAny_bind (wpAny_isInstance (T:="dict") db.typeIs Y3f ?_))))
 rw[if_neg (by decide)]
 refine wpAny_bind (wpAny_pure (wpAny_bind (wpAny_pure (wpAny_bind (pairs_alike na nb da db hz he ?_)))))
 exact wpAny_pure ⟨_,rfl,(λz=>nomatch z),q⟩
end
section
variable{X:Cx}
theorem strs_vals:∀{ss:List Str} {us:List Value},Vals (ss.map V.str) us->∃l:List (Str×Tok),us=strValues l/\l.map (·.1)=ss
 |[],_,.nil=>⟨[],rfl,rfl⟩
 |x::ss,_,.cons q r=>by
  obtain⟨l,e,e'⟩:=strs_vals r
  obtain⟨t,rfl⟩:=(show∃t,_=Y0r x t from q)
  exact⟨(x,t)::l,by rw[e];rfl,by rw[Y0d,e']⟩
theorem mt_joinL:MtR X "str.join" (fun x xs H Q=>∃sep b ss,x=.str sep/\xs=[.ref b]/\SqL X.K H b (ss.map V.str)/\ss.toArray.foldl (fun n z=>n+z.length+sep.length) 0≤sizeLine/\(Y11 sep ss).length≤sizeLine/\Q (.str (Y11 sep ss)) H):=by
 intro pins s σ H x xs v us Q I rx rs h
 obtain⟨sep,b,ss,rfl,rfl,g,z,z2,q⟩:=h
 obtain⟨t,rfl⟩:=rx
 obtain⟨u,rfl,ru⟩:=vals1 rs
 obtain rfl:u=Y0k b:=ru
 obtain⟨its,r,⟨o,n,o1,o2,_,o3⟩,_⟩:=I.list g
 obtain⟨l,rfl,e⟩:=strs_vals r
 have tl:Y3B ((l.map (·.1)).toArray.foldl (λn z=>n+z.length+sep.length) 0)=false:=by
  rw[e];unfold Y3B;exact decide_eq_false (by lia)
 refine call_meets Y3g (typeIs_str s sep t) PySem.F.entry_str_join (PySem.F.args_str_join_2 _ _) (meets_str_join_list sep t b l tl) ⟨⟨o,o1,o2,n,o3⟩,?_⟩
 have fin:(Made.str (Y11 sep (l.map (·.1)))).post (λv s'=>EP X pins σ Q v s') s:=by
  rw[e]
  exact⟨z2,.str _,H,I.tok _,⟨_,rfl⟩,q⟩
 match l,e,fin with
 |[],_,fin=>exact fin
 |[p],e,fin=>
  refine⟨.str p.1,H,I,⟨_,rfl⟩,?_⟩
  have e2:ss=[p.1]:=e.symm
  rw[e2]at q
  exact q
 |_::_::_,_,fin=>exact fin
end
end L2
namespace L2
open PySem PySem.Spec PyProof.Rows
section
variable{X:Cx}
end
end L2
namespace L2
open PySem PySem.Spec PyProof.Rows
section
variable{X:Cx}{pins:List (Addr×Obj)}{σ:St}{H:Hp}{s:Shared}
theorem mut_no{H:Hp}{a b:Addr}{u v:HO}(e:H a=some u)(mu:Mut (some u))(q:H b=some v)(nv:¬Mut (some v)):b≠a:=by
 intro z;subst z;rw[e]at q;cases q;exact nv mu
theorem Inv.freeze(I:Inv X pins σ H s){a:Addr}{u:HO}{o:Obj}(e:H a=some u)(mu:Mut (some u))(ho:s.heap.get? a=some o):Inv X pins σ (upd H a (.frz o u)) s:=by
 have nn:∀b,H b=none->b≠a:=λb n z=>by subst z;rw[e]at n;cases n
 refine I.step (h':=s.heap) (g':=s.gens) (t':=s.toks) (d':=s.drawn) (ch:=[]) (λ_ z=>nomatch z) (λb o _ _ _ q _=>q) (λb o _ _ _ q _=>⟨o.slots,q⟩) (λb o _ _ n=>by rw[Z0e (nn b n)];exact n) (λb o _ q=>⟨o,q⟩)
  (λb xs q=>by rw[Z0e (mut_no e mu q λz=>z)];exact q) (λb o u q=>by rw[Z0e (mut_no e mu q λz=>z)];exact q) (λb ps q=>⟨#[],by rw[Z0e (mut_no e mu q λz=>z),q];simp⟩) (λm h=>h) (λb v q=>?_) I.bare
 have st:∀{c:Addr} {y:HO},ObjOk X.prog X.w H s.heap c y->ObjOk X.prog X.w (upd H a (.frz o u)) s.heap c y:=λx=>
  x.stay (λc v _ q=>q) (λc q=>by rw[Z0e (mut_no e mu q λz=>z)];exact q) λc xs q=>by rw[Z0e (mut_no e mu q λz=>z)];exact q
 by_cases hb:b=a
 ·subst hb;rw[Z1F]at q;cases q
  exact⟨ho,st (I.hok b u e)⟩
 ·rw[Z0e hb]at q
  exact st (I.hok b v q)
noncomputable def Thw(X:Cx)(H H':Hp):Prop:=H'=H\/∃a o u,H a=some (.frz o u)/\Mut (some u)/\(∀o' u',X.H₀ a≠some (.frz o' u'))/\H'=upd H a u
theorem Inv.thaw(I:Inv X pins σ H s){H':Hp}(t:Thw X H H'):Inv X pins σ H' s:=by
 rcases t with rfl|⟨a,o,u,e,mu,nf,rfl⟩
 ·exact I
 have ne:∀{b:Addr} {y:HO},H b=some y->y≠.frz o u->b≠a:=fun{b y} q n z=>by subst z;rw[e]at q;cases q;exact n rfl
 have nn:∀b,H b=none->b≠a:=λb n z=>by subst z;rw[e]at n;cases n
 have st:∀{c:Addr} {y:HO},ObjOk X.prog X.w H s.heap c y->ObjOk X.prog X.w (upd H a u) s.heap c y:=λx=>
  x.stay (λc v _ q=>q) (λc q=>by rw[Z0e (ne q (λz=>by cases z))];exact q) λc xs q=>by rw[Z0e (ne q (λz=>by cases z))];exact q
 refine⟨I.ok,I.os,I.bare,⟨I.base.keep,I.base.slot,λb ob q n hx=>?_,I.base.there,λb xs q=>?_,λb o' u' q=>?_,λb ps q=>?_⟩,I.loc,I.cell,?_,λx c q=>?_,λp hp=>?_,λb v q=>?_,I.len⟩
 ·have:=I.base.free b ob q n hx
  rw[Z0e (nn b this)];exact this
 ·have:=I.base.tups b xs q
  rw[Z0e (ne this (λz=>by cases z))];exact this
 ·rw[Z0e (λz=>by subst z;exact nf o' u' q)]
  exact I.base.frzs b o' u' q
 ·obtain⟨m,h⟩:=I.base.tbls b ps q
  exact⟨m,by rw[Z0e (ne h (λz=>by cases z))];exact h⟩
 ·rw[Z0e (nn _ I.free)];exact I.free
 ·rw[Z0e (nn _ (I.freeC x c q))];exact I.freeC x c q
 ·obtain⟨h1,h2,h3⟩:=I.pin p hp
  exact⟨h1,by rw[Z0e (nn _ h2)];exact h2,h3⟩
 ·by_cases hb:b=a
  ·subst hb;rw[Z1F]at q;cases q
   exact st (I.hok b _ e).2
  ·rw[Z0e hb]at q
   exact st (I.hok b v q)
theorem Inv.nofrz(I:Inv X pins σ H s){a:Addr}{u:HO}(e:H a=some u)(mu:Mut (some u)):∀o' u',X.H₀ a≠some (.frz o' u'):=λo' u' z=>by
 have:=I.base.frzs a o' u' z
 rw[e]at this
 cases this
 exact mu
noncomputable def thwD(X:Cx)(D:Ends):Ends where
 nx:=λσ H=>∃H',Thw X H H'/\D.nx σ H'
 rt:=λv H=>∃H',Thw X H H'/\D.rt v H'
 bk:=λσ H=>∃H',Thw X H H'/\D.bk σ H'
 ct:=λσ H=>∃H',Thw X H H'/\D.ct σ H'
theorem PS.thaw{st:Stmt}{t:TS}(h:PS X st t):PS X st (λD σ H=>t (thwD X D) σ H):=by
 intro pins s σ H D I q
 refine thn (h pins s σ H _ I q) λf s' hf=>?_
 cases f with
 |next=>obtain⟨σ',H',I',H2,t2,d⟩:=hf;exact⟨σ',H2,I'.thaw t2,d⟩
 |brk=>obtain⟨σ',H',I',H2,t2,d⟩:=hf;exact⟨σ',H2,I'.thaw t2,d⟩
 |cont=>obtain⟨σ',H',I',H2,t2,d⟩:=hf;exact⟨σ',H2,I'.thaw t2,d⟩
 |ret u=>obtain⟨v,σ',H',I',r,H2,t2,d⟩:=hf;exact⟨v,σ',H2,I'.thaw t2,r,d⟩
theorem PE.thaw{e:Expr}{t:TE}(h:PE X e t):PE X e (λσ H Q=>t σ H λv H'=>∃H2,Thw X H' H2/\Q v H2):=by
 intro pins s σ H Q I q
 refine thn (h pins s σ H _ I q) λu s' ⟨v,H',I',r,H2,t2,d⟩=>⟨v,H2,I'.thaw t2,r,d⟩
noncomputable def Itd(a:Addr)(o:Obj):It where
 go:=λi H=>∃kvs,H a=some (.frz o (.dK kvs))/\i<kvs.length
 yld:=λi H x H'=>H'=H/\∀kvs,H a=some (.frz o (.dK kvs))->∃k v,kvs[i]?=some (k,v)/\x=kV k
 stop:=λi H=>∃kvs,H a=some (.frz o (.dK kvs))/\kvs.length≤i
theorem dk_at{P:Program}{w:World}{h:Heap}{a:Addr}{o:Obj}{kvs:List (Key×V)}{es:Array DictEntry}{ep:Nat}(ok:HOk P w H h)(e:H a=some (.frz o (.dK kvs)))(hd:o.data=.dict es ep):
  ∃vs,KV kvs vs/\h.DictAt (Z0Q P w) a vs ep/\vs.length=es.size:=by
 obtain⟨ho,z,_,vs,rel,o',es',ep',ho',r1,r2,r3⟩:=ok a _ e
 rw[ho]at ho';cases ho'
 rw[hd]at r2
 injection r2 with e1 e2
 subst e1 e2
 exact⟨vs,rel,⟨o,es,ho,r1,hd,r3⟩,by rw[<- r3.2.1.length];simp⟩
theorem kv_len{kvs:List (Key×V)}{vs:List (Key×Value)}(r:KV kvs vs):kvs.length=vs.length:=by
 induction r with
 |nil=>rfl
 |cons _ _ ih=>rw[Y0q,Y0q,ih]
theorem kv_get{kvs:List (Key×V)}{vs:List (Key×Value)}(r:KV kvs vs):∀{i:Nat} {k:Key} {v:V},kvs[i]?=some (k,v)->∃u,vs[i]?=some (k,u)/\RelV v u:=by
 induction r with
 |nil=>intro i k v h;cases h
 | @cons p p' _ _ q _ ih=>
  intro i k v h
  cases i with
  |zero=>
   cases h
   obtain⟨k2,x2⟩:=p'
   have e1:k=k2:=q.1
   subst e1
   exact⟨x2,rfl,q.2⟩
  |succ i=>exact ih (i:=i) h
theorem key_rel{P:Program}{w:World}{k:Key}{u:Value}(h:(Z0Q P w).is k u=true):RelV (kV k) u:=by
 rcases Z0z h with⟨i,t,rfl,rfl⟩|⟨x,t,rfl,rfl⟩
 ·exact⟨t,rfl⟩
 ·exact⟨t,rfl⟩
theorem wpAny_pyIter_keyiter{P:Program}{w:World}{A:Around}{E:Value->Shared->Prop}{s:Shared}{it d:Addr}{i n ep:Nat}{Q:Value->Shared->Prop}(hit:s.heap.IsKeyIter it d i n ep)(h:Q (.ref it) s):
  wpAny (model P w) A (pyIter (.ref it)) Q E s:=by
 refine wpAny_pyIter_slot hit.typeIs Y27 (wpAny_call_entry Y27 hit.typeIs PySem.F.entry_dict_keyiterator_iter ?_ (PySem.F.args_dict_keyiterator_iter_1 _))
 show wpAny _ _ (ret (.ref it)) _ _ s
 exact wpAny_pure ⟨_,rfl,"dict_keyiterator",_,hit.typeIs,PySem.F.slot_dict_keyiterator_next.lookup,h⟩
theorem turn_dict{P:Program}{w:World}{K:Y00}{tg:Expr}(a it:Addr)(o:Obj)(es:Array DictEntry)(ep:Nat)(hd:o.data=.dict es ep):Turn P w K tg (Itd a o) [it] it (λi h=>h.IsKeyIter it a i es.size ep)where
 mem:=by simp
 obj:=λi h st b hb=>by
  have e:b=it:=by simpa using hb
  subst e
  obtain⟨o,e,c,d⟩:=st
  exact⟨o,e,λv z=>by rw[d]at z;cases z⟩
 keep:=λi h h' st k=>by
  obtain⟨o,e,c,d⟩:=st
  exact⟨o,k it (by simp) o e,c,d⟩
 item:=by
  intro X hP hw hK hc i pins s σ H E I hf st hg
  subst hP hw hK
  obtain⟨kvs,hq,hx⟩:=hg
  obtain⟨vs,rel,da,hl⟩:=dk_at I.hok hq hd
  obtain⟨⟨k,v⟩,hk⟩:∃p,kvs[i]?=some p:=⟨_,Y02 hx⟩
  obtain⟨u,hu,ru⟩:=kv_get rel hk
  obtain⟨f0,f1,f2,f3,f4,f5⟩:=hf it (by simp)
  rw[<- hl]at st
  refine wpAny_pyNext_dict_item st da hu λkey h' hkey st' sb=>?_
  have I1:Inv X pins σ H {s with heap:=h'}:=I.turned (t':=s.toks) (λb o hb e=>(sb.2 b hb).trans e) f0 f1 f3 f4 f5
  rw[hl]at st'
  obtain⟨o',e,c,d⟩:=id st'
  exact⟨key,rfl,go_of (s:={s with heap:=h'}) e c d (by decide) ⟨kV k,H,I1,key_rel hkey,⟨rfl,λkvs' e'=>by rw[hq]at e';cases e';exact⟨k,v,hk,rfl⟩⟩,st',λb hb=>(hf b hb).1⟩⟩
 done:=by
  intro X hP hw hK hc i pins s σ H E I hf st hg
  subst hP hw hK
  obtain⟨kvs,hq,hx⟩:=hg
  obtain⟨vs,rel,da,hl⟩:=dk_at I.hok hq hd
  obtain⟨f0,f1,f2,f3,f4,f5⟩:=hf it (by simp)
  rw[kv_len rel]at hx
  rw[<- hl]at st
  exact wpAny_pyNext_dict_end (I.ok.hd hc) st da (List.getElem?_eq_none_iff.mpr hx) λh' eb=>⟨rfl,I.turned (t':=s.toks) (λb o hb e=>eb b o hb e) f0 f1 f3 f4 f5⟩
 self:=λ_ _ _ _ _ st h=>wpAny_pyIter_keyiter st h
theorem pi_dict1{tg:Expr}{R:It->Hp->Prop}{E:Value->Shared->Prop}{a:Addr}{kvs:List (Key×V)}(I:Inv X pins σ H s)(e:H a=some (.dK kvs))(q:∀o,(∀o' u',X.H₀ a≠some (.frz o' u'))->R (Itd a o) (upd H a (.frz o (.dK kvs)))):
  wpAny (model X.prog X.w) X.A (pyIter (.ref a)) (PIE X pins σ tg R) E s:=by
 obtain⟨z,hm,vs,rel,o,es,ep,ho,r1,r2,r3⟩:=I.hok a _ e
 have I1:=I.freeze e trivial ho
 have nf:=I.nofrz e trivial
 refine wpAny_pyIter_dict hm (⟨o,es,ho,r1,r2,r3⟩:s.heap.DictAt (Z0Q X.prog X.w) a vs ep) ?_
 refine⟨s.heap.objs.size,[s.heap.objs.size],_,_,upd H a (.frz o (.dK kvs)),rfl,I1.kept (t':=s.toks) λb o e=>Y01 _ e,turn_dict a _ o es ep r2,?_,λb hb=>?_,q o nf⟩
 ·have hl:es.size=vs.length:=by rw[<- r3.2.1.length];simp
  rw[hl]
  exact⟨_,Y0a _ rfl,rfl,rfl⟩
 ·have e:b=s.heap.objs.size:=by simpa using hb
  subst e
  exact I1.fpOk (Y09 _) (I1.hok.fresh (Y09 _))
end
end L2
namespace L2
open PySem PySem.Spec PyProof.Rows
section
variable{prog:Program}{w:World}{A:Around}{E:Value->Shared->Prop}{s:Shared}{a₀:Array Keyed}
end
section
variable{X:Cx}
end
end L2
namespace L2
open PySem PySem.Spec PyProof.Rows
structure Mrk (t t':SetTable):Prop where
 led:t'.led=t.led
 plain:t.plain=false->t'.plain=false
theorem Mrk.refl(t:SetTable):Mrk t t:=⟨rfl,id⟩
theorem Mrk.trans{a b c:SetTable}(x:Mrk a b)(y:Mrk b c):Mrk a c:=⟨y.led.trans x.led,λh=>y.plain (x.plain h)⟩
theorem Mrk.standIn(t:SetTable)(n:Nat):Mrk t (t.standIn n):=⟨rfl,λ_=>rfl⟩
theorem Mrk.orStandIn(t:SetTable)(n:Nat):Mrk t (t.orStandIn n):=by
 unfold SetTable.orStandIn
 split
 ·exact .refl t
 ·exact .standIn t n
theorem Mrk.lay(t:SetTable)(es:Array (Int×Value))(k:Int)(x:Value):Mrk t (layNew t es k x).2.1:=by
 unfold layNew
 split
 ·exact Mrk.trans (b:=(t.put _).1) ⟨rfl,id⟩ (.orStandIn _ _)
 ·exact .standIn t _
theorem Mrk.relaid{t t':SetTable}{hs:Array Int}{n:Nat}{od:Array Nat}(h:t.relaid hs n=some (t',od)):Mrk t t':=by
 unfold SetTable.relaid SetTable.laid at h
 cases hl:SetTable.layClean (SetTable.sizeAbove n - 1) hs with
 |none=>rw[hl]at h;simp at h
 |some ow=>
  rw[hl]at h
  simp only[Option.bind_eq_bind,Option.bind_some,Option.pure_def,Y2i,Prod.mk.injEq]at h
  obtain⟨rfl,_⟩:=h
  exact⟨rfl,id⟩
theorem Mrk.relay(t:SetTable)(es:Array (Int×Value))(n:Nat):Mrk t (relayAll t es n).2.1:=by
 unfold relayAll
 split
 ·rename_i hr
  dsimp only
  split
  ·exact .relaid hr
  ·exact .standIn t _
 ·exact .standIn t _
noncomputable def txt:Value->Str
 |.str x _=>x
 |_=>⟨#[]⟩
noncomputable def met1(zs:List Str)(x:Str):List Str:=if x∈zs then zs else zs++[x]
noncomputable def met(f:Nat->Str):Nat->List Str
 |0=>[]
 |i+1=>met1 (met f i) (f i)
theorem met1_nodup{zs:List Str}(h:zs.Nodup)(x:Str):(met1 zs x).Nodup:=by
 unfold met1
 split
 ·exact h
 ·rename_i n
  rw[Y1S]
  exact⟨h,by simp,λa ha b hb=>by rw[Y0O]at hb;subst hb;exact λe=>n (e▸ha)⟩
theorem met_nodup(f:Nat->Str):∀i,(met f i).Nodup
 |0=>.nil
 |i+1=>met1_nodup (met_nodup f i) _
theorem met1_mem{zs:List Str}{x y:Str}:y∈met1 zs x↔y∈zs\/y=x:=by
 unfold met1
 split
 ·rename_i h
  exact⟨.inl,λz=>z.elim id λe=>e▸h⟩
 ·simp
theorem met_mem{f:Nat->Str}{y:Str}:∀i,y∈met f i↔∃j,j<i/\f j=y
 |0=>by simp[met]
 |i+1=>by
  unfold met
  rw[met1_mem,met_mem i]
  constructor
  ·rintro(⟨j,hj,e⟩|e)
   ·exact⟨j,by lia,e⟩
   ·exact⟨i,by lia,e.symm⟩
  ·rintro⟨j,hj,e⟩
   by_cases z:j=i
   ·subst z;exact .inr e.symm
   ·exact .inl ⟨j,by lia,e⟩
theorem met_len(f:Nat->Str):∀i,(met f i).length≤i
 |0=>Y09 _
 |i+1=>by
  have:=met_len f i
  unfold met met1
  split
  ·lia
  ·rw[Y0o];simp;lia
section
variable{prog:Program}{w:World}{A:Around}{E:Value->Shared->Prop}{s:Shared}
noncomputable def WSet(prog:Program)(w:World)(o:Obj)(zs:List Str):Prop:=
 o.ExactSet/\∃es ep t,o.data=.set es ep t/\ElemsOf (strKind prog w) es.toList/\(es.toList.map λe=>txt e.2).Perm zs/\es.size<scanBound/\t.fits es.size=true
  /\t.led=(!w.params.followText "set-order")/\(zs≠ []->t.plain=false)
theorem WSet.fresh:WSet prog w {cls:=.type "set",dict:=none,data:=.set #[] 0 (.fresh 0 0 (!w.params.followText "set-order"))} []:=
 ⟨⟨rfl,rfl,rfl⟩,#[],0,_,rfl,λe he=>by simp at he,by simp,by decide,by rfl,rfl,λh=>absurd rfl h⟩
theorem isT{k:Str}{v:Value}:(strKind prog w).is k v=true↔∃t,v=.str k t:=by
 constructor
 ·exact λh=>Value.isStrOf_shape h
 ·rintro⟨t,rfl⟩
  exact strKind_is prog w k t
theorem WSet.mem{es:Array (Int×Value)}{zs:List Str}(he:ElemsOf (strKind prog w) es.toList)(hp:(es.toList.map λe=>txt e.2).Perm zs)(k:Str):
  k∈zs↔∃e∈es.toList,(strKind prog w).is k e.2=true:=by
 rw[<- hp.mem_iff,Y0E]
 constructor
 ·rintro⟨e,hm,q⟩
  refine⟨e,hm,isT.mpr ?_⟩
  obtain⟨⟨k',hk,_⟩,_⟩:=he e hm
  obtain⟨t,ht⟩:=isT.mp hk
  rw[ht]at q ⊢
  exact⟨t,by rw[<- q];rfl⟩
 ·rintro⟨e,hm,q⟩
  obtain⟨t,ht⟩:=isT.mp q
  exact⟨e,hm,by rw[ht];rfl⟩
theorem tset_store{h:Heap}{a:Addr}{o:Obj}{es:Array (Int×Value)}{ep:Nat}{t:SetTable}(ho:h.get? a=some o)(hd:o.data=.set es ep t)(es':Array (Int×Value))(t':SetTable):
  (h.update a (Obj.putSet es' t')).get? a=some {o with data:=.set es' (ep+1) t'}:=by
 have z:=Y1f (Obj.putSet es' t') ho (by rw[putSet_of es' t' hd];rfl)
 rwa [putSet_of es' t' hd]at z
theorem tset_tail{g:Bool->Sem Unit}(hg:∀(b:Bool) (s₁:Shared) (Q':Unit->Shared->Prop),Q' () s₁->wpAny (model prog w) A (g b) Q' E s₁)
  {a:Addr} {o:Obj} {es:Array (Int×Value)} {ep:Nat} {t:SetTable} (ho:s.heap.get? a=some o) (hex:o.ExactSet) (hd:o.data=.set es ep t)
  {es1:Array (Int×Value)} {t2:SetTable} {zs:List Str} (hel:ElemsOf (strKind prog w) es1.toList) (hp:(es1.toList.map λe=>txt e.2).Perm zs) (hb:es1.size<scanBound)
  (hf:t2.fits es1.size=true) (hled:t2.led=(!w.params.followText "set-order")) (hpl:t2.plain=false) {was:Bool} {R:Option Bool->Shared->Prop}
  (h:∀h' o',Y1N a s.heap h'->h'.get? a=some o'->WSet prog w o' zs->R (some true) {s with heap:=h'}):
  wpAny (model prog w) A (do
    storeSet a es1 t2
    if(!was&&t2.tooFull)=true then do
      g (relayAll t2 es1 (Y1K es1.size)).2.2
      storeSet a (relayAll t2 es1 (Y1K es1.size)).1 (relayAll t2 es1 (Y1K es1.size)).2.1
      pure (some true)
     else pure (some true)) R E s:=by
 refine wpAny_bind (wpAny_storeSet_of ho hd ?_ (fits_of_scanBound hb))
 have ho1:=tset_store ho hd es1 t2
 split
 ·have hp2:=relayAll_perm t2 es1 (Y1K es1.size)
  have hf2:=relayAll_fits t2 es1 (Y1K es1.size)
  have hm:=Mrk.relay t2 es1 (Y1K es1.size)
  generalize relayAll t2 es1 (Y1K es1.size)=Rl at hp2 hf2 hm ⊢
  obtain⟨es2,t3,gv⟩:=Rl
  dsimp only at hp2 hf2 hm ⊢
  have hz:es2.size=es1.size:=by rw[<- Y0g,hp2.length_eq,Y0g]
  refine wpAny_bind (hg _ _ _ ?_)
  refine wpAny_bind (wpAny_storeSet_of ho1 rfl ?_ (fits_of_scanBound (by lia)))
  exact wpAny_pure (h _ _ ((Y0Y _ a _).trans (Y0Y _ a _)) (tset_store ho1 rfl es2 t3)
   ⟨hex,es2,_,t3,rfl,hel.perm hp2,(hp2.map _).trans hp,by lia,hf2,hm.led.trans hled,λ_=>hm.plain hpl⟩)
 ·exact wpAny_pure (h _ _ (Y0Y _ a _) ho1 ⟨hex,es1,_,t2,rfl,hel,hp,hb,hf,hled,λ_=>hpl⟩)
theorem tset_add{a:Addr}{o:Obj}{zs:List Str}{x:Str}{tk:Tok}{Q:Bool->Shared->Prop}(ho:s.heap.get? a=some o)(hS:WSet prog w o zs)(hroom:zs.length+1<scanBound)
  (h:∀b h' o',Y1N a s.heap h'->h'.get? a=some o'->WSet prog w o' (met1 zs x)->Q b {s with heap:=h'}):
  wpAny (model prog w) A (setAddHashed a (.str x tk) ((strKind prog w).hash x)) Q E s:=by
 obtain⟨hex,es,ep,t,hd,hel,hp,hb,hf,hled,hpl⟩:=id hS
 have hkey:(strKind prog w).is x (.str x tk)=true:=strKind_is prog w x tk
 have hlen:es.size=zs.length:=by rw[<- hp.length_eq,Y03,Y0g]
 unfold setAddHashed setAddHashedIn
 refine wpAny_holding (wpAny_bind (wpAny_setState_of ho hd hf ?_))
 dsimp only
 rw[byScan_of (x:=.str x tk) rfl hb hel]
 simp only[↓reduceIte]
 unfold setAddByScan
 refine wpAny_bind (wpAny_bind (wpAny_rule (wpAny_bind (wpAny_setScan_of hkey ho hd hf hel ?_))))
 have hmem:=WSet.mem hel hp x
 cases hr:List.findIdx? (λe=>(strKind prog w).is x e.2) es.toList with
 |some j=>
  dsimp only
  obtain⟨hj,hpj,_⟩:=List.findIdx?_eq_some_iff_getElem.mp hr
  have hx:x∈zs:=hmem.mpr ⟨_,Y0u hj,hpj⟩
  refine wpAny_pure (wpAny_pure ?_)
  have:=h false s.heap o (Heap.SameBut.refl a s.heap) ho (by unfold met1;rw[if_pos hx];exact hS)
  cases s
  exact this
 |none=>
  dsimp only
  have hx:x∉zs:=λz=>by
   obtain⟨e,he,q⟩:=hmem.mp z
   have:=List.findIdx?_eq_none_iff.mp hr e he
   rw[q]at this
   exact Bool.noConfusion this
  have hz:met1 zs x=zs++[x]:=by unfold met1;rw[if_neg hx]
  have hl:=layNew_perm t es ((strKind prog w).hash x) (.str x tk)
  have hlf:=layNew_fits t es ((strKind prog w).hash x) (.str x tk)
  have hm:=Mrk.lay t es ((strKind prog w).hash x) (.str x tk)
  generalize layNew t es ((strKind prog w).hash x) (.str x tk)=L at hl hlf hm ⊢
  obtain⟨es1,t1,was,gave⟩:=L
  dsimp only at hl hlf hm ⊢
  rw[Array.toList_push]at hl
  have hel1:ElemsOf (strKind prog w) es1.toList:=(hel.push hkey rfl).perm hl
  have hp1:(es1.toList.map λe=>txt e.2).Perm (met1 zs x):=by
   rw[hz]
   refine(hl.map _).trans ?_
   rw[Y0Z]
   exact hp.append (.refl _)
  have hb1:es1.size<scanBound:=by rw[<- Y0g,hl.length_eq,Y0o,Y0g];simp;lia
  have gw:∀(b:Bool) (s₁:Shared) (Q':Unit->Shared->Prop),Q' () s₁->wpAny (model prog w) A (match b with|true=>rule "set.scan.the-table-gave-way"|false=>pure ()) Q' E s₁:=
   λb s₁ Q' hq=>by cases b<;>first|exact wpAny_pure hq|exact wpAny_rule hq
  refine wpAny_bind (gw _ _ _ ?_)
  have fin:∀h' o',Y1N a s.heap h'->h'.get? a=some o'->WSet prog w o' (met1 zs x)->Q true {s with heap:=h'}:=λh' o' a1 a2 a3=>h true h' o' a1 a2 a3
  split
  ·rw[hashByValue_scannable 8 (x:=.str x tk) rfl]
   refine wpAny_bind (wpAny_pure ?_)
   refine tset_tail gw ho hex hd hel1 hp1 hb1 (t2:={t1 with plain:=false}) (SetTable.fits_plain_off hlf) (hm.led.trans hled) rfl ?_
   intro h' o' a1 a2 a3
   exact wpAny_pure (fin h' o' a1 a2 a3)
  ·rename_i np
   refine wpAny_bind (wpAny_pure ?_)
   simp only[↓reduceIte]
   refine tset_tail gw ho hex hd hel1 hp1 hb1 hlf (hm.led.trans hled) (by simpa using np) ?_
   intro h' o' a1 a2 a3
   exact wpAny_pure (fin h' o' a1 a2 a3)
theorem tset_loop{R:Result->Shared->Prop}{I:Addr}{fp wr:List Addr}{G:Array GenState->Array GenState->Prop}{n:Nat}{P:Nat->Value->Prop}{St:Nat->Shared->Prop}
  (W:WalksS prog w A.in1 I fp wr G n P St) (S:Addr) (hSf:S∉fp) (f:Nat->Str) (hval:∀i v,P i v->∃t,v=.str (f i) t) (hb:n+1<scanBound):
  ∀(k i:Nat) (s:Shared) (o:Obj),n - i=k->i≤n->St i s->s.heap.get? S=some o->WSet prog w o (met f i)->
   (∀s' o',Moved (S::wr) G s s'->s'.heap.get? S=some o'->WSet prog w o' (met f n)->R (.ok (.ret .none)) s')->
   codeAny (model prog w) A (.builtin "set.update.loop" ⟨[.ref S,.ref I],[]⟩) R s:=by
 have hSw:S∉wr:=λh=>hSf (W.sub _ h)
 have hsub:∀b∈wr,b∈S::wr:=λb hb=>Y0c _ hb
 intro k
 induction k with
 |zero=>
  intro i s o hk hi hst ho hS hR
  have hin:i=n:=by lia
  subst hin
  refine codeAny_builtin F.entry_set_update_loop ?_
  rw[Y0J F.plain_set_update_loop _]
  show wpAny _ A.in1 (pyNext (.ref I)>>= _) _ _ s
  refine wpAny_bind (W.done s _ _ hst λs' hm=>?_)
  exact wpAny_pure (hR s' o (hm.mono hsub) (hm.heap S _ hSw ho) hS)
 |succ k ih=>
  intro i s o hk hi hst ho hS hR
  have hlt:i<n:=by lia
  refine codeAny_builtin F.entry_set_update_loop ?_
  rw[Y0J F.plain_set_update_loop _]
  show wpAny _ A.in1 (pyNext (.ref I)>>= _) _ _ s
  refine wpAny_bind (W.item i s _ _ hlt hst λv s' hP hst' hm=>?_)
  obtain⟨t,rfl⟩:=hval i v hP
  have ho':=hm.heap S _ hSw ho
  show wpAny _ A.in1 (holding [Y0r (f i) t] (setAdd S (.str (f i) t))>>= _) _ _ s'
  refine wpAny_bind (wpAny_holding ?_)
  unfold setAdd
  refine wpAny_holding (wpAny_bind ((strKind prog w).pyHash (k:=f i) (strKind_is prog w _ _) ?_))
  refine tset_add (s:={s' with toks:=s'.toks+1}) ho' hS (by have:=met_len f i;lia) λb h' o' hsb ho2 hS2=>?_
  refine wpAny_pure ⟨plainId_quiet F.plain_set_update_loop _,ih (i+1) _ o' (by lia) hlt (W.frame _ s' _ _ hst' (Y3C _) λb hb o e=>?_) ho2 hS2 λs'' o'' hm'' ho'' hS''=>?_⟩
  ·rw[hsb.2 b (λz:b=S=>hSf (by rw[<- z];exact hb))];exact e
  ·refine hR s'' o'' (Moved.trans W.gtrans ((hm.mono hsub).then_heap (Y3C _) λb o hb e=>?_) hm'') ho'' hS''
   rw[hsb.2 b (λz:b=S=>hb (by rw[z];exact Y0l))];exact e
noncomputable def Z10(w:World):Obj:={cls:=.type "set",dict:=none,data:=.set #[] 0 (.fresh 0 0 (!w.params.followText "set-order"))}
theorem tset_new(a:Value){Q₁:Value->Shared->Prop}(h:Q₁ (.ref s.heap.objs.size) {s with heap:=s.heap.push (Z10 w)}):
  codeAny (model prog w) A (.call (.builtin "set.__new__") ⟨[.type "set",a],[]⟩) (wants Q₁ E) s:=by
 refine codeAny_of_tree ?_
 show wpAny _ A.in1 (do checkBuiltinCall "set.__new__" ⟨[.type "set",a],[]⟩;again (.builtin "set.__new__" ⟨[.type "set",a],[]⟩)) _ _ s
 refine wpAny_bind (wpAny_of_eq (F.newCall_set_1 a) (wpAny_pure ⟨plainId_quiet F.plain_set_new _,codeAny_builtin F.entry_set_new ?_⟩))
 rw[Y0J F.plain_set_new _]
 unfold Builtin.«set.__new__» Builtin.Frozenset.newClass
 have hsub:=sub_set_self
 obtain⟨hp,g,d,tk,os⟩:=s
 dsimp only
 wp_walk
 refine wpAny_askSetting (wpAny_pure ?_)
 dsimp only
 simp only[newObj]
 refine wpAny_bind (wpAny_alloc (wpAny_pure ?_))
 exact wpAny_pure h
theorem call_setT{l:Addr}{items:Array Value}{f:Nat->Str}{Q:Value->Shared->Prop}
  (hh:A.handled=none) (hl:s.heap.IsList l items) (hi:∀(i:Nat) (v:Value),items[i]?=some v->∃t,v=Y0r (f i) t) (hb:items.size+1<scanBound)
  (h:∀(h':Heap) (tk:Nat) (o:Obj),h'.get? s.heap.objs.size=some o->WSet prog w o (met f items.size)->
   (∀b o,b<s.heap.objs.size->s.heap.get? b=some o->h'.get? b=some o)->Q (.ref s.heap.objs.size) {s with heap:=h',toks:=tk}):
  wpAny (model prog w) A (call (.type "set") [.ref l]) Q E s:=by
 obtain⟨c,tl,hmro⟩:=Y1Q.mro
 have hmade:=Y1Q.made
 have hsub:=Y1Q.sub
 refine wpAny_call (codeAny_of_tree ?_)
 show wpAny _ _ (callAny (.type "set") _) _ _ _
 refine wpAny_pure ⟨Code.quiet_builtin _ (by decide+kernel),codeAny_builtin F.entry_type_call ?_⟩
 rw[Around.under_plain (weight_type_call_type "set" [.ref l] []) rfl]
 have h1:=Y1Q.notType
 have h2:=Y1Q.canCreate
 have hct:=F.typeCall_set_1 (.ref l)
 repeat (any_goals (first|assumption|wp_step))
 refine codeAny_mono (tset_new (.ref l) (E:=E) (Q₁:=λobj s₁=>obj=.ref s.heap.objs.size/\s₁={s with heap:=s.heap.push (Z10 w)}) ⟨rfl,rfl⟩) λr s₁ hr=>?_
 cases r with
 |error e=>exact hr
 |ok fl=>
  cases fl with
  |ret obj=>
   obtain⟨rfl,rfl⟩:=hr
   have hS:(s.heap.push (Z10 w)).get? s.heap.objs.size=some (Z10 w):=Y0a _ rfl
   have hT:Y2r {s with heap:=s.heap.push (Z10 w)} (.ref s.heap.objs.size) "set":=⟨_,hS,rfl⟩
   have hli:=Y1Q.init.lookup
   have hbi:=Y1Q.init.bind (.ref s.heap.objs.size)
   repeat (any_goals (first|assumption|wp_step))
   refine codeAny_mono (codeAny_call_builtin (R:=wants (λr s₂=>r=.none/\∃h' tk o,s₂={s with heap:=h',toks:=tk}/\
     h'.get? s.heap.objs.size=some o/\WSet prog w o (met f items.size)/\
     (∀b o,b<s.heap.objs.size->s.heap.get? b=some o->h'.get? b=some o)) E) Y1Q.init.plain F.entry_set_init (check_set_init_1 hT ?_)) λr₂ s₂ hr₂=>?_
   ·obtain⟨ol,hol,hcl,nl,hdl⟩:=hl
    obtain⟨ocls,odict,odata,oslots⟩:=ol
    simp only at hcl hdl
    subst hcl;subst hdl
    have hol':(s.heap.push (Z10 w)).get? l=some {cls:=.type "list",dict:=odict,data:=.seq items nl,slots:=oslots}:=Y01 _ hol
    have hsls:=F.sub_list_set
    have hslf:=F.sub_list_frozenset
    have hne:(Y0n "list"==Y0n "dict")=false:=by decide
    have hl1:(s.heap.push (Z10 w)).IsList l items:=⟨_,hol',rfl,nl,rfl⟩
    unfold Builtin.«set.__init__» noKeywords Builtin.Frozenset.updateFrom
    generalize hPI:pyIter=PI
    wp_walk
    subst hPI
    refine wpAny_pyIter_list hl1 ?_
    refine wpAny_bind (wpAny_runValue ?_)
    have hlS:l<s.heap.objs.size:=Y08 hol
    have hneI:l≠(s.heap.push (Z10 w)).objs.size:=by
     rw[Y1l];exact Y0f (Y1m hlS)
    have hSf:s.heap.objs.size∉ [(s.heap.push (Z10 w)).objs.size,l]:=by
     rw[Y1l]
     simp only[Y05,Y0e,or_false,not_or]
     exact⟨Y0f (Nat.lt_succ_self _),Y21 hlS⟩
    refine tset_loop ((Walks.list (A:=A.in1.in1.in1) (by simp[hh]) _ l hneI items).toS) s.heap.objs.size
     hSf f hi hb (items.size - 0) 0 _ (Z10 w) (by lia) (Y1x _)
     ⟨⟨_,Y0a _ rfl,rfl,rfl⟩,(hl1.push _)⟩ (Y01 _ hS) WSet.fresh ?_
    intro s' o' hm ho' hS'
    obtain⟨h',g',d',tk',os'⟩:=s'
    have eg:g'=s.gens:=hm.gens
    have ed:d'=s.drawn:=hm.drawn
    have eo:os'=s.os:=hm.os
    subst eg;subst ed;subst eo
    refine wpAny_pure (wpAny_pure ⟨rfl,h',tk',o',rfl,ho',hS',λb o hb e=>?_⟩)
    refine hm.heap b o ?_ (Y01 _ (Y01 _ e))
    simp only[Y05,Y0e,or_false,not_or]
    exact⟨Y0f hb,by rw[Y1l];exact Y0f (Y1m hb)⟩
   ·cases r₂ with
    |error e=>exact hr₂
    |ok fl₂=>
     cases fl₂ with
     |ret r=>
      obtain⟨rfl,h',tk,o',rfl,ho',hS',hk'⟩:=hr₂
      repeat (any_goals (first|assumption|wp_step))
      exact h _ _ _ ho' hS' hk'
     |_=>exact hr₂.elim
  |_=>exact hr.elim
end
end L2
namespace L2
open PySem PySem.Spec PyProof.Rows
theorem slot_setiter_next:Slot "set_iterator" "__next__" "set_iterator.__next__":=
 .of (owner:="set_iterator") (n:="__next__") (by rw[typeLookup_type,builtinLookup_eq_fast];kernel_rfl) (by decide+kernel) (by decide+kernel) (by decide+kernel)
  (by first|exact .inl (by decide+kernel)|exact .inr (by decide+kernel)) (by rw[isSubtype_type];kernel_rfl)
theorem slot_setiter_iter:Slot "set_iterator" "__iter__" "set_iterator.__iter__":=
 .of (owner:="set_iterator") (n:="__iter__") (by rw[typeLookup_type,builtinLookup_eq_fast];kernel_rfl) (by decide+kernel) (by decide+kernel) (by decide+kernel)
  (by first|exact .inl (by decide+kernel)|exact .inr (by decide+kernel)) (by rw[isSubtype_type];kernel_rfl)
theorem entry_setiter_next:entryFor table "set_iterator.__next__"=some Builtin.«set_iterator.__next__»:=entryFor_of_fast (by kernel_rfl)
theorem entry_setiter_iter:entryFor table "set_iterator.__iter__"=some Builtin.«dict_keyiterator.__iter__»:=
 entryFor_alias (id':="dict_keyiterator.__iter__") (by kernel_rfl) rfl (by decide+kernel) (by kernel_rfl)
theorem entry_set_iter:entryFor table "set.__iter__"=some Builtin.«frozenset.__iter__»:=
 entryFor_alias (id':="frozenset.__iter__") (by kernel_rfl) rfl (by decide+kernel) (by kernel_rfl)
theorem args_setiter_next(a:Value):argsOk "set_iterator.__next__" ⟨[a],[]⟩:=by unfold argsOk;kernel_rfl
theorem args_setiter_iter(a:Value):argsOk "set_iterator.__iter__" ⟨[a],[]⟩:=by unfold argsOk;kernel_rfl
theorem ers{α:Type}:∀(l:List α) (i:Nat) (h:i<l.length),(l[i]::l.eraseIdx i).Perm l
 |[],_,h=>absurd h (by simp)
 |x::xs,0,_=>.refl _
 |x::xs,i+1,h=>(List.Perm.swap x _ _).trans ((ers xs i (by simpa using h)).cons x)
section
variable{prog:Program}{w:World}{A:Around}{E:Value->Shared->Prop}{s:Shared}
theorem wp_chs{M:Model}{src:Source}{n:Nat}{Q:Nat->Shared->Prop}(hn:n≠0)(h:∀i d,i<n->Q i {s with drawn:=d}):wpAny M A (choose src n) Q E s:=λΓ p hΓ=>by
 unfold choose
 rw[Sem.wp_choose]
 exact⟨hn,by rw[Sem.wp_pure];exact h _ _ (Nat.mod_lt _ (Nat.pos_of_ne_zero hn))⟩
theorem wp_draw{M:Model}{α:Type}:∀(n:Nat) (xs:List α) (s:Shared) (Q:List α->Shared->Prop),xs.length=n->(∀ys d,ys.Perm xs->Q ys {s with drawn:=d})->wpAny M A (drawOrder n xs) Q E s:=by
 intro n
 induction n with
 |zero=>
  intro xs s Q hl h
  unfold drawOrder
  have:xs=[]:=Y2a.mp hl
  subst this
  exact wpAny_pure (h [] s.drawn (.refl _))
 |succ n ih=>
  intro xs s Q hl h
  cases xs with
  |nil=>simp at hl
  |cons x xs=>
   unfold drawOrder
   refine wpAny_bind (wp_chs (by simp) λi d hi=>?_)
   rw[Y02 hi]
   dsimp only
   refine wpAny_bind (ih _ _ _ (by rw[Y2B hi];lia) λys d' hp=>wpAny_pure ?_)
   have:(((x::xs)[i])::ys).Perm (x::xs):=((List.Perm.cons _ hp).trans (ers _ _ hi))
   exact h _ d' this
theorem pick_go{α:Type}(next:Nat->Nat):∀(n k:Nat) (left:List α) (out:Array α),left.length=n->(pickOrder.go next n k left out).toList.Perm (out.toList++left):=by
 intro n
 induction n with
 |zero=>
  intro k left out hl
  have:left=[]:=Y2a.mp hl
  subst this
  unfold pickOrder.go
  simp
 |succ n ih=>
  intro k left out hl
  unfold pickOrder.go
  have hi:next k%left.length<left.length:=Nat.mod_lt _ (by lia)
  rw[Y02 hi]
  dsimp only
  refine(ih _ _ _ (by rw[Y2B hi];lia)).trans ?_
  rw[Array.toList_push,Y1n]
  exact(List.Perm.refl _).append (by simpa using ers _ _ hi)
theorem pick_perm{α:Type}(next:Nat->Nat)(xs:Array α):(pickOrder next xs).toList.Perm xs.toList:=by
 unfold pickOrder
 simpa using pick_go next xs.size 0 xs.toList #[] (by simp)
end
end L2
namespace L2
open PySem PySem.Spec PyProof.Rows
section
variable{prog:Program}{w:World}{A:Around}{E:Value->Shared->Prop}{s:Shared}
noncomputable def SIt(h:Heap)(it S:Addr)(first:Value)(i n ep:Nat):Prop:=
 ∃o,h.get? it=some o/\o.cls=.type "set_iterator"/\o.data=.fields #[first,.int i 0,.ref S,.int n 0,.int ep 0]
theorem SIt.typeIs{it S:Addr}{first:Value}{i n ep:Nat}(x:SIt s.heap it S first i n ep):s.TypeIs (.ref it) "set_iterator":=let⟨o,ho,hc,_⟩:=x;⟨o,ho,hc⟩
theorem fld_put{h:Heap}{it:Addr}{o:Obj}{vs:Array Value}(ho:h.get? it=some o)(hd:o.data=.fields vs)(j:Nat)(v:Value):
  ∃o',(h.update it (Y3J (·.setIfInBounds j v))).get? it=some o'/\o'.cls=o.cls/\o'.data=.fields (vs.setIfInBounds j v):=
 ⟨_,Y1f _ ho (Y2m (Y2b hd _)),Y2T ..,Y2b hd _⟩
noncomputable def Nx(w:World)(S:Addr)(es:Array (Int×Value))(ep:Nat)(t:SetTable)(slot i:Nat):Option (Value×Nat):=
 if w.params.followText "set-order"=true then(pickOrder (w.params.setOrder S ep) es)[i]?.map fun e=>(e.2,slot)
 else match es[Y2K t.place slot]?,t.place[Y2K t.place slot]? with
  |some (_,x),some j=>some (x,j+1)
  |_,_=>none
theorem set_next{S:Addr}{i ep slot:Nat}{o:Obj}{es:Array (Int×Value)}{t:SetTable}{Q:Option (Value×Nat)->Shared->Prop}
  (hoS:s.heap.get? S=some o) (hdS:o.data=.set es ep t) (hf:t.fits es.size=true) (hw:w.params.followText "set-order"=true\/(es.size≤1/\t.led=true))
  (h:Q (Nx w S es ep t slot i) s):wpAny (model prog w) A (setNext S slot i ep) Q E s:=by
 unfold setNext
 refine wpAny_bind (wpAny_setState_of hoS hdS hf ?_)
 refine wpAny_bind (m:=setsByText) (wpAny_bind (wpAny_askSetting (wpAny_pure ?_)))
 show wpAny _ _ (if w.params.followText "set-order"=true then _ else _) _ _ _
 unfold Nx at h
 by_cases hb:w.params.followText "set-order"=true
 ·rw[if_pos hb]
  rw[if_pos hb]at h
  simp only[bne_self_eq_false,Y0m,if_false]
  refine wpAny_bind ?_
  unfold setWalk
  refine wpAny_bind (wpAny_setState_of hoS hdS hf ?_)
  refine wpAny_bind (m:=setsByText) (wpAny_bind (wpAny_askSetting (wpAny_pure ?_)))
  show wpAny _ _ (if w.params.followText "set-order"=true then _ else _) _ _ _
  rw[if_pos hb]
  refine wpAny_bind (wpAny_askSetting (wpAny_pure (wpAny_pure ?_)))
  exact h
 ·rw[if_neg hb]
  rw[if_neg hb]at h
  obtain⟨h1,h2⟩:=hw.resolve_left hb
  have hdr:(!t.plain&&decide (es.size>1))=false:=by
   rw[decide_eq_false (by lia),Y3v]
  show wpAny _ _ (if(!t.plain&&decide (es.size>1))=true then _ else _) _ _ _
  rw[hdr,if_neg Y04]
  refine wpAny_bind ?_
  show wpAny _ _ (if(!t.led&& !es.isEmpty)=true then _ else _) _ _ _
  rw[h2]
  simp only[Y1T,Y3s,Y0m,if_false]
  exact wpAny_pure (wpAny_pure h)
theorem sit_stop{it:Addr}{Q:Option Value->Shared->Prop}{h₁:Heap}(hh:A.handled=none)(hk:Y3D it s.heap h₁)
  (hQ:∀h',Y3D it s.heap h'->Q none {s with heap:=h'}):
  wpAny (model prog w) A.in1 (do let x<- newExc (.type "StopIteration") [];(raiseNew x:Sem Fin)) (fun fin s'=>∃v,fin=Fin.done (Flow.ret v)/\wpAny (model prog w) A (pure (some v)) Q E s')
   (fun e s'=>wpAny (model prog w) A (do let b<- isInstance e (.type "StopIteration");if b=true then pure none else throw e) Q E s') {s with heap:=h₁}:=by
 refine wpAny_bind ?_
 simp only[newExc,newTuple]
 refine wpAny_bind (wpAny_newObj_type ?_ (by size_fits))
 refine wpAny_bind (m:=firstArgMember _ _) (wpAny_of_eq (a:=Y0i) (by first|rfl|(simp only[firstArgMember];rfl)) ?_)
 refine wpAny_newObj_type ?_ (by size_fits)
 simp only[raiseNew]
 refine wpAny_bind (wpAny_handled ?_)
 rw[show A.in1.handled=none from hh]
 refine wpAny_bind (wpAny_pure (wpAny_throw ?_))
 refine wpAny_bind (wpAny_isInstance (T:="StopIteration") (b:=true) ⟨_,Y0a _ rfl,rfl⟩ isSubtype_stop ?_)
 exact wpAny_pure (hQ _ ((hk.push _).push _))
theorem sit_int{it S:Addr}{i n ep slot:Nat}{o:Obj}{es:Array (Int×Value)}{t:SetTable}{Q:Option Value->Shared->Prop}(hh:A.handled=none)
  (hit:SIt s.heap it S (.int slot 0) i n ep) (hoS:s.heap.get? S=some o) (hdS:o.data=.set es ep t) (hf:t.fits es.size=true) (hn:es.size=n)
  (hw:w.params.followText "set-order"=true\/(es.size≤1/\t.led=true))
  (h1:∀x nx,Nx w S es ep t slot i=some (x,nx)->∀h',SIt h' it S (.int nx 0) (i+1) n ep->Y1N it s.heap h'->Q (some x) {s with heap:=h'})
  (h2:Nx w S es ep t slot i=none->∀h',Y3D it s.heap h'->Q none {s with heap:=h'}):
  wpAny (model prog w) A (pyNext (.ref it)) Q E s:=by
 obtain⟨oi,hoi,hci,hdi⟩:=id hit
 unfold pyNext
 refine wpAny_bind (wpAny_attempt (wpAny_callSpecial?_slot (name:=Y0t "__next__") hit.typeIs slot_setiter_next
  (wpAny_call_entry slot_setiter_next hit.typeIs entry_setiter_next ?_ (args_setiter_next _))))
 show wpAny _ _ (fieldsOf (.ref it)>>= _) _ _ s
 refine wpAny_bind (wpAny_fieldsOf hoi hdi ?_)
 show wpAny _ _ (setEntries S >>= _) _ _ s
 refine wpAny_bind (wpAny_setEntries_of hoS hdS hf ?_)
 simp only[hn,bne_self_eq_false,Y0m,if_false]
 refine wpAny_bind (m:=setNext _ _ _ _) ?_
 simp only[Y1A]
 refine set_next hoS hdS hf hw ?_
 cases hx:Nx w S es ep t slot i with
 |none=>
  dsimp only
  refine wpAny_bind (wpAny_setField hoi hdi (by simp) ?_)
  exact sit_stop hh (Y0Y ..).extBut (h2 hx)
 |some p=>
  obtain⟨x,nx⟩:=p
  dsimp only
  obtain⟨o1,ho1,hc1,hd1⟩:=fld_put hoi hdi 0 (rawInt nx)
  refine wpAny_bind (wpAny_setField hoi hdi (by simp) ?_)
  refine wpAny_bind (wpAny_setField ho1 hd1 (by simp) ?_)
  obtain⟨o2,ho2,hc2,hd2⟩:=fld_put ho1 hd1 1 (rawInt ((i:Int)+1))
  refine wpAny_pure ⟨x,rfl,wpAny_pure (h1 x nx hx _ ⟨o2,ho2,hc2.trans (hc1.trans hci),?_⟩ ((Y0Y ..).trans (Y0Y ..)))⟩
  rw[hd2]
  simp[rawInt]
theorem sit_ref{it S P:Addr}{i n ep:Nat}{o op:Obj}{es:Array (Int×Value)}{t:SetTable}{ps:Array Value}{np:Nat}{Q:Option Value->Shared->Prop}(hh:A.handled=none)
  (hit:SIt s.heap it S (.ref P) i n ep) (hoS:s.heap.get? S=some o) (hdS:o.data=.set es ep t) (hf:t.fits es.size=true) (hn:es.size=n)
  (hoP:s.heap.get? P=some op) (hdP:op.data=.seq ps np)
  (h1:∀v,ps[i]?=some v->∃(p:Nat) (e:Int×Value),v=.int p 0/\es[p]?=some e/\∀h',SIt h' it S (.ref P) (i+1) n ep->Y1N it s.heap h'->Q (some e.2) {s with heap:=h'})
  (h2:ps[i]?=none->∀h',Y3D it s.heap h'->Q none {s with heap:=h'}):
  wpAny (model prog w) A (pyNext (.ref it)) Q E s:=by
 obtain⟨oi,hoi,hci,hdi⟩:=id hit
 unfold pyNext
 refine wpAny_bind (wpAny_attempt (wpAny_callSpecial?_slot (name:=Y0t "__next__") hit.typeIs slot_setiter_next
  (wpAny_call_entry slot_setiter_next hit.typeIs entry_setiter_next ?_ (args_setiter_next _))))
 show wpAny _ _ (fieldsOf (.ref it)>>= _) _ _ s
 refine wpAny_bind (wpAny_fieldsOf hoi hdi ?_)
 show wpAny _ _ (setEntries S >>= _) _ _ s
 refine wpAny_bind (wpAny_setEntries_of hoS hdS hf ?_)
 simp only[hn,bne_self_eq_false,Y0m,if_false]
 refine wpAny_bind (m:=seqItems? _) (wpAny_seqItems hoP hdP ?_)
 simp only[Y1A]
 cases hx:ps[i]? with
 |none=>
  dsimp only
  obtain⟨o1,ho1,hc1,hd1⟩:=fld_put hoi hdi 0 (rawInt 0)
  refine wpAny_bind (wpAny_setField hoi hdi (by simp) ?_)
  refine wpAny_bind (wpAny_setField ho1 hd1 (by simp) ?_)
  refine sit_stop (s:=s) (it:=it) hh ?_ (h2 hx)
  exact Heap.SameBut.extBut (Heap.SameBut.trans (Y0Y _ _ _) (Y0Y _ _ _))
 |some v=>
  obtain⟨p,e,rfl,he,hq⟩:=h1 v hx
  dsimp only
  refine wpAny_bind ?_
  unfold setNextDrawn
  refine wpAny_bind (wpAny_setState_of hoS hdS hf ?_)
  simp only[Y1A,bne_self_eq_false,Y0m,if_false,he]
  obtain⟨k,x⟩:=e
  refine wpAny_pure ?_
  obtain⟨o1,ho1,hc1,hd1⟩:=fld_put hoi hdi 1 (rawInt ((i:Int)+1))
  refine wpAny_bind (wpAny_setField hoi hdi (by simp) ?_)
  refine wpAny_pure ⟨x,rfl,wpAny_pure (hq _ ⟨o1,ho1,hc1.trans hci,?_⟩ (Y0Y ..))⟩
  rw[hd1]
  simp[rawInt]
end
end L2
namespace L2
open PySem PySem.Spec PyProof.Rows
section
variable{prog:Program}{w:World}{A:Around}{E:Value->Shared->Prop}{s:Shared}
theorem sit_self{it S:Addr}{first:Value}{i n ep:Nat}{Q:Value->Shared->Prop}(hit:SIt s.heap it S first i n ep)(h:Q (.ref it) s):
  wpAny (model prog w) A (pyIter (.ref it)) Q E s:=by
 refine wpAny_pyIter_slot hit.typeIs slot_setiter_iter (wpAny_call_entry slot_setiter_iter hit.typeIs entry_setiter_iter ?_ (args_setiter_iter _))
 show wpAny _ _ (ret (.ref it)) _ _ s
 exact wpAny_pure ⟨_,rfl,"set_iterator",_,hit.typeIs,slot_setiter_next.lookup,h⟩
theorem SIt.at{h h':Heap}{it S:Addr}{first:Value}{i n ep:Nat}(x:SIt h it S first i n ep)(e:∀o,h.get? it=some o->h'.get? it=some o):SIt h' it S first i n ep:=
 let⟨o,ho,r⟩:=x;⟨o,e _ ho,r⟩
theorem wk_int(hh:A.handled=none){I S:Addr}{n ep:Nat}{o:Obj}{es:Array (Int×Value)}{t:SetTable}{vs:List Value}{Good:Nat->Nat->Prop}(hne:S≠I)
  (hdS:o.data=.set es ep t) (hf:t.fits es.size=true) (hn:es.size=n) (hw:w.params.followText "set-order"=true\/(es.size≤1/\t.led=true))
  (hg:∀i sl,Good i sl->(i<n->∃x nx,Nx w S es ep t sl i=some (x,nx)/\vs[i]?=some x/\Good (i+1) nx)/\(i=n->Nx w S es ep t sl i=none)):
  Walks prog w A I [I,S] [I] n (λi v=>vs[i]?=some v) (λi h=>∃sl,Good i sl/\SIt h I S (.int (sl:Nat) 0) i n ep/\h.get? S=some o)where
 sub:=λb hb=>by simp at hb;simp[hb]
 frame:=λ_ _ _ st hk=>let⟨sl,g,st1,st2⟩:=st;⟨sl,g,st1.at λo e=>hk I (by simp) o e,hk S (by simp) _ st2⟩
 item:=λi s Q E hi st hQ=>by
  obtain⟨sl,g,st1,st2⟩:=st
  obtain⟨x,nx,e1,e2,g2⟩:=(hg i sl g).1 hi
  refine sit_int hh st1 st2 hdS hf hn hw (λx' nx' q h' a1 a2=>?_) (λq=>by rw[e1]at q;simp at q)
  rw[e1]at q
  simp only[Y2i,Prod.mk.injEq]at q
  obtain⟨rfl,rfl⟩:=q
  exact hQ _ h' s.toks e2 ⟨_,g2,a1,(a2.2 S hne).trans st2⟩ λb o hb e=>(a2.2 b (λz=>hb (by simp[z]))).trans e
 done:=λs Q E st hQ=>by
  obtain⟨sl,g,st1,st2⟩:=st
  have e1:=(hg n sl g).2 rfl
  refine sit_int hh st1 st2 hdS hf hn hw (λx' nx' q h' a1 a2=>by rw[e1]at q;simp at q) (λ_ h' a=>hQ h' s.toks λb o hb e=>a b o (λz=>hb (by simp[z])) e)
 self:=λ_ _ _ _ st hQ=>let⟨_,_,st1,_⟩:=st;sit_self st1 hQ
theorem wk_ref(hh:A.handled=none){I S P:Addr}{n ep np:Nat}{o op:Obj}{es:Array (Int×Value)}{t:SetTable}{js:List Nat}{vs:List Value}(hne:S≠I)(hnp:P≠I)
  (hdS:o.data=.set es ep t) (hf:t.fits es.size=true) (hn:es.size=n) (hdP:op.data=.seq (js.map λi:Nat=>rawInt i).toArray np)
  (hl:js.length=n) (hj:∀(i:Nat) (j:Nat),js[i]?=some j->∃e,es[j]?=some e/\vs[i]?=some e.2):
  Walks prog w A I [I,S,P] [I] n (λi v=>vs[i]?=some v) (λi h=>SIt h I S (.ref P) i n ep/\h.get? S=some o/\h.get? P=some op)where
 sub:=λb hb=>by simp at hb;simp[hb]
 frame:=λ_ _ _ st hk=>⟨st.1.at λo e=>hk I (by simp) o e,hk S (by simp) _ st.2.1,hk P (by simp) _ st.2.2⟩
 item:=λi s Q E hi st hQ=>by
  refine sit_ref hh st.1 st.2.1 hdS hf hn st.2.2 hdP (λv hv=>?_) (λq=>?_)
  ·simp only[List.getElem?_toArray,Y0b,Y2e]at hv
   obtain⟨j,hj1,rfl⟩:=hv
   obtain⟨e,he,hv⟩:=hj i j hj1
   exact⟨j,e,rfl,he,λh' a1 a2=>hQ _ h' s.toks hv ⟨a1,(a2.2 S hne).trans st.2.1,(a2.2 P hnp).trans st.2.2⟩ λb o hb e=>(a2.2 b (λz=>hb (by simp[z]))).trans e⟩
  ·simp at q
   lia
 done:=λs Q E st hQ=>by
  refine sit_ref hh st.1 st.2.1 hdS hf hn st.2.2 hdP (λv hv=>?_) (λ_ h' a=>hQ h' s.toks λb o hb e=>a b o (λz=>hb (by simp[z])) e)
  simp only[List.getElem?_toArray,Y0b,Y2e]at hv
  obtain⟨j,hj1,rfl⟩:=hv
  rw[Y1t (by lia)]at hj1
  simp at hj1
 self:=λ_ _ _ _ st hQ=>sit_self st.1 hQ
theorem by_places{α:Type}(es:Array α){js:List Nat}(hp:js.Perm (Y0I es.size)):
  ∃ys:List α,ys.Perm es.toList/\ys.length=js.length/\∀(i:Nat) (j:Nat),js[i]?=some j->∃e,es[j]?=some e/\ys[i]?=some e:=by
 have hin:∀j∈js,j<es.size:=λj hj=>Y3r.mp (hp.mem_iff.mp hj)
 refine⟨js.filterMap λj=>es[j]?,(hp.filterMap _).trans (by rw[filterMap_getElem?_range]),?_⟩
 clear hp
 induction js with
 |nil=>exact⟨rfl,λi j h=>by simp at h⟩
 |cons j js ih=>
  have hj:=hin j Y0l
  obtain⟨h1,h2⟩:=ih λk hk=>hin k (Y0c _ hk)
  rw[List.filterMap_cons_some (b:=es[j]) (by simp[hj])]
  refine⟨by simp[h1],λi k h=>?_⟩
  cases i with
  |zero=>
   simp at h
   subst h
   exact⟨es[j],by simp[hj],rfl⟩
  |succ i=>
   simp at h
   obtain⟨e,he,hy⟩:=h2 i k h
   exact⟨e,he,by simpa using hy⟩
noncomputable def WalkT(prog:Program)(w:World)(zs:List Str)(s₀:Heap)(S I:Addr)(h':Heap):Prop:=
 ∃(fp:List Addr) (n:Nat) (vs:List Value) (St:Nat->Heap->Prop),
  (∀A':Around,A'.handled=none->Walks prog w A' I fp [I] n (λi v=>vs[i]?=some v) St)/\St 0 h'/\vs.length=n/\(vs.map txt).Perm zs/\(∀v∈vs,∃t,v=Y0r (txt v) t)/\
  (∀b∈fp,b=S\/s₀.objs.size≤b)/\s₀.objs.size≤I
theorem below_one{p:Array Nat}(h:p.size=1)(j:Nat):Y2K p j=if p[0]'(by lia)<j then 1 else 0:=by
 obtain⟨l⟩:=p
 match l,h with
 |[a],_=>
  show(if 0<1 then(if(#[a]:Array Nat).getD ((0+1)/2) j<j then Y3N #[a] j 0 ((0+1)/2+1) 1 else Y3N #[a] j 0 0 ((0+1)/2))else 0)=if a<j then 1 else 0
  rw[if_pos (by lia)]
  rfl
theorem tset_iter{S:Addr}{o:Obj}{zs:List Str}{Q:Value->Shared->Prop}(ho:s.heap.get? S=some o)(hS:WSet prog w o zs)
  (hQ:∀(I:Addr) (h':Heap) d,WalkT prog w zs s.heap S I h'->(∀b o,s.heap.get? b=some o->h'.get? b=some o)->Q (.ref I) {s with heap:=h',drawn:=d}):
  wpAny (model prog w) A (pyIter (.ref S)) Q E s:=by
 obtain⟨hex,es,ep,t,hd,hel,hp,hb,hf,hled,hpl⟩:=id hS
 have hT:s.TypeIs (.ref S) "set":=⟨o,ho,hex.1⟩
 have hSl:S<s.heap.objs.size:=Y08 ho
 have hsz:es.size=zs.length:=by rw[<- hp.length_eq,Y03,Y0g]
 have hst:∀e∈es.toList,∃t,e.2=Y0r (txt e.2) t:=λe he=>by
  obtain⟨⟨k,hk,_⟩,_⟩:=hel e he
  obtain⟨t,ht⟩:=isT.mp hk
  exact⟨t,by rw[ht];rfl⟩
 have hsl:sizeLine=16777216:=by decide
 have hsb:scanBound=4096:=rfl
 refine wpAny_pyIter_slot hT F.slot_set_iter (wpAny_call_entry F.slot_set_iter hT entry_set_iter ?_ (F.args_set_iter_1 _))
 show wpAny _ _ (Y2U S >>= _) _ _ s
 refine wpAny_bind (m:=Y2U S) (wpAny_bind (wpAny_setEntries_of ho hd hf (wpAny_pure ?_)))
 refine wpAny_bind (m:=setDrawn S) ?_
 unfold setDrawn
 refine wpAny_bind (wpAny_setState_of ho hd hf ?_)
 refine wpAny_bind (m:=setsByText) (wpAny_bind (wpAny_askSetting (wpAny_pure (wpAny_pure ?_))))
 show wpAny _ _ (if(!w.params.followText "set-order"&&(!t.plain&&decide (es.size>1)))=true then _ else _) _ _ _
 have rest:∀(first:Value) (s₁:Shared) (R:Fin->Shared->Prop),s₁.heap.get? S=some o->
   R (.done (.ret (.ref s₁.heap.objs.size))) {s₁ with heap:=s₁.heap.push {cls:=.type "set_iterator",data:=.fields #[first,.int 0 0,.ref S,.int (es.size:Nat) 0,.int ep 0]} }->
   wpAny (model prog w) A.in1 (do let e<- setEpoch S;let v<- newFields "set_iterator" [first,rawInt 0,.ref S,rawInt (es.size:Nat),rawInt e];ret v) R E s₁:=by
  intro first s₁ R ho₁ h
  refine wpAny_bind (wpAny_setEpoch_of ho₁ hd hf ?_)
  exact wpAny_bind (wpAny_newObj_type (wpAny_pure h))
 have small:∀(Good:Nat->Nat->Prop) (vs:List Value),Good 0 0->vs.length=es.size->(vs.map txt).Perm zs->(∀v∈vs,∃t,v=Y0r (txt v) t)->
   (w.params.followText "set-order"=true\/(es.size≤1/\t.led=true))->
   (∀i sl,Good i sl->(i<es.size->∃x nx,Nx w S es ep t sl i=some (x,nx)/\vs[i]?=some x/\Good (i+1) nx)/\(i=es.size->Nx w S es ep t sl i=none))->
   ∀(s₁:Shared),s₁=s->wpAny (model prog w) A.in1 (do let e<- setEpoch S;let v<- newFields "set_iterator" [rawInt 0,rawInt 0,.ref S,rawInt (es.size:Nat),rawInt e];ret v)
    (fun fin s'=>∃v,fin=Fin.done (Flow.ret v)/\∃T' r,s'.TypeIs v T'/\typeLookup (.type T') "__next__"=pure (some r)/\Q v s') E s₁:=by
  intro Good vs g0 hlv hpv hsv hw hg s₁ e₁
  subst e₁
  refine rest _ _ _ ho ⟨_,rfl,"set_iterator",_,⟨_,Y0a _ rfl,rfl⟩,slot_setiter_next.lookup,?_⟩
  refine hQ _ _ s₁.drawn ⟨[s₁.heap.objs.size,S],es.size,vs,_,λA' hh=>wk_int hh (Y0f hSl) hd hf rfl hw hg,⟨0,g0,⟨_,Y0a _ rfl,rfl,rfl⟩,Y01 _ ho⟩,hlv,hpv,hsv,λb hb=>?_,Y09 _⟩ λb o e=>Y01 _ e
  simp only[Y05,Y0e,or_false]at hb
  rcases hb with rfl|rfl
  ·exact .inr (Y09 _)
  ·exact .inl rfl
 by_cases hbt:w.params.followText "set-order"=true
 ·rw[hbt]
  simp only[Y1T,Y3s,Y0m,if_false]
  refine wpAny_bind (wpAny_pure ?_)
  have hpk:=pick_perm (w.params.setOrder S ep) es
  refine small (λ_ _=>True) ((pickOrder (w.params.setOrder S ep) es).toList.map (·.2)) trivial ?_ ?_ ?_ (.inl hbt) ?_ s rfl
  ·rw[Y03,hpk.length_eq,Y0g]
  ·rw[Y12]
   exact(hpk.map _).trans hp
  ·intro v hv
   obtain⟨e,he,rfl⟩:=Y0E.mp hv
   exact hst e (hpk.mem_iff.mp he)
  ·intro i sl _
   have hps:(pickOrder (w.params.setOrder S ep) es).size=es.size:=by rw[<- Y0g,hpk.length_eq,Y0g]
   unfold Nx
   rw[if_pos hbt]
   refine⟨λhi=>?_,λhi=>?_⟩
   ·rw[Y0V (by lia)]
    exact⟨_,_,rfl,by simp[hps,hi],trivial⟩
   ·rw[Y2f (by lia)]
    rfl
 ·have hbf:w.params.followText "set-order"=false:=by simpa using hbt
  have hlt:t.led=true:=by rw[hled,hbf];rfl
  rw[hbf]
  simp only[Y2L,Bool.true_and]
  by_cases h1:es.size>1
  ·have hz:zs≠ []:=λz=>by rw[z,Y2w]at hsz;lia
   rw[hpl hz,decide_eq_true h1]
   simp only[Y2L,Bool.and_self,if_true]
   refine wpAny_bind (wp_draw _ _ _ _ (by simp) λjs d hj=>?_)
   obtain⟨ys,hy1,hy2,hy3⟩:=by_places es hj
   have hjl:js.length=es.size:=by rw[hj.length_eq,Y1c]
   refine wpAny_bind (wpAny_newTuple ?_ (by rw[Y03];lia))
   refine rest _ _ _ (Y01 _ ho) ⟨_,rfl,"set_iterator",_,⟨_,Y0a _ rfl,rfl⟩,slot_setiter_next.lookup,?_⟩
   have hPne:s.heap.objs.size≠(s.heap.push {cls:=.type "tuple",data:=.seq (js.map fun i:Nat=>rawInt i).toArray}).objs.size:=by rw[Y1l];lia
   have hSne:S≠(s.heap.push {cls:=.type "tuple",data:=.seq (js.map fun i:Nat=>rawInt i).toArray}).objs.size:=by rw[Y1l];exact Y0f (Y1m hSl)
   have hIle:s.heap.objs.size≤(s.heap.push {cls:=.type "tuple",data:=.seq (js.map fun i:Nat=>rawInt i).toArray}).objs.size:=by rw[Y1l];lia
   refine hQ _ _ d ⟨[_,S,s.heap.objs.size],es.size,ys.map (·.2),_,λA' hh=>wk_ref hh (S:=S) (P:=s.heap.objs.size) (o:=o) (js:=js)
    (op:={cls:=.type "tuple",data:=.seq (js.map fun i:Nat=>rawInt i).toArray}) hSne hPne hd hf rfl rfl hjl ?_,
    ⟨⟨_,Y0a _ rfl,rfl,rfl⟩,Y01 _ (Y01 _ ho),Y01 _ (Y0a _ rfl)⟩,?_,?_,?_,λb hb=>?_,?_⟩
    λb o e=>Y01 _ (Y01 _ e)
   ·intro i j hij
    obtain⟨e,he,hy⟩:=hy3 i j hij
    exact⟨e,he,by rw[Y0b,hy];rfl⟩
   ·rw[Y03,hy2,hjl]
   ·rw[Y12]
    exact(hy1.map _).trans hp
   ·intro v hv
    obtain⟨e,he,rfl⟩:=Y0E.mp hv
    exact hst e (hy1.mem_iff.mp he)
   ·simp only[Y05,Y0e,or_false]at hb
    rcases hb with rfl|rfl|rfl
    ·exact .inr hIle
    ·exact .inl rfl
    ·exact .inr (Y09 _)
   ·exact hIle
  ·rw[decide_eq_false h1]
   simp only[Y3v,Y0m,if_false]
   refine wpAny_bind (wpAny_pure ?_)
   have hfp:t.place.size=es.size:=by
    simp only[SetTable.fits,Y06,beq_iff_eq,decide_eq_true_eq]at hf
    exact hf.1
   refine small (λi sl=>(i=0->sl=0)/\(i=1->∃h:0<t.place.size,sl=t.place[0]+1)) (es.toList.map (·.2)) ⟨λ_=>rfl,λz=>absurd z (by lia)⟩ (by simp) ?_ ?_ (.inr ⟨by lia,hlt⟩) ?_ s rfl
   ·rw[Y12]
    exact hp
   ·intro v hv
    obtain⟨e,he,rfl⟩:=Y0E.mp hv
    exact hst e he
   ·intro i sl ⟨g0,g1⟩
    unfold Nx
    rw[if_neg hbt]
    refine⟨λhi=>?_,λhi=>?_⟩
    ·have hs1:es.size=1:=by lia
     have hi0:i=0:=by lia
     subst hi0
     have hpz:t.place.size=1:=by lia
     rw[g0 rfl,below_one hpz,if_neg (by lia),Y0V (by lia),Y0V (by lia)]
     refine⟨_,_,rfl,?_,λz=>absurd z (by lia),λ_=>⟨by lia,rfl⟩⟩
     simp[hs1]
    ·have hnone:es[Y2K t.place sl]?=none:=by
      by_cases h0:es.size=0
      ·exact Y2f (by lia)
      ·have hs1:es.size=1:=by lia
       obtain⟨hq,e⟩:=g1 (by lia)
       rw[e,below_one (by lia),if_pos (by lia)]
       exact Y2f (by lia)
     rw[hnone]
end
end L2
namespace L2
open PySem PySem.Spec PyProof.Rows
section
variable{prog:Program}{w:World}{A:Around}{E:Value->Shared->Prop}{s:Shared}
theorem collect_tset{S:Addr}{o:Obj}{zs:List Str}{Q:List Value->Shared->Prop}(hh:A.handled=none)(ho:s.heap.get? S=some o)(hS:WSet prog w o zs)
  (hQ:∀(vs:List Value) (h':Heap) (d:Drawn) (g:Array GenState) tk,(vs.map txt).Perm zs->(∀v∈vs,∃t,v=Y0r (txt v) t)->(∀b o,s.heap.get? b=some o->h'.get? b=some o)->g=s.gens->s.heap.objs.size≤h'.objs.size->
   Q vs {s with heap:=h',drawn:=d,gens:=g,toks:=tk}):wpAny (model prog w) A (collect (.ref S)) Q E s:=by
 obtain⟨hex,es,ep,t,hd,hel,hp,hb,hf,hled,hpl⟩:=id hS
 have hSl:S<s.heap.objs.size:=Y08 ho
 have hsl:sizeLine=16777216:=by decide
 have hsb:scanBound=4096:=rfl
 have hsz:es.size=zs.length:=by rw[<- hp.length_eq,Y03,Y0g]
 unfold collect
 refine wpAny_bind (wpAny_runValue (codeAny_builtin F.entry_proto_collect ?_))
 rw[Y0J F.plain_proto_collect _]
 show wpAny _ A.in1 (newList [] >>= fun l=>again (.builtin "list.__iadd__" ⟨[l,.ref S],[]⟩)) _ _ s
 refine wpAny_bind (wpAny_newObj_type ?_)
 refine wpAny_pure ⟨plainId_quiet F.plain_list_iadd _,codeAny_builtin F.entry_list_iadd ?_⟩
 rw[Y0J F.plain_list_iadd _]
 show wpAny _ A.in1 (Y2x (.ref s.heap.objs.size) (.ref S) (.ref s.heap.objs.size)) _ _ _
 have hne:s.heap.objs.size≠S:=(Y0f hSl).symm
 generalize hL:s.heap.objs.size=L at*
 have hgL:(s.heap.push {cls:=.type "list",data:=.seq ([]:List Value).toArray}).get? L=some {cls:=.type "list",data:=.seq ([]:List Value).toArray}:=by
  rw[<- hL];exact Y0a _ rfl
 have hgS:(s.heap.push {cls:=.type "list",data:=.seq ([]:List Value).toArray}).get? S=some o:=Y01 _ ho
 have hbig:(s.heap.push {cls:=.type "list",data:=.seq ([]:List Value).toArray}).objs.size=L+1:=by rw[Y1l,hL]
 have hold:∀b u,s.heap.get? b=some u->b≠L/\(s.heap.push {cls:=.type "list",data:=.seq ([]:List Value).toArray}).get? b=some u:=fun b u e=>
  ⟨by rw[<- hL];exact Y0f (Y08 e),Y01 _ e⟩
 generalize s.heap.push {cls:=.type "list",data:=.seq ([]:List Value).toArray}=h₁ at*
 have hT:Y2r {s with heap:=h₁} (.ref S) "set":=⟨o,hgS,hex.1⟩
 unfold Y2x
 refine wpAny_bind (wpAny_typeOf hT ?_)
 have e1:Y2V (.ref L) (.ref S)=false:=by simp[Y2V,hne]
 have e2:(Y0n "set"==Y0n "list")=false:=by decide
 have e3:(Y0n "set"==Y0n "tuple")=false:=by decide
 simp only[e1,e2,e3,Bool.or_false,Y0m,if_false]
 refine wpAny_bind (tset_iter (s:={s with heap:=h₁}) hgS hS λI h₂ d hW hk=>?_)
 obtain⟨fp,n,vs,St,hWk,hst,hvn,hvp,hvs,hfp,hI⟩:=hW
 have hk':∀b u,h₁.get? b=some u->h₂.get? b=some u:=hk
 have hT2:Y2r {s with heap:=h₂,drawn:=d} (.ref S) "set":=⟨o,hk' _ _ hgS,hex.1⟩
 refine wpAny_bind (wpAny_holding ?_)
 unfold Builtin.List.listLengthHint
 refine wpAny_bind (wpAny_specialOf hT2 F.slot_set_len.lookup ?_)
 have hsp:splitId "set.__len__"=some ("set","__len__"):=by decide+kernel
 extract_lets j1 j2
 dsimp -zeta only
 rw[hsp]
 dsimp -zeta only
 refine wpAny_bind (wpAny_isInstance hT2 sub_set_self ?_)
 simp only[Y1T,Y0m,if_false]
 show wpAny _ _ (ite (_=true) _ _) _ _ _
 split
 case isFalse hs=>exact absurd (by rfl) hs
 refine wpAny_bind (wpAny_typeOf hT2 ?_)
 refine wpAny_pure ?_
 split
 case isFalse hs=>exact absurd (by rfl) hs
 refine wpAny_bind (wpAny_rule ?_)
 refine wpAny_bind ?_
 have hS₁:h₂.get? L=some {cls:=.type "list",data:=.seq ([]:List Value).toArray}:=hk' _ _ hgL
 show wpAny _ A.in1 (updateSeq L (·.push .none)>>= λ_=>updateSeq L (·.pop)) _ _ _
 refine wpAny_bind (wpAny_updateSeq hS₁ rfl ?_)
 have hS₂:=Y1f (Y2Q (·.push Y0i)) hS₁ rfl
 refine wpAny_updateSeq hS₂ rfl ?_
 have hS₃:=Y1f (Y2Q (·.pop)) hS₂ rfl
 have oth:∀b o,b≠L->h₂.get? b=some o->((h₂.update L (Y2Q (·.push Y0i))).update L (Y2Q (·.pop))).get? b=some o:=
  λb o hb e=>(Y1q _ _ (Y2J hb)).trans ((Y1q _ _ (Y2J hb)).trans e)
 have hLf:L∉fp:=λz=>by
  rcases hfp L z with e|e
  ·exact hne e
  ·have:L+1≤L:=hbig▸e
   lia
 have hin:A.in1.handled=none:=by simp[hh]
 have W:=(hWk A.in1 hin).toS
 have hn:n≤sizeLine:=by
  have:n=zs.length:=by rw[<- hvn,<- hvp.length_eq,Y03]
  lia
 refine wpAny_pure ⟨plainId_quiet F.plain_extend_loop _,codeAny_extend_loopS W hn L hLf _ n 0 _ _ _ rfl (Y1x _)
  (W.frame 0 ({s with heap:=h₂,drawn:=d}:Shared) _ s.toks hst (Y09 _) λb hb o e=>oth b o (λz=>hLf (z▸hb)) e) hS₃ (ItemsOf.nil _) λs' acc' c' hm hS' hacc=>?_⟩
 show wpAny _ A (load L >>= _) _ _ s'
 refine wpAny_bind (wpAny_load hS' ?_)
 have hav:acc'.toList=vs:=by
  refine List.ext_getElem? λi=>?_
  by_cases hi:i<acc'.size
  ·have e:=hacc.2 i acc'[i] (by simp[hi])
   rw[e]
   simp[hi]
  ·rw[Y1t (by simp;lia),Y1t (by have:=hacc.1;lia)]
 obtain⟨h',g',d',tk',os'⟩:=s'
 have eg:g'=s.gens:=hm.gens
 have ed:d'=d:=hm.drawn
 have eo:os'=s.os:=hm.os
 subst ed;subst eo
 refine wpAny_pure ?_
 show Q acc'.toList _
 rw[hav]
 refine hQ vs h' _ g' tk' hvp hvs (λb u e=>?_) eg (Y39 (Y08 hS'))
 have hbL:=hold b u e
 refine hm.heap b u ?_ (oth b u hbL.1 (hk' b u hbL.2))
 simp only[Y05,Y0e,or_false,not_or]
 refine⟨hbL.1,λz=>?_⟩
 have h1:L+1≤I:=Y0M (Y24 hbig.symm) hI
 have h2:b<L:=by rw[<- hL];exact Y08 e
 rw[z]at h2
 exact absurd h1 (Nat.not_le_of_lt (Y1m h2))
theorem sorted_tset{S:Addr}{o:Obj}{zs:List Str}{Q:Value->Shared->Prop}(hh:A.handled=none)(ho:s.heap.get? S=some o)(hS:WSet prog w o zs)(h64:zs.length<64)
  (h:∀(p:Addr) (h':Heap) (d:Drawn) tk (out:List Value) (ss:List Str) (e:Nat),s.heap.objs.size≤p->(∀b o,s.heap.get? b=some o->h'.get? b=some o)->h'.get? p=some (seqObj "list" out.toArray e)->
   StrsAre out ss->ss.Perm zs->sortedS ss=true->Q (.ref p) {s with heap:=h',drawn:=d,toks:=tk}):
  wpAny (model prog w) A (call (.builtin "sorted") [.ref S]) Q E s:=by
 refine Calls.call_function_entry kind_sorted plain_sorted entry_sorted (args_sorted1 _) ?_
 unfold Builtin.«sorted»
 refine wpAny_bind (m:=checkCount "sorted" 1 1 _) (wpAny_pure ?_)
 have hsl:sizeLine=16777216:=by decide
 refine wpAny_bind (collect_tset (by simp[hh]) ho hS λvs h₁ d g tk hp hv hk hg hle=>?_)
 subst hg
 have hl:vs.length=zs.length:=by rw[<- hp.length_eq,Y03]
 refine wpAny_bind (wpAny_newList ?_ (by lia))
 have hoL:(h₁.push (seqObj "list" vs.toArray 0)).get? h₁.objs.size=some (seqObj "list" vs.toArray 0):=Y0a _ rfl
 have hS':StrsAre vs (vs.map strOf):=strsAre_map vs λv hm=>by obtain⟨t,e⟩:=hv v hm;exact⟨_,t,e⟩
 have hto:vs.map strOf=vs.map txt:=List.map_congr_left λv hm=>by obtain⟨t,e⟩:=hv v hm;rw[e];rfl
 show wpAny _ _ _ _ _ {s with heap:=h₁.push (seqObj "list" vs.toArray 0),drawn:=d,toks:=tk}
 refine wpAny_bind (wpAny_holding (wpAny_call_entry slot_list_sort ⟨_,hoL,rfl⟩ entry_list_sort (list_sort_treeK strKind_oneLt hoL hS'.keysOf (λv₁ v₂ rest e=>keyKind_strs (by rw[<- e];exact hS')) (by lia) λst' a1 a2=>⟨_,rfl,?_⟩) (args_list_sort _)))
 obtain⟨ss',z1,z2,z3⟩:=sorted_out_str hS' a1 a2
 refine wpAny_pure ⟨_,rfl,?_⟩
 obtain⟨e,he⟩:=sortedHeap_at (out:=(arrOf st').map (·.2)) hoL
 refine h h₁.objs.size _ d tk ((arrOf st').map (·.2)).toList ss' e hle (λb o hb=>?_) (by rw[Array.toArray_toList];exact he) z1 (by rw[hto]at z2;exact z2.trans hp) z3
 have hb1:=hk b o hb
 have hlt:b<h₁.objs.size:=Y08 hb1
 rw[sortedHeap_old (Y0f hlt) (by rw[size_push'];exact Y1m hlt)]
 exact Y01 _ hb1
end
end L2
namespace L2
open PySem PySem.Spec PyProof.Rows
theorem Inv.drew{X:Cx}{pins:List (Addr×Obj)}{σ:St}{H:Hp}{s:Shared}(I:Inv X pins σ H s)(d:Drawn):Inv X pins σ H {s with drawn:=d}:=
 ⟨I.ok,I.os,I.bare,I.base,I.loc,I.cell,I.free,I.freeC,I.pin,I.hok,I.len⟩
theorem few{zs:List Str}(nd:zs.Nodup):∀(N:List Str),(∀z∈zs,z∈N)->zs.length≤N.length:=by
 induction zs with
 |nil=>intro N _;exact Y1x _
 |cons z zs ih=>
  intro N h
  rw[Y19]at nd
  have hz:=h z Y0l
  have hp:=List.perm_cons_erase hz
  have:=ih nd.2 (N.erase z) λy hy=>by
   have:=hp.mem_iff.mp (h y (Y0c _ hy))
   rcases Y05.mp this with e|e
   ·exact absurd (e▸hy) nd.1
   ·exact e
  have hl:=hp.length_eq
  simp only[Y0q]at hl ⊢
  lia
theorem vals_strs:∀{vs:List Value} {ss:List Str},StrsAre vs ss->Vals (ss.map V.str) vs
 |_,_,.nil=>.nil
 |_,_,.cons x t h=>.cons ⟨t,rfl⟩ (vals_strs h)
noncomputable def Call2(X:Cx)(f g:Value)(r:V->Hp->VK->Prop):Prop:=
 ∀(pins:List (Addr×Obj)) (s:Shared) (σ:St) (H:Hp) (x:V) (u:Value) (Q:VK),Inv X pins σ H s->RelV x u->r x H Q->
  wpAny (model X.prog X.w) X.A (call g [u]) (λv s1=>wpAny (model X.prog X.w) X.A (call f [v]) (EP X pins σ Q) X.xe s1) X.xe s
section
variable{X:Cx}
theorem pe_call2{x y:Str}{id T:String}{r:V->Hp->VK->Prop}{e:Expr}{t:TE}{p p' pos pos':Pos}(hc:Call2 X (.builtin id) (.type T) r)
  (hg:Gl X x) (hm:X.mg x=none) (hv:bootBuiltins x=some (.builtin id)) (hg':Gl X y) (hm':X.mg y=none) (hv':bootBuiltins y=some (.type T)) (ha:PE X e t)
  (hn:x≠"__name__") (hdb:(x==("__debug__":Str))=false) (hn':y≠"__name__") (hdb':(y==("__debug__":Str))=false)
  (he:starEach [e] X.env=(false,eval e X.env)::starEach [] X.env):
  PE X (.Call (.Name x p) [.Call (.Name y p') [e] [] pos'] [] pos) (λσ H Q=>t σ H λv H1=>r v H1 Q):=by
 intro pins s σ H Q I h
 refine wpAny_Call_Name_kw (ld_blt I hg hm hv ?_ hn hdb)
 refine Y2l ?_ rfl rfl
 show wpAny _ _ (spliced ((false,eval (.Call (.Name y p') [e] [] pos') X.env)::backTo pos (starEach [] X.env))) _ _ s
 refine Y1M ?_
 refine wpAny_Call_Name_kw (ld_blt I hg' hm' hv' ?_ hn' hdb')
 refine Y0Q ?_ he rfl
 rw[he]
 show wpAny _ _ (spliced ((false,eval e X.env)::backTo pos' (starEach [] X.env))) _ _ s
 refine Y1M (thn (ha pins s σ H _ I h) λu s1 ⟨v,H1,I1,r1,q1⟩=>?_)
 refine Y1R ?_
 exact thn (hc pins s1 σ H1 v u Q I1 r1 q1) λu2 s2 q2=>Y1R q2
theorem call_ssrt(hcalm:X.calm=true):Call2 X (.builtin "sorted") (.type "set") (fun x H Q=>∃(a:Addr) (xs N:List Str),x=.ref a/\SqL X.K H a (xs.map V.str)/\xs.length+1<scanBound/\(∀z∈xs,z∈N)/\N.length<64/\
  ∀p (ys:List Str),H p=none->ys.Nodup->(∀y,y∈ys↔y∈xs)->sortedS ys=true->Q (.ref p) (upd H p (.lst (ys.map V.str)))):=by
 intro pins s σ H x u Q I rx h
 obtain⟨a,xs,N,rfl,ha,hlen,hN,hN64,q⟩:=h
 cases rx
 obtain⟨its,rv,p,hz⟩:=I.list ha
 have hh:=I.ok.hd hcalm
 have hil:its.length=xs.length:=by rw[<- rv.length,Y03]
 have hsz:its.toArray.size=xs.length:=by simp[hil]
 have hi:∀(i:Nat) (v:Value),its.toArray[i]?=some v->∃t,v=Y0r (xs.getD i ⟨#[]⟩) t:=λi v hv=>by
  have hv':its[i]?=some v:=by simpa using hv
  have hlt:i<xs.length:=by rw[<- hil];exact(Y07.mp hv').1
  obtain⟨u,hu,ru⟩:=rv.get (i:=i) (x:=V.str xs[i]) (by simp[hlt])
  rw[hv']at hu
  cases hu
  obtain⟨t,rfl⟩:=ru
  exact⟨t,by simp[Y3K,hlt]⟩
 have hmem:∀y,y∈met (λi=>xs.getD i ⟨#[]⟩) xs.length↔y∈xs:=λy=>by
  rw[met_mem,List.mem_iff_getElem]
  constructor
  ·rintro⟨j,hj,rfl⟩
   exact⟨j,hj,by simp[Y3K,hj]⟩
  ·rintro⟨j,hj,rfl⟩
   exact⟨j,hj,by simp[Y3K,hj]⟩
 refine call_setT (f:=λi=>xs.getD i ⟨#[]⟩) hh p.isList hi (by rw[hsz];exact hlen) λh1 tk1 o ho hS hk=>?_
 rw[hsz]at hS
 have I1:Inv X pins σ H {s with heap:=h1,toks:=tk1}:=I.kept λb u e=>hk b u (Y08 e) e
 have nd:=met_nodup (λi=>xs.getD i ⟨#[]⟩) xs.length
 refine sorted_tset (s:={s with heap:=h1,toks:=tk1}) hh ho hS (Y2E (few nd N λz hz=>hN z ((hmem z).mp hz)) hN64) λp2 h2 d tk2 out ss e hp hk2 hp2 ho2 hperm hsort=>?_
 have hlen2:ss.length≤sizeLine:=by
  have hsl:sizeLine=16777216:=by decide
  have:=few nd N λz hz=>hN z ((hmem z).mp hz)
  rw[hperm.length_eq]
  lia
 have I2:=(I1.laid (a:=p2) (t':=tk2) (h':=h2) (o:=.lst (ss.map V.str)) (λb u e=>hk2 b u e) hp
  ⟨by rw[Y03];exact hlen2,out,e,vals_strs ho2,hp2⟩).drew d
 exact⟨.ref p2,_,I2,rfl,q p2 ss (I1.hok.fresh hp) (hperm.nodup_iff.mpr nd) (λy=>(hperm.mem_iff).trans (hmem y)) hsort⟩
end
end L2
namespace L2
open PySem PySem.Spec PyProof.Rows
theorem lk_list_keys:typeLookup (.type "list") "keys"=pure none:=by rw[typeLookup_type,builtinLookup_eq_fast];kernel_rfl
theorem lk_list_hook:typeLookup (.type "list") "__getattr__"=pure none:=by rw[typeLookup_type,builtinLookup_eq_fast];kernel_rfl
theorem sub_attr:isSubtype (.type "AttributeError") (.type "AttributeError")=pure true:=by rw[isSubtype_type];kernel_rfl
section
variable{prog:Program}{w:World}{A:Around}{E:Value->Shared->Prop}{h:Heap}{g:Array GenState}{d:Drawn}{t:Nat}{os:OsState}{a:Addr}{its:Array Value}{n:Nat}
theorem keys_entry{tk:Tok}{Q:Fin->Shared->Prop}(hx:h.get? a=some (seqObj "list" its n))(hh:A.handled=none)
  (hE:∀e h' t',(∀b o,h.get? b=some o->h'.get? b=some o)->(∃o,h'.get? e=some o/\o.cls=.type "AttributeError")->E (.ref e) ⟨h',g,d,t',os⟩):
  wpAny (model prog w) A (Builtin.«object.__getattribute__» ⟨[.ref a,.str "keys" tk],[]⟩) Q E ⟨h,g,d,t,os⟩:=by
 have hT:(⟨h,g,d,t,os⟩:Shared).TypeIs (.ref a) "list":=⟨_,hx,rfl⟩
 have f4:=lk_list_keys
 unfold Builtin.«object.__getattribute__»
 repeat (any_goals (first|assumption|wp_step))
 have hmsg:¬(Y0t (toString "'"++toString ((Y1X "list").elim "list" fun x=>x.tpName)++toString "' object has no attribute '")++Y0t "keys"++Y0t "'").length>sizeLine:=by decide+kernel
 generalize(Y0t (toString "'"++toString ((Y1X "list").elim "list" fun x=>x.tpName)++toString "' object has no attribute '")++Y0t "keys"++Y0t "'")=msg at hmsg ⊢
 unfold raiseAttrError
 refine wpAny_bind ?_
 unfold mkStr
 rw[if_neg hmsg]
 repeat (any_goals (first|assumption|wp_step))
 show wpAny _ _ (isSubtype (.type "AttributeError") (.type "AttributeError")) _ _ _
 rw[sub_attr]
 generalize(if((Y1X "AttributeError").elim false fun t=>t.mro.contains "StopIteration"||t.mro.contains "SystemExit")=true then [Y0r msg t].headD Y0i else Y0i)=fm
 refine wpAny_pure ?_
 simp only[Y1T,Y0m,if_false]
 have hoE:((h.push {cls:=Y0n "tuple",data:=Y1Y #[Y0r msg t]}).push {cls:=Y0n "AttributeError",data:=Y1G (#[Y0k h.objs.size,Y0i,Y0i,Y0i,Y0X false,fm]++ownMembersOf (Y0n "AttributeError") [Y0r msg t])}).get? (h.push {cls:=Y0n "tuple",data:=Y1Y #[Y0r msg t]}).objs.size=some {cls:=Y0n "AttributeError",data:=Y1G (#[Y0k h.objs.size,Y0i,Y0i,Y0i,Y0X false,fm]++ownMembersOf (Y0n "AttributeError") [Y0r msg t])}:=Y0a _ rfl
 have e6:(#[Y0k h.objs.size,Y0i,Y0i,Y0i,Y0X false,fm]++ownMembersOf (Y0n "AttributeError") [Y0r msg t])[6]?=some (.int 0 0):=rfl
 have e7:(#[Y0k h.objs.size,Y0i,Y0i,Y0i,Y0X false,fm]++ownMembersOf (Y0n "AttributeError") [Y0r msg t])[7]?=some (.int 0 0):=rfl
 have old:∀b o,h.get? b=some o->((h.push {cls:=Y0n "tuple",data:=Y1Y #[Y0r msg t]}).push {cls:=Y0n "AttributeError",data:=Y1G (#[Y0k h.objs.size,Y0i,Y0i,Y0i,Y0X false,fm]++ownMembersOf (Y0n "AttributeError") [Y0r msg t])}).get? b=some o/\b<(h.push {cls:=Y0n "tuple",data:=Y1Y #[Y0r msg t]}).objs.size:=fun b o e=>
  ⟨Y01 _ (Y01 _ e),by rw[Y1l];exact Y1m (Y08 e)⟩
 generalize(h.push {cls:=Y0n "tuple",data:=Y1Y #[Y0r msg t]}).objs.size=ea at*
 generalize((h.push {cls:=Y0n "tuple",data:=Y1Y #[Y0r msg t]}).push {cls:=Y0n "AttributeError",data:=Y1G (#[Y0k h.objs.size,Y0i,Y0i,Y0i,Y0X false,fm]++ownMembersOf (Y0n "AttributeError") [Y0r msg t])})=h2 at*
 generalize hvs:#[Y0k h.objs.size,Y0i,Y0i,Y0i,Y0X false,fm]++ownMembersOf (Y0n "AttributeError") [Y0r msg t]=vs at*
 refine wpAny_bind (wpAny_load hoE ?_)
 dsimp only
 rw[e6,e7]
 simp only[Y2n,Y0m,if_false]
 rw[if_neg (by decide)]
 refine wpAny_pure ?_
 simp only[if_true]
 have hT2:(⟨h2,g,d,t+1+1,os⟩:Shared).TypeIs (.ref ea) "AttributeError":=⟨_,hoE,rfl⟩
 refine wpAny_bind (wpAny_rule ?_)
 refine wpAny_bind (wpAny_typeOf hT2 ?_)
 dsimp only
 unfold layMembers
 refine wpAny_bind (wpAny_load hoE ?_)
 dsimp only
 refine wpAny_update hoE ?_
 unfold raiseNew
 refine wpAny_bind (wpAny_handled ?_)
 rw[hh]
 show wpAny _ _ (throw (Y0k ea)) _ _ _
 have hup:=Y1f (Y3J fun vs=>vs.extract 0 6++#[Y0r (Y0t "keys") (t+1),Y0k a]) hoE (Y2m (Y2b rfl _))
 refine wpAny_throw (hE ea _ _ (λb o e=>?_) ⟨_,hup,Y2T ..⟩)
 have:=old b o e
 exact(Y1q _ _ (Y21 this.2)).trans this.1
theorem keys_by{tk:Tok}{Q:Value->Shared->Prop}(hx:h.get? a=some (seqObj "list" its n))(hh:A.handled=none)
  (hE:∀e h' t',(∀b o,h.get? b=some o->h'.get? b=some o)->(∃o,h'.get? e=some o/\o.cls=.type "AttributeError")->E (.ref e) ⟨h',g,d,t',os⟩):
  wpAny (model prog w) A (getAttrBy (.ref a) (.str "keys" tk) false) Q E ⟨h,g,d,t,os⟩:=by
 have hT:(⟨h,g,d,t,os⟩:Shared).TypeIs (.ref a) "list":=⟨_,hx,rfl⟩
 have f2:=Y1C.lookup
 have f3:=Y1C.bind (.ref a)
 repeat (any_goals (first|assumption|wp_step))
 refine codeAny_call_builtin Y1C.plain F.entry_list_ga (Y1C.check _ _ _ _ _ _ _ _ hT (F.args_list_getattribute_2 _ _) (keys_entry hx (by simp[hh]) λe h' t' k ho=>?_))
 have hTe:(⟨h',g,d,t',os⟩:Shared).TypeIs (.ref e) "AttributeError":=ho
 show wpAny _ _ (getattributeRaised _ _ _ _ _ _ _) _ _ _
 unfold getattributeRaised
 refine wpAny_bind (wpAny_isInstance hTe sub_attr ?_)
 simp only[if_true]
 unfold hookBehind onTheHeap
 simp only[Y0m,if_false]
 rw[lk_list_hook]
 refine wpAny_bind (wpAny_pure ?_)
 unfold hookOrError attributeErrorLeaves
 simp only[Y2L,if_true]
 exact wpAny_bind (wpAny_throw (hE e h' t' k ho))
theorem keys_none{Q:Option Value->Shared->Prop}{s:Shared}(hx:s.heap.get? a=some (seqObj "list" its n))(hh:A.handled=none)
  (hQ:∀h' t',(∀b o,s.heap.get? b=some o->h'.get? b=some o)->Q none {s with heap:=h',toks:=t'}):wpAny (model prog w) A (getAttr? (.ref a) "keys") Q E s:=by
 obtain⟨h,g,d,t,os⟩:=s
 unfold getAttr? getAttrBy? mkText
 refine wpAny_bind (wpAny_bind (wpAny_fresh (wpAny_pure ?_)))
 refine wpAny_bind (wpAny_attempt (keys_by hx hh λe h' t' k ho=>?_))
 have hTe:(⟨h',g,d,t',os⟩:Shared).TypeIs (.ref e) "AttributeError":=ho
 refine wpAny_bind (wpAny_isInstance hTe sub_attr ?_)
 simp only[if_true]
 exact wpAny_pure (hQ h' t' k)
end
end L2
namespace L2
open PySem PySem.Spec PyProof.Rows
theorem Z1t:entryFor table "dict.update.loop"=some Builtin.«dict.update.loop»:=entryFor_of_tree (by kernel_rfl)
theorem Z0f:plainId "dict.update.loop"=true:=by decide+kernel
section
variable{prog:Program}{w:World}{A:Around}{E:Value->Shared->Prop}{s:Shared}{K:Type} [DecidableEq K] {knd:KeyKind prog w K}
noncomputable def stTo(ks:Nat->K)(vs:Nat->Value):Nat->List (K×Value)
 |0=>[]
 |i+1=>stored (stTo ks vs i) (ks i) (vs i)
theorem stored_len1(kvs:List (K×Value))(k:K)(v:Value):(stored kvs k v).length≤kvs.length+1:=by
 unfold stored
 split<;>simp
theorem stTo_len(ks:Nat->K)(vs:Nat->Value):∀i,(stTo ks vs i).length≤i
 |0=>Y09 _
 |i+1=>Y0M (stored_len1 _ _ _) (Nat.succ_le_succ (stTo_len ks vs i))
theorem dict_loop{R:Result->Shared->Prop}{I:Addr}{fp wr:List Addr}{G:Array GenState->Array GenState->Prop}{n:Nat}{P:Nat->Value->Prop}{St:Nat->Shared->Prop}
  (W:WalksS prog w A.in1 I fp wr G n P St) (D:Addr) (hDf:D∉fp) (ks:Nat->K) (vs:Nat->Value) (hb:n≤sizeLine):
  ∀(k i:Nat) (s:Shared),n - i=k->i≤n->St i s->s.heap.DictOf knd D (stTo ks vs i)->
   (∀j v,P j v->∃q uk np oq,v=.ref q/\q≠D/\q∉wr/\s.heap.get? q=some oq/\oq.cls=.type "tuple"/\oq.data=.seq #[uk,vs j] np/\knd.is (ks j) uk=true)->
   (∀s',Moved (D::wr) G s s'->s'.heap.DictOf knd D (stTo ks vs n)->R (.ok (.ret .none)) s')->
   codeAny (model prog w) A (.builtin "dict.update.loop" ⟨[.ref D,.ref I,rawInt (i:Nat),.none],[]⟩) R s:=by
 have hDw:D∉wr:=λh=>hDf (W.sub _ h)
 have hsub:∀b∈wr,b∈D::wr:=λb hb=>Y0c _ hb
 intro k
 induction k with
 |zero=>
  intro i s hk hi hst hd ht hR
  have hin:i=n:=by lia
  subst hin
  refine codeAny_builtin Z1t ?_
  rw[Y0J Z0f _]
  show wpAny _ A.in1 (pyNext (.ref I)>>= _) _ _ s
  refine wpAny_bind (W.done s _ _ hst λs' hm=>?_)
  refine wpAny_bind (m:=Builtin.Dict.addKeywords D []) (wpAny_pure ?_)
  refine wpAny_pure (hR s' (hm.mono hsub) ?_)
  obtain⟨o,es,ep,ho,r⟩:=hd
  exact⟨o,es,ep,hm.heap D _ hDw ho,r⟩
 |succ k ih=>
  intro i s hk hi hst hd ht hR
  have hlt:i<n:=by lia
  refine codeAny_builtin Z1t ?_
  rw[Y0J Z0f _]
  show wpAny _ A.in1 (pyNext (.ref I)>>= _) _ _ s
  refine wpAny_bind (W.item i s _ _ hlt hst λv s' hP hst' hm=>?_)
  obtain⟨q,uk,np,oq,rfl,hqD,hqw,hq,hqc,hqd,hkey⟩:=ht i v hP
  have hq':=hm.heap q _ hqw hq
  have hd':s'.heap.DictOf knd D (stTo ks vs i):=by
   obtain⟨o,es,ep,ho,r⟩:=hd
   exact⟨o,es,ep,hm.heap D _ hDw ho,r⟩
  have hT:s'.TypeIs (.ref q) "tuple":=⟨_,hq',hqc⟩
  show wpAny _ A.in1 (holding [Y0k q] _ >>= _) _ _ s'
  refine wpAny_bind (wpAny_holding ?_)
  refine wpAny_bind (wpAny_tryCatch ?_)
  unfold Builtin.Dict.pairItems
  refine wpAny_bind (wpAny_typeOf hT ?_)
  have e2:(Y0n "tuple"==Y0n "tuple")=true:=rfl
  rw[e2,Y25,if_pos rfl]
  refine wpAny_bind (wpAny_seqItems hq' hqd (wpAny_pure ?_))
  show wpAny _ A.in1 (holding [uk,vs i] (dictSet D uk (vs i))) _ _ s'
  refine wpAny_holding ?_
  have hl:=stTo_len ks vs i
  refine wpAny_dictSet_pairs (knd:=knd) hkey hd' (λh' hd2 hsb=>?_) (by lia)
  refine wpAny_pure ⟨plainId_quiet Z0f _,?_⟩
  have:=ih (i+1) {s' with heap:=h',toks:=s'.toks+1} (by lia) hlt (W.frame _ s' _ _ hst' (Y3C _) λb hb o e=>?_) hd2 (λj v hPj=>?_) λs'' hm'' hd''=>?_
  ·exact this
  ·rw[hsb.2 b (λz:b=D=>hDf (by rw[<- z];exact hb))];exact e
  ·obtain⟨q,uk,np,oq,rfl,a1,a2,a3,a4⟩:=ht j v hPj
   exact⟨q,uk,np,oq,rfl,a1,a2,(hsb.2 q a1).trans (hm.heap q _ a2 a3),a4⟩
  ·refine hR s'' (Moved.trans W.gtrans ((hm.mono hsub).then_heap (Y3C _) λb o hb e=>?_) hm'') hd''
   rw[hsb.2 b (λz:b=D=>hb (by rw[z];exact Y0l))];exact e
theorem call_dictL{l:Addr}{items:Array Value}{nl:Nat}{ks:Nat->K}{vs:Nat->Value}{Q:Value->Shared->Prop}(hh:A.handled=none)(hl:s.heap.get? l=some (seqObj "list" items nl))(hn:items.size≤sizeLine)
  (ht:∀(j:Nat) v,items[j]?=some v->∃q uk np oq,v=.ref q/\s.heap.get? q=some oq/\oq.cls=.type "tuple"/\oq.data=.seq #[uk,vs j] np/\knd.is (ks j) uk=true)
  (h:∀h' tk,h'.DictOf knd s.heap.objs.size (stTo ks vs items.size)->(∀b o,b<s.heap.objs.size->s.heap.get? b=some o->h'.get? b=some o)->Q (.ref s.heap.objs.size) {s with heap:=h',toks:=tk}):
  wpAny (model prog w) A (call (.type "dict") [.ref l]) Q E s:=by
 refine callType_codes (Q₁:=fun obj s₁=>obj=.ref s.heap.objs.size/\s₁={s with heap:=s.heap.push {cls:=.type "dict",data:=.dict #[]} }) F.kt_called_dict (F.kt_typeCall_dict_1 _) F.entry_dict_init (kt_code_dict_new _ ⟨rfl,rfl⟩) ?_
 rintro obj s₁ ⟨rfl,rfl⟩
 have hnew:(s.heap.push {cls:=.type "dict",data:=.dict #[]}).DictOf knd s.heap.objs.size []:=Y3R s.heap
 have hl':(s.heap.push {cls:=.type "dict",data:=.dict #[]}).get? l=some (seqObj "list" items nl):=Y01 _ hl
 have hT:Y2r {s with heap:=s.heap.push {cls:=.type "dict",data:=.dict #[]} } (.ref l) "list":=⟨_,hl',rfl⟩
 refine⟨hnew.typeIs,F.args_dict_init_2 _ _,?_⟩
 unfold Builtin.«dict.__init__»
 refine wpAny_bind ?_
 unfold Y2W
 refine wpAny_bind (wpAny_notOrdered_dict hnew.typeIs ?_)
 show wpAny _ _ (pure (s.heap.objs.size,[Y0k l])) _ _ _
 refine wpAny_pure ?_
 show wpAny _ _ (Y1H "dict.__init__" s.heap.objs.size (.ref l) [] .none) _ _ _
 unfold Y1H
 refine wpAny_bind (wpAny_typeOf hT ?_)
 rw[if_pos (by decide)]
 refine wpAny_bind (keys_none (s:={s with heap:=s.heap.push {cls:=.type "dict",data:=.dict #[]} }) hl' (by simp[hh]) fun h1 t1 hk1=>?_)
 simp only[Option.isNone_none,if_true]
 refine wpAny_bind (wpAny_rule ?_)
 have hl1:h1.get? l=some (seqObj "list" items nl):=hk1 _ _ hl'
 have hL1:h1.IsList l items:=⟨_,hl1,rfl,nl,rfl⟩
 have hlS:l<s.heap.objs.size:=Y08 hl
 have hbig:s.heap.objs.size<h1.objs.size:=by
  obtain⟨o,es,ep,ho,_⟩:=hnew
  exact Y08 (hk1 _ _ ho)
 refine wpAny_bind (wpAny_pyIter_list (s:={s with heap:=h1,toks:=t1}) hL1 ?_)
 have hneI:l≠h1.objs.size:=Y0f (Y23 hlS hbig)
 refine wpAny_pure ⟨plainId_quiet Z0f _,?_⟩
 refine dict_loop (knd:=knd) (n:=items.size) ((Walks.list (A:=A.in1.in1) (by simp[hh]) h1.objs.size l hneI items).toS) s.heap.objs.size ?_ ks vs hn items.size 0 _ rfl (Y1x _)
  ⟨⟨_,Y0a _ rfl,rfl,rfl⟩,hL1.push _⟩ ?_ ?_ ?_
 ·simp only[Y05,Y0e,or_false,not_or]
  exact⟨Y0f hbig,Y21 hlS⟩
 ·obtain⟨o,es,ep,ho,r⟩:=hnew
  exact⟨o,es,ep,Y01 _ (hk1 _ _ ho),r⟩
 ·intro j v hv
  obtain⟨q,uk,np,oq,rfl,a1,a2⟩:=ht j v hv
  have hqS:q<s.heap.objs.size:=Y08 a1
  refine⟨q,uk,np,oq,rfl,Y0f hqS,?_,Y01 _ (hk1 _ _ (Y01 _ a1)),a2⟩
  simp only[Y0O]
  exact Y0f (Y23 hqS hbig)
 ·intro s' hm hd
  obtain⟨h',g',d',tk',os'⟩:=s'
  have eg:g'=s.gens:=hm.gens
  have ed:d'=s.drawn:=hm.drawn
  have eo:os'=s.os:=hm.os
  subst eg;subst ed;subst eo
  refine⟨rfl,h h' tk' hd λb o hb e=>?_⟩
  refine hm.heap b o ?_ (Y01 _ (hk1 _ _ (Y01 _ e)))
  simp only[Y05,Y0e,or_false,not_or]
  exact⟨Y0f hb,Y0f (Y23 hb hbig)⟩
end
end L2
namespace L2
open PySem PySem.Spec PyProof.Rows
noncomputable def PairsV(H:Hp):List (Key×V)->List V->Prop:=Paired fun(p:Key×V) (v:V)=>∃q,v=.ref q/\H q=some (.tup [kV p.1,p.2])
noncomputable def putAll(ps:List (Key×V)):List (Key×V):=ps.foldl (λc z=>putK c z.1 z.2) []
theorem Paired.at{α β:Type}{R:α->β->Prop}:∀{xs:List α} {ys:List β},Paired R xs ys->∀(i:Nat) (y:β),ys[i]?=some y->∃x,xs[i]?=some x/\R x y
 |_,_,.nil,i,y,h=>by simp at h
 |_,_,.cons r _,0,y,h=>by simp at h;subst h;exact⟨_,rfl,r⟩
 |_,_,.cons _ t,i+1,y,h=>by simp at h;obtain⟨x,hx,r⟩:=Paired.at t i y h;exact⟨x,by simpa using hx,r⟩
section
variable{X:Cx}
theorem call_dictP(hcalm:X.calm=true):CallR X (.type "dict") (fun xs H Q=>∃(a:Addr) (ps:List (Key×V)) (qs:List V),xs=[.ref a]/\H a=some (.lst qs)/\PairsV H ps qs/\∀p,H p=none->Q (.ref p) (upd H p (.dK (putAll ps)))):=by
 intro pins s σ H xs us Q I r h
 obtain⟨a,ps,qs,rfl,ha,hp,q⟩:=h
 obtain⟨u,rfl,ru⟩:=vals1 r
 cases ru
 obtain⟨hz,its,nl,rv,hl⟩:=(show ObjOk X.prog X.w H s.heap a (.lst qs)from I.hok a _ ha)
 have hh:=I.ok.hd hcalm
 have hlen:its.length=ps.length:=by rw[<- rv.length,hp.length]
 have hpair:∀(j:Nat) v,its.toArray[j]?=some v->∃q uk uv np oq,v=.ref q/\s.heap.get? q=some oq/\oq.cls=.type "tuple"/\oq.data=.seq #[uk,uv] np/\∃p,ps[j]?=some p/\RelV (kV p.1) uk/\RelV p.2 uv:=fun j v hv=>by
  have hv':its[j]?=some v:=by simpa using hv
  obtain⟨y,hy,ry⟩:=Paired.at rv j v hv'
  obtain⟨p,hpj,q,rfl,hq⟩:=Paired.at hp j y hy
  cases ry
  obtain⟨_,ts,rt,ht⟩:=(show ObjOk X.prog X.w H s.heap q (.tup [kV p.1,p.2])from I.hok q _ hq)
  obtain⟨uk,uv,rfl,r1,r2⟩:=vals2 rt
  obtain⟨oq,ho,hc,n,hd⟩:=ht.1
  exact⟨q,uk,uv,n,oq,rfl,ho,hc,hd,p,hpj,r1,r2⟩
 obtain⟨vs,hvs⟩:∃vs:Nat->Value,∀(j:Nat) v,its.toArray[j]?=some v->∃q uk np oq,v=.ref q/\s.heap.get? q=some oq/\oq.cls=.type "tuple"/\oq.data=.seq #[uk,vs j] np/\∃p,ps[j]?=some p/\RelV (kV p.1) uk/\RelV p.2 (vs j):=by
  refine⟨λj=>if h:j<its.length then(hpair j its[j] (by simp[h])).choose_spec.choose_spec.choose else .none,λj v hv=>?_⟩
  have hv':its[j]?=some v:=by simpa using hv
  obtain⟨hj,rfl⟩:=Y07.mp hv'
  dsimp only
  rw[dif_pos hj]
  have z:=(hpair j its[j] (by simp[hj]))
  exact⟨z.choose,z.choose_spec.choose,z.choose_spec.choose_spec.choose_spec⟩
 refine call_dictL (knd:=Z0Q X.prog X.w) (ks:=λj=>(ps.getD j (.inl 0,.non)).1) (vs:=vs) hh hl (by simpa [<- rv.length]using hz) (λj v hv=>?_) λh' tk hd hk=>?_
 ·obtain⟨q,uk,np,oq,e1,e2,e3,e4,p,hpj,r1,r2⟩:=hvs j v hv
  refine⟨q,uk,np,oq,e1,e2,e3,e4,kV_is ?_⟩
  rw[Y0K,hpj]
  exact r1
 have kv:∀i,i≤ps.length->KV ((ps.take i).foldl (λc z=>putK c z.1 z.2) []) (stTo (λj=>(ps.getD j (.inl 0,.non)).1) vs i):=by
  intro i
  induction i with
  |zero=>intro _;exact .nil
  |succ i ih=>
   intro hi
   have hlt:i<its.length:=by lia
   obtain⟨q,uk,np,oq,e1,e2,e3,e4,p,hpj,r1,r2⟩:=hvs i its[i] (by simp[hlt])
   rw[Y1d,hpj,Y2F,Y2X]
   show KV (putK _ p.1 p.2) (stored _ (ps.getD i (.inl 0,.non)).1 _)
   have ek:(ps.getD i (.inl 0,.non)).1=p.1:=by rw[Y0K,hpj];rfl
   rw[ek]
   exact(ih (by lia)).put p.1 r2
 have kvn:=kv ps.length (Y09 _)
 rw[Y2Z]at kvn
 have hsz:its.toArray.size=ps.length:=by simp[hlen]
 rw[hsz]at hd
 have hpl:ps.length≤sizeLine:=by rw[hp.length];exact hz
 have zl:(putAll ps).length≤sizeLine:=by
  have:=kvn.length
  have l2:=stTo_len (λj=>(ps.getD j (.inl 0,.non)).1) vs ps.length
  unfold putAll
  lia
 exact⟨.ref s.heap.objs.size,_,I.laid (a:=s.heap.objs.size) (o:=.dK (putAll ps)) (t':=tk) (λb u e=>hk b u (Y08 e) e) (Y09 _) (dk_new zl (beq_eq_false_iff_ne.mpr (Y2J (Y0f I.big))) kvn hd),rfl,q _ (I.hok.fresh (Y09 _))⟩
end
end L2
namespace L2
open PySem PySem.Spec PyProof.Rows
section
variable{X:Cx}
theorem bools_all:∀(bs:List Bool),((Y0I bs.length).all λi=>bs.getD i true)=bs.all id:=by
 intro bs
 have e:(Y0I bs.length).map (λi=>bs.getD i true)=bs:=by
  refine List.ext_getElem (by simp) λi h1 h2=>?_
  simp[Y3K,h2]
 conv=>rhs;rw[<- e]
 rw[List.all_map]
 rfl
theorem call_allB(hcalm:X.calm=true):CallR X (.builtin "all") (fun xs H Q=>∃(a:Addr) (bs:List Bool),xs=[.ref a]/\SqL X.K H a (bs.map V.bl)/\Q (.bl (bs.all id)) H):=by
 intro pins s σ H xs us Q I r h
 obtain⟨a,bs,rfl,ha,q⟩:=h
 obtain⟨u,rfl,ru⟩:=vals1 r
 cases ru
 obtain⟨its,rv,p,hz⟩:=I.list ha
 have hh:=I.ok.hd hcalm
 have hil:its.length=bs.length:=by rw[<- rv.length,Y03]
 have hit:∀(i:Nat) (v:Value),its.toArray[i]?=some v->v=.bool (bs.getD i true):=λi v hv=>by
  have hv':its[i]?=some v:=by simpa using hv
  have hlt:i<bs.length:=by rw[<- hil];exact(Y07.mp hv').1
  obtain⟨u,hu,ru⟩:=rv.get (i:=i) (x:=V.bl bs[i]) (by simp[hlt])
  rw[hv']at hu
  cases hu
  rw[show v=.bool bs[i]from ru]
  simp[Y3K,hlt]
 have hlS:a<s.heap.objs.size:=by obtain⟨o,n,e,_⟩:=p;exact Y08 e
 refine PySem.call_all_walk (wpAny_pyIter_list p.isList ⟨_,_,_,_,_,_,λi=>bs.getD i true,rfl,Walks.list (by simp[hh]) _ a (Y0f hlS) its.toArray,⟨⟨_,Y0a _ rfl,rfl,rfl⟩,p.isList.push _⟩,?_,λh' tk hk=>?_⟩)
 ·intro i v s Q E hP hQ
  rw[hit i v hP]
  exact wpAny_truthy_bool hQ
 ·have hsz:its.toArray.size=bs.length:=by simp[hil]
  rw[hsz,bools_all]
  refine⟨.bl _,H,I.kept (t':=tk) λb o e=>?_,rfl,q⟩
  exact hk b o (by simp only[Y0O];exact Y0f (Y08 e)) (Y01 _ e)
end
end L2
namespace L2
open PySem PySem.Spec PyProof.Rows
noncomputable def Its(x:Str):It:=⟨λi _=>i<x.cps.size,λi H v H'=>H'=H/\∃c,x.cps[i]?=some c/\v=.str ⟨#[c]⟩,λi _=>x.cps.size≤i⟩
theorem turn_strA{P:Program}{w:World}{K:Y00}{tg:Expr}(it:Addr)(x:Str)(t:Tok):Turn P w K tg (Its x) [it] it (fun i h=>h.IsStrIter it "str_ascii_iterator" x t i)where
 mem:=by simp
 obj:=λi h st b hb=>by
  have e:b=it:=by simpa using hb
  subst e
  obtain⟨o,e,c,d⟩:=st
  exact⟨o,e,λv z=>by rw[d]at z;cases z⟩
 keep:=λi h h' st k=>by
  obtain⟨o,e,c,d⟩:=st
  exact⟨o,k it (by simp) o e,c,d⟩
 item:=by
  intro X hP hw hK hc i pins s σ H E I hf st hg
  subst hP hw hK
  have hg:i<x.cps.size:=hg
  obtain⟨f0,f1,f2,f3,f4,f5⟩:=hf it (by simp)
  refine wpAny_pyNext_ascii_item st (c:=x.cps[i]) (by simp[hg]) λh' st' sb=>?_
  have I1:Inv X pins σ H {s with heap:=h',toks:=s.toks+1}:=I.turned (λb o hb e=>(sb.2 b hb).trans e) f0 f1 f3 f4 f5
  obtain⟨o,e,c,d⟩:=id st'
  exact⟨_,rfl,go_of (s:={s with heap:=h',toks:=s.toks+1}) e c d (by decide) ⟨.str ⟨#[x.cps[i]]⟩,H,I1,⟨_,rfl⟩,⟨rfl,_,by simp[hg],rfl⟩,st',λb hb=>(hf b hb).1⟩⟩
 done:=by
  intro X hP hw hK hc i pins s σ H E I hf st hg
  subst hP hw hK
  have hg:x.cps.size≤i:=hg
  obtain⟨f0,f1,f2,f3,f4,f5⟩:=hf it (by simp)
  exact wpAny_pyNext_ascii_end (I.ok.hd hc) st (by simp[hg]) λh' eb=>⟨rfl,I.turned (t':=s.toks) (λb o hb e=>eb b o hb e) f0 f1 f3 f4 f5⟩
 self:=λ_ _ _ _ _ st h=>wpAny_pyIter_striter_ascii st h
theorem turn_strW{P:Program}{w:World}{K:Y00}{tg:Expr}(it:Addr)(x:Str)(t:Tok):Turn P w K tg (Its x) [it] it (fun i h=>h.IsStrIter it "str_iterator" x t i)where
 mem:=by simp
 obj:=λi h st b hb=>by
  have e:b=it:=by simpa using hb
  subst e
  obtain⟨o,e,c,d⟩:=st
  exact⟨o,e,λv z=>by rw[d]at z;cases z⟩
 keep:=λi h h' st k=>by
  obtain⟨o,e,c,d⟩:=st
  exact⟨o,k it (by simp) o e,c,d⟩
 item:=by
  intro X hP hw hK hc i pins s σ H E I hf st hg
  subst hP hw hK
  have hg:i<x.cps.size:=hg
  obtain⟨f0,f1,f2,f3,f4,f5⟩:=hf it (by simp)
  refine wpAny_pyNext_wide_item st (c:=x.cps[i]) (by simp[hg]) λh' st' sb=>?_
  have I1:Inv X pins σ H {s with heap:=h',toks:=s.toks+1}:=I.turned (λb o hb e=>(sb.2 b hb).trans e) f0 f1 f3 f4 f5
  obtain⟨o,e,c,d⟩:=id st'
  exact⟨_,rfl,go_of (s:={s with heap:=h',toks:=s.toks+1}) e c d (by decide) ⟨.str ⟨#[x.cps[i]]⟩,H,I1,⟨_,rfl⟩,⟨rfl,_,by simp[hg],rfl⟩,st',λb hb=>(hf b hb).1⟩⟩
 done:=by
  intro X hP hw hK hc i pins s σ H E I hf st hg
  subst hP hw hK
  have hg:x.cps.size≤i:=hg
  obtain⟨f0,f1,f2,f3,f4,f5⟩:=hf it (by simp)
  exact wpAny_pyNext_wide_end (I.ok.hd hc) st (by simp[hg]) λh' eb=>⟨rfl,I.turned (t':=s.toks) (λb o hb e=>eb b o hb e) f0 f1 f3 f4 f5⟩
 self:=λ_ _ _ _ _ st h=>wpAny_pyIter_striter_wide st h
section
variable{X:Cx}{pins:List (Addr×Obj)}{σ:St}{H:Hp}{s:Shared}
theorem pi_str1{tg:Expr}{R:It->Hp->Prop}{E:Value->Shared->Prop}{x:Str}{t:Tok}(I:Inv X pins σ H s)(q:R (Its x) H):wpAny (model X.prog X.w) X.A (pyIter (.str x t)) (PIE X pins σ tg R) E s:=by
 have fp:∀b∈ [s.heap.objs.size],FpOk X pins H b:=λb hb=>by
  have e:b=s.heap.objs.size:=by simpa using hb
  subst e
  exact I.fpOk (Y09 _) (I.hok.fresh (Y09 _))
 cases ha:x.cps.all (·<128)
 ·exact wpAny_pyIter_wide ha ⟨s.heap.objs.size,[s.heap.objs.size],_,_,H,rfl,I.kept (t':=s.toks) λb o e=>Y01 _ e,turn_strW _ x t,⟨_,Y0a _ rfl,rfl,rfl⟩,fp,q⟩
 ·exact wpAny_pyIter_ascii ha ⟨s.heap.objs.size,[s.heap.objs.size],_,_,H,rfl,I.kept (t':=s.toks) λb o e=>Y01 _ e,turn_strA _ x t,⟨_,Y0a _ rfl,rfl,rfl⟩,fp,q⟩
noncomputable def iSeqS(X:Cx)(tl:TE):TI:=λσ H R=>tl σ H λx H1=>(∃a,x=.ref a/\((∃xs,SqL X.K H1 a xs/\R (Itl X.K a) H1)\/(∃xs,SqT X.K H1 a xs/\R (Itt X.K a) H1)\/∃kvs,H1 a=some (.dK kvs)/\∀o,(∀o' u',X.H₀ a≠some (.frz o' u'))->R (Itd a o) (upd H1 a (.frz o (.dK kvs)))))\/
 ∃z,x=.str z/\R (Its z) H1
theorem pi_seqS{tg l:Expr}{tl:TE}(hl:PE X l tl):PI X tg l (iSeqS X tl):=by
 intro pins s σ H R I h
 refine thn (hl pins s σ H _ I h) λv s1 ⟨x,H1,I1,r1,q1⟩=>?_
 rcases q1 with⟨a,e,q⟩|⟨z,e,q⟩
 ·subst e
  cases r1
  rcases q with⟨xs,hq,q⟩|⟨xs,hq,q⟩|⟨kvs,hq,q⟩
  ·obtain⟨its,rv,p,hz⟩:=I1.list hq
   refine wpAny_pyIter_list p.isList ?_
   refine⟨s1.heap.objs.size,[s1.heap.objs.size],_,_,H1,rfl,I1.kept (t':=s1.toks) λb o e=>Y01 _ e,turn_list a _,⟨_,Y0a _ rfl,rfl,rfl⟩,λb hb=>?_,q⟩
   have e:b=s1.heap.objs.size:=by simpa using hb
   subst e
   exact I1.fpOk (Y09 _) (I1.hok.fresh (Y09 _))
  ·obtain⟨its,rv,p,hz⟩:=I1.tuple hq
   refine wpAny_pyIter_tuple (show s1.heap.IsTuple a its.toArray from p) ?_
   refine⟨s1.heap.objs.size,[s1.heap.objs.size],_,_,H1,rfl,I1.kept (t':=s1.toks) λb o e=>Y01 _ e,turn_tuple a _,⟨_,Y0a _ rfl,rfl,rfl⟩,λb hb=>?_,q⟩
   have e:b=s1.heap.objs.size:=by simpa using hb
   subst e
   exact I1.fpOk (Y09 _) (I1.hok.fresh (Y09 _))
  ·exact pi_dict1 I1 hq q
 ·subst e
  obtain⟨t,rfl⟩:=r1
  exact pi_str1 I1 q
theorem is_bool_gen{M:Model}{A:Around}{E:Value->Shared->Prop}{s:Shared}{Q:Value->Shared->Prop}{v:Value}{b:Bool}(hv:∀i,v≠.builtin i)(h:Q (.bool (v==.bool b)) s):wpAny M A (compareOp .Is v (.bool b)) Q E s:=by
 cases v<;>first|exact wpAny_pure h|exact absurd rfl (hv _)
theorem isnot_bool_gen{M:Model}{A:Around}{E:Value->Shared->Prop}{s:Shared}{Q:Value->Shared->Prop}{v:Value}{b:Bool}(hv:∀i,v≠.builtin i)(h:Q (.bool (!(v==.bool b))) s):wpAny M A (compareOp .IsNot v (.bool b)) Q E s:=by
 cases v<;>first|exact wpAny_pure h|exact absurd rfl (hv _)
theorem rel_noblt{x:V}{v:Value}(r:RelV x v):∀i,v≠.builtin i:=λi e=>by
 subst e
 cases x<;>first|(cases r;done)|(obtain⟨t,e⟩:=r;cases e)
theorem rel_isbl{x:V}{v:Value}{b:Bool}(r:RelV x v):decide (x=.bl b)=(v==Y0X b):=by
 cases x<;>first
  |(cases r;rename_i c;cases b<;>cases c<;>rfl)
  |(cases r;rfl)
  |(obtain⟨t,rfl⟩:=r;rfl)
theorem op_isBl:OpR X (compareOp .Is) (λx y H Q=>∃b,y=.bl b/\Q (.bl (decide (x=.bl b))) H):=by
 intro pins s σ H x y v u Q I rx ry h
 obtain⟨b,rfl,q⟩:=h
 cases ry
 exact is_bool_gen (rel_noblt rx) (Z0d I q (rel_isbl rx))
theorem op_notBl:OpR X (compareOp .IsNot) (λx y H Q=>∃b,y=.bl b/\Q (.bl (!decide (x=.bl b))) H):=by
 intro pins s σ H x y v u Q I rx ry h
 obtain⟨b,rfl,q⟩:=h
 cases ry
 exact isnot_bool_gen (rel_noblt rx) (Z0d I q (by rw[rel_isbl rx]))
theorem isinst2_ok{A:Around}{E:Value->Shared->Prop}{Q:Value->Shared->Prop}{x:V}{u t c d:Value}{b b':Bool}{tp:Addr}{dd:Option Addr}{n:Nat}{sl:Array (Option Value)}(I:Inv X pins σ H s)(rx:RelV x u)(ty:TyOf X.K H x t)(e:Y1k X.K t c=some b)(e':Y1k X.K t d=some b')
  (htp:s.heap.get? tp=some ⟨.type "tuple",dd,.seq [c,d].toArray n,sl⟩) (h:∀tk,Q (.bool (b||b')) {s with toks:=tk}):wpAny (model X.prog X.w) A (call (.builtin "isinstance") [u,.ref tp]) Q E s:=by
 have ea:Y2M X.K t [c,d]=some (b||b'):=by
  unfold Y2M
  rw[e]
  cases b with
  |true=>rfl
  |false=>
   show Y2M X.K t [d]=some b'
   unfold Y2M
   rw[e']
   cases b'<;>rfl
 cases ty with
 |non=>cases(show u=Y0i from rx);exact Y15 PySem.W.kitx_none I.kIn Y1z htp ea (λz=>nomatch z) h
 |bl y=>cases(show u=Y0X y from rx);exact Y15 PySem.W.kitx_bool I.kIn Y1z htp ea (λz=>nomatch z) h
 |int i=>obtain⟨t,q⟩:=(show∃t,u=Y3F i t from rx);cases q;exact Y15 PySem.W.kitx_int I.kIn Y1z htp ea (λz=>nomatch z) h
 |str y=>obtain⟨t,q⟩:=(show∃t,u=Y0r y t from rx);cases q;exact Y15 PySem.W.kitx_str I.kIn Y1z htp ea (λz=>nomatch z) h
 |flt y=>obtain⟨t,q⟩:=(show∃t,u=Value.float y t from rx);cases q;exact Y15 PySem.W.kitx_float I.kIn Y1z htp ea (λz=>nomatch z) h
 | @lst a xs ea'=>
  cases(show u=Y0k a from rx)
  obtain⟨_,_,n,_,h1⟩:=(show ObjOk X.prog X.w H s.heap a (.lst xs)from I.hok a _ ea')
  exact Y15 Y2g I.kIn ⟨_,h1,rfl⟩ htp ea (λz=>nomatch z) h
 | @frz a ob xs ea'=>
  cases(show u=Y0k a from rx)
  obtain⟨_,_,_,n,_,h1⟩:=(show ObjOk X.prog X.w H s.heap a (.frz ob (.lst xs))from I.hok a _ ea')
  exact Y15 Y2g I.kIn ⟨_,h1,rfl⟩ htp ea (λz=>nomatch z) h
 | @tup a xs ea'=>
  cases(show u=Y0k a from rx)
  obtain⟨_,_,_,p⟩:=(show ObjOk X.prog X.w H s.heap a (.tup xs)from I.hok a _ ea')
  obtain⟨o,h1,h2,_⟩:=p.1
  exact Y15 PySem.W.kitx_tuple I.kIn ⟨o,h1,h2⟩ htp ea (λz=>nomatch z) h
 | @dK a kvs ea'=>
  cases(show u=Y0k a from rx)
  obtain⟨_,_,vs,_,p⟩:=(show ObjOk X.prog X.w H s.heap a (.dK kvs)from I.hok a _ ea')
  obtain⟨o,es,ep,h1,h2,_⟩:=p
  exact Y15 Y2h I.kIn ⟨o,h1,h2.1⟩ htp ea (λz=>nomatch z) h
 | @dT a kvs ea'=>
  cases(show u=Y0k a from rx)
  obtain⟨_,_,xs,_,o,es,ep,h1,h2,_⟩:=(show ObjOk X.prog X.w H s.heap a (.dT kvs)from I.hok a _ ea')
  exact Y15 Y2h I.kIn ⟨o,h1,h2.1⟩ htp ea (λz=>nomatch z) h
 | @ins a C dx fs ea' cl ha hn htk hm=>
  cases(show u=Y0k a from rx)
  obtain⟨mA,O,_⟩:=ins_get I.hok ea'
  obtain⟨od,J,_⟩:=O.look
  exact Y15 (PySem.W.kitx_own (cl.get _) cl.hd ha hn htk hm) I.kIn J htp ea (λz=>nomatch z) h
theorem call_isinst2:CallR X (.builtin "isinstance") (fun xs H Q=>∃x a c d t b b',xs=[x,.ref a]/\H a=some (.tup [.ty c,.ty d])/\TyOf X.K H x t/\Y1k X.K t (.type c)=some b/\Y1k X.K t (.type d)=some b'/\Q (.bl (b||b')) H):=by
 intro pins s σ H xs us Q I r h
 obtain⟨x,a,c,d,t,b,b',rfl,ha,ty,e,e',q⟩:=h
 obtain⟨u,w',rfl,ru,rw'⟩:=vals2 r
 cases rw'
 obtain⟨its,rv,p,_⟩:=I.tuple (SqT.of (K:=X.K) ha)
 obtain⟨⟨cls,dd,data,sl⟩,ho,hc,n,hd⟩:=id p
 simp only at hc hd
 subst hc hd
 cases rv with
 |cons r1 r2=>
  cases r2 with
  |cons r3 r4=>
   cases r4
   cases r1
   cases r3
   exact isinst2_ok I ru ty e e' ho λtk=>⟨.bl (b||b'),H,I.tok tk,rfl,q⟩
end
end L2
namespace L2
open PySem PySem.Spec PyProof.Rows
section
variable{X:Cx}
end
end L2
namespace L2
open PySem PySem.Spec PyProof.Rows
theorem lk_tuple_keys:typeLookup (.type "tuple") "keys"=pure none:=by rw[typeLookup_type,builtinLookup_eq_fast];kernel_rfl
theorem lk_tuple_hook:typeLookup (.type "tuple") "__getattr__"=pure none:=by rw[typeLookup_type,builtinLookup_eq_fast];kernel_rfl
section
variable{prog:Program}{w:World}{A:Around}{E:Value->Shared->Prop}{h:Heap}{g:Array GenState}{d:Drawn}{t:Nat}{os:OsState}{a:Addr}{its:Array Value}{n:Nat}{sl:Array (Option Value)}
theorem keysT_entry{tk:Tok}{Q:Fin->Shared->Prop}(hx:h.get? a=some (⟨.type "tuple",none,.seq its n,sl⟩))(hh:A.handled=none)
  (hE:∀e h' t',(∀b o,h.get? b=some o->h'.get? b=some o)->(∃o,h'.get? e=some o/\o.cls=.type "AttributeError")->E (.ref e) ⟨h',g,d,t',os⟩):
  wpAny (model prog w) A (Builtin.«object.__getattribute__» ⟨[.ref a,.str "keys" tk],[]⟩) Q E ⟨h,g,d,t,os⟩:=by
 have hT:(⟨h,g,d,t,os⟩:Shared).TypeIs (.ref a) "tuple":=⟨_,hx,rfl⟩
 have f4:=lk_tuple_keys
 unfold Builtin.«object.__getattribute__»
 repeat (any_goals (first|assumption|wp_step))
 have hmsg:¬(Y0t (toString "'"++toString ((Y1X "tuple").elim "tuple" fun x=>x.tpName)++toString "' object has no attribute '")++Y0t "keys"++Y0t "'").length>sizeLine:=by decide+kernel
 generalize(Y0t (toString "'"++toString ((Y1X "tuple").elim "tuple" fun x=>x.tpName)++toString "' object has no attribute '")++Y0t "keys"++Y0t "'")=msg at hmsg ⊢
 unfold raiseAttrError
 refine wpAny_bind ?_
 unfold mkStr
 rw[if_neg hmsg]
 repeat (any_goals (first|assumption|wp_step))
 show wpAny _ _ (isSubtype (.type "AttributeError") (.type "AttributeError")) _ _ _
 rw[sub_attr]
 generalize(if((Y1X "AttributeError").elim false fun t=>t.mro.contains "StopIteration"||t.mro.contains "SystemExit")=true then [Y0r msg t].headD Y0i else Y0i)=fm
 refine wpAny_pure ?_
 simp only[Y1T,Y0m,if_false]
 have hoE:((h.push {cls:=Y0n "tuple",data:=Y1Y #[Y0r msg t]}).push {cls:=Y0n "AttributeError",data:=Y1G (#[Y0k h.objs.size,Y0i,Y0i,Y0i,Y0X false,fm]++ownMembersOf (Y0n "AttributeError") [Y0r msg t])}).get? (h.push {cls:=Y0n "tuple",data:=Y1Y #[Y0r msg t]}).objs.size=some {cls:=Y0n "AttributeError",data:=Y1G (#[Y0k h.objs.size,Y0i,Y0i,Y0i,Y0X false,fm]++ownMembersOf (Y0n "AttributeError") [Y0r msg t])}:=Y0a _ rfl
 have e6:(#[Y0k h.objs.size,Y0i,Y0i,Y0i,Y0X false,fm]++ownMembersOf (Y0n "AttributeError") [Y0r msg t])[6]?=some (.int 0 0):=rfl
 have e7:(#[Y0k h.objs.size,Y0i,Y0i,Y0i,Y0X false,fm]++ownMembersOf (Y0n "AttributeError") [Y0r msg t])[7]?=some (.int 0 0):=rfl
 have old:∀b o,h.get? b=some o->((h.push {cls:=Y0n "tuple",data:=Y1Y #[Y0r msg t]}).push {cls:=Y0n "AttributeError",data:=Y1G (#[Y0k h.objs.size,Y0i,Y0i,Y0i,Y0X false,fm]++ownMembersOf (Y0n "AttributeError") [Y0r msg t])}).get? b=some o/\b<(h.push {cls:=Y0n "tuple",data:=Y1Y #[Y0r msg t]}).objs.size:=fun b o e=>
  ⟨Y01 _ (Y01 _ e),by rw[Y1l];exact Y1m (Y08 e)⟩
 generalize(h.push {cls:=Y0n "tuple",data:=Y1Y #[Y0r msg t]}).objs.size=ea at*
 generalize((h.push {cls:=Y0n "tuple",data:=Y1Y #[Y0r msg t]}).push {cls:=Y0n "AttributeError",data:=Y1G (#[Y0k h.objs.size,Y0i,Y0i,Y0i,Y0X false,fm]++ownMembersOf (Y0n "AttributeError") [Y0r msg t])})=h2 at*
 generalize hvs:#[Y0k h.objs.size,Y0i,Y0i,Y0i,Y0X false,fm]++ownMembersOf (Y0n "AttributeError") [Y0r msg t]=vs at*
 refine wpAny_bind (wpAny_load hoE ?_)
 dsimp only
 rw[e6,e7]
 simp only[Y2n,Y0m,if_false]
 rw[if_neg (by decide)]
 refine wpAny_pure ?_
 simp only[if_true]
 have hT2:(⟨h2,g,d,t+1+1,os⟩:Shared).TypeIs (.ref ea) "AttributeError":=⟨_,hoE,rfl⟩
 refine wpAny_bind (wpAny_rule ?_)
 refine wpAny_bind (wpAny_typeOf hT2 ?_)
 dsimp only
 unfold layMembers
 refine wpAny_bind (wpAny_load hoE ?_)
 dsimp only
 refine wpAny_update hoE ?_
 unfold raiseNew
 refine wpAny_bind (wpAny_handled ?_)
 rw[hh]
 show wpAny _ _ (throw (Y0k ea)) _ _ _
 have hup:=Y1f (Y3J fun vs=>vs.extract 0 6++#[Y0r (Y0t "keys") (t+1),Y0k a]) hoE (Y2m (Y2b rfl _))
 refine wpAny_throw (hE ea _ _ (λb o e=>?_) ⟨_,hup,Y2T ..⟩)
 have:=old b o e
 exact(Y1q _ _ (Y21 this.2)).trans this.1
theorem keysT_by{tk:Tok}{Q:Value->Shared->Prop}(hx:h.get? a=some (⟨.type "tuple",none,.seq its n,sl⟩))(hh:A.handled=none)
  (hE:∀e h' t',(∀b o,h.get? b=some o->h'.get? b=some o)->(∃o,h'.get? e=some o/\o.cls=.type "AttributeError")->E (.ref e) ⟨h',g,d,t',os⟩):
  wpAny (model prog w) A (getAttrBy (.ref a) (.str "keys" tk) false) Q E ⟨h,g,d,t,os⟩:=by
 have hT:(⟨h,g,d,t,os⟩:Shared).TypeIs (.ref a) "tuple":=⟨_,hx,rfl⟩
 have f2:=Y1y.lookup
 have f3:=Y1y.bind (.ref a)
 repeat (any_goals (first|assumption|wp_step))
 refine codeAny_call_builtin Y1y.plain F.entry_tuple_ga (Y1y.check _ _ _ _ _ _ _ _ hT (F.args_tuple_getattribute_2 _ _) (keysT_entry hx (by simp[hh]) λe h' t' k ho=>?_))
 have hTe:(⟨h',g,d,t',os⟩:Shared).TypeIs (.ref e) "AttributeError":=ho
 show wpAny _ _ (getattributeRaised _ _ _ _ _ _ _) _ _ _
 unfold getattributeRaised
 refine wpAny_bind (wpAny_isInstance hTe sub_attr ?_)
 simp only[if_true]
 unfold hookBehind onTheHeap
 simp only[Y0m,if_false]
 rw[lk_tuple_hook]
 refine wpAny_bind (wpAny_pure ?_)
 unfold hookOrError attributeErrorLeaves
 simp only[Y2L,if_true]
 exact wpAny_bind (wpAny_throw (hE e h' t' k ho))
theorem keysT_none{Q:Option Value->Shared->Prop}{s:Shared}(hx:s.heap.get? a=some (⟨.type "tuple",none,.seq its n,sl⟩))(hh:A.handled=none)
  (hQ:∀h' t',(∀b o,s.heap.get? b=some o->h'.get? b=some o)->Q none {s with heap:=h',toks:=t'}):wpAny (model prog w) A (getAttr? (.ref a) "keys") Q E s:=by
 obtain⟨h,g,d,t,os⟩:=s
 unfold getAttr? getAttrBy? mkText
 refine wpAny_bind (wpAny_bind (wpAny_fresh (wpAny_pure ?_)))
 refine wpAny_bind (wpAny_attempt (keysT_by hx hh λe h' t' k ho=>?_))
 have hTe:(⟨h',g,d,t',os⟩:Shared).TypeIs (.ref e) "AttributeError":=ho
 refine wpAny_bind (wpAny_isInstance hTe sub_attr ?_)
 simp only[if_true]
 exact wpAny_pure (hQ h' t' k)
end
section
variable{prog:Program}{w:World}{A:Around}{E:Value->Shared->Prop}{s:Shared}{K:Type} [DecidableEq K] {knd:KeyKind prog w K}
theorem call_dictT{l:Addr}{items:Array Value}{nl:Nat}{sl:Array (Option Value)}{ks:Nat->K}{vs:Nat->Value}{Q:Value->Shared->Prop}(hh:A.handled=none)(hl:s.heap.get? l=some (⟨.type "tuple",none,.seq items nl,sl⟩))(hn:items.size≤sizeLine)
  (ht:∀(j:Nat) v,items[j]?=some v->∃q uk np oq,v=.ref q/\s.heap.get? q=some oq/\oq.cls=.type "tuple"/\oq.data=.seq #[uk,vs j] np/\knd.is (ks j) uk=true)
  (h:∀h' tk,h'.DictOf knd s.heap.objs.size (stTo ks vs items.size)->(∀b o,b<s.heap.objs.size->s.heap.get? b=some o->h'.get? b=some o)->Q (.ref s.heap.objs.size) {s with heap:=h',toks:=tk}):
  wpAny (model prog w) A (call (.type "dict") [.ref l]) Q E s:=by
 refine callType_codes (Q₁:=fun obj s₁=>obj=.ref s.heap.objs.size/\s₁={s with heap:=s.heap.push {cls:=.type "dict",data:=.dict #[]} }) F.kt_called_dict (F.kt_typeCall_dict_1 _) F.entry_dict_init (kt_code_dict_new _ ⟨rfl,rfl⟩) ?_
 rintro obj s₁ ⟨rfl,rfl⟩
 have hnew:(s.heap.push {cls:=.type "dict",data:=.dict #[]}).DictOf knd s.heap.objs.size []:=Y3R s.heap
 have hl':(s.heap.push {cls:=.type "dict",data:=.dict #[]}).get? l=some (⟨.type "tuple",none,.seq items nl,sl⟩):=Y01 _ hl
 have hT:Y2r {s with heap:=s.heap.push {cls:=.type "dict",data:=.dict #[]} } (.ref l) "tuple":=⟨_,hl',rfl⟩
 refine⟨hnew.typeIs,F.args_dict_init_2 _ _,?_⟩
 unfold Builtin.«dict.__init__»
 refine wpAny_bind ?_
 unfold Y2W
 refine wpAny_bind (wpAny_notOrdered_dict hnew.typeIs ?_)
 show wpAny _ _ (pure (s.heap.objs.size,[Y0k l])) _ _ _
 refine wpAny_pure ?_
 show wpAny _ _ (Y1H "dict.__init__" s.heap.objs.size (.ref l) [] .none) _ _ _
 unfold Y1H
 refine wpAny_bind (wpAny_typeOf hT ?_)
 rw[if_pos (by decide)]
 refine wpAny_bind (keysT_none (s:={s with heap:=s.heap.push {cls:=.type "dict",data:=.dict #[]} }) hl' (by simp[hh]) fun h1 t1 hk1=>?_)
 simp only[Option.isNone_none,if_true]
 refine wpAny_bind (wpAny_rule ?_)
 have hl1:h1.get? l=some (⟨.type "tuple",none,.seq items nl,sl⟩):=hk1 _ _ hl'
 have hL1:h1.IsTuple l items:=⟨_,hl1,rfl,nl,rfl⟩
 have hlS:l<s.heap.objs.size:=Y08 hl
 have hbig:s.heap.objs.size<h1.objs.size:=by
  obtain⟨o,es,ep,ho,_⟩:=hnew
  exact Y08 (hk1 _ _ ho)
 refine wpAny_bind (wpAny_pyIter_tuple (s:={s with heap:=h1,toks:=t1}) hL1 ?_)
 have hneI:l≠h1.objs.size:=Y0f (Y23 hlS hbig)
 refine wpAny_pure ⟨plainId_quiet Z0f _,?_⟩
 refine dict_loop (knd:=knd) (n:=items.size) ((Walks.tuple (A:=A.in1.in1) (by simp[hh]) h1.objs.size l hneI items).toS) s.heap.objs.size ?_ ks vs hn items.size 0 _ rfl (Y1x _)
  ⟨⟨_,Y0a _ rfl,rfl,rfl⟩,hL1.push _⟩ ?_ ?_ ?_
 ·simp only[Y05,Y0e,or_false,not_or]
  exact⟨Y0f hbig,Y21 hlS⟩
 ·obtain⟨o,es,ep,ho,r⟩:=hnew
  exact⟨o,es,ep,Y01 _ (hk1 _ _ ho),r⟩
 ·intro j v hv
  obtain⟨q,uk,np,oq,rfl,a1,a2⟩:=ht j v hv
  have hqS:q<s.heap.objs.size:=Y08 a1
  refine⟨q,uk,np,oq,rfl,Y0f hqS,?_,Y01 _ (hk1 _ _ (Y01 _ a1)),a2⟩
  simp only[Y0O]
  exact Y0f (Y23 hqS hbig)
 ·intro s' hm hd
  obtain⟨h',g',d',tk',os'⟩:=s'
  have eg:g'=s.gens:=hm.gens
  have ed:d'=s.drawn:=hm.drawn
  have eo:os'=s.os:=hm.os
  subst eg;subst ed;subst eo
  refine⟨rfl,h h' tk' hd λb o hb e=>?_⟩
  refine hm.heap b o ?_ (Y01 _ (hk1 _ _ (Y01 _ e)))
  simp only[Y05,Y0e,or_false,not_or]
  exact⟨Y0f hb,Y0f (Y23 hb hbig)⟩
end
section
variable{X:Cx}
theorem call_dictPT(hcalm:X.calm=true):CallR X (.type "dict") (fun xs H Q=>∃(a:Addr) (ps:List (Key×V)) (qs:List V),xs=[.ref a]/\H a=some (.tup qs)/\PairsV H ps qs/\∀p,H p=none->Q (.ref p) (upd H p (.dK (putAll ps)))):=by
 intro pins s σ H xs us Q I r h
 obtain⟨a,ps,qs,rfl,ha,hp,q⟩:=h
 obtain⟨u,rfl,ru⟩:=vals1 r
 cases ru
 obtain⟨hz,its,rv,⟨ol,hl,hlc,nl,hld⟩,ol2,hl2,hdn⟩:=(show ObjOk X.prog X.w H s.heap a (.tup qs)from I.hok a _ ha)
 have hh:=I.ok.hd hcalm
 rw[hl]at hl2
 cases hl2
 obtain⟨lc,ldc,ld,lsl⟩:=ol
 cases hlc;cases hld;cases hdn
 have hlen:its.length=ps.length:=by rw[<- rv.length,hp.length]
 have hpair:∀(j:Nat) v,its.toArray[j]?=some v->∃q uk uv np oq,v=.ref q/\s.heap.get? q=some oq/\oq.cls=.type "tuple"/\oq.data=.seq #[uk,uv] np/\∃p,ps[j]?=some p/\RelV (kV p.1) uk/\RelV p.2 uv:=fun j v hv=>by
  have hv':its[j]?=some v:=by simpa using hv
  obtain⟨y,hy,ry⟩:=Paired.at rv j v hv'
  obtain⟨p,hpj,q,rfl,hq⟩:=Paired.at hp j y hy
  cases ry
  obtain⟨_,ts,rt,ht⟩:=(show ObjOk X.prog X.w H s.heap q (.tup [kV p.1,p.2])from I.hok q _ hq)
  obtain⟨uk,uv,rfl,r1,r2⟩:=vals2 rt
  obtain⟨oq,ho,hc,n,hd⟩:=ht.1
  exact⟨q,uk,uv,n,oq,rfl,ho,hc,hd,p,hpj,r1,r2⟩
 obtain⟨vs,hvs⟩:∃vs:Nat->Value,∀(j:Nat) v,its.toArray[j]?=some v->∃q uk np oq,v=.ref q/\s.heap.get? q=some oq/\oq.cls=.type "tuple"/\oq.data=.seq #[uk,vs j] np/\∃p,ps[j]?=some p/\RelV (kV p.1) uk/\RelV p.2 (vs j):=by
  refine⟨λj=>if h:j<its.length then(hpair j its[j] (by simp[h])).choose_spec.choose_spec.choose else .none,λj v hv=>?_⟩
  have hv':its[j]?=some v:=by simpa using hv
  obtain⟨hj,rfl⟩:=Y07.mp hv'
  dsimp only
  rw[dif_pos hj]
  have z:=(hpair j its[j] (by simp[hj]))
  exact⟨z.choose,z.choose_spec.choose,z.choose_spec.choose_spec.choose_spec⟩
 refine call_dictT (knd:=Z0Q X.prog X.w) (ks:=λj=>(ps.getD j (.inl 0,.non)).1) (vs:=vs) hh hl (by simpa [<- rv.length]using hz) (λj v hv=>?_) λh' tk hd hk=>?_
 ·obtain⟨q,uk,np,oq,e1,e2,e3,e4,p,hpj,r1,r2⟩:=hvs j v hv
  refine⟨q,uk,np,oq,e1,e2,e3,e4,kV_is ?_⟩
  rw[Y0K,hpj]
  exact r1
 have kv:∀i,i≤ps.length->KV ((ps.take i).foldl (λc z=>putK c z.1 z.2) []) (stTo (λj=>(ps.getD j (.inl 0,.non)).1) vs i):=by
  intro i
  induction i with
  |zero=>intro _;exact .nil
  |succ i ih=>
   intro hi
   have hlt:i<its.length:=by lia
   obtain⟨q,uk,np,oq,e1,e2,e3,e4,p,hpj,r1,r2⟩:=hvs i its[i] (by simp[hlt])
   rw[Y1d,hpj,Y2F,Y2X]
   show KV (putK _ p.1 p.2) (stored _ (ps.getD i (.inl 0,.non)).1 _)
   have ek:(ps.getD i (.inl 0,.non)).1=p.1:=by rw[Y0K,hpj];rfl
   rw[ek]
   exact(ih (by lia)).put p.1 r2
 have kvn:=kv ps.length (Y09 _)
 rw[Y2Z]at kvn
 have hsz:its.toArray.size=ps.length:=by simp[hlen]
 rw[hsz]at hd
 have hpl:ps.length≤sizeLine:=by rw[hp.length];exact hz
 have zl:(putAll ps).length≤sizeLine:=by
  have:=kvn.length
  have l2:=stTo_len (λj=>(ps.getD j (.inl 0,.non)).1) vs ps.length
  unfold putAll
  lia
 exact⟨.ref s.heap.objs.size,_,I.laid (a:=s.heap.objs.size) (o:=.dK (putAll ps)) (t':=tk) (λb u e=>hk b u (Y08 e) e) (Y09 _) (dk_new zl (beq_eq_false_iff_ne.mpr (Y2J (Y0f I.big))) kvn hd),rfl,q _ (I.hok.fresh (Y09 _))⟩
end
end L2
namespace L2
open PySem PySem.Spec PyProof.Rows
noncomputable def cutS(x:Str)(lo hi:Option Int):Str:=⟨((x.cps.toList.drop (HT.sIx x.cps.toList.length 0 lo)).take (HT.sIx x.cps.toList.length x.cps.toList.length hi - HT.sIx x.cps.toList.length 0 lo)).toArray⟩
theorem cutS_len(x:Str)(lo hi:Option Int):(cutS x lo hi).length≤x.length:=by
 unfold cutS Y3M
 simp only[Y0h,Y0p,Y0T,Y0g]
 lia
theorem strPick_cut(x:Str)(lo hi:Option Int):((Y1p lo hi 1 x.length).filterMap (x.cps[·]?)).toArray=(cutS x lo hi).cps:=by
 obtain⟨h1,h2,h3⟩:=slice_bounds lo hi x.length
 have e:Y1p lo hi 1 x.length=sliceRange (sliceBounds lo hi none x.length).1 (sliceBounds lo hi none x.length).2.1 (sliceBounds lo hi none x.length).2.2:=rfl
 have el:x.cps.toList.length=x.length:=by simp[Y3M]
 rw[e,h1,h2,h3,sliceRange_one,pick_run]
 unfold cutS
 rw[el]
theorem cutS_whole{x:Str}{lo hi:Option Int}(h:(Y1p lo hi 1 x.length).length=x.length):cutS x lo hi=x:=by
 obtain⟨h1,h2,h3⟩:=slice_bounds lo hi x.length
 have e:Y1p lo hi 1 x.length=sliceRange (sliceBounds lo hi none x.length).1 (sliceBounds lo hi none x.length).2.1 (sliceBounds lo hi none x.length).2.2:=rfl
 have el:x.cps.toList.length=x.length:=by simp[Y3M]
 rw[e,h1,h2,h3,sliceRange_one,Y03,Y1c]at h
 unfold cutS
 rw[el]
 have hb:HT.sIx x.length x.length hi≤x.length:=by
  unfold HT.sIx
  cases hi with
  |none=>exact Y09 _
  |some i=>dsimp only;split<;>lia
 obtain⟨cps⟩:=x
 congr 1
 have e0:∀(n a b:Nat),b≤n->b - a=n->n=0\/a=0:=by lia
 rcases e0 _ _ _ hb h with z|z
 ·have:cps.toList=[]:=by
   rw[<- Y2a];rw[Y0g];exact z
  simp[this]
  have:cps=#[]:=by apply Array.toList_inj.mp;simpa using this
  rw[this]
 ·rw[h,z,Y3y,Y13 (by rw[Y0g];exact Y09 _)]
section
variable{X:Cx}
noncomputable def rSlS:V->Option Int->Option Int->Hp->VK->Prop:=λx lo hi H Q=>∃z:Str,x=.str z/\z.length≤sizeLine/\Q (.str (cutS z lo hi)) H
theorem isPart_val{v:Value}{o:Option Int}(h:IsPart v o):∃l:Option (Int×Tok),v=partValue l/\l.map (·.1)=o:=by
 cases h with
 |none=>exact⟨none,rfl,rfl⟩
 |int i t=>exact⟨some (i,t),rfl,rfl⟩
theorem sl_str:SlR X rSlS:=by
 intro pins s σ H x v vl vu lo hi sl Q I rx hs pl pu h
 obtain⟨z,rfl,hz,q⟩:=h
 obtain⟨t,rfl⟩:=rx
 obtain⟨l,rfl,rfl⟩:=isPart_val pl
 obtain⟨u,rfl,rfl⟩:=isPart_val pu
 refine⟨"str",_,slot_str_getitem.lookup,typeIs_str s z t,?_⟩
 refine wpAny_getItem_str_slice (l:=l) (u:=u) (st:=none) hs rfl ?_
 unfold sliceMade
 by_cases hc:(((none:Option (Int×Tok)).map (·.1)).getD 1==1&&(slicePicked z l u none).length==z.length)=true
 ·rw[if_pos hc]
  have e:cutS z (l.map (·.1)) (u.map (·.1))=z:=by
   refine cutS_whole ?_
   rw[Y06]at hc
   exact eq_of_beq hc.2
  rw[e]at q
  exact⟨.str z,H,I,⟨_,rfl⟩,q⟩
 ·rw[if_neg hc]
  have e:(⟨((slicePicked z l u none).filterMap (z.cps[·]?)).toArray⟩:Str)=cutS z (l.map (·.1)) (u.map (·.1)):=by
   have:=strPick_cut z (l.map (·.1)) (u.map (·.1))
   unfold slicePicked
   rw[show((none:Option (Int×Tok)).map (·.1)).getD 1=(1:Int)from rfl,this]
  rw[e]
  exact⟨Y0M (cutS_len _ _ _) hz,.str _,H,I.tok _,⟨_,rfl⟩,q⟩
end
end L2
namespace L2
open PySem PySem.Spec PyProof.Rows
theorem vals_at:∀{xs:List V} {vs:List Value},xs.length=vs.length->(∀(j:Nat) x v,xs[j]?=some x->vs[j]?=some v->RelV x v)->Vals xs vs
 |[],[],_,_=>.nil
 |[],_::_,h,_=>by cases h
 |_::_,[],h,_=>by cases h
 |x::xs,v::vs,h,r=>.cons (r 0 x v rfl rfl) (vals_at (by simpa using h) λj a b ha hb=>r (j+1) a b (by simpa using ha) (by simpa using hb))
theorem items_range{acc:Array Value}{n:Nat}(h:ItemsOf (λi v=>∃t,v=.int (0+i*1) t) acc n):Vals ((Y0I n).map λi=>V.int (i:Nat)) acc.toList:=by
 refine vals_at (by rw[Y03,Y1c,Y0g];exact h.1.symm) λj x v hx hv=>?_
 obtain⟨t,rfl⟩:=h.2 j v (by simpa using hv)
 rw[Y0b]at hx
 cases e:(Y0I n)[j]? with
 |none=>rw[e]at hx;cases hx
 |some k=>
  rw[e]at hx
  have hk:k=j:=by
   have:=Y07.mp e
   obtain⟨_,z⟩:=this
   simpa using z.symm
  subst hk
  cases hx
  exact⟨t,by rw[Int.zero_add,Int.mul_one]⟩
section
variable{X:Cx}{tg:Expr}
theorem call_lrng(hcalm:X.calm=true):Call2 X (.type "list") (.type "range") (fun x H Q=>∃n:Nat,x=.int n/\n≤1000000/\∀p,H p=none->Q (.ref p) (upd H p (.lst ((Y0I n).map fun i=>V.int (i:Nat))))):=by
 intro pins s σ H x u Q I rx h
 obtain⟨n,rfl,hn,q⟩:=h
 obtain⟨t,rfl⟩:=rx
 refine call_range_1 ?_
 have hl:((Y0I n).map λi=>V.int (i:Nat)).length≤sizeLine:=by rw[Y03,Y1c];exact Y0M hn (by decide)
 have hh:=I.ok.hd hcalm
 refine call_list_range (n:=n) hh (Y3Q ..) ?_ ?_ (by lia) λh' tk acc' c' kp e it=>?_
 ·exact small_one (by decide) (by decide) (by lia) (by lia)
 ·rw[rangeSize_one];split<;>lia
 have I1:=I.kept (h':=s.heap.push {cls:=.type "range",data:=.fields #[.int 0 s.toks,.int (n:Int) t,.int 1 (s.toks+1)]}) (t':=s.toks+1+1) fun b o e=>Y01 _ e
 exact⟨.ref _,_,I1.laid (t':=tk) kp (Y09 _) (show ObjOk X.prog X.w _ h' _ (.lst ((Y0I n).map λi=>V.int (i:Nat)))from⟨hl,acc'.toList,c',items_range it,by simpa using e⟩),rfl,q _ (I1.hok.fresh (Y09 _))⟩
theorem pe_call2T{x y:Str}{id T:String}{r:V->Hp->VK->Prop}{e:Expr}{t:TE}{p p' pos pos':Pos}(hc:Call2 X (.type id) (.type T) r)
  (hg:Gl X x) (hm:X.mg x=none) (hv:bootBuiltins x=some (.type id)) (hg':Gl X y) (hm':X.mg y=none) (hv':bootBuiltins y=some (.type T)) (ha:PE X e t)
  (hn:x≠"__name__") (hdb:(x==("__debug__":Str))=false) (hn':y≠"__name__") (hdb':(y==("__debug__":Str))=false)
  (he:starEach [e] X.env=(false,eval e X.env)::starEach [] X.env):
  PE X (.Call (.Name x p) [.Call (.Name y p') [e] [] pos'] [] pos) (λσ H Q=>t σ H λv H1=>r v H1 Q):=by
 intro pins s σ H Q I h
 refine wpAny_Call_Name_kw (ld_blt I hg hm hv ?_ hn hdb)
 refine Y0Q ?_ rfl rfl
 show wpAny _ _ (spliced ((false,eval (.Call (.Name y p') [e] [] pos') X.env)::backTo pos (starEach [] X.env))) _ _ s
 refine Y1M ?_
 refine wpAny_Call_Name_kw (ld_blt I hg' hm' hv' ?_ hn' hdb')
 refine Y0Q ?_ he rfl
 rw[he]
 show wpAny _ _ (spliced ((false,eval e X.env)::backTo pos' (starEach [] X.env))) _ _ s
 refine Y1M (thn (ha pins s σ H _ I h) λu s1 ⟨v,H1,I1,r1,q1⟩=>?_)
 refine Y1R ?_
 exact thn (hc pins s1 σ H1 v u Q I1 r1 q1) λu2 s2 q2=>Y1R q2
noncomputable def Itrs(lo st:Int)(n:Nat):It:=⟨λi _=>i<n,λi H x H'=>H'=H/\x=.int (lo+i*st),λi _=>n≤i⟩
theorem turn_rangeS{P:Program}{w:World}{K:Y00}{tg:Expr}(it:Addr)(lo sp:Int)(n:Nat):Turn P w K tg (Itrs lo sp n) [it] it (λi h=>IsRangeIter h it (lo+(i:Nat)*sp) ((n:Int) - (i:Nat)) sp)where
 mem:=by simp
 obj:=λi h st b hb=>by
  have e:b=it:=by simpa using hb
  subst e
  exact⟨_,st,λv z=>by
   have z':Y1G _=Data.cell v:=z
   cases z'⟩
 keep:=λi h h' st k=>k it (by simp) _ st
 item:=by
  intro X hP hw hK hc i pins s σ H E I hf st hg
  subst hP hw hK
  obtain⟨f0,f1,f2,f3,f4,f5⟩:=hf it (by simp)
  have W:=Walks.range (prog:=X.prog) (w:=X.w) (I.ok.hd hc) it lo sp n
  refine W.item i s _ _ hg st λv h' tk hv st' kk=>?_
  obtain⟨t,rfl⟩:=hv
  have I1:Inv X pins σ H {s with heap:=h',toks:=tk}:=I.turned (λb o hb e=>kk b o (by simpa using hb) e) f0 f1 f3 f4 f5
  exact⟨_,rfl,go_of (s:={s with heap:=h',toks:=tk}) (n:="range_iterator") st' rfl rfl (by decide) ⟨.int (lo+i*sp),H,I1,⟨t,rfl⟩,⟨rfl,rfl⟩,st',fun b hb=>(hf b hb).1⟩⟩
 done:=by
  intro X hP hw hK hc i pins s σ H E I hf st hg
  subst hP hw hK
  obtain⟨f0,f1,f2,f3,f4,f5⟩:=hf it (by simp)
  exact wpAny_pyNext_range_end (I.ok.hd hc) st (by have:n≤i:=hg;lia) λh' eb=>⟨rfl,I.turned (t':=s.toks) (λb o hb e=>eb b o hb e) f0 f1 f3 f4 f5⟩
 self:=λ_ _ _ _ _ st h=>wpAny_pyIter_rangeiter st h
noncomputable def len2(lo hi:Int):Nat:=(Y18 lo hi 2).toNat
theorem size2(lo hi:Int):((len2 lo hi:Nat):Int)=Y18 lo hi 2:=by
 unfold len2 Y18
 simp only[show(2:Int)>0 by decide,if_true]
 split<;>lia
theorem small_two{a b:Int}(ha:0≤a)(ha':a<2^60)(hb:0≤b)(hb':b<2^60):Y3E a b 2=true:=by
 unfold Y3E Y18
 simp only[Builtin.Range.rangeFitsLong,Y06,Y3h,decide_eq_true_eq,beq_iff_eq,show(2:Int)>0 by decide,if_true]
 split<;>lia
theorem range_it2{pins:List (Addr×Obj)}{σ:St}{H:Hp}{s:Shared}{R:It->Hp->Prop}{E:Value->Shared->Prop}{lo hi:Int}{t u v:Tok}{tk:Nat}(I:Inv X pins σ H s)(h1:0≤lo)(h2:lo<2^60)(h3:0≤hi)(h4:hi<2^60)
  (q:R (Itrs lo 2 (len2 lo hi)) H):wpAny (model X.prog X.w) X.A (pyIter (.ref s.heap.objs.size)) (PIE X pins σ tg R) E {s with heap:=s.heap.push {cls:=.type "range",data:=.fields #[.int lo t,.int hi u,.int 2 v]},toks:=tk}:=by
 refine wpAny_pyIter_range (Y3Q ..) (small_two h1 h2 h3 h4) ?_
 have I1:Inv X pins σ H {s with heap:=s.heap.push {cls:=.type "range",data:=.fields #[.int lo t,.int hi u,.int 2 v]},toks:=tk}:=I.kept fun b o e=>Y01 _ e
 refine⟨(s.heap.push {cls:=.type "range",data:=.fields #[.int lo t,.int hi u,.int 2 v]}).objs.size,[(s.heap.push {cls:=.type "range",data:=.fields #[.int lo t,.int hi u,.int 2 v]}).objs.size],_,_,H,rfl,
  I1.kept (t':=tk) λb o e=>Y01 _ e,turn_rangeS _ lo 2 (len2 lo hi),?_,λb hb=>?_,q⟩
 ·have e1:lo+((0:Nat):Int)*2=lo:=by simp
  have e2:((len2 lo hi:Nat):Int) - ((0:Nat):Int)=Y18 lo hi 2:=by rw[size2];simp
  show IsRangeIter _ _ (lo+((0:Nat):Int)*2) (((len2 lo hi:Nat):Int) - ((0:Nat):Int)) 2
  rw[e1,e2]
  exact Y0a _ rfl
 ·have e:b=(s.heap.push {cls:=.type "range",data:=.fields #[.int lo t,.int hi u,.int 2 v]}).objs.size:=by simpa using hb
  subst e
  exact I1.fpOk (Y09 _) (I1.hok.fresh (Y09 _))
noncomputable def iRng3(ta:TA):TI:=λσ H R=>ta σ H λvs H1=>∃i j:Int,vs=[.int i,.int j,.int 2]/\(0≤i/\i<2^60/\0≤j/\j<2^60)/\R (Itrs i 2 (len2 i j)) H1
theorem pi_range3{a b c:Expr}{ta:TA}{p pos:Pos}(hg:Gl X "range")(hm:X.mg "range"=none)(ha:PA X [a,b,c] ta)(hs:starEach [a,b,c] X.env=[(false,eval a X.env),(false,eval b X.env),(false,eval c X.env)]:=by rfl)(hs2:starEach [b,c] X.env=[(false,eval b X.env),(false,eval c X.env)]:=by rfl):
  PI X tg (.Call (.Name "range" p) [a,b,c] [] pos) (iRng3 ta):=by
 intro pins s σ H R I h
 refine Call_ (ld_blt I hg hm boot_range (Y0Q (thn (ha pos pins s σ H _ I h) λus s1 ⟨vs,H1,I1,r1,q1⟩=>?_) (by rw[hs,hs2]) (by rw[hs2];rfl)))
 obtain⟨i,j,e,⟨q1,q2,q3,q4⟩,q⟩:=q1
 subst e
 cases r1 with
 |cons r rr=>
  cases rr with
  |cons r' rr=>
   cases rr with
   |cons r'' rr=>
    cases rr
    obtain⟨t,rfl⟩:=r
    obtain⟨t',rfl⟩:=r'
    obtain⟨t'',rfl⟩:=r''
    exact call_range_3 (by decide) (range_it2 (tk:=s1.toks) I1 q1 q2 q3 q4 q) (.inl (PyProof.noPylong_small (by decide)))
end
end L2
namespace L2
open PySem PySem.Spec PyProof.Rows
section
variable{prog:Program}{w:World}{A:Around}{R:Result->Shared->Prop}{I:Addr}{fp wr:List Addr}{n:Nat}{P:Nat->Value->Prop}{St:Nat->Heap->Prop}
end
section
variable{prog:Program}{w:World}{A:Around}{E:Value->Shared->Prop}{s:Shared}
end
section
variable{X:Cx}{x k:Str}{p pos kp:Pos}{e e0:Expr}{te:TE}
end
end L2
namespace HT
open PySem PySem.Spec PyProof.Rows
section
variable{prog:Program}{w:World}{A:Around}{E:Value->Shared->Prop}{s:Shared}
theorem tup_whole{t sl:Addr}{items:Array Value}{vl vu:Value}{lo hi:Option Int}{Q:Value->Shared->Prop}(ht:IsTup s.heap t items)(hs:s.heap.IsSliceOf sl vl vu .none)(pl:IsPart vl lo)(pu:IsPart vu hi)
  (h0:sIx items.size 0 lo=0) (h1:sIx items.size items.size hi=items.size) (h:Q (.ref t) s):wpAny (model prog w) A (getItem (.ref t) (.ref sl)) Q E s:=by
 obtain⟨os,hos,hcs,hds⟩:=id hs
 have hTs:s.TypeIs (.ref sl) "slice":=⟨os,hos,hcs⟩
 have hT:=ht.typeIs
 unfold getItem
 try with_reducible refine wpAny_holding ?_
 first|refine wpAny_bind (wpAny_pure ?_)|skip
 refine wpAny_bind (wpAny_sequenceKey hT (by decide) ?_)
 refine wpAny_bind (wpAny_callSpecial?_slot (name:=Y0t "__getitem__") hT Y0R (wpAny_call_entry Y0R hT entry_tuple_getitem ?_ (args_tuple_getitem _ _)))
 show wpAny _ _ (Y2A (.ref t)>>= _) _ _ s;refine wpAny_bind (tupleItemsOf_ ht ?_)
 refine wpAny_bind (wpAny_typeOf hTs ?_);rw[if_pos (by decide)]
 refine wpAny_bind (sliceApplied_gen hs pl pu ?_)
 rw[h0,h1]
 show wpAny _ _ (if(((0:Nat):Int)==0&&(1:Int)==1&&(items.size - 0)==items.size)=true then _ else _) _ _ s
 rw[if_pos (by simp)]
 refine wpAny_bind ?_
 show wpAny _ _ (Y2C (.ref t)) _ _ s
 unfold Y2C
 refine wpAny_bind (wpAny_typeOf hT (wpAny_pure ?_))
 rw[if_pos (by decide)]
 exact wpAny_bind (wpAny_rule (wpAny_pure ⟨_,rfl,wpAny_pure h⟩))
end
end HT
namespace L2
open PySem PySem.Spec PyProof.Rows
section
variable{X:Cx}
noncomputable def rSlW(K:Y00):V->Option Int->Option Int->Hp->VK->Prop:=λx lo hi H Q=>∃a xs,x=.ref a/\SqT K H a xs/\HT.sIx xs.length 0 lo=0/\HT.sIx xs.length xs.length hi=xs.length/\Q (.ref a) H
theorem sl_tupW:SlR X (rSlW X.K):=by
 intro pins s σ H x v vl vu lo hi sl Q I rx hs pl pu h
 obtain⟨a,xs,rfl,hx,h0,h1,q⟩:=h
 cases rx
 obtain⟨its,r,ht,hz⟩:=I.tuple hx
 have hlen:its.toArray.size=xs.length:=by rw[Y0h];exact r.length.symm
 refine⟨"tuple",_,Y0R.lookup,ht.typeIs,?_⟩
 exact HT.tup_whole ht hs pl pu (by rw[hlen];exact h0) (by rw[hlen];exact h1) ⟨.ref a,H,I,rfl,q⟩
end
end L2
namespace L2
open PySem PySem.Spec PyProof.Rows
noncomputable def st3{α:Type}(xs:List α):List α:=(Y0I ((xs.length+2)/3)).filterMap λk=>xs[3*k]?
section
variable{X:Cx}{e e3:Expr}{te:TE}{p2 pos:Pos}
end
end L2
namespace L2
open PySem PySem.Spec PyProof.Rows
section
variable{X:Cx}
end
end L2
namespace L2
open PySem PySem.Spec PyProof.Rows
inductive Ty7 where|int|bool|str|list|tuple|dict|none
  deriving DecidableEq
noncomputable def Ty7.name:Ty7->String
 |.int=>"int"|.bool=>"bool"|.str=>"str"|.list=>"list"|.tuple=>"tuple"|.dict=>"dict"|.none=>"NoneType"
inductive MV where
 |non|bl (b:Bool)|int (i:Int)|str (x:Str)|tup (xs:List MV)|frl (xs:List MV)|ref (a:Addr)|ty (n:Ty7)
noncomputable def isFix:HO->Bool
 |.tup _=>true
 |.frz _ (.lst _)=>true
 |_=>false
noncomputable def Kp(H H':Hp):Prop:=∀a o,H a=some o->isFix o=true->H' a=some o
theorem Kp.refl(H:Hp):Kp H H:=λ_ _ h _=>h
theorem Kp.trans{H H1 H2:Hp}(a:Kp H H1)(b:Kp H1 H2):Kp H H2:=λc o h f=>b c o (a c o h f) f
theorem Kp.new{H:Hp}{p:Addr}(h:H p=none)(o:HO):Kp H (upd H p o):=λa u e _=>by rw[Z0e (Z1x e h)];exact e
theorem Kp.upd{H:Hp}{p:Addr}{o:HO}(h:H p=some o)(f:isFix o=false)(o':HO):Kp H (upd H p o'):=λa u e g=>by
 rw[Z0e (ne_of e h (by intro z;rw[z,f]at g;cases g))];exact e
noncomputable def FrL(K:Y00)(H:Hp)(a:Addr)(vs:List V):Prop:=(∃o,H a=some (.frz o (.lst vs)))\/
 ∃(o:Obj) (its:Array Value) (n:Nat),K.lookup a=some o/\o.cls=.type "list"/\o.dict=none/\o.data=.seq its n/\its.size≤sizeLine/\Vals vs its.toList
theorem FrL.sq{K:Y00}{H:Hp}{a:Addr}{vs:List V}(h:FrL K H a vs):SqL K H a vs:=by
 rcases h with⟨o,h⟩|h
 ·exact .inl (.inr ⟨o,h⟩)
 ·exact .inr h
mutual
inductive RM (K:Y00) (H:Hp):MV->V->Prop
 |non:RM K H .non .non
 |bl (b:Bool):RM K H (.bl b) (.bl b)
 |int (i:Int):RM K H (.int i) (.int i)
 |str (x:Str):RM K H (.str x) (.str x)
 |ref (a:Addr):RM K H (.ref a) (.ref a)
 |ty (n:Ty7):RM K H (.ty n) (.ty n.name)
 |tup {a:Addr} {xs:List MV} {vs:List V}:H a=some (.tup vs)->RMs K H xs vs->RM K H (.tup xs) (.ref a)
 |frl {a:Addr} {xs:List MV} {vs:List V}:FrL K H a vs->RMs K H xs vs->RM K H (.frl xs) (.ref a)
inductive RMs (K:Y00) (H:Hp):List MV->List V->Prop
 |nil:RMs K H [] []
 |cons {x:MV} {v:V} {xs:List MV} {vs:List V}:RM K H x v->RMs K H xs vs->RMs K H (x::xs) (v::vs)
end
mutual
theorem RM.mono{K:Y00}{H H':Hp}(k:Kp H H'):∀{m:MV} {v:V},RM K H m v->RM K H' m v
 |_,_,.non=>.non
 |_,_,.bl b=>.bl b
 |_,_,.int i=>.int i
 |_,_,.str x=>.str x
 |_,_,.ref a=>.ref a
 |_,_,.ty n=>.ty n
 |_,_,.tup h r=>.tup (k _ _ h rfl) (RMs.mono k r)
 |_,_,.frl h r=>.frl (by
   rcases h with⟨o,h⟩|h
   ·exact .inl ⟨o,k _ _ h rfl⟩
   ·exact .inr h) (RMs.mono k r)
theorem RMs.mono{K:Y00}{H H':Hp}(k:Kp H H'):∀{m:List MV} {v:List V},RMs K H m v->RMs K H' m v
 |_,_,.nil=>.nil
 |_,_,.cons a b=>.cons (RM.mono k a) (RMs.mono k b)
end
theorem RMs.length{K:Y00}{H:Hp}:∀{m:List MV} {v:List V},RMs K H m v->m.length=v.length
 |_,_,.nil=>rfl
 |_,_,.cons _ b=>by rw[Y0q,Y0q,b.length]
theorem RMs.get{K:Y00}{H:Hp}:∀{m:List MV} {v:List V} {i:Nat} {x:MV},RMs K H m v->m[i]?=some x->∃u,v[i]?=some u/\RM K H x u
 |_,_,_,_,.nil,e=>by simp at e
 |_,_,0,_,.cons r _,e=>by simp at e;subst e;exact⟨_,rfl,r⟩
 |_,_,i+1,x,.cons _ t,e=>by
  obtain⟨u,h1,h2⟩:=RMs.get (i:=i) (x:=x) t (by simpa using e)
  exact⟨u,by simpa using h1,h2⟩
theorem RMs.get'{K:Y00}{H:Hp}:∀{m:List MV} {v:List V} {i:Nat} {u:V},RMs K H m v->v[i]?=some u->∃x,m[i]?=some x/\RM K H x u
 |_,_,_,_,.nil,e=>by simp at e
 |_,_,0,_,.cons r _,e=>by simp at e;subst e;exact⟨_,rfl,r⟩
 |_,_,i+1,x,.cons _ t,e=>by
  obtain⟨u,h1,h2⟩:=RMs.get' (i:=i) (u:=x) t (by simpa using e)
  exact⟨u,by simpa using h1,h2⟩
theorem RMs.append{K:Y00}{H:Hp}:∀{m m':List MV} {v v':List V},RMs K H m v->RMs K H m' v'->RMs K H (m++m') (v++v')
 |_,_,_,_,.nil,s=>s
 |_,_,_,_,.cons r t,s=>.cons r (t.append s)
theorem RMs.take{K:Y00}{H:Hp}:∀{m:List MV} {v:List V} (n:Nat),RMs K H m v->RMs K H (m.take n) (v.take n)
 |_,_,0,_=>.nil
 |_,_,_+1,.nil=>.nil
 |_,_,n+1,.cons r t=>.cons r (t.take n)
theorem RMs.drop{K:Y00}{H:Hp}:∀{m:List MV} {v:List V} (n:Nat),RMs K H m v->RMs K H (m.drop n) (v.drop n)
 |_,_,0,r=>r
 |_,_,_+1,.nil=>.nil
 |_,_,n+1,.cons _ t=>t.drop n
theorem RMs.ints{K:Y00}{H:Hp}:∀ns:List Int,RMs K H (ns.map MV.int) (ns.map V.int)
 |[]=>.nil
 |n::r=>.cons (.int n) (RMs.ints r)
theorem RMs.ints_of{K:Y00}{H:Hp}:∀{ns:List Int} {vs:List V},RMs K H (ns.map MV.int) vs->vs=ns.map V.int
 |[],_,.nil=>rfl
 |n::r,_,.cons (.int _) t=>by rw[t.ints_of];rfl
inductive MO where
 |lst (xs:List MV)|dic (kvs:List (Key×MV))|ins (c:Str) (fs:List (Str×MV))
 |fdic (o:Obj) (kvs:List (Key×MV))
noncomputable abbrev MH:=Addr->Option MO
noncomputable def updM(M:MH)(a:Addr)(o:MO):MH:=λb=>if b=a then some o else M b
theorem Z01{M:MH}{a:Addr}{o:MO}:updM M a o a=some o:=by unfold updM;rw[if_pos rfl]
theorem Z0m{M:MH}{a b:Addr}{o:MO}(h:b≠a):updM M a o b=M b:=by unfold updM;rw[if_neg h]
theorem updM_updM{M:MH}{a:Addr}{o u:MO}:updM (updM M a o) a u=updM M a u:=by funext b;unfold updM;split<;>rfl
inductive RKs {κ:Type} (K:Y00) (H:Hp):List (κ×MV)->List (κ×V)->Prop
 |nil:RKs K H [] []
 |cons {k:κ} {x:MV} {v:V} {xs:List (κ×MV)} {vs:List (κ×V)}:RM K H x v->RKs K H xs vs->RKs K H ((k,x)::xs) ((k,v)::vs)
theorem RKs.mono{κ:Type}{K:Y00}{H H':Hp}(k:Kp H H'):∀{m:List (κ×MV)} {v:List (κ×V)},RKs K H m v->RKs K H' m v
 |_,_,.nil=>.nil
 |_,_,.cons a b=>.cons (a.mono k) (b.mono k)
theorem RKs.length{κ:Type}{K:Y00}{H:Hp}:∀{m:List (κ×MV)} {v:List (κ×V)},RKs K H m v->m.length=v.length
 |_,_,.nil=>rfl
 |_,_,.cons _ b=>by rw[Y0q,Y0q,b.length]
section
variable{κ:Type} [DecidableEq κ]
noncomputable def valM(kvs:List (κ×MV))(k:κ):Option MV:=match kvs with
 |[]=>none
 |(j,v)::r=>if j=k then some v else valM r k
noncomputable def putM(kvs:List (κ×MV))(k:κ)(v:MV):List (κ×MV):=match kvs with
 |[]=>[(k,v)]
 |(j,u)::r=>if j=k then(j,v)::r else(j,u)::putM r k v
end
noncomputable def RO(K:Y00)(H:Hp):MO->HO->Prop
 |.lst xs,.lst vs=>RMs K H xs vs
 |.dic kvs,.dK vs=>RKs K H kvs vs/\(kvs.map (·.1)).Nodup
 |.ins c fs,.ins C _ vs=>Y0j K mainGlobals c=some (some (.ref C))/\RKs K H fs vs
 |.fdic o kvs,.frz o' (.dK vs)=>o=o'/\RKs K H kvs vs/\(kvs.map (·.1)).Nodup
 |_,_=>False
theorem RO.mono{K:Y00}{H H':Hp}(k:Kp H H'){o:MO}{u:HO}(h:RO K H o u):RO K H' o u:=by
 cases o with
 |lst xs=>cases u<;>first|exact RMs.mono k h|exact h.elim
 |dic kvs=>cases u<;>first|exact⟨h.1.mono k,h.2⟩|exact h.elim
 |ins c fs=>cases u<;>first|exact⟨h.1,h.2.mono k⟩|exact h.elim
 |fdic ob kvs=>
  cases u with
  |frz o' u=>cases u<;>first|exact⟨h.1,h.2.1.mono k,h.2.2⟩|exact h.elim
  |_=>exact h.elim
noncomputable def RH(K:Y00)(M:MH)(H:Hp):Prop:=∀a o,M a=some o->∃u,H a=some u/\RO K H o u
theorem RH.free{K:Y00}{M:MH}{H:Hp}(r:RH K M H){p:Addr}(h:H p=none):M p=none:=by
 cases e:M p with
 |none=>rfl
 |some o=>obtain⟨u,hu,_⟩:=r p o e;rw[hu]at h;cases h
theorem RH.lst{K:Y00}{M:MH}{H:Hp}(r:RH K M H){p:Addr}{xs:List MV}(h:M p=some (.lst xs)):∃vs,H p=some (.lst vs)/\RMs K H xs vs:=by
 obtain⟨u,hu,ro⟩:=r p _ h
 cases u<;>try exact ro.elim
 exact⟨_,hu,ro⟩
theorem RH.dic{K:Y00}{M:MH}{H:Hp}(r:RH K M H){p:Addr}{xs:List (Key×MV)}(h:M p=some (.dic xs)):∃vs,H p=some (.dK vs)/\RKs K H xs vs/\(xs.map (·.1)).Nodup:=by
 obtain⟨u,hu,ro⟩:=r p _ h
 cases u<;>try exact ro.elim
 exact⟨_,hu,ro.1,ro.2⟩
theorem RH.fdic{K:Y00}{M:MH}{H:Hp}(r:RH K M H){p:Addr}{o:Obj}{xs:List (Key×MV)}(h:M p=some (.fdic o xs)):∃vs,H p=some (.frz o (.dK vs))/\RKs K H xs vs/\(xs.map (·.1)).Nodup:=by
 obtain⟨u,hu,ro⟩:=r p _ h
 cases u with
 |frz o' u=>
  cases u<;>try exact ro.elim
  obtain⟨rfl,r1,r2⟩:=ro
  exact⟨_,hu,r1,r2⟩
 |_=>exact ro.elim
theorem RH.put{K:Y00}{M:MH}{H:Hp}(r:RH K M H){p:Addr}{u:HO}{o:MO}(k:Kp H (upd H p u))(ro:RO K (upd H p u) o u):RH K (updM M p o) (upd H p u):=by
 intro a o' e
 by_cases h:a=p
 ·subst h
  rw[Z01]at e
  cases e
  exact⟨u,Z1F,ro⟩
 ·rw[Z0m h]at e
  obtain⟨v,hv,rv⟩:=r a o' e
  exact⟨v,by rw[Z0e h];exact hv,rv.mono k⟩
theorem RH.kept{K:Y00}{M:MH}{H:Hp}(r:RH K M H){p:Addr}(hp:H p=none)(u:HO):RH K M (upd H p u):=by
 intro a o' e
 obtain⟨v,hv,rv⟩:=r a o' e
 exact⟨v,by rw[Z0e (Z1x hv hp)];exact hv,rv.mono (Kp.new hp u)⟩
noncomputable abbrev Sm:=List (Option MV)
noncomputable abbrev QM:=MV->MH->Prop
noncomputable abbrev TEm:=Sm->MH->QM->Prop
noncomputable abbrev TAm:=Sm->MH->(List MV->MH->Prop)->Prop
noncomputable def RS(K:Y00)(H:Hp)(σm:Sm)(σ:St):Prop:=σm.length=σ.length/\∀(i:Nat) (m:MV),σm[i]?=some (some m)->∃v,σ[i]?=some (some v)/\RM K H m v
theorem RS.mono{K:Y00}{H H':Hp}(k:Kp H H'){σm:Sm}{σ:St}(h:RS K H σm σ):RS K H' σm σ:=⟨h.1,λi m e=>by
 obtain⟨v,hv,r⟩:=h.2 i m e
 exact⟨v,hv,r.mono k⟩⟩
theorem RS.set{K:Y00}{H:Hp}{σm:Sm}{σ:St}(h:RS K H σm σ){m:MV}{v:V}(r:RM K H m v)(i:Nat):RS K H (σm.set i (some m)) (σ.set i (some v)):=by
 refine⟨by simp[h.1],λj x e=>?_⟩
 rw[Y17]at e
 by_cases hij:i=j
 ·subst hij
  rw[if_pos rfl]at e
  split at e
  ·cases e
   exact⟨v,by rw[Y17,if_pos rfl,if_pos (by rw[<- h.1];assumption)],r⟩
  ·cases e
 ·rw[if_neg hij]at e
  obtain⟨u,hu,ru⟩:=h.2 j x e
  exact⟨u,by rw[Y17,if_neg hij];exact hu,ru⟩
noncomputable def Dn(K:Y00)(H:Hp)(Q:VK):QM:=λm M=>∀v H',Kp H H'->RM K H' m v->RH K M H'->Q v H'
theorem Dn.on{K:Y00}{H H1:Hp}{Q:VK}(k:Kp H H1){m:MV}{M:MH}(h:Dn K H Q m M):Dn K H1 Q m M:=λv H' k' r rh=>h v H' (k.trans k') r rh
noncomputable def liE(K:Y00)(t:TEm):TE:=λσ H Q=>∃σm M,RS K H σm σ/\RH K M H/\t σm M (Dn K H Q)
noncomputable def liA(K:Y00)(t:TAm):TA:=λσ H Q=>∃σm M,RS K H σm σ/\RH K M H/\t σm M (λms M'=>∀vs H',Kp H H'->RMs K H' ms vs->RH K M' H'->Q vs H')
noncomputable def MonE(t:TEm):Prop:=∀{σ M} {Q Q':QM},(∀m M',Q m M'->Q' m M')->t σ M Q->t σ M Q'
noncomputable def MonA(t:TAm):Prop:=∀{σ M} {Q Q':List MV->MH->Prop},(∀m M',Q m M'->Q' m M')->t σ M Q->t σ M Q'
noncomputable abbrev W1:=MV->MH->QM->Prop
noncomputable abbrev W2:=MV->MV->MH->QM->Prop
noncomputable abbrev WA:=List MV->MH->QM->Prop
noncomputable def Mon1(w:W1):Prop:=∀{x M} {Q Q':QM},(∀m M',Q m M'->Q' m M')->w x M Q->w x M Q'
noncomputable def Mon2(w:W2):Prop:=∀{x y M} {Q Q':QM},(∀m M',Q m M'->Q' m M')->w x y M Q->w x y M Q'
noncomputable def MonW(w:WA):Prop:=∀{xs M} {Q Q':QM},(∀m M',Q m M'->Q' m M')->w xs M Q->w xs M Q'
noncomputable def li1(K:Y00)(w:W1):V->Hp->VK->Prop:=λx H Q=>∃mx M,RM K H mx x/\RH K M H/\w mx M (Dn K H Q)
noncomputable def li2(K:Y00)(w:W2):R2:=λx y H Q=>∃mx my M,RM K H mx x/\RM K H my y/\RH K M H/\w mx my M (Dn K H Q)
noncomputable def liW(K:Y00)(w:WA):List V->Hp->VK->Prop:=λxs H Q=>∃ms M,RMs K H ms xs/\RH K M H/\w ms M (Dn K H Q)
section
variable{K:Y00}
theorem li_op{ta tb:TEm}{w:W2}(ma:MonE ta)(mb:MonE tb)(mw:Mon2 w){σ:St}{H:Hp}{Q:VK}
  (h:liE K (λσ M Q=>ta σ M λx M1=>tb σ M1 λy M2=>w x y M2 Q) σ H Q):tOp (li2 K w) (liE K ta) (liE K tb) σ H Q:=by
 obtain⟨σm,M,rs,rh,h⟩:=h
 refine⟨σm,M,rs,rh,ma (λx M1 h1=>?_) h⟩
 intro v H1 k1 r1 rh1
 refine⟨σm,M1,rs.mono k1,rh1,mb (λy M2 h2=>?_) h1⟩
 intro u H2 k2 r2 rh2
 exact⟨x,y,M2,r1.mono k2,r2,rh2,mw (λm M' hq=>hq.on (k1.trans k2)) h2⟩
end
theorem PE.weak{X:Cx}{e:Expr}{t t':TE}(h:PE X e t)(i:∀σ H Q,t' σ H Q->t σ H Q):PE X e t':=λpins s σ H Q I q=>h pins s σ H Q I (i _ _ _ q)
theorem PT.weak{X:Cx}{e:Expr}{t t':TT}(h:PT X e t)(i:∀σ H Q,t' σ H Q->t σ H Q):PT X e t':=λpins s σ H Q I q=>h pins s σ H Q I (i _ _ _ q)
theorem PW.weak{X:Cx}{e:Expr}{t t':TT}(h:PW X e t)(i:∀σ H Q,t' σ H Q->t σ H Q):PW X e t':=λwh pins s σ H Q I q=>h wh pins s σ H Q I (i _ _ _ q)
theorem PA.weak{X:Cx}{e:List Expr}{t t':TA}(h:PA X e t)(i:∀σ H Q,t' σ H Q->t σ H Q):PA X e t':=λpos pins s σ H Q I q=>h pos pins s σ H Q I (i _ _ _ q)
theorem PS.weak{X:Cx}{e:Stmt}{t t':TS}(h:PS X e t)(i:∀D σ H,t' D σ H->t D σ H):PS X e t':=λpins s σ H D I q=>h pins s σ H D I (i _ _ _ q)
theorem PSs.weak{X:Cx}{e:List Stmt}{t t':TS}(h:PSs X e t)(i:∀D σ H,t' D σ H->t D σ H):PSs X e t':=λpins s σ H D I q=>h pins s σ H D I (i _ _ _ q)
end L2
namespace L2
open PySem PySem.Spec PyProof.Rows
noncomputable def wBin(op:Operator)(x y:MV)(M:MH)(Q:QM):Prop:=match op,x,y with
 |.Add,.int i,.int j=>Q (.int (i+j)) M
 |.Sub,.int i,.int j=>Q (.int (i - j)) M
 |.Mult,.int i,.int j=>CMul i j/\Q (.int (i*j)) M
 |.FloorDiv,.int i,.int j=>CDivB i j/\Q (.int (i/j)) M
 |.Mod,.int i,.int j=>0<j/\Q (.int (i%j)) M
 |.LShift,.int i,.int j=>CPow i j/\Q (.int (i*2^j.toNat)) M
 |.Add,.str i,.str j=>i.length+j.length≤sizeLine/\Q (.str (i++j)) M
 |.Mult,.str z,.int i=>z.length≤16/\ -1000≤i/\i≤1000/\Q (.str (Txt.mul z i)) M
 |.Add,.ref a,.ref b=>∃xs ys,M a=some (.lst xs)/\M b=some (.lst ys)/\xs.length+ys.length≤sizeLine/\∀p,M p=none->Q (.ref p) (updM M p (.lst (xs++ys)))
 |_,_,_=>False
theorem mon_bin(op:Operator):Mon2 (wBin op):=by
 intro x y M Q Q' hq h
 unfold wBin at h ⊢
 split at h
 all_goals first
  |exact hq _ _ h
  |exact h.elim
  |exact⟨h.1,hq _ _ h.2⟩
  |exact⟨h.1,h.2.1,hq _ _ h.2.2⟩
  |exact⟨h.1,h.2.1,h.2.2.1,hq _ _ h.2.2.2⟩
  |(obtain⟨xs,ys,h1,h2,h3,h4⟩:=h
    exact⟨xs,ys,h1,h2,h3,λp hp=>hq _ _ (h4 p hp)⟩)
  |(obtain⟨ys,h2,h3,h4⟩:=h
    exact⟨ys,h2,h3,λp hp=>hq _ _ (h4 p hp)⟩)
  |(obtain⟨ys,h2,h3,h4,h5,h6⟩:=h
    exact⟨ys,h2,h3,h4,h5,λp hp=>hq _ _ (h6 p hp)⟩)
section
variable{X:Cx}
theorem op_bin(op:Operator):OpR X (binaryOp op) (li2 X.K (wBin op)):=by
 intro pins s σ H x y v u Q I rx ry h
 obtain⟨mx,my,M,r1,r2,rh,h⟩:=h
 unfold wBin at h
 split at h
 ·cases r1;cases r2;exact op_add pins s σ H _ _ v u Q I rx ry ⟨_,_,rfl,rfl,h _ _ (Kp.refl _) (.int _) rh⟩
 ·cases r1;cases r2;exact op_sub pins s σ H _ _ v u Q I rx ry ⟨_,_,rfl,rfl,h _ _ (Kp.refl _) (.int _) rh⟩
 ·cases r1;cases r2;exact op_mul pins s σ H _ _ v u Q I rx ry ⟨_,_,rfl,rfl,h.1,h.2 _ _ (Kp.refl _) (.int _) rh⟩
 ·cases r1;cases r2;exact op_fdivB pins s σ H _ _ v u Q I rx ry ⟨_,_,rfl,rfl,h.1,h.2 _ _ (Kp.refl _) (.int _) rh⟩
 ·cases r1;cases r2;exact op_mod pins s σ H _ _ v u Q I rx ry ⟨_,_,rfl,rfl,h.1,h.2 _ _ (Kp.refl _) (.int _) rh⟩
 ·cases r1;cases r2;exact op_shl pins s σ H _ _ v u Q I rx ry ⟨_,_,rfl,rfl,h.1,h.2 _ _ (Kp.refl _) (.int _) rh⟩
 ·cases r1;cases r2;exact op_add_str pins s σ H _ _ v u Q I rx ry ⟨_,_,rfl,rfl,h.1,h.2 _ _ (Kp.refl _) (.str _) rh⟩
 ·cases r1;cases r2;exact op_mulS pins s σ H _ _ v u Q I rx ry ⟨_,_,rfl,rfl,h.1,h.2.1,h.2.2.1,h.2.2.2 _ _ (Kp.refl _) (.str _) rh⟩
 ·cases r1;cases r2
  obtain⟨xs,ys,h1,h2,h3,h4⟩:=h
  obtain⟨vs,e1,q1⟩:=rh.lst h1
  obtain⟨us,e2,q2⟩:=rh.lst h2
  refine op_cat pins s σ H _ _ v u Q I rx ry ⟨_,_,vs,us,rfl,rfl,e1,e2,by rw[<- q1.length,<- q2.length];exact h3,λp hp=>?_⟩
  have k:=Kp.new hp (.lst (vs++us))
  exact h4 p (rh.free hp) _ _ k (.ref p) (rh.put k ((q1.append q2).mono k))
 ·exact h.elim
end
mutual
inductive DM (M:MH):MV->PyData->Prop
 |non:DM M .non .none
 |bl (b:Bool):DM M (.bl b) (.bool b)
 |int (i:Int):DM M (.int i) (.int i)
 |str (x:Str):DM M (.str x) (.str x)
 |lst {a:Addr} {xs:List MV} {ds:List PyData}:M a=some (.lst xs)->DMs M xs ds->DM M (.ref a) (.list ds)
 |frl {xs:List MV} {ds:List PyData}:DMs M xs ds->DM M (.frl xs) (.list ds)
 |tup {xs:List MV} {ds:List PyData}:DMs M xs ds->DM M (.tup xs) (.tuple ds)
inductive DMs (M:MH):List MV->List PyData->Prop
 |nil:DMs M [] []
 |cons {x:MV} {xs:List MV} {d:PyData} {ds:List PyData}:DM M x d->DMs M xs ds->DMs M (x::xs) (d::ds)
end
mutual
theorem DM.dp{K:Y00}{M:MH}{H:Hp}(rh:RH K M H):∀{m:MV} {d:PyData} {v:V},DM M m d->RM K H m v->Dp K H v d
 |_,_,_,.non,.non=>.non
 |_,_,_,.bl b,.bl _=>.bl b
 |_,_,_,.int i,.int _=>.int i
 |_,_,_,.str x,.str _=>.str x
 |_,_,_,.lst h q,r=>by
  cases r
  obtain⟨vs,e,r⟩:=rh.lst h
  exact .lst (SqL.of e) (DMs.dp rh q r)
 |_,_,_,.frl q,.frl h r=>.lst h.sq (DMs.dp rh q r)
 |_,_,_,.tup q,.tup h r=>.tup (SqT.of h) (DMs.dp rh q r)
theorem DMs.dp{K:Y00}{M:MH}{H:Hp}(rh:RH K M H):∀{m:List MV} {d:List PyData} {v:List V},DMs M m d->RMs K H m v->DpAll K H v d
 |_,_,_,.nil,.nil=>.nil
 |_,_,_,.cons a b,.cons c d=>.cons (DM.dp rh a c) (DMs.dp rh b d)
end
noncomputable def eqS:MV->MV->Option Bool
 |.int i,.int j=>some (decide (i=j))
 |.str i,.str j=>some (decide (i=j))
 |.bl i,.bl j=>some (decide (i=j))
 |.non,.non=>some true
 |.non,.int _=>some false|.int _,.non=>some false|.non,.bl _=>some false|.bl _,.non=>some false|.non,.str _=>some false|.str _,.non=>some false
 |.int _,.str _=>some false|.str _,.int _=>some false|.bl _,.str _=>some false|.str _,.bl _=>some false
 |_,_=>none
theorem eqS_ok{K:Y00}{H:Hp}{x y:MV}{u v:V}{b:Bool}(h:eqS x y=some b)(r:RM K H x u)(q:RM K H y v):scal u v=true/\decide (u=v)=b:=by
 unfold eqS at h
 split at h<;>cases h<;>cases r<;>cases q<;>refine⟨rfl,?_⟩
 ·rw[decide_eq_decide];exact⟨V.int.inj,λe=>by rw[e]⟩
 ·rw[decide_eq_decide];exact⟨V.str.inj,λe=>by rw[e]⟩
 ·rw[decide_eq_decide];exact⟨V.bl.inj,λe=>by rw[e]⟩
 all_goals rfl
inductive DHits (M:MH) (kb:List (Key×MV)):List (Key×MV)->Bool->Prop
 |nil:DHits M kb [] true
 |miss {k:Key} {v:MV} {r:List (Key×MV)}:valM kb k=none->DHits M kb ((k,v)::r) false
 |hit {k:Key} {v y:MV} {d e:PyData} {r:List (Key×MV)} {b:Bool}:valM kb k=some y->DM M v d->DM M y e->SeqAt.shaped d=true->SeqAt.shaped e=true->DHits M kb r b->DHits M kb ((k,v)::r) (PyData.eqv d e&&b)
noncomputable def LstM(M:MH)(x:MV)(xs:List MV):Prop:=x=.frl xs\/∃a,x=.ref a/\M a=some (.lst xs)
noncomputable def flatM:MV->Bool
 |.non=>true|.bl _=>true|.int _=>true|.str _=>true|_=>false
noncomputable def Alike(M:MH):Nat->MV->MV->Prop
 |0,x,y=>flatM x=true/\x=y
 |n+1,x,y=>(flatM x=true/\x=y)\/(∃xs ys,x=.tup xs/\y=.tup ys/\xs.length=ys.length/\∀(i:Nat) u v,xs[i]?=some u->ys[i]?=some v->Alike M n u v)\/
  (∃xs ys,LstM M x xs/\LstM M y ys/\xs.length=ys.length/\∀(i:Nat) u v,xs[i]?=some u->ys[i]?=some v->Alike M n u v)\/
  ∃a b ka kb,x=.ref a/\y=.ref b/\M a=some (.dic ka)/\M b=some (.dic kb)/\ka.length=kb.length/\∀k u,(k,u)∈ka->∃v,valM kb k=some v/\Alike M n u v
noncomputable def wEq(x y:MV)(M:MH)(k:Bool->Prop):Prop:=match eqS x y with
 |some b=>k b
 |none=>(∃n≤60,Alike M n x y/\k true)\/(∃a b xs,x=.ref a/\y=.ref b/\M a=some (.lst xs)/\M b=some (.lst [])/\k xs.isEmpty)\/False\/False
noncomputable def toV:MV->V
 |.non=>.non|.bl b=>.bl b|.int i=>.int i|.str x=>.str x|_=>.non
theorem flat_rm{K:Y00}{H:Hp}{m:MV}{v:V}(f:flatM m=true)(r:RM K H m v):v=toV m/\flatV v=true:=by
 cases r<;>first|exact⟨rfl,rfl⟩|cases f
theorem flats_rm{K:Y00}{H:Hp}:∀{m:List MV} {v:List V},m.all flatM=true->RMs K H m v->v=m.map toV/\v.all flatV=true
 |_,_,_,.nil=>⟨rfl,rfl⟩
 |_,_,f,.cons r t=>by
  rw[Y1a,Y06]at f
  obtain⟨e,g⟩:=flat_rm f.1 r
  obtain⟨e2,g2⟩:=flats_rm f.2 t
  subst e e2
  exact⟨rfl,by rw[Y1a,g,g2];rfl⟩
noncomputable def keyM:MV->Option Key
 |.int i=>some (.inl i)
 |.str x=>some (.inr x)
 |_=>none
theorem key_rm{K:Y00}{H:Hp}{m:MV}{v:V}{k:Key}(e:keyM m=some k)(r:RM K H m v):v=kV k:=by
 cases r<;>cases e<;>rfl
theorem valM_rk{K:Y00}{H:Hp}{k:Key}:∀{m:List (Key×MV)} {v:List (Key×V)},RKs K H m v->(valM m k=none/\valV v k=none)\/∃x u,valM m k=some x/\valV v k=some u/\RM K H x u
 |_,_,.nil=>.inl ⟨rfl,rfl⟩
 |_,_,.cons (k:=j) (x:=x) (v:=u) r t=>by
  by_cases e:j=k
  ·refine .inr ⟨x,u,?_,valV_pos (p:=(j,u)) e,r⟩
   unfold valM;rw[if_pos e]
  ·have:=valM_rk (k:=k) t
   unfold valM;rw[if_neg e,valV_neg (p:=(j,u)) e]
   exact this
theorem rk_any{K:Y00}{H:Hp}{k:Key}:∀{m:List (Key×MV)} {v:List (Key×V)},RKs K H m v->(v.any λkv=>decide (kv.1=k))=(m.any λkv=>decide (kv.1=k))
 |_,_,.nil=>rfl
 |_,_,.cons r t=>by rw[Y1j,Y1j,rk_any t]
theorem rk_map{K:Y00}{H:Hp}{k:Key}{x:MV}{u:V}(r:RM K H x u):∀{m:List (Key×MV)} {v:List (Key×V)},RKs K H m v->
  RKs K H (m.map λkv=>if kv.1=k then(kv.1,x)else kv) (v.map λkv=>if kv.1=k then(kv.1,u)else kv)
 |_,_,.nil=>.nil
 |_,_,.cons (k:=j) q t=>by
  rw[Y0d,Y0d]
  by_cases e:j=k
  ·rw[if_pos e,if_pos e];exact .cons r (rk_map r t)
  ·rw[if_neg e,if_neg e];exact .cons q (rk_map r t)
theorem rk_app{κ:Type}{K:Y00}{H:Hp}:∀{m m':List (κ×MV)} {v v':List (κ×V)},RKs K H m v->RKs K H m' v'->RKs K H (m++m') (v++v')
 |_,_,_,_,.nil,s=>s
 |_,_,_,_,.cons r t,s=>.cons r (rk_app t s)
theorem map_no{κ:Type} [DecidableEq κ] {k:κ}{x:MV}:∀{m:List (κ×MV)},¬k∈m.map (·.1)->(m.map λkv=>if kv.1=k then(kv.1,x)else kv)=m
 |[],_=>rfl
 |(j,y)::r,h=>by
  rw[Y0d,if_neg (λe=>h (by simp[show j=k from e])),map_no (λe=>h (by simp[e]))]
theorem putM_is{κ:Type} [DecidableEq κ] {k:κ}{x:MV}:∀{m:List (κ×MV)},(m.map (·.1)).Nodup->putM m k x=if(m.any λkv=>decide (kv.1=k))=true then m.map (λkv=>if kv.1=k then(kv.1,x)else kv)else m++[(k,x)]
 |[],_=>rfl
 |(j,y)::r,h=>by
  rw[Y0d,Y19]at h
  unfold putM
  rw[Y1j]
  by_cases e:j=k
  ·subst e
   rw[if_pos rfl,if_pos (by simp),Y0d,if_pos rfl,map_no h.1]
  ·rw[if_neg e,putM_is h.2,show decide ((j,y).1=k)=false from decide_eq_false e,Y3I,Y0d,if_neg (show¬(j,y).1=k from e)]
   split<;>rfl
theorem putM_keys{κ:Type} [DecidableEq κ] {k:κ}{x:MV}:∀(m:List (κ×MV)),((putM m k x).map (·.1))=if k∈m.map (·.1)then m.map (·.1)else m.map (·.1)++[k]
 |[]=>rfl
 |(j,y)::r=>by
  unfold putM
  by_cases e:j=k
  ·subst e;simp
  ·rw[if_neg e,Y0d,putM_keys r,Y0d]
   have e':k≠j:=λz=>e z.symm
   by_cases m:k∈r.map (·.1)
   ·rw[if_pos m,if_pos (Y05.mpr (.inr m))]
   ·rw[if_neg m,if_neg (λz=>(Y05.mp z).elim e' m)];rfl
theorem putM_rk{K:Y00}{H:Hp}{k:Key}{x:MV}{u:V}(r:RM K H x u){m:List (Key×MV)}{v:List (Key×V)}(nd:(m.map (·.1)).Nodup)(h:RKs K H m v):
  RKs K H (putM m k x) (putK v k u)/\((putM m k x).map (·.1)).Nodup:=by
 refine⟨?_,?_⟩
 ·rw[putM_is nd]
  unfold putK
  rw[rk_any h]
  split
  ·exact rk_map r h
  ·exact rk_app h (.cons r .nil)
 ·rw[putM_keys]
  split
  ·exact nd
  ·exact nd_snoc nd (by assumption)
noncomputable def wIn(x y:MV)(M:MH)(k:Bool->Prop):Prop:=match y with
 |.tup xs=>flatM x=true/\xs.all flatM=true/\k (inV (toV x) (xs.map toV))
 |.frl xs=>flatM x=true/\xs.all flatM=true/\k (inV (toV x) (xs.map toV))
 |.ref a=>(∃xs,M a=some (.lst xs)/\flatM x=true/\xs.all flatM=true/\k (inV (toV x) (xs.map toV)))\/∃kvs kk,M a=some (.dic kvs)/\keyM x=some kk/\k (valM kvs kk).isSome
 |_=>False
noncomputable def isNon:MV->Bool
 |.non=>true|_=>false
noncomputable def isBl(b:Bool):MV->Bool
 |.bl c=>decide (c=b)
 |_=>false
noncomputable def wCmp(op:CmpOp)(x y:MV)(M:MH)(Q:QM):Prop:=match op with
 |.Lt=>∃i j,x=.int i/\y=.int j/\Q (.bl (decide (i<j))) M
 |.LtE=>(∃i j,x=.int i/\y=.int j/\Q (.bl (decide (i≤j))) M)\/∃i j,x=.str i/\y=.str j/\Q (.bl (!decide (j.cps.toList<i.cps.toList))) M
 |.Gt=>∃i j,x=.int i/\y=.int j/\Q (.bl (decide (j<i))) M
 |.GtE=>∃i j,x=.int i/\y=.int j/\Q (.bl (decide (j≤i))) M
 |.Eq=>wEq x y M λb=>Q (.bl b) M
 |.NotEq=>wEq x y M λb=>Q (.bl (!b)) M
 |.In=>wIn x y M λb=>Q (.bl b) M
 |.NotIn=>wIn x y M λb=>Q (.bl (!b)) M
 |.Is=>(y=.non/\Q (.bl (isNon x)) M)\/∃b,y=.bl b/\Q (.bl (isBl b x)) M
 |.IsNot=>(y=.non/\Q (.bl (!isNon x)) M)\/∃b,y=.bl b/\Q (.bl (!isBl b x)) M
theorem mon_eq{x y:MV}{M:MH}{k k':Bool->Prop}(hk:∀b,k b->k' b)(h:wEq x y M k):wEq x y M k':=by
 unfold wEq at h ⊢
 split
 ·rename_i b e;rw[e]at h;exact hk _ h
 ·rename_i e;rw[e]at h
  rcases h with⟨n,h1,h2,h3⟩|⟨a,b,xs,h1,h2,h3,h4,h5⟩|h|h
  ·exact .inl ⟨n,h1,h2,hk _ h3⟩
  ·exact .inr (.inl ⟨a,b,xs,h1,h2,h3,h4,hk _ h5⟩)
  ·exact h.elim
  ·exact h.elim
theorem mon_in{x y:MV}{M:MH}{k k':Bool->Prop}(hk:∀b,k b->k' b)(h:wIn x y M k):wIn x y M k':=by
 unfold wIn at h ⊢
 split at h
 ·exact⟨h.1,h.2.1,hk _ h.2.2⟩
 ·exact⟨h.1,h.2.1,hk _ h.2.2⟩
 ·rcases h with⟨xs,h1,h2,h3,h4⟩|⟨kvs,kk,h1,h2,h3⟩
  ·exact .inl ⟨xs,h1,h2,h3,hk _ h4⟩
  ·exact .inr ⟨kvs,kk,h1,h2,hk _ h3⟩
 ·exact h.elim
theorem mon_cmp(op:CmpOp):Mon2 (wCmp op):=by
 intro x y M Q Q' hq h
 cases op
 ·exact mon_eq (k:=λb=>Q (.bl b) M) (k':=λb=>Q' (.bl b) M) (λb h=>hq _ _ h) h
 ·exact mon_eq (k:=λb=>Q (.bl (!b)) M) (k':=λb=>Q' (.bl (!b)) M) (λb h=>hq _ _ h) h
 ·obtain⟨i,j,h1,h2,h3⟩:=h;exact⟨i,j,h1,h2,hq _ _ h3⟩
 ·rcases h with⟨i,j,h1,h2,h3⟩|⟨i,j,h1,h2,h3⟩
  ·exact .inl ⟨i,j,h1,h2,hq _ _ h3⟩
  ·exact .inr ⟨i,j,h1,h2,hq _ _ h3⟩
 ·obtain⟨i,j,h1,h2,h3⟩:=h;exact⟨i,j,h1,h2,hq _ _ h3⟩
 ·obtain⟨i,j,h1,h2,h3⟩:=h;exact⟨i,j,h1,h2,hq _ _ h3⟩
 ·rcases h with h|⟨b,e,h⟩
  ·exact .inl ⟨h.1,hq _ _ h.2⟩
  ·exact .inr ⟨b,e,hq _ _ h⟩
 ·rcases h with h|⟨b,e,h⟩
  ·exact .inl ⟨h.1,hq _ _ h.2⟩
  ·exact .inr ⟨b,e,hq _ _ h⟩
 ·exact mon_in (k:=λb=>Q (.bl b) M) (k':=λb=>Q' (.bl b) M) (λb h=>hq _ _ h) h
 ·exact mon_in (k:=λb=>Q (.bl (!b)) M) (k':=λb=>Q' (.bl (!b)) M) (λb h=>hq _ _ h) h
section
variable{X:Cx}
theorem isBl_rm{K:Y00}{H:Hp}{m:MV}{v:V}{b:Bool}(r:RM K H m v):decide (v=.bl b)=isBl b m:=by
 cases r<;>first|rfl|(rename_i c;cases b<;>cases c<;>rfl)
theorem isNon_rm{K:Y00}{H:Hp}{m:MV}{v:V}(r:RM K H m v):decide (v=.non)=isNon m:=by cases r<;>rfl
theorem kv_at{kvs:List (Key×V)}{vs:List (Key×Value)}{k:Key}{v:V}(r:KV kvs vs)(h:valV kvs k=some v):∃u,valueAt vs k=some u/\RelV v u:=by
 have q:=r.val k
 rw[h]at q
 exact RelO.some_of q
theorem LstM.sq{M:MH}{H:Hp}(rh:RH X.K M H){x:MV}{xs:List MV}{u:V}(h:LstM M x xs)(r:RM X.K H x u):∃a vs,u=.ref a/\SqL X.K H a vs/\RMs X.K H xs vs:=by
 rcases h with rfl|⟨a,rfl,h⟩
 ·cases r with
  |frl h1 q1=>exact⟨_,_,rfl,h1.sq,q1⟩
 ·cases r
  obtain⟨vs,e,q⟩:=rh.lst h
  exact⟨a,vs,rfl,SqL.of e,q⟩
theorem vals_get{xs:List V}{us:List Value}(r:Vals xs us){i:Nat}{u:Value}(h:us[i]?=some u):∃x,xs[i]?=some x/\RelV x u:=by
 induction r generalizing i with
 |nil=>cases h
 |cons q _ ih=>
  cases i with
  |zero=>cases h;exact⟨_,rfl,q⟩
  |succ i=>exact ih (i:=i) h
theorem kv_mem{kvs:List (Key×V)}{vs:List (Key×Value)}(r:KV kvs vs){k:Key}{u:Value}(h:(k,u)∈vs):∃x,(k,x)∈kvs/\RelV x u:=by
 induction r with
 |nil=>cases h
 | @cons p p' _ _ q _ ih=>
  obtain⟨k1,x1⟩:=p
  obtain⟨k2,x2⟩:=p'
  rcases Y05.mp h with e|h
  ·cases e
   have e1:k1=k:=q.1
   subst e1
   exact⟨x1,Y0l,q.2⟩
  ·obtain⟨x,m,rx⟩:=ih h
   exact⟨x,Y0c _ m,rx⟩
theorem rk_mem{K:Y00}{H:Hp}{k:Key}{v:V}:∀{m:List (Key×MV)} {vs:List (Key×V)},RKs K H m vs->(k,v)∈vs->∃x,(k,x)∈m/\RM K H x v
 |_,_,.nil,h=>by cases h
 |_,_,.cons r t,h=>by
  rcases Y05.mp h with e|h
  ·cases e;exact⟨_,Y0l,r⟩
  ·obtain⟨x,m,q⟩:=rk_mem t h
   exact⟨x,Y0c _ m,q⟩
theorem Alike.inn{pins:List (Addr×Obj)}{s:Shared}{σ:St}{H:Hp}{M:MH}(I:Inv X pins σ H s)(rh:RH X.K M H){n:Nat}{A:Around}(hu:A.units<cLine)
  (ih:∀{x y:MV} {u v:V} {u' v':Value},Alike M n x y->RM X.K H x u->RM X.K H y v->RelV u u'->RelV v v'->AliP X.prog X.w A.in1 s u' v')
  {x y:MV} {u v:V} {u' v':Value} (h:Alike M (n+1) x y) (r1:RM X.K H x u) (r2:RM X.K H y v) (q1:RelV u u') (q2:RelV v v'):
  (flatM x=true/\x=y)\/∃a b,u'=.ref a/\v'=.ref b/\RcP X.prog X.w A s (.ref a) (.ref b)/\RnP X.prog X.w A s (.ref a) (.ref b):=by
 rw[Alike]at h
 rcases h with h|⟨xs,ys,rfl,rfl,e,h⟩|⟨xs,ys,h1,h2,e,h⟩|⟨a,b,ka,kb,rfl,rfl,h1,h2,e,h⟩
 ·exact .inl h
 ·cases r1 with
  |tup g1 w1=>
   cases r2 with
   |tup g2 w2=>
    rename_i a vs b us
    obtain rfl:u'=Y0k a:=q1
    obtain rfl:v'=Y0k b:=q2
    obtain⟨i1,p1,t1,_⟩:=I.tuple (SqT.of g1)
    obtain⟨i2,p2,t2,_⟩:=I.tuple (SqT.of g2)
    have z:i1.toArray.size=i2.toArray.size:=by rw[Y0h,Y0h,<- p1.length,<- p2.length,<- w1.length,<- w2.length];exact e
    have he:∀p∈i1.toArray.toList.zip i2.toArray.toList,AliP X.prog X.w A.in1 s p.1 p.2:=by
     intro p hp
     obtain⟨i,hi⟩:=List.mem_iff_getElem?.mp hp
     rw[Y2N]at hi
     obtain⟨x1,c1,d1⟩:=vals_get p1 hi.1
     obtain⟨x2,c2,d2⟩:=vals_get p2 hi.2
     obtain⟨m1,c3,d3⟩:=w1.get' c1
     obtain⟨m2,c4,d4⟩:=w2.get' c2
     exact ih (h i m1 m2 c3 c4) d3 d4 d1 d2
    exact .inr ⟨_,_,rfl,rfl,rc_tup t1 t2 z hu he,nrc_tup t1 t2 z hu he⟩
 ·obtain⟨a,vs,rfl,g1,w1⟩:=h1.sq rh r1
  obtain⟨b,us,rfl,g2,w2⟩:=h2.sq rh r2
  obtain rfl:u'=Y0k a:=q1
  obtain rfl:v'=Y0k b:=q2
  obtain⟨i1,p1,⟨o1,n1,t1,t2,_,t3⟩,_⟩:=I.list g1
  obtain⟨i2,p2,⟨o2,n2,t4,t5,_,t6⟩,_⟩:=I.list g2
  have z:i1.toArray.size=i2.toArray.size:=by rw[Y0h,Y0h,<- p1.length,<- p2.length,<- w1.length,<- w2.length];exact e
  have he:∀j (h1:j<i1.toArray.size) (h2:j<i2.toArray.size),AliP X.prog X.w A.in1 s i1.toArray[j] i2.toArray[j]:=by
   intro i l1 l2
   obtain⟨x1,c1,d1⟩:=vals_get p1 (i:=i) (u:=i1.toArray[i]) (by simp[Y02 (show i<i1.length by simpa using l1)])
   obtain⟨x2,c2,d2⟩:=vals_get p2 (i:=i) (u:=i2.toArray[i]) (by simp[Y02 (show i<i2.length by simpa using l2)])
   obtain⟨m1,c3,d3⟩:=w1.get' c1
   obtain⟨m2,c4,d4⟩:=w2.get' c2
   exact ih (h i m1 m2 c3 c4) d3 d4 d1 d2
  exact .inr ⟨_,_,rfl,rfl,rc_lst ⟨o1,t1,t2,n1,t3⟩ ⟨o2,t4,t5,n2,t6⟩ z hu he,nrc_lst ⟨o1,t1,t2,n1,t3⟩ ⟨o2,t4,t5,n2,t6⟩ z hu he⟩
 ·cases r1;cases r2
  obtain rfl:u'=Y0k a:=q1
  obtain rfl:v'=Y0k b:=q2
  obtain⟨va,ea,wa,_⟩:=rh.dic h1
  obtain⟨vb,eb,wb,_⟩:=rh.dic h2
  obtain⟨_,na,ua,pa,da⟩:=dk_of I.hok ea
  obtain⟨_,nb,ub,pb,db⟩:=dk_of I.hok eb
  have z:ua.length=ub.length:=by rw[<- Paired.length pa,<- wa.length,<- Paired.length pb,<- wb.length];exact e
  have he:∀p∈ua,∃y,valueAt ub p.1=some y/\AliP X.prog X.w A.in1 s p.2 y:=by
   rintro⟨k,u1⟩ hp
   obtain⟨x1,c1,d1⟩:=kv_mem pa hp
   obtain⟨m1,c2,d2⟩:=rk_mem wa c1
   obtain⟨m2,c3,c4⟩:=h k m1 c2
   rcases valM_rk (k:=k) wb with⟨z1,z2⟩|⟨x',u2,z1,z2,r3⟩
   ·rw[c3]at z1;cases z1
   ·rw[c3]at z1;cases z1
    obtain⟨w',hw,rw'⟩:=kv_at pb z2
    exact⟨w',hw,ih c4 d2 r3 d1 rw'⟩
  exact .inr ⟨_,_,rfl,rfl,rc_dic na nb da db hu z he,nrc_dic na nb da db hu z he⟩
theorem flat_alike{K:Y00}{H:Hp}{A:Around}{s:Shared}{P:Program}{w:World}{x:MV}{u v:V}{u' v':Value}(f:flatM x=true)(r1:RM K H x u)(r2:RM K H x v)(q1:RelV u u')(q2:RelV v v'):AliP P w A s u' v':=by
 obtain⟨rfl,f1⟩:=flat_rm f r1
 obtain⟨rfl,f2⟩:=flat_rm f r2
 have h:=eqAt_V (A:=A) (s:=s) q1 q2 f1 f2
 have e:eqV (toV x) (toV x)=true:=by cases x<;>first|(cases f;done)|simp[toV,eqV]
 rw[e]at h
 exact .of_at h
theorem Alike.ok{pins:List (Addr×Obj)}{s:Shared}{σ:St}{H:Hp}{M:MH}(I:Inv X pins σ H s)(rh:RH X.K M H):∀(n:Nat) {A:Around} {x y:MV} {u v:V} {u' v':Value},A.units+n<cLine->Alike M n x y->RM X.K H x u->RM X.K H y v->RelV u u'->RelV v v'->AliP X.prog X.w A s u' v'
 |0,A,x,y,u,v,u',v',hu,h,r1,r2,q1,q2=>by
  rw[Alike]at h
  obtain⟨f,rfl⟩:=h
  exact flat_alike f r1 r2 q1 q2
 |n+1,A,x,y,u,v,u',v',hu,h,r1,r2,q1,q2=>by
  rcases Alike.inn I rh (A:=A) (by lia) (λh r1 r2 q1 q2=>Alike.ok I rh n (show A.units+1+n<cLine by lia) h r1 r2 q1 q2) h r1 r2 q1 q2 with⟨f,rfl⟩|⟨a,b,rfl,rfl,h,_⟩
  ·exact flat_alike f r1 r2 q1 q2
  ·exact .refs h
theorem Alike.top{pins:List (Addr×Obj)}{s:Shared}{σ:St}{H:Hp}{M:MH}(I:Inv X pins σ H s)(rh:RH X.K M H){n:Nat}{x y:MV}{u v:V}{u' v':Value}(h:Alike M n x y)(hu:X.A.units+n<cLine)(ns:eqS x y=none)(r1:RM X.K H x u)(r2:RM X.K H y v)(q1:RelV u u')(q2:RelV v v'):
  RcP X.prog X.w X.A s u' v'/\RnP X.prog X.w X.A s u' v':=by
 have no:¬(flatM x=true/\x=y):=by
  rintro⟨f,rfl⟩
  cases x<;>first|(cases f;done)|(cases ns;done)
 cases n with
 |zero=>rw[Alike]at h;exact(no h).elim
 |succ n=>
  rcases Alike.inn I rh (A:=X.A) (by lia) (λh r1 r2 q1 q2=>Alike.ok I rh n (show X.A.units+1+n<cLine by lia) h r1 r2 q1 q2) h r1 r2 q1 q2 with f|⟨a,b,rfl,rfl,h,h'⟩
  ·exact(no f).elim
  ·exact⟨h,h'⟩
theorem op_cmp(hu:X.A.units+70<cLine)(op:CmpOp):OpR X (compareOp op) (li2 X.K (wCmp op)):=by
 intro pins s σ H x y v u Q I rx ry h
 obtain⟨mx,my,M,r1,r2,rh,h⟩:=h
 have hb:∀b,Dn X.K H Q (.bl b) M->Q (.bl b) H:=λb h=>h _ _ (Kp.refl _) (.bl b) rh
 have hu1:X.A.units+1<cLine:=by lia
 have hu64:X.A.units+64<cLine:=by lia
 have huI:X.A.in1.units+64<cLine:=by show X.A.units+1+64<cLine;lia
 have hu0:X.A.units<cLine:=by lia
 cases op with
 |Lt=>obtain⟨i,j,rfl,rfl,h⟩:=h;cases r1;cases r2;exact op_lt pins s σ H _ _ v u Q I rx ry ⟨_,_,rfl,rfl,hb _ h⟩
 |LtE=>
  rcases h with⟨i,j,rfl,rfl,h⟩|⟨i,j,rfl,rfl,h⟩
  ·cases r1;cases r2;exact op_le pins s σ H _ _ v u Q I rx ry ⟨_,_,rfl,rfl,hb _ h⟩
  ·cases r1
   cases r2
   obtain⟨t1,rfl⟩:=rx
   obtain⟨t2,rfl⟩:=ry
   exact PySem.P.le_str ⟨.bl _,H,I,rfl,hb _ h⟩
 |Gt=>obtain⟨i,j,rfl,rfl,h⟩:=h;cases r1;cases r2;exact op_gt pins s σ H _ _ v u Q I rx ry ⟨_,_,rfl,rfl,hb _ h⟩
 |GtE=>obtain⟨i,j,rfl,rfl,h⟩:=h;cases r1;cases r2;exact op_ge pins s σ H _ _ v u Q I rx ry ⟨_,_,rfl,rfl,hb _ h⟩
 |Is=>
  rcases h with⟨rfl,h⟩|⟨b,rfl,h⟩
  ·cases r2;exact op_isN pins s σ H _ _ v u Q I rx ry ⟨rfl,by rw[isNon_rm r1];exact hb _ h⟩
  ·cases r2;exact op_isBl pins s σ H _ _ v u Q I rx ry ⟨b,rfl,by rw[isBl_rm r1];exact hb _ h⟩
 |IsNot=>
  rcases h with⟨rfl,h⟩|⟨b,rfl,h⟩
  ·cases r2;exact op_notN pins s σ H _ _ v u Q I rx ry ⟨rfl,by rw[isNon_rm r1];exact hb _ h⟩
  ·cases r2;exact op_notBl pins s σ H _ _ v u Q I rx ry ⟨b,rfl,by rw[isBl_rm r1];exact hb _ h⟩
 |Eq=>
  have h:wEq mx my M λb=>Dn X.K H Q (.bl b) M:=h
  unfold wEq at h
  split at h
  ·rename_i b e
   obtain⟨e1,e2⟩:=eqS_ok e r1 r2
   exact op_eq pins s σ H _ _ v u Q I rx ry ⟨e1,by rw[e2];exact hb _ h⟩
  ·rcases h with⟨n,h1,h2,h3⟩|⟨a,b,xs,rfl,rfl,h3,h4,h5⟩|h|h
   ·exact(h2.top I rh (by lia) (by assumption) r1 r2 rx ry).1 _ _ ⟨.bl true,H,I,rfl,hb _ h3⟩
   ·cases r1;cases r2
    obtain⟨vs,e1,q1⟩:=rh.lst h3
    obtain⟨us,e2,q2⟩:=rh.lst h4
    cases q2
    refine op_eqNil hu0 pins s σ H _ _ v u Q I rx ry ⟨_,_,vs,rfl,rfl,SqL.of e1,SqL.of e2,?_⟩
    have:vs.isEmpty=xs.isEmpty:=by cases q1<;>rfl
    rw[this];exact hb _ h5
   ·exact h.elim
   ·exact h.elim
 |NotEq=>
  have h:wEq mx my M λb=>Dn X.K H Q (.bl (!b)) M:=h
  unfold wEq at h
  split at h
  ·rename_i b e
   obtain⟨e1,e2⟩:=eqS_ok e r1 r2
   exact op_ne pins s σ H _ _ v u Q I rx ry ⟨e1,by rw[e2];exact hb _ h⟩
  ·rcases h with⟨n,h1,h2,h3⟩|⟨a,b,xs,rfl,rfl,h3,h4,h5⟩|h|h
   ·exact(h2.top I rh (by lia) (by assumption) r1 r2 rx ry).2 _ _ ⟨.bl false,H,I,rfl,hb _ h3⟩
   ·cases r1;cases r2
    obtain⟨vs,e1,q1⟩:=rh.lst h3
    obtain⟨us,e2,q2⟩:=rh.lst h4
    cases q2
    refine op_neNil hu0 pins s σ H _ _ v u Q I rx ry ⟨_,_,vs,rfl,rfl,SqL.of e1,SqL.of e2,?_⟩
    have:vs.isEmpty=xs.isEmpty:=by cases q1<;>rfl
    rw[this];exact hb _ h5
   ·exact h.elim
   ·exact h.elim
 |In=>
  have h:wIn mx my M λb=>Dn X.K H Q (.bl b) M:=h
  unfold wIn at h
  split at h
  ·cases r2 with
   |tup h1 q1=>
    obtain⟨f1,f2,h⟩:=h
    obtain⟨e1,g1⟩:=flat_rm f1 r1
    obtain⟨e2,g2⟩:=flats_rm f2 q1
    exact op_in_seq pins s σ H _ _ v u Q I rx ry ⟨_,_,rfl,.inr (SqT.of h1),g1,g2,by rw[e1,e2];exact hb _ h⟩
  ·cases r2 with
   |frl h1 q1=>
    obtain⟨f1,f2,h⟩:=h
    obtain⟨e1,g1⟩:=flat_rm f1 r1
    obtain⟨e2,g2⟩:=flats_rm f2 q1
    exact op_in_seq pins s σ H _ _ v u Q I rx ry ⟨_,_,rfl,.inl h1.sq,g1,g2,by rw[e1,e2];exact hb _ h⟩
  ·cases r2
   rcases h with⟨xs,h1,f1,f2,h⟩|⟨kvs,kk,h1,h2,h⟩
   ·obtain⟨vs,e,q1⟩:=rh.lst h1
    obtain⟨e1,g1⟩:=flat_rm f1 r1
    obtain⟨e2,g2⟩:=flats_rm f2 q1
    exact op_in_seq pins s σ H _ _ v u Q I rx ry ⟨_,_,rfl,.inl (SqL.of e),g1,g2,by rw[e1,e2];exact hb _ h⟩
   ·obtain⟨vs,e,q1,_⟩:=rh.dic h1
    have:=key_rm h2 r1
    subst this
    obtain rfl:u=Y0k _:=ry
    refine d_in hu1 I (DGet.k (k:=kk) e) rx λs3 I3=>⟨.bl _,H,I3,rfl,?_⟩
    rcases valM_rk (k:=kk) q1 with⟨z1,z2⟩|⟨x',u',z1,z2,_⟩
    ·rw[z2];rw[z1]at h;exact hb _ h
    ·rw[z2];rw[z1]at h;exact hb _ h
  ·exact h.elim
 |NotIn=>
  have h:wIn mx my M λb=>Dn X.K H Q (.bl (!b)) M:=h
  unfold wIn at h
  split at h
  ·cases r2 with
   |tup h1 q1=>
    obtain⟨f1,f2,h⟩:=h
    obtain⟨e1,g1⟩:=flat_rm f1 r1
    obtain⟨e2,g2⟩:=flats_rm f2 q1
    exact op_notIn_seq pins s σ H _ _ v u Q I rx ry ⟨_,_,rfl,.inr (SqT.of h1),g1,g2,by rw[e1,e2];exact hb _ h⟩
  ·cases r2 with
   |frl h1 q1=>
    obtain⟨f1,f2,h⟩:=h
    obtain⟨e1,g1⟩:=flat_rm f1 r1
    obtain⟨e2,g2⟩:=flats_rm f2 q1
    exact op_notIn_seq pins s σ H _ _ v u Q I rx ry ⟨_,_,rfl,.inl h1.sq,g1,g2,by rw[e1,e2];exact hb _ h⟩
  ·cases r2
   rcases h with⟨xs,h1,f1,f2,h⟩|⟨kvs,kk,h1,h2,h⟩
   ·obtain⟨vs,e,q1⟩:=rh.lst h1
    obtain⟨e1,g1⟩:=flat_rm f1 r1
    obtain⟨e2,g2⟩:=flats_rm f2 q1
    exact op_notIn_seq pins s σ H _ _ v u Q I rx ry ⟨_,_,rfl,.inl (SqL.of e),g1,g2,by rw[e1,e2];exact hb _ h⟩
   ·obtain⟨vs,e,q1,_⟩:=rh.dic h1
    have:=key_rm h2 r1
    subst this
    obtain rfl:u=Y0k _:=ry
    refine d_notIn hu1 I (DGet.k (k:=kk) e) rx λs3 I3=>⟨.bl _,H,I3,rfl,?_⟩
    rcases valM_rk (k:=kk) q1 with⟨z1,z2⟩|⟨x',u',z1,z2,_⟩
    ·rw[z2];rw[z1]at h;exact hb _ h
    ·rw[z2];rw[z1]at h;exact hb _ h
  ·exact h.elim
end
end L2
namespace L2
open PySem PySem.Spec PyProof.Rows
noncomputable def wIx(x y:MV)(M:MH)(Q:QM):Prop:=match x with
 |.tup xs=>∃i v,y=.int i/\atI xs i=some v/\Q v M
 |.frl xs=>∃i v,y=.int i/\atI xs i=some v/\Q v M
 |.str z=>∃i c,y=.int i/\z.length≤sizeLine/\atI z.cps.toList i=some c/\Q (.str ⟨#[c]⟩) M
 |.ref a=>(∃xs i v,M a=some (.lst xs)/\y=.int i/\atI xs i=some v/\Q v M)\/(∃kvs kk v,M a=some (.dic kvs)/\keyM y=some kk/\valM kvs kk=some v/\Q v M)\/∃o kvs kk v,M a=some (.fdic o kvs)/\keyM y=some kk/\valM kvs kk=some v/\Q v M
 |_=>False
theorem mon_ix:Mon2 wIx:=by
 intro x y M Q Q' hq h
 unfold wIx at h ⊢
 split at h
 ·obtain⟨i,v,h1,h2,h3⟩:=h;exact⟨i,v,h1,h2,hq _ _ h3⟩
 ·obtain⟨i,v,h1,h2,h3⟩:=h;exact⟨i,v,h1,h2,hq _ _ h3⟩
 ·obtain⟨i,v,h1,h2,h3,h4⟩:=h;exact⟨i,v,h1,h2,h3,hq _ _ h4⟩
 ·rcases h with⟨xs,i,v,h1,h2,h3,h4⟩|⟨kvs,kk,v,h1,h2,h3,h4⟩|⟨o,kvs,kk,v,h1,h2,h3,h4⟩
  ·exact .inl ⟨xs,i,v,h1,h2,h3,hq _ _ h4⟩
  ·exact .inr (.inl ⟨kvs,kk,v,h1,h2,h3,hq _ _ h4⟩)
  ·exact .inr (.inr ⟨o,kvs,kk,v,h1,h2,h3,hq _ _ h4⟩)
 ·exact h.elim
theorem RMs.atI{K:Y00}{H:Hp}{m:List MV}{v:List V}{i:Int}{x:MV}(r:RMs K H m v)(e:atI m i=some x):∃u,atI v i=some u/\RM K H x u:=by
 unfold L2.atI at e ⊢
 rw[<- r.length]
 cases q:ixN m.length i with
 |none=>rw[q]at e;cases e
 |some j=>rw[q]at e;exact r.get e
section
variable{X:Cx}
theorem ix_dict(hu:X.A.units+1<cLine):IxR X (λx y H Q=>∃a v,x=.ref a/\DGet H a y (some v)/\Q v H):=by
 intro value slice pins s σ H x y v u Q I rx ry h hs
 obtain⟨a,w',rfl,g,q⟩:=h
 obtain rfl:v=Y0k a:=rx
 exact tail_any (dict_typeIs I g) PySem.F.slot_dict_getitem.lookup (d_getItem hu I g ry λw2 s3 I3 rw'=>⟨w',H,I3,rw',q⟩) hs
theorem ix_any(hu:X.A.units+1<cLine):IxR X (li2 X.K wIx):=by
 intro value slice pins s σ H x y v u Q I rx ry h hs
 obtain⟨mx,my,M,r1,r2,rh,h⟩:=h
 unfold wIx at h
 split at h
 ·obtain⟨i,v',rfl,h2,h3⟩:=h
  cases r2
  cases r1 with
  |tup h1 q1=>
   obtain⟨u',e,r⟩:=q1.atI h2
   exact ix_tup value slice pins s σ H _ _ v u Q I rx ry ⟨_,_,_,u',rfl,rfl,SqT.of h1,e,h3 _ _ (Kp.refl _) r rh⟩ hs
 ·obtain⟨i,v',rfl,h2,h3⟩:=h
  cases r2
  cases r1 with
  |frl h1 q1=>
   obtain⟨u',e,r⟩:=q1.atI h2
   exact ix_list value slice pins s σ H _ _ v u Q I rx ry ⟨_,_,_,u',rfl,rfl,h1.sq,e,h3 _ _ (Kp.refl _) r rh⟩ hs
 ·obtain⟨i,c,rfl,h2,h3,h4⟩:=h
  cases r1;cases r2
  exact ix_str value slice pins s σ H _ _ v u Q I rx ry ⟨_,_,c,rfl,rfl,h2,h3,h4 _ _ (Kp.refl _) (.str _) rh⟩ hs
 ·cases r1
  rcases h with⟨xs,i,v',h1,rfl,h3,h4⟩|⟨kvs,kk,v',h1,h2,h3,h4⟩|⟨o,kvs,kk,v',h1,h2,h3,h4⟩
  ·cases r2
   obtain⟨vs,e,q1⟩:=rh.lst h1
   obtain⟨u',e2,r⟩:=q1.atI h3
   exact ix_list value slice pins s σ H _ _ v u Q I rx ry ⟨_,_,_,u',rfl,rfl,SqL.of e,e2,h4 _ _ (Kp.refl _) r rh⟩ hs
  ·obtain⟨vs,e,q1,_⟩:=rh.dic h1
   have ek:=key_rm h2 r2
   rcases valM_rk (k:=kk) q1 with⟨z1,z2⟩|⟨x',u',z1,z2,r'⟩
   ·rw[z1]at h3;cases h3
   ·rw[z1]at h3;cases h3
    have g:=DGet.k (k:=kk) e
    rw[z2]at g
    subst ek
    exact ix_dict hu value slice pins s σ H _ _ v u Q I rx ry ⟨_,u',rfl,g,h4 _ _ (Kp.refl _) r' rh⟩ hs
  ·obtain⟨vs,e,q1,_⟩:=rh.fdic h1
   have ek:=key_rm h2 r2
   rcases valM_rk (k:=kk) q1 with⟨z1,z2⟩|⟨x',u',z1,z2,r'⟩
   ·rw[z1]at h3;cases h3
   ·rw[z1]at h3;cases h3
    have g:DGet H _ (kV kk) (valV vs kk):=.inl ⟨vs,kk,.inr ⟨o,e⟩,rfl,rfl⟩
    rw[z2]at g
    subst ek
    exact ix_dict hu value slice pins s σ H _ _ v u Q I rx ry ⟨_,u',rfl,g,h4 _ _ (Kp.refl _) r' rh⟩ hs
 ·exact h.elim
end
noncomputable def cutM(xs:List MV)(lo hi:Option Int):List MV:=(xs.drop (HT.sIx xs.length 0 lo)).take (HT.sIx xs.length xs.length hi - HT.sIx xs.length 0 lo)
theorem RMs.cut{K:Y00}{H:Hp}{m:List MV}{v:List V}(r:RMs K H m v)(lo hi:Option Int):RMs K H (cutM m lo hi) (cutV v lo hi):=by
 unfold cutM cutV
 rw[<- r.length]
 exact(r.drop _).take _
noncomputable abbrev WS:=MV->Option Int->Option Int->MH->QM->Prop
noncomputable def wSl:WS:=λx lo hi M Q=>match x with
 |.tup xs=>Q (.tup (cutM xs lo hi)) M
 |.frl xs=>∀p,M p=none->Q (.ref p) (updM M p (.lst (cutM xs lo hi)))
 |.ref a=>∃xs,M a=some (.lst xs)/\∀p,M p=none->Q (.ref p) (updM M p (.lst (cutM xs lo hi)))
 |.str z=>z.length≤sizeLine/\Q (.str (cutS z lo hi)) M
 |_=>False
theorem mon_sl{x:MV}{lo hi:Option Int}{M:MH}{Q Q':QM}(hq:∀m M',Q m M'->Q' m M')(h:wSl x lo hi M Q):wSl x lo hi M Q':=by
 unfold wSl at h ⊢
 split at h
 ·exact hq _ _ h
 ·exact λp hp=>hq _ _ (h p hp)
 ·obtain⟨xs,h1,h2⟩:=h;exact⟨xs,h1,λp hp=>hq _ _ (h2 p hp)⟩
 ·exact⟨h.1,hq _ _ h.2⟩
 ·exact h.elim
noncomputable def liS(K:Y00)(w:WS):V->Option Int->Option Int->Hp->VK->Prop:=λx lo hi H Q=>∃mx M,RM K H mx x/\RH K M H/\w mx lo hi M (Dn K H Q)
section
variable{X:Cx}
theorem sl_any:SlR X (liS X.K wSl):=by
 intro pins s σ H x v vl vu lo hi sl Q I rx hs pl pu h
 obtain⟨mx,M,r1,rh,h⟩:=h
 unfold wSl at h
 split at h
 ·rename_i ms
  cases r1 with
  |tup h1 q1=>
   rename_i vs
   by_cases hw:HT.sIx ms.length 0 lo=0/\HT.sIx ms.length ms.length hi=ms.length
   ·have e:cutM ms lo hi=ms:=by unfold cutM;rw[hw.1,hw.2,Y3y,Nat.sub_zero,Y2Z]
    rw[e]at h
    refine sl_tupW pins s σ H _ v vl vu lo hi sl Q I rx hs pl pu ⟨_,_,rfl,SqT.of h1,by rw[<- q1.length];exact hw.1,by rw[<- q1.length];exact hw.2,?_⟩
    exact h _ _ (Kp.refl _) (.tup h1 q1) rh
   refine sl_tup pins s σ H _ v vl vu lo hi sl Q I rx hs pl pu ⟨_,_,rfl,SqT.of h1,by rw[<- q1.length];exact hw,λp hp=>?_⟩
   have k:=Kp.new hp (.tup (cutV vs lo hi))
   exact h _ _ k (.tup Z1F ((q1.cut lo hi).mono k)) (rh.kept hp _)
 ·cases r1 with
  |frl h1 q1=>
   rename_i vs
   refine sl_list pins s σ H _ v vl vu lo hi sl Q I rx hs pl pu ⟨_,_,rfl,h1.sq,λp hp=>?_⟩
   have k:=Kp.new hp (.lst (cutV vs lo hi))
   exact h p (rh.free hp) _ _ k (.ref p) (rh.put k ((q1.cut lo hi).mono k))
 ·cases r1
  obtain⟨xs,h1,h⟩:=h
  obtain⟨vs,e,q1⟩:=rh.lst h1
  refine sl_list pins s σ H _ v vl vu lo hi sl Q I rx hs pl pu ⟨_,_,rfl,SqL.of e,λp hp=>?_⟩
  have k:=Kp.new hp (.lst (cutV vs lo hi))
  exact h p (rh.free hp) _ _ k (.ref p) (rh.put k ((q1.cut lo hi).mono k))
 ·cases r1
  exact sl_str pins s σ H _ v vl vu lo hi sl Q I rx hs pl pu ⟨_,rfl,h.1,h.2 _ _ (Kp.refl _) (.str _) rh⟩
 ·exact h.elim
end
noncomputable def tyM(M:MH):MV->Option Ty7
 |.non=>some .none|.bl _=>some .bool|.int _=>some .int|.str _=>some .str|.tup _=>some .tuple
 |.ref a=>match M a with|some (.lst _)=>some .list|some (.dic _)=>some .dict|_=>none
 |_=>none
noncomputable def isTy:Ty7->Ty7->Bool
 |.bool,.int=>true
 |a,b=>decide (a=b)
theorem kit_ty(K:Y00)(T c:Ty7)(hc:c≠.none):Y1k K (.type T.name) (.type c.name)=some (isTy T c):=by
 cases T<;>cases c<;>first|exact absurd rfl hc|with_unfolding_all rfl
theorem tyM_ok{K:Y00}{M:MH}{H:Hp}{m:MV}{v:V}{T:Ty7}(rh:RH K M H)(r:RM K H m v)(e:tyM M m=some T):TyOf K H v (.type T.name):=by
 cases r with
 |non=>cases e;exact .non
 |bl b=>cases e;exact .bl b
 |int i=>cases e;exact .int i
 |str x=>cases e;exact .str x
 |tup h _=>cases e;exact .tup h
 |frl _ _=>cases e
 |ty _=>cases e
 |ref a=>
  unfold tyM at e
  dsimp only at e
  cases q:M a with
  |none=>rw[q]at e;cases e
  |some o=>
   rw[q]at e
   cases o with
   |lst xs=>cases e;obtain⟨vs,h,_⟩:=rh.lst q;exact .lst h
   |dic kvs=>cases e;obtain⟨vs,h,_⟩:=rh.dic q;exact .dK h
   |ins _ _=>cases e
   |fdic _ _=>cases e
inductive BI where|len|isinst|max|min|sum|abs|int|list|tuple|dict|sorted|dictL|all
  deriving DecidableEq
noncomputable def bLen(vs:List MV)(M:MH)(Q:QM):Prop:=match vs with
 |[.tup xs]=>Q (.int xs.length) M
 |[.frl xs]=>Q (.int xs.length) M
 |[.str z]=>z.length≤sizeLine/\Q (.int z.length) M
 |[.ref a]=>(∃xs,M a=some (.lst xs)/\Q (.int xs.length) M)\/∃kvs,M a=some (.dic kvs)/\Q (.int kvs.length) M
 |_=>False
noncomputable def bIsi(vs:List MV)(M:MH)(Q:QM):Prop:=match vs with
 |[x,.ty c]=>∃T,tyM M x=some T/\c≠.none/\Q (.bl (isTy T c)) M
 |[x,.tup [.ty c,.ty d]]=>∃T,tyM M x=some T/\c≠.none/\d≠.none/\Q (.bl (isTy T c||isTy T d)) M
 |_=>False
noncomputable def bMax(vs:List MV)(M:MH)(Q:QM):Prop:=match vs with
 |[.int i,.int j]=>Q (.int (if j>i then j else i)) M
 |[.ref a]=>∃ns:List Int,M a=some (.lst (ns.map MV.int))/\0<ns.length/\∀m,m∈ns->(∀x∈ns,x≤m)->Q (.int m) M
 |_=>False
noncomputable def bAbs(vs:List MV)(M:MH)(Q:QM):Prop:=match vs with
 |[.int i]=>Q (.int (if i<0 then -i else i)) M
 |_=>False
noncomputable def bInt(vs:List MV)(M:MH)(Q:QM):Prop:=match vs with
 |[.int i]=>Q (.int i) M
 |[.bl k]=>Q (.int (if k then 1 else 0)) M
 |_=>False
noncomputable def bLst(vs:List MV)(M:MH)(Q:QM):Prop:=match vs with
 |[.tup xs]=>∀p,M p=none->Q (.ref p) (updM M p (.lst xs))
 |[.frl xs]=>∀p,M p=none->Q (.ref p) (updM M p (.lst xs))
 |[.ref a]=>∃xs,M a=some (.lst xs)/\∀p,M p=none->Q (.ref p) (updM M p (.lst xs))
 |_=>False
noncomputable def bTup(vs:List MV)(M:MH)(Q:QM):Prop:=match vs with
 |[.tup xs]=>Q (.tup xs) M
 |[.frl xs]=>Q (.tup xs) M
 |[.ref a]=>∃xs,M a=some (.lst xs)/\Q (.tup xs) M
 |_=>False
noncomputable def prM(p:Key×MV):MV:=.tup [match p.1 with|.inl i=>.int i|.inr x=>.str x,p.2]
noncomputable def putAllM(ps:List (Key×MV)):List (Key×MV):=ps.foldl (λc z=>putM c z.1 z.2) []
noncomputable def bDic(vs:List MV)(M:MH)(Q:QM):Prop:=match vs with
 |[.ref a]=>∃kvs,M a=some (.dic kvs)/\∀p,M p=none->Q (.ref p) (updM M p (.dic kvs))
 |[.tup xs]=>∃ps:List (Key×MV),xs=ps.map prM/\∀p,M p=none->Q (.ref p) (updM M p (.dic (putAllM ps)))
 |_=>False
noncomputable def bDcl(vs:List MV)(M:MH)(Q:QM):Prop:=match vs with
 |[.ref a]=>∃ps:List (Key×MV),M a=some (.lst (ps.map prM))/\∀p,M p=none->Q (.ref p) (updM M p (.dic (putAllM ps)))
 |_=>False
theorem pairs_of{K:Y00}{H:Hp}:∀{ps:List (Key×MV)} {vs:List V},RMs K H (ps.map prM) vs->∃ps':List (Key×V),PairsV H ps' vs/\RKs K H ps ps'
 |[],_,.nil=>⟨[],.nil,.nil⟩
 |(k,x)::r,_,.cons (.tup e t) u=>by
  obtain⟨ps',h1,h2⟩:=pairs_of u
  cases t with
  |cons t1 t2=>
   cases t2 with
   |cons t3 t4=>
    cases t4
    rename_i v1 v2
    refine⟨(k,v2)::ps',.cons ⟨_,rfl,?_⟩ h1,.cons t3 h2⟩
    rw[e]
    cases k<;>cases t1<;>rfl
theorem putAll_rk{K:Y00}{H:Hp}:∀{ps:List (Key×MV)} {ps':List (Key×V)} {c:List (Key×MV)} {c':List (Key×V)},RKs K H ps ps'->RKs K H c c'->(c.map (·.1)).Nodup->
  RKs K H (ps.foldl (λc z=>putM c z.1 z.2) c) (ps'.foldl (λc z=>putK c z.1 z.2) c')/\((ps.foldl (λc z=>putM c z.1 z.2) c).map (·.1)).Nodup
 |_,_,_,_,.nil,h,nd=>⟨h,nd⟩
 |_,_,_,_,.cons r t,h,nd=>by
  obtain⟨a,b⟩:=putM_rk r nd h
  have z:=putAll_rk t a b
  exact z
noncomputable def bAll(vs:List MV)(M:MH)(Q:QM):Prop:=match vs with
 |[.ref a]=>∃bs:List Bool,M a=some (.lst (bs.map MV.bl))/\Q (.bl (bs.all id)) M
 |_=>False
theorem RMs.bls_of{K:Y00}{H:Hp}:∀{bs:List Bool} {vs:List V},RMs K H (bs.map MV.bl) vs->vs=bs.map V.bl
 |[],_,.nil=>rfl
 |n::r,_,.cons (.bl _) t=>by rw[t.bls_of];rfl
noncomputable def wBi(f:BI)(vs:List MV)(M:MH)(Q:QM):Prop:=match f with
 |.len=>bLen vs M Q
 |.isinst=>bIsi vs M Q
 |.max=>bMax vs M Q
 |.min=>False
 |.sum=>False
 |.abs=>bAbs vs M Q
 |.int=>bInt vs M Q
 |.list=>bLst vs M Q
 |.tuple=>bTup vs M Q
 |.dict=>bDic vs M Q
 |.sorted=>False
 |.dictL=>bDcl vs M Q
 |.all=>bAll vs M Q
theorem mon_len:MonW bLen:=by
 intro vs M Q Q' hq h
 unfold bLen at h ⊢
 split at h
 ·exact hq _ _ h
 ·exact hq _ _ h
 ·exact⟨h.1,hq _ _ h.2⟩
 ·rcases h with⟨xs,h1,h2⟩|⟨xs,h1,h2⟩
  ·exact .inl ⟨xs,h1,hq _ _ h2⟩
  ·exact .inr ⟨xs,h1,hq _ _ h2⟩
 ·exact h.elim
theorem mon_bi(f:BI):MonW (wBi f):=by
 intro vs M Q Q' hq h
 cases f
 ·exact mon_len hq h
 ·have h:bIsi vs M Q:=h
  show bIsi vs M Q'
  unfold bIsi at h ⊢
  split at h
  ·obtain⟨T,h1,h2,h3⟩:=h;exact⟨T,h1,h2,hq _ _ h3⟩
  ·obtain⟨T,h1,h2,h3,h4⟩:=h;exact⟨T,h1,h2,h3,hq _ _ h4⟩
  ·exact h.elim
 ·have h:bMax vs M Q:=h
  show bMax vs M Q'
  unfold bMax at h ⊢
  split at h
  ·exact hq _ _ h
  ·obtain⟨ns,h1,h2,h3⟩:=h;exact⟨ns,h1,h2,λm a b=>hq _ _ (h3 m a b)⟩
  ·exact h.elim
 ·exact Y0D h
 ·exact Y0D h
 ·have h:bAbs vs M Q:=h
  show bAbs vs M Q'
  unfold bAbs at h ⊢
  split at h
  ·exact hq _ _ h
  ·exact h.elim
 ·have h:bInt vs M Q:=h
  show bInt vs M Q'
  unfold bInt at h ⊢
  split at h
  ·exact hq _ _ h
  ·exact hq _ _ h
  ·exact h.elim
 ·have h:bLst vs M Q:=h
  show bLst vs M Q'
  unfold bLst at h ⊢
  split at h
  ·exact λp hp=>hq _ _ (h p hp)
  ·exact λp hp=>hq _ _ (h p hp)
  ·obtain⟨xs,h1,h2⟩:=h;exact⟨xs,h1,λp hp=>hq _ _ (h2 p hp)⟩
  ·exact h.elim
 ·have h:bTup vs M Q:=h
  show bTup vs M Q'
  unfold bTup at h ⊢
  split at h
  ·exact hq _ _ h
  ·exact hq _ _ h
  ·obtain⟨xs,h1,h2⟩:=h;exact⟨xs,h1,hq _ _ h2⟩
  ·exact h.elim
 ·have h:bDic vs M Q:=h
  show bDic vs M Q'
  unfold bDic at h ⊢
  split at h
  ·obtain⟨xs,h1,h2⟩:=h;exact⟨xs,h1,λp hp=>hq _ _ (h2 p hp)⟩
  ·obtain⟨xs,h1,h2⟩:=h;exact⟨xs,h1,λp hp=>hq _ _ (h2 p hp)⟩
  ·exact h.elim
 ·exact Y0D h
 ·have h:bDcl vs M Q:=h
  show bDcl vs M Q'
  unfold bDcl at h ⊢
  split at h
  ·obtain⟨ps,h1,h2⟩:=h;exact⟨ps,h1,λp hp=>hq _ _ (h2 p hp)⟩
  ·exact h.elim
 ·have h:bAll vs M Q:=h
  show bAll vs M Q'
  unfold bAll at h ⊢
  split at h
  ·obtain⟨bs,h1,h2⟩:=h;exact⟨bs,h1,hq _ _ h2⟩
  ·exact h.elim
noncomputable def BI.val:BI->Value
 |.len=>.builtin "len"|.isinst=>.builtin "isinstance"|.max=>.builtin "max"|.min=>.builtin "min"|.sum=>.builtin "sum"|.abs=>.builtin "abs"
 |.int=>.type "int"|.list=>.type "list"|.tuple=>.type "tuple"|.dict=>.type "dict"|.sorted=>.builtin "sorted"|.dictL=>.type "dict"|.all=>.builtin "all"
section
variable{X:Cx}
theorem RMs.one{K:Y00}{H:Hp}{m:MV}{vs:List V}(r:RMs K H [m] vs):∃v,vs=[v]/\RM K H m v:=by
 cases r with
 |cons a b=>cases b;exact⟨_,rfl,a⟩
theorem RMs.two{K:Y00}{H:Hp}{m n:MV}{vs:List V}(r:RMs K H [m,n] vs):∃v w,vs=[v,w]/\RM K H m v/\RM K H n w:=by
 cases r with
 |cons a b=>obtain⟨w,rfl,c⟩:=b.one;exact⟨_,_,rfl,a,c⟩
theorem call_dict_of:CallR X (.type "dict") (fun xs H Q=>∃a kvs,xs=[.ref a]/\H a=some (.dK kvs)/\∀p,H p=none->Q (.ref p) (upd H p (.dK kvs))):=by
 intro pins s σ H xs us Q I r h
 obtain⟨a,kvs,rfl,ha,q⟩:=h
 obtain⟨u,rfl,ru⟩:=vals1 r
 cases ru
 exact d_copyOf I (.inl ha) λp s' hp I'=>⟨.ref p,_,I',rfl,q p hp⟩
theorem call_bi(hc:X.calm=true)(f:BI):CallR X f.val (liW X.K (wBi f)):=by
 intro pins s σ H xs us Q I r h
 obtain⟨ms,M,r1,rh,h⟩:=h
 cases f with
 |len=>
  have h:bLen ms M (Dn X.K H Q):=h
  unfold bLen at h
  split at h
  ·obtain⟨v,rfl,a⟩:=r1.one
   cases a with
   |tup h1 q1=>exact call_len_seq pins s σ H _ us Q I r ⟨_,_,rfl,.inr (SqT.of h1),by rw[<- q1.length];exact h _ _ (Kp.refl _) (.int _) rh⟩
  ·obtain⟨v,rfl,a⟩:=r1.one
   cases a with
   |frl h1 q1=>exact call_len_seq pins s σ H _ us Q I r ⟨_,_,rfl,.inl h1.sq,by rw[<- q1.length];exact h _ _ (Kp.refl _) (.int _) rh⟩
  ·obtain⟨v,rfl,a⟩:=r1.one
   cases a
   exact call_len_str pins s σ H _ us Q I r ⟨_,rfl,h.1,h.2 _ _ (Kp.refl _) (.int _) rh⟩
  ·obtain⟨v,rfl,a⟩:=r1.one
   cases a
   rcases h with⟨xs,h1,h⟩|⟨kvs,h1,h⟩
   ·obtain⟨vs,e,q1⟩:=rh.lst h1
    exact call_len_seq pins s σ H _ us Q I r ⟨_,_,rfl,.inl (SqL.of e),by rw[<- q1.length];exact h _ _ (Kp.refl _) (.int _) rh⟩
   ·obtain⟨vs,e,q1,_⟩:=rh.dic h1
    exact call_lenD pins s σ H _ us Q I r ⟨_,_,rfl,e,by rw[<- q1.length];exact h _ _ (Kp.refl _) (.int _) rh⟩
  ·exact h.elim
 |isinst=>
  have h:bIsi ms M (Dn X.K H Q):=h
  unfold bIsi at h
  split at h
  ·obtain⟨v,w,rfl,a,b⟩:=r1.two
   cases b
   obtain⟨T,h1,h2,h3⟩:=h
   exact call_isinst pins s σ H _ us Q I r ⟨_,_,_,_,rfl,tyM_ok rh a h1,kit_ty _ _ _ h2,h3 _ _ (Kp.refl _) (.bl _) rh⟩
  ·obtain⟨v,w,rfl,a,b⟩:=r1.two
   obtain⟨T,h1,h2,h3,h4⟩:=h
   cases b with
   |tup ht qt=>
    cases qt with
    |cons q1 q2=>
     cases q2 with
     |cons q3 q4=>
      cases q4
      cases q1
      cases q3
      exact call_isinst2 pins s σ H _ us Q I r ⟨_,_,_,_,_,_,_,rfl,ht,tyM_ok rh a h1,kit_ty _ _ _ h2,kit_ty _ _ _ h3,h4 _ _ (Kp.refl _) (.bl _) rh⟩
  ·exact h.elim
 |max=>
  have h:bMax ms M (Dn X.K H Q):=h
  unfold bMax at h
  split at h
  ·obtain⟨v,w,rfl,a,b⟩:=r1.two
   cases a;cases b
   exact call_max2 hc pins s σ H _ us Q I r ⟨_,_,rfl,h _ _ (Kp.refl _) (.int _) rh⟩
  ·obtain⟨v,rfl,a⟩:=r1.one
   cases a
   obtain⟨ns,h1,h2,h3⟩:=h
   obtain⟨vs,e,q1⟩:=rh.lst h1
   have:=q1.ints_of
   subst this
   exact call_maxL hc pins s σ H _ us Q I r ⟨_,ns,rfl,SqL.of e,h2,λm a b=>h3 m a b _ _ (Kp.refl _) (.int _) rh⟩
  ·exact h.elim
 |min=>exact Y0D h
 |sum=>exact Y0D h
 |abs=>
  have h:bAbs ms M (Dn X.K H Q):=h
  unfold bAbs at h
  split at h
  ·obtain⟨v,rfl,a⟩:=r1.one
   cases a
   exact call_abs pins s σ H _ us Q I r ⟨_,rfl,h _ _ (Kp.refl _) (.int _) rh⟩
  ·exact h.elim
 |int=>
  have h:bInt ms M (Dn X.K H Q):=h
  unfold bInt at h
  split at h
  ·obtain⟨v,rfl,a⟩:=r1.one
   cases a
   exact call_int1 pins s σ H _ us Q I r (.inl ⟨_,rfl,h _ _ (Kp.refl _) (.int _) rh⟩)
  ·obtain⟨v,rfl,a⟩:=r1.one
   cases a
   exact call_int1 pins s σ H _ us Q I r (.inr ⟨_,rfl,h _ _ (Kp.refl _) (.int _) rh⟩)
  ·exact h.elim
 |list=>
  have h:bLst ms M (Dn X.K H Q):=h
  unfold bLst at h
  split at h
  ·obtain⟨v,rfl,a⟩:=r1.one
   cases a with
   |tup h1 q1=>
    refine call_list_of pins s σ H _ us Q I r ⟨_,_,rfl,.inr (SqT.of h1),λp hp=>?_⟩
    have k:=λz=>Kp.new hp (.lst z)
    exact h p (rh.free hp) _ _ (k _) (.ref p) (rh.put (k _) (q1.mono (k _)))
  ·obtain⟨v,rfl,a⟩:=r1.one
   cases a with
   |frl h1 q1=>
    refine call_list_of pins s σ H _ us Q I r ⟨_,_,rfl,.inl h1.sq,λp hp=>?_⟩
    have k:=λz=>Kp.new hp (.lst z)
    exact h p (rh.free hp) _ _ (k _) (.ref p) (rh.put (k _) (q1.mono (k _)))
  ·obtain⟨v,rfl,a⟩:=r1.one
   cases a
   obtain⟨xs,h1,h⟩:=h
   obtain⟨vs,e,q1⟩:=rh.lst h1
   refine call_list_of pins s σ H _ us Q I r ⟨_,_,rfl,.inl (SqL.of e),λp hp=>?_⟩
   have k:=Kp.new hp (.lst vs)
   exact h p (rh.free hp) _ _ k (.ref p) (rh.put k (q1.mono k))
  ·exact h.elim
 |tuple=>
  have h:bTup ms M (Dn X.K H Q):=h
  unfold bTup at h
  split at h
  ·obtain⟨v,rfl,a⟩:=r1.one
   cases a with
   |tup h1 q1=>exact call_tuple_of pins s σ H _ us Q I r ⟨_,_,rfl,.inr ⟨SqT.of h1,h _ _ (Kp.refl _) (.tup h1 q1) rh⟩⟩
  ·obtain⟨v,rfl,a⟩:=r1.one
   cases a with
   |frl h1 q1=>
    refine call_tuple_of pins s σ H _ us Q I r ⟨_,_,rfl,.inl ⟨h1.sq,λp hp=>?_⟩⟩
    have k:=λz=>Kp.new hp (.tup z)
    exact h _ _ (k _) (.tup Z1F (q1.mono (k _))) (rh.kept hp _)
  ·obtain⟨v,rfl,a⟩:=r1.one
   cases a
   obtain⟨xs,h1,h⟩:=h
   obtain⟨vs,e,q1⟩:=rh.lst h1
   refine call_tuple_of pins s σ H _ us Q I r ⟨_,_,rfl,.inl ⟨SqL.of e,λp hp=>?_⟩⟩
   have k:=Kp.new hp (.tup vs)
   exact h _ _ k (.tup Z1F (q1.mono k)) (rh.kept hp _)
  ·exact h.elim
 |dict=>
  have h:bDic ms M (Dn X.K H Q):=h
  unfold bDic at h
  split at h
  ·obtain⟨v,rfl,a⟩:=r1.one
   cases a
   obtain⟨kvs,h1,h⟩:=h
   obtain⟨vs,e,q1,nd⟩:=rh.dic h1
   refine call_dict_of pins s σ H _ us Q I r ⟨_,_,rfl,e,λp hp=>?_⟩
   have k:=Kp.new hp (.dK vs)
   exact h p (rh.free hp) _ _ k (.ref p) (rh.put k ⟨q1.mono k,nd⟩)
  ·obtain⟨v,rfl,a⟩:=r1.one
   obtain⟨ps,rfl,h2⟩:=h
   cases a with
   |tup e q1=>
    obtain⟨ps',pv,rk⟩:=pairs_of q1
    refine call_dictPT hc pins s σ H _ us Q I r ⟨_,ps',_,rfl,e,pv,λp hp=>?_⟩
    have k:=Kp.new hp (.dK (putAll ps'))
    obtain⟨z1,z2⟩:=putAll_rk rk (.nil:RKs X.K H [] []) (by simp)
    exact h2 p (rh.free hp) _ _ k (.ref p) (rh.put k ⟨z1.mono k,z2⟩)
  ·exact h.elim
 |sorted=>exact Y0D h
 |dictL=>
  have h:bDcl ms M (Dn X.K H Q):=h
  unfold bDcl at h
  split at h
  ·obtain⟨v,rfl,a⟩:=r1.one
   cases a
   obtain⟨ps,h1,h2⟩:=h
   obtain⟨vs,e,q1⟩:=rh.lst h1
   obtain⟨ps',pv,rk⟩:=pairs_of q1
   refine call_dictP hc pins s σ H _ us Q I r ⟨_,ps',vs,rfl,e,pv,λp hp=>?_⟩
   have k:=Kp.new hp (.dK (putAll ps'))
   obtain⟨z1,z2⟩:=putAll_rk rk (.nil:RKs X.K H [] []) (by simp)
   exact h2 p (rh.free hp) _ _ k (.ref p) (rh.put k ⟨z1.mono k,z2⟩)
  ·exact h.elim
 |all=>
  have h:bAll ms M (Dn X.K H Q):=h
  unfold bAll at h
  split at h
  ·obtain⟨v,rfl,a⟩:=r1.one
   cases a
   obtain⟨bs,h1,h2⟩:=h
   obtain⟨vs,e,q1⟩:=rh.lst h1
   have:=q1.bls_of
   subst this
   exact call_allB hc pins s σ H _ us Q I r ⟨_,bs,rfl,SqL.of e,h2 _ _ (Kp.refl _) (.bl _) rh⟩
  ·exact h.elim
end
theorem RMs.strs{K:Y00}{H:Hp}:∀ns:List Str,RMs K H (ns.map MV.str) (ns.map V.str)
 |[]=>.nil
 |n::r=>.cons (.str n) (RMs.strs r)
theorem RMs.strs_of{K:Y00}{H:Hp}:∀{ns:List Str} {vs:List V},RMs K H (ns.map MV.str) vs->vs=ns.map V.str
 |[],_,.nil=>rfl
 |n::r,_,.cons (.str _) t=>by rw[t.strs_of];rfl
theorem rms_of{K:Y00}{H:Hp}(f:Nat->Int):∀l:List Nat,RMs K H (l.map λi=>MV.int (f i)) (l.map λi=>V.int (f i))
 |[]=>.nil
 |_::r=>.cons (.int _) (rms_of f r)
theorem rms_range{K:Y00}{H:Hp}(n:Nat):RMs K H ((Y0I n).map λi=>MV.int (i:Nat)) ((Y0I n).map λi=>V.int (i:Nat)):=rms_of (λi=>(i:Int)) _
inductive B2 where|ssrt|lset|tset|lrng
  deriving DecidableEq
noncomputable def B2.out:B2->String
 |.ssrt=>"sorted"
 |.lset=>"len"
 |.tset=>"len"
 |.lrng=>"list"
noncomputable def B2.inn:B2->String
 |.ssrt=>"set"
 |.lset=>"set"
 |.tset=>"set"
 |.lrng=>"range"
noncomputable def B2.outV:B2->Value
 |.ssrt=>.builtin "sorted"
 |.lset=>.builtin "len"
 |.tset=>.builtin "len"
 |.lrng=>.type "list"
noncomputable def wB2(f:B2)(v:MV)(M:MH)(Q:QM):Prop:=match f with
 |.ssrt=>∃(a:Addr) (xs N:List Str),v=.ref a/\M a=some (.lst (xs.map MV.str))/\xs.length+1<scanBound/\(∀z∈xs,z∈N)/\N.length<64/\
   ∀p (ys:List Str),M p=none->ys.Nodup->(∀y,y∈ys↔y∈xs)->sortedS ys=true->Q (.ref p) (updM M p (.lst (ys.map MV.str)))
 |.lset=>False
 |.tset=>False
 |.lrng=>∃n:Nat,v=.int n/\n≤1000000/\∀p,M p=none->Q (.ref p) (updM M p (.lst ((Y0I n).map λi=>MV.int (i:Nat))))
theorem mon_b2(f:B2):Mon1 (wB2 f):=by
 intro v M Q Q' hq h
 cases f with
 |ssrt=>
  obtain⟨a,xs,N,h1,h2,h3,h4,h5,h6⟩:=h
  exact⟨a,xs,N,h1,h2,h3,h4,h5,λp ys a1 a2 a3 a4=>hq _ _ (h6 p ys a1 a2 a3 a4)⟩
 |lset=>exact Y0D h
 |tset=>exact Y0D h
 |lrng=>
  obtain⟨n,h1,h2,h3⟩:=h
  exact⟨n,h1,h2,λp hp=>hq _ _ (h3 p hp)⟩
section
variable{X:Cx}
theorem call_b2(hc:X.calm=true)(f:B2):Call2 X f.outV (.type f.inn) (li1 X.K (wB2 f)):=by
 intro pins s σ H x u Q I r h
 obtain⟨m,M,r1,rh,h⟩:=h
 cases f with
 |ssrt=>
  obtain⟨a,xs,N,rfl,h2,h3,h4,h5,h6⟩:=h
  cases r1
  obtain⟨vs,e,q1⟩:=rh.lst h2
  have:=q1.strs_of
  subst this
  refine call_ssrt hc pins s σ H _ u Q I r ⟨_,xs,N,rfl,SqL.of e,h3,h4,h5,λp ys hp a1 a2 a3=>?_⟩
  have k:=Kp.new hp (.lst (ys.map V.str))
  exact h6 p ys (rh.free hp) a1 a2 a3 _ _ k (.ref p) (rh.put k (RMs.strs ys))
 |lset=>exact Y0D h
 |tset=>exact Y0D h
 |lrng=>
  obtain⟨n,rfl,h2,h3⟩:=h
  cases r1
  refine call_lrng hc pins s σ H _ u Q I r ⟨n,rfl,h2,λp hp=>?_⟩
  have k:=Kp.new hp (.lst ((Y0I n).map λi=>V.int (i:Nat)))
  exact h3 p (rh.free hp) _ _ k (.ref p) (rh.put k (rms_range n))
end
inductive MT where|append|extend|reverse|clear|pop|popAt|dclear|dget|dgetD|join|remove
  deriving DecidableEq
noncomputable def wMt(m:MT)(a:Addr)(vs:List MV)(M:MH)(Q:QM):Prop:=∃xs,M a=some (.lst xs)/\match m,vs with
 |.append,[y]=>xs.length<sizeLine/\Q .non (updM M a (.lst (xs++[y])))
 |.extend,[.ref b]=>∃ys,M b=some (.lst ys)/\xs.length+ys.length≤sizeLine/\Q .non (updM M a (.lst (xs++ys)))
 |_,_=>False
noncomputable def wMl(m:MT)(x:MV)(vs:List MV)(M:MH)(Q:QM):Prop:=match x with
 |.ref a=>wMt m a vs M Q
 |_=>False
noncomputable def wMd(m:MT)(x:MV)(vs:List MV)(M:MH)(Q:QM):Prop:=match m with
 |.join=>∃sep b ss,x=.str sep/\vs=[.ref b]/\M b=some (.lst (ss.map MV.str))/\ss.toArray.foldl (λn z=>n+z.length+sep.length) 0≤sizeLine/\(Y11 sep ss).length≤sizeLine/\Q (.str (Y11 sep ss)) M
 |_=>False
noncomputable def MT.isL:MT->Bool
 |.dclear=>false|.dget=>false|.dgetD=>false|.join=>false|_=>true
noncomputable def MT.ty:MT->String
 |.dclear=>"dict"|.dget=>"dict"|.dgetD=>"dict"|.join=>"str"|_=>"list"
noncomputable def mtOk(m:MT)(x:MV)(M:MH):Prop:=match m with
 |.dclear=>∃a kvs,x=.ref a/\M a=some (.dic kvs)
 |.dget=>∃a kvs,x=.ref a/\M a=some (.dic kvs)
 |.dgetD=>∃a kvs,x=.ref a/\M a=some (.dic kvs)
 |.join=>∃z,x=.str z
 |_=>∃a xs,x=.ref a/\M a=some (.lst xs)
noncomputable def wMts(m:MT)(x:MV)(vs:List MV)(M:MH)(Q:QM):Prop:=match m with
 |.dclear=>wMd .dclear x vs M Q
 |.dget=>wMd .dget x vs M Q
 |.dgetD=>wMd .dgetD x vs M Q
 |.join=>wMd .join x vs M Q
 |m=>wMl m x vs M Q
theorem wMts_l{m:MT}{x:MV}{vs:List MV}{M:MH}{Q:QM}(h:m.isL=true):wMts m x vs M Q=wMl m x vs M Q:=by cases m<;>first|rfl|cases h
theorem wMts_d{m:MT}{x:MV}{vs:List MV}{M:MH}{Q:QM}(h:m.isL=false):wMts m x vs M Q=wMd m x vs M Q:=by cases m<;>first|rfl|cases h
theorem mon_ml{m:MT}{a:MV}{vs:List MV}{M:MH}{Q Q':QM}(hq:∀m M',Q m M'->Q' m M')(h:wMl m a vs M Q):wMl m a vs M Q':=by
 cases a<;>try exact h.elim
 obtain⟨xs,h1,h⟩:=h
 refine⟨xs,h1,?_⟩
 split at h
 ·exact⟨h.1,hq _ _ h.2⟩
 ·obtain⟨ys,a,b,c⟩:=h;exact⟨ys,a,b,hq _ _ c⟩
 ·exact h.elim
theorem mon_md{m:MT}{x:MV}{vs:List MV}{M:MH}{Q Q':QM}(hq:∀m M',Q m M'->Q' m M')(h:wMd m x vs M Q):wMd m x vs M Q':=by
 cases m<;>try exact h.elim
 ·obtain⟨sep,b,ss,h1,h2,h3,h4,h5,h6⟩:=h;exact⟨sep,b,ss,h1,h2,h3,h4,h5,hq _ _ h6⟩
theorem mon_mt{m:MT}{a:MV}{vs:List MV}{M:MH}{Q Q':QM}(hq:∀m M',Q m M'->Q' m M')(h:wMts m a vs M Q):wMts m a vs M Q':=by
 cases e:m.isL
 ·rw[wMts_d e]at h ⊢;exact mon_md hq h
 ·rw[wMts_l e]at h ⊢;exact mon_ml hq h
noncomputable def MT.id:MT->String
 |.dclear=>"dict.clear"|.dget=>"dict.get"|.dgetD=>"dict.get"|.join=>"str.join"
 |.append=>"list.append"|.extend=>"list.extend"|.reverse=>"list.reverse"|.clear=>"list.clear"|.pop=>"list.pop"|.popAt=>"list.pop"|.remove=>"list.remove"
noncomputable def liM(K:Y00)(w:MV->List MV->MH->QM->Prop):V->List V->Hp->VK->Prop:=λx xs H Q=>∃mx ms M,RM K H mx x/\RMs K H ms xs/\RH K M H/\w mx ms M (Dn K H Q)
section
variable{X:Cx}
theorem mt_anyL(m:MT):MtR X m.id (liM X.K (wMl m)):=by
 intro pins s σ H x xs v us Q I rx rs h
 obtain⟨mx,ms,M,r1,r2,rh,h⟩:=h
 cases r1<;>try exact h.elim
 obtain⟨ys,h1,h⟩:=h
 obtain⟨vs,e,q1⟩:=rh.lst h1
 have ku:∀o,Kp H (upd H _ o):=λo=>Kp.upd e rfl o
 split at h
 ·obtain⟨w,rfl,r3⟩:=r2.one
  exact mt_append pins s σ H _ _ v us Q I rx rs ⟨_,vs,w,rfl,rfl,e,by rw[<- q1.length];exact h.1,h.2 _ _ (ku _) .non (rh.put (ku _) ((q1.append (.cons r3 .nil)).mono (ku _)))⟩
 ·obtain⟨w,rfl,r3⟩:=r2.one
  cases r3
  obtain⟨zs,a,b,c⟩:=h
  obtain⟨ws,e2,q2⟩:=rh.lst a
  exact mt_extend pins s σ H _ _ v us Q I rx rs ⟨_,_,vs,ws,rfl,rfl,e,e2,by rw[<- q1.length,<- q2.length];exact b,c _ _ (ku _) .non (rh.put (ku _) ((q1.append q2).mono (ku _)))⟩
 ·exact h.elim
theorem rm_strs{K:Y00}{H:Hp}:∀{ss:List Str} {vs:List V},RMs K H (ss.map MV.str) vs->vs=ss.map V.str
 |[],_,.nil=>rfl
 |x::ss,_,.cons r t=>by cases r;rw[rm_strs t];rfl
theorem mt_anyD(hu:X.A.units+1<cLine)(m:MT):MtR X m.id (liM X.K (wMd m)):=by
 intro pins s σ H x xs v us Q I rx rs h
 obtain⟨mx,ms,M,r1,r2,rh,h⟩:=h
 cases m<;>try exact h.elim
 ·obtain⟨sep,b,ss,rfl,rfl,h3,h4,h5,h6⟩:=h
  cases r1
  obtain⟨w,rfl,r3⟩:=r2.one
  cases r3
  obtain⟨vs,e,q⟩:=rh.lst h3
  have:=rm_strs q
  subst this
  exact mt_joinL pins s σ H _ _ v us Q I rx rs ⟨sep,b,ss,rfl,rfl,SqL.of e,h4,h5,h6 _ _ (Kp.refl _) (.str _) rh⟩
theorem mt_any(hu:X.A.units+1<cLine)(m:MT):MtR X m.id (liM X.K (wMts m)):=by
 intro pins s σ H x xs v us Q I rx rs h
 obtain⟨mx,ms,M,r1,r2,rh,h⟩:=h
 cases e:m.isL
 ·rw[wMts_d e]at h;exact mt_anyD hu m pins s σ H x xs v us Q I rx rs ⟨mx,ms,M,r1,r2,rh,h⟩
 ·rw[wMts_l e]at h;exact mt_anyL m pins s σ H x xs v us Q I rx rs ⟨mx,ms,M,r1,r2,rh,h⟩
end
noncomputable def wPut(o i v:MV)(M:MH)(Q:MH->Prop):Prop:=match o with
 |.ref a=>(∃xs k j,M a=some (.lst xs)/\i=.int k/\ixN xs.length k=some j/\Q (updM M a (.lst (xs.set j v))))\/∃kvs kk,M a=some (.dic kvs)/\keyM i=some kk/\kvs.length<sizeLine/\Q (updM M a (.dic (putM kvs kk v)))
 |_=>False
theorem mon_put{o i v:MV}{M:MH}{Q Q':MH->Prop}(hq:∀M',Q M'->Q' M')(h:wPut o i v M Q):wPut o i v M Q':=by
 cases o<;>try exact h.elim
 rcases h with⟨xs,k,j,h1,h2,h3,h4⟩|⟨kvs,kk,h1,h2,h3,h4⟩
 ·exact .inl ⟨xs,k,j,h1,h2,h3,hq _ h4⟩
 ·exact .inr ⟨kvs,kk,h1,h2,h3,hq _ h4⟩
section
variable{X:Cx}
end
end L2
namespace L2
set_option genInjectivity false
open PySem PySem.Spec PyProof.Rows
mutual
inductive ITg where|nm (i:Nat)|tup (ts:ITgs)
inductive ITgs where|nil|cons (t:ITg) (ts:ITgs)
end
mutual
inductive IE where
 |var (i:Nat)
 |int (i:Int)|str (x:Str)|bl (b:Bool)|non
 |glb (x:Str) (i:Int)
 |ty (c:Ty7)
 |bin (op:Operator) (a b:IE)
 |neg (a:IE)
 |not (a:IE)
 |cmp (op:CmpOp) (a b:IE)
 |chn (op op':CmpOp) (a b c:IE)
 |and (a b:IE)
 |or (a b:IE)
 |ife (c a b:IE)
 |tup (es:IEs)
 |lst (es:IEs)
 |dic
 |ix (a b:IE)
 |sl (a:IE) (lo hi:IO)
 |call (j:Nat) (e:IE) (es:IEs)
 |bi (f:BI) (e:IE) (es:IEs)
 |b2 (f:B2) (e:IE)
 |mt (m:MT) (o:IE) (es:IEs)
 |comp (own:List Str) (fr:List Nat) (src:ISr) (tg:ITg) (test:IO) (elt:IE)
 |fld (c:Str) (o:IE) (f:Str)
 |mcall (j:Nat) (c m:Str) (o:IE) (es:IEs)
 |make (j:Nat) (c:Str) (e:IE) (es:IEs)
 |disp (ps:IPs)
 |mxd (e:IE)
 |st3 (e:IE)
inductive IPs where|nil|cons (k v:IE) (r:IPs)
inductive IEs where|nil|cons (e:IE) (es:IEs)
inductive IO where|none|some (e:IE)
inductive ISr where|seq (e:IE)|rng (e:IE)|rng2 (a b:IE)|rng3 (a b c:IE)
end
noncomputable def wSt3(v:MV)(M:MH)(Q:QM):Prop:=∃(a:Addr) (xs:List MV),v=.ref a/\M a=some (.lst xs)/\∀p,M p=none->Q (.ref p) (updM M p (.lst (st3 xs)))
theorem mon_st3{v:MV}{M:MH}{Q Q':QM}(hq:∀v M,Q v M->Q' v M)(h:wSt3 v M Q):wSt3 v M Q':=by
 obtain⟨a,xs,h1,h2,h3⟩:=h
 exact⟨a,xs,h1,h2,λp hp=>hq _ _ (h3 p hp)⟩
noncomputable def wMxd(v:MV)(M:MH)(Q:QM):Prop:=∃(a:Addr) (ns:List Int),v=.ref a/\M a=some (.lst (ns.map MV.int))/\∀m,(ns=[]/\m=0\/m∈ns/\∀i∈ns,i≤m)->Q (.int m) M
theorem mon_mxd{v:MV}{M:MH}{Q Q':QM}(hq:∀v M,Q v M->Q' v M)(h:wMxd v M Q):wMxd v M Q':=by
 obtain⟨a,ns,h1,h2,h3⟩:=h
 exact⟨a,ns,h1,h2,λm hm=>hq _ _ (h3 m hm)⟩
inductive Src where|tup (xs:List MV)|lst (a:Addr) (xs:List MV)|rng (lo:Int) (n:Nat)|rst (lo st:Int) (n:Nat)|dic (a:Addr) (o:Obj) (kvs:List (Key×MV))|str (x:Str)
noncomputable def kM:Key->MV
 |.inl i=>.int i
 |.inr x=>.str x
noncomputable def Src.items:Src->List MV
 |.tup xs=>xs
 |.lst _ xs=>xs
 |.rng lo n=>(Y0I n).map λi=>.int (lo+(i:Nat))
 |.rst lo st n=>(Y0I n).map λi=>.int (lo+(i:Nat)*st)
 |.dic _ _ kvs=>kvs.map λp=>kM p.1
 |.str x=>x.cps.toList.map λc=>.str ⟨#[c]⟩
noncomputable def Src.ok(M:MH):Src->Prop
 |.lst a xs=>M a=some (.lst xs)
 |.dic a o kvs=>M a=some (.fdic o kvs)
 |_=>True
noncomputable def Src.okF(M:MH):Src->Prop
 |.lst a xs=>M a=some (.lst xs)
 |.dic _ _ _=>False
 |_=>True
noncomputable def Src.okT(M:MH):Src->Prop
 |.dic a o kvs=>M a=some (.fdic o kvs)
 |_=>True
noncomputable def Src.thaw(M:MH):Src->MH
 |.dic a _ kvs=>updM M a (.dic kvs)
 |_=>M
noncomputable def Src.len:Src->Nat
 |.tup xs=>xs.length
 |.lst _ xs=>xs.length
 |.rng _ n=>n
 |.rst _ _ n=>n
 |.dic _ _ kvs=>kvs.length
 |.str x=>x.cps.size
theorem Src.items_len(S:Src):S.items.length=S.len:=by cases S<;>simp[Src.items,Src.len]
noncomputable abbrev SpM:=List MV->MH->QM->Prop
noncomputable abbrev TSm:=Sm->MH->(Src->MH->Prop)->Prop
mutual
noncomputable def wTg:ITg->MV->Sm->(Sm->Prop)->Prop
 |.nm i,v,σ,Q=>Q (σ.set i (some v))
 |.tup ts,v,σ,Q=>∃xs,v=.tup xs/\wTgs ts xs σ Q
noncomputable def wTgs:ITgs->List MV->Sm->(Sm->Prop)->Prop
 |.nil,xs,σ,Q=>xs=[]/\Q σ
 |.cons t ts,xs,σ,Q=>∃v r,xs=v::r/\wTg t v σ λσ'=>wTgs ts r σ' Q
end
noncomputable def sCm(own:List Str)(fr:List Nat)(σ:Sm):Sm:=own.map (λ_=>none)++fr.map (λi=>σ.getD i none)
noncomputable def onV(o:Option (Option MV))(k:MV->Prop):Prop:=match o with
 |some (some v)=>k v
 |_=>False
theorem onV_ex{o:Option (Option MV)}{k:MV->Prop}:onV o k=∃v,o=some (some v)/\k v:=by
 refine propext ⟨λh=>?_,fun⟨v,e,h⟩=>by subst e;exact h⟩
 match o,h with
 |some (some v),h=>exact⟨v,rfl,h⟩
noncomputable def onB(x:MV)(k:Bool->Prop):Prop:=match x with
 |.bl c=>k c
 |_=>False
theorem onB_ex{x:MV}{k:Bool->Prop}:onB x k=∃c,x=.bl c/\k c:=by
 refine propext ⟨λh=>?_,fun⟨v,e,h⟩=>by subst e;exact h⟩
 cases x<;>first|exact⟨_,rfl,h⟩|exact h.elim
noncomputable def onF(o:Option (Str×SpM))(k:SpM->Prop):Prop:=match o with
 |some p=>k p.2
 |none=>False
theorem onF_ex{o:Option (Str×SpM)}{k:SpM->Prop}:onF o k=∃f sp,o=some (f,sp)/\k sp:=by
 refine propext ⟨λh=>?_,fun⟨f,v,e,h⟩=>by subst e;exact h⟩
 match o,h with
 |some (f,sp),h=>exact⟨f,sp,rfl,h⟩
mutual
noncomputable def wE(Φ:List (Str×SpM)):IE->TEm
 |.var i,σ,M,Q=>onV σ[i]? λv=>Q v M
 |.int i,_,M,Q=>Q (.int i) M
 |.str x,_,M,Q=>Q (.str x) M
 |.bl b,_,M,Q=>Q (.bl b) M
 |.non,_,M,Q=>Q .non M
 |.glb _ i,_,M,Q=>Q (.int i) M
 |.ty c,_,M,Q=>Q (.ty c) M
 |.bin op a b,σ,M,Q=>wE Φ a σ M λx M1=>wE Φ b σ M1 λy M2=>wBin op x y M2 Q
 |.neg a,σ,M,Q=>wE Φ a σ M λx M1=>∃i,x=.int i/\Q (.int (-i)) M1
 |.not a,σ,M,Q=>wE Φ a σ M λx M1=>onB x λb=>Q (.bl (!b)) M1
 |.cmp op a b,σ,M,Q=>wE Φ a σ M λx M1=>wE Φ b σ M1 λy M2=>wCmp op x y M2 Q
 |.chn op op' a b c,σ,M,Q=>wE Φ a σ M λx M1=>wE Φ b σ M1 λy M2=>wCmp op x y M2 λz M3=>onB z λk=>(if k=true then wE Φ c σ M3 λw M4=>wCmp op' y w M4 Q else Q (.bl false) M3)
 |.and a b,σ,M,Q=>wE Φ a σ M λx M1=>onB x λc=>(if c=true then wE Φ b σ M1 Q else Q (.bl false) M1)
 |.or a b,σ,M,Q=>wE Φ a σ M λx M1=>onB x λc=>(if c=true then Q (.bl true) M1 else wE Φ b σ M1 Q)
 |.ife c a b,σ,M,Q=>wE Φ c σ M λx M1=>onB x λk=>(if k=true then wE Φ a σ M1 Q else wE Φ b σ M1 Q)
 |.tup es,σ,M,Q=>wEs Φ es σ M λvs M1=>vs.length≤sizeLine/\Q (.tup vs) M1
 |.lst es,σ,M,Q=>wEs Φ es σ M λvs M1=>vs.length≤sizeLine/\∀p,M1 p=none->Q (.ref p) (updM M1 p (.lst vs))
 |.dic,_,M,Q=>∀p,M p=none->Q (.ref p) (updM M p (.dic []))
 |.ix a b,σ,M,Q=>wE Φ a σ M λx M1=>wE Φ b σ M1 λy M2=>wIx x y M2 Q
 |.sl a lo hi,σ,M,Q=>wE Φ a σ M λx M1=>wO Φ lo σ M1 λl M2=>wO Φ hi σ M2 λh M3=>wSl x l h M3 Q
 |.call j e es,σ,M,Q=>wE Φ e σ M λv M1=>wEs Φ es σ M1 λvs M2=>onF Φ[j]? λsp=>sp (v::vs) M2 Q
 |.bi f e es,σ,M,Q=>wE Φ e σ M λv M1=>wEs Φ es σ M1 λvs M2=>wBi f (v::vs) M2 Q
 |.b2 f e,σ,M,Q=>wE Φ e σ M λv M1=>wB2 f v M1 Q
 |.mxd e,σ,M,Q=>wE Φ e σ M λv M1=>wMxd v M1 Q
 |.st3 e,σ,M,Q=>wE Φ e σ M λv M1=>wSt3 v M1 Q
 |.mt m o es,σ,M,Q=>wE Φ o σ M λx M1=>mtOk m x M1/\wEs Φ es σ M1 λvs M2=>wMts m x vs M2 Q
 |.comp own fr src tg test elt,σ,M,Q=>wSr Φ src σ M λS M1=>S.len<sizeLine/\∀D,M1 D=none->∃J:Nat->List MV->MH->Prop,J 0 [] (updM M1 D (.lst []))/\
   (∀i ys M2,J i ys M2->M2 D=some (.lst ys)/\ys.length≤i/\S.ok M2)/\
   (∀i x ys M2,S.items[i]?=some x->J i ys M2->wTg tg x (sCm own fr σ) λσ2=>wI Φ test σ2 M2 λb M4=>
    if b=true then wE Φ elt σ2 M4 λy M5=>M5 D=some (.lst ys)/\J (i+1) (ys++[y]) (updM M5 D (.lst (ys++[y])))else J (i+1) ys M4)/\
   ∀ys M2,J S.len ys M2->Q (.ref D) (S.thaw M2)
 |.fld c o f,σ,M,Q=>wE Φ o σ M λx M1=>∃a fs v,x=.ref a/\M1 a=some (.ins c fs)/\valM fs f=some v/\Q v M1
 |.mcall j c m o es,σ,M,Q=>wE Φ o σ M λx M1=>∃a fs,x=.ref a/\M1 a=some (.ins c fs)/\valM fs m=none/\wEs Φ es σ M1 λvs M2=>∃f sp,Φ[j]?=some (f,sp)/\sp (.ref a::vs) M2 Q
 |.make j c e es,σ,M,Q=>wE Φ e σ M λv M1=>wEs Φ es σ M1 λvs M2=>∃f sp,Φ[j]?=some (f,sp)/\∀p,M2 p=none->sp (.ref p::v::vs) (updM M2 p (.ins c [])) λu M3=>u=.non/\Q (.ref p) M3
 |.disp ps,σ,M,Q=>∀p,M p=none->wPs Φ ps σ (updM M p (.dic [])) λl M2=>M2 p=some (.dic [])/\l.length≤15/\Q (.ref p) (updM M2 p (.dic (putAllM l)))
noncomputable def wPs(Φ:List (Str×SpM)):IPs->Sm->MH->(List (Key×MV)->MH->Prop)->Prop
 |.nil,_,M,Q=>Q [] M
 |.cons k v r,σ,M,Q=>wE Φ k σ M λx M1=>∃kk,keyM x=some kk/\wE Φ v σ M1 λy M2=>wPs Φ r σ M2 λl M3=>Q ((kk,y)::l) M3
noncomputable def wEs(Φ:List (Str×SpM)):IEs->TAm
 |.nil,_,M,Q=>Q [] M
 |.cons e es,σ,M,Q=>wE Φ e σ M λv M1=>wEs Φ es σ M1 λvs M2=>Q (v::vs) M2
noncomputable def wO(Φ:List (Str×SpM)):IO->Sm->MH->(Option Int->MH->Prop)->Prop
 |.none,_,M,Q=>Q none M
 |.some e,σ,M,Q=>wE Φ e σ M λv M1=>∃i,v=.int i/\Q (some i) M1
noncomputable def wI(Φ:List (Str×SpM)):IO->Sm->MH->(Bool->MH->Prop)->Prop
 |.none,_,M,Q=>Q true M
 |.some e,σ,M,Q=>wE Φ e σ M λv M1=>∃b,v=.bl b/\Q b M1
noncomputable def wSr(Φ:List (Str×SpM)):ISr->TSm
 |.seq e,σ,M,Q=>wE Φ e σ M λv M1=>(∃xs,(v=.tup xs\/v=.frl xs)/\Q (.tup xs) M1)\/(∃a xs,v=.ref a/\M1 a=some (.lst xs)/\Q (.lst a xs) M1)\/(∃a kvs,v=.ref a/\M1 a=some (.dic kvs)/\∀o,Q (.dic a o kvs) (updM M1 a (.fdic o kvs)))\/∃z,v=.str z/\Q (.str z) M1
 |.rng e,σ,M,Q=>wE Φ e σ M λv M1=>∃j,v=.int j/\ -(2^62)≤j/\j<2^62/\Q (.rng 0 j.toNat) M1
 |.rng2 a b,σ,M,Q=>wE Φ a σ M λx M1=>wE Φ b σ M1 λy M2=>∃i j,x=.int i/\y=.int j/\(-(2^62)≤i/\i<2^62/\ -(2^62)≤j/\j<2^62)/\Q (.rng i (j - i).toNat) M2
 |.rng3 a b c,σ,M,Q=>wE Φ a σ M λx M1=>wE Φ b σ M1 λy M2=>wE Φ c σ M2 λz M3=>∃i j,x=.int i/\y=.int j/\z=.int 2/\(0≤i/\i<2^60/\0≤j/\j<2^60)/\Q (.rst i 2 (len2 i j)) M3
end
section
variable{Φ:List (Str×SpM)}{σ:Sm}{M:MH}{Q:QM}
theorem x_var{i:Nat}:wE Φ (.var i) σ M Q=∃v,σ[i]?=some (some v)/\Q v M:=onV_ex
theorem x_not{a:IE}:wE Φ (.not a) σ M Q=wE Φ a σ M λx M1=>∃b,x=.bl b/\Q (.bl (!b)) M1:=congrArg (wE Φ a σ M) (funext λ_=>funext λ_=>onB_ex)
theorem x_chn{op op':CmpOp}{a b c:IE}:wE Φ (.chn op op' a b c) σ M Q=wE Φ a σ M λx M1=>wE Φ b σ M1 λy M2=>wCmp op x y M2 λz M3=>∃k,z=.bl k/\(if k=true then wE Φ c σ M3 λw M4=>wCmp op' y w M4 Q else Q (.bl false) M3):=congrArg (wE Φ a σ M) (funext λ_=>funext λ_=>congrArg (wE Φ b σ _) (funext λ_=>funext λ_=>congrArg (wCmp op _ _ _) (funext λ_=>funext λ_=>onB_ex)))
theorem x_and{a b:IE}:wE Φ (.and a b) σ M Q=wE Φ a σ M λx M1=>∃c,x=.bl c/\(if c=true then wE Φ b σ M1 Q else Q (.bl false) M1):=congrArg (wE Φ a σ M) (funext λ_=>funext λ_=>onB_ex)
theorem x_or{a b:IE}:wE Φ (.or a b) σ M Q=wE Φ a σ M λx M1=>∃c,x=.bl c/\(if c=true then Q (.bl true) M1 else wE Φ b σ M1 Q):=congrArg (wE Φ a σ M) (funext λ_=>funext λ_=>onB_ex)
theorem x_ife{a b c:IE}:wE Φ (.ife c a b) σ M Q=wE Φ c σ M λx M1=>∃k,x=.bl k/\(if k=true then wE Φ a σ M1 Q else wE Φ b σ M1 Q):=congrArg (wE Φ c σ M) (funext λ_=>funext λ_=>onB_ex)
theorem x_call{j:Nat}{e:IE}{es:IEs}:wE Φ (.call j e es) σ M Q=wE Φ e σ M λv M1=>wEs Φ es σ M1 λvs M2=>∃f sp,Φ[j]?=some (f,sp)/\sp (v::vs) M2 Q:=congrArg (wE Φ e σ M) (funext λ_=>funext λ_=>congrArg (wEs Φ es σ _) (funext λ_=>funext λ_=>onF_ex))
end
mutual
theorem mon_tg:∀(t:ITg) {v:MV} {σ:Sm} {Q Q':Sm->Prop},(∀σ,Q σ->Q' σ)->wTg t v σ Q->wTg t v σ Q'
 |.nm i,v,σ,Q,Q',hq,h=>by exact hq _ h
 |.tup ts,v,σ,Q,Q',hq,h=>by
  obtain⟨xs,e,h⟩:=h
  exact⟨xs,e,mon_tgs ts hq h⟩
theorem mon_tgs:∀(t:ITgs) {v:List MV} {σ:Sm} {Q Q':Sm->Prop},(∀σ,Q σ->Q' σ)->wTgs t v σ Q->wTgs t v σ Q'
 |.nil,v,σ,Q,Q',hq,h=>by exact⟨h.1,hq _ h.2⟩
 |.cons t ts,v,σ,Q,Q',hq,h=>by
  obtain⟨x,r,e,h⟩:=h
  exact⟨x,r,e,mon_tg t (λσ' h'=>mon_tgs ts hq h') h⟩
end
theorem Z19{c:Prop} [Decidable c] {A B A' B':Prop}(ha:A->A')(hb:B->B')(h:if c then A else B):if c then A' else B':=by
 split at h
 ·rw[if_pos (by assumption)];exact ha h
 ·rw[if_neg (by assumption)];exact hb h
mutual
theorem Z04{Φ:List (Str×SpM)}(hΦ:∀(j:Nat) f sp,Φ[j]?=some (f,sp)->MonW sp):∀e:IE,MonE (wE Φ e)
 |.var i,σ,M,Q,Q',hq,h=>by rw[x_var]at h ⊢;obtain⟨v,e,h⟩:=h;exact⟨v,e,hq _ _ h⟩
 |.int _,σ,M,Q,Q',hq,h=>by exact hq _ _ h
 |.str _,σ,M,Q,Q',hq,h=>by exact hq _ _ h
 |.bl _,σ,M,Q,Q',hq,h=>by exact hq _ _ h
 |.non,σ,M,Q,Q',hq,h=>by exact hq _ _ h
 |.glb _ _,σ,M,Q,Q',hq,h=>by exact hq _ _ h
 |.ty _,σ,M,Q,Q',hq,h=>by exact hq _ _ h
 |.bin op a b,σ,M,Q,Q',hq,h=>by
  exact Z04 hΦ a (λx M1 h1=>Z04 hΦ b (λy M2 h2=>mon_bin op hq h2) h1) h
 |.neg a,σ,M,Q,Q',hq,h=>by
  exact Z04 hΦ a (λx M1 ⟨i,e,h1⟩=>⟨i,e,hq _ _ h1⟩) h
 |.not a,σ,M,Q,Q',hq,h=>by
  rw[x_not]at h ⊢
  exact Z04 hΦ a (λx M1 ⟨i,e,h1⟩=>⟨i,e,hq _ _ h1⟩) h
 |.cmp op a b,σ,M,Q,Q',hq,h=>by
  exact Z04 hΦ a (λx M1 h1=>Z04 hΦ b (λy M2 h2=>mon_cmp op hq h2) h1) h
 |.chn op op' a b c,σ,M,Q,Q',hq,h=>by
  rw[x_chn]at h ⊢
  exact Z04 hΦ a (λx M1 h1=>Z04 hΦ b (λy M2 h2=>mon_cmp op (λz M3 ⟨k,e,h3⟩=>⟨k,e,Z19 (Z04 hΦ c λw M4 h4=>mon_cmp op' hq h4) (hq _ _) h3⟩) h2) h1) h
 |.and a b,σ,M,Q,Q',hq,h=>by
  rw[x_and]at h ⊢
  exact Z04 hΦ a (λx M1 ⟨c,e,h1⟩=>⟨c,e,Z19 (Z04 hΦ b hq) (hq _ _) h1⟩) h
 |.or a b,σ,M,Q,Q',hq,h=>by
  rw[x_or]at h ⊢
  exact Z04 hΦ a (λx M1 ⟨c,e,h1⟩=>⟨c,e,Z19 (hq _ _) (Z04 hΦ b hq) h1⟩) h
 |.ife c a b,σ,M,Q,Q',hq,h=>by
  rw[x_ife]at h ⊢
  exact Z04 hΦ c (λx M1 ⟨k,e,h1⟩=>⟨k,e,Z19 (Z04 hΦ a hq) (Z04 hΦ b hq) h1⟩) h
 |.tup es,σ,M,Q,Q',hq,h=>by
  exact mon_es hΦ es (λvs M1 ⟨e,h1⟩=>⟨e,hq _ _ h1⟩) h
 |.lst es,σ,M,Q,Q',hq,h=>by
  exact mon_es hΦ es (λvs M1 ⟨e,h1⟩=>⟨e,λp hp=>hq _ _ (h1 p hp)⟩) h
 |.dic,σ,M,Q,Q',hq,h=>by
  exact λp hp=>hq _ _ (h p hp)
 |.ix a b,σ,M,Q,Q',hq,h=>by
  exact Z04 hΦ a (λx M1 h1=>Z04 hΦ b (λy M2 h2=>mon_ix hq h2) h1) h
 |.sl a lo hi,σ,M,Q,Q',hq,h=>by
  exact Z04 hΦ a (λx M1 h1=>mon_o hΦ lo (λy M2 h2=>mon_o hΦ hi (λz M3 h3=>mon_sl hq h3) h2) h1) h
 |.call j e es,σ,M,Q,Q',hq,h=>by
  rw[x_call]at h ⊢
  exact Z04 hΦ e (λx M1 h1=>mon_es hΦ es (λy M2 ⟨f,sp,e,h2⟩=>⟨f,sp,e,hΦ _ _ _ e hq h2⟩) h1) h
 |.bi f e es,σ,M,Q,Q',hq,h=>by
  exact Z04 hΦ e (λx M1 h1=>mon_es hΦ es (λy M2 h2=>mon_bi f hq h2) h1) h
 |.b2 f e,σ,M,Q,Q',hq,h=>by
  exact Z04 hΦ e (λx M1 h1=>mon_b2 f hq h1) h
 |.mxd e,σ,M,Q,Q',hq,h=>by
  exact Z04 hΦ e (λx M1 h1=>mon_mxd hq h1) h
 |.st3 e,σ,M,Q,Q',hq,h=>by
  exact Z04 hΦ e (λx M1 h1=>mon_st3 hq h1) h
 |.mt m o es,σ,M,Q,Q',hq,h=>by
  exact Z04 hΦ o (λx M1 ⟨h0,h1⟩=>⟨h0,mon_es hΦ es (λy M2 h2=>mon_mt hq h2) h1⟩) h
 |.comp own fr src tg test elt,σ,M,Q,Q',hq,h=>by
  exact mon_sr hΦ src (λS M1 ⟨hz,h1⟩=>⟨hz,λD hD=>by
   obtain⟨J,j0,j1,j2,j3⟩:=h1 D hD
   exact⟨J,j0,j1,j2,λys M2 hj=>hq _ _ (j3 ys M2 hj)⟩⟩) h
 |.fld c o f,σ,M,Q,Q',hq,h=>by
  exact Z04 hΦ o (λx M1 ⟨a,fs,v,e,e2,e3,h1⟩=>⟨a,fs,v,e,e2,e3,hq _ _ h1⟩) h
 |.mcall j c m o es,σ,M,Q,Q',hq,h=>by
  exact Z04 hΦ o (λx M1 ⟨a,fs,e,e2,e3,h1⟩=>⟨a,fs,e,e2,e3,mon_es hΦ es (λy M2 ⟨f,sp,e,h2⟩=>⟨f,sp,e,hΦ _ _ _ e hq h2⟩) h1⟩) h
 |.make j c e es,σ,M,Q,Q',hq,h=>by
  exact Z04 hΦ e (λx M1 h1=>mon_es hΦ es (λy M2 ⟨f,sp,e,h2⟩=>⟨f,sp,e,λp hp=>hΦ _ _ _ e (λm M' z=>⟨z.1,hq _ _ z.2⟩) (h2 p hp)⟩) h1) h
 |.disp ps,σ,M,Q,Q',hq,h=>by
  exact λp hp=>mon_ps hΦ ps (λl M2 ⟨e,e2,h1⟩=>⟨e,e2,hq _ _ h1⟩) (h p hp)
theorem mon_ps{Φ:List (Str×SpM)}(hΦ:∀(j:Nat) f sp,Φ[j]?=some (f,sp)->MonW sp):∀(e:IPs) {σ M} {Q Q':List (Key×MV)->MH->Prop},(∀m M',Q m M'->Q' m M')->wPs Φ e σ M Q->wPs Φ e σ M Q'
 |.nil,σ,M,Q,Q',hq,h=>by exact hq _ _ h
 |.cons k v r,σ,M,Q,Q',hq,h=>by
  exact Z04 hΦ k (λx M1 ⟨kk,e,h1⟩=>⟨kk,e,Z04 hΦ v (λy M2 h2=>mon_ps hΦ r (λl M3 h3=>hq _ _ h3) h2) h1⟩) h
theorem mon_es{Φ:List (Str×SpM)}(hΦ:∀(j:Nat) f sp,Φ[j]?=some (f,sp)->MonW sp):∀e:IEs,MonA (wEs Φ e)
 |.nil,σ,M,Q,Q',hq,h=>by exact hq _ _ h
 |.cons e es,σ,M,Q,Q',hq,h=>by
  exact Z04 hΦ e (λx M1 h1=>mon_es hΦ es (λy M2 h2=>hq _ _ h2) h1) h
theorem mon_o{Φ:List (Str×SpM)}(hΦ:∀(j:Nat) f sp,Φ[j]?=some (f,sp)->MonW sp):∀(e:IO) {σ M} {Q Q':Option Int->MH->Prop},(∀m M',Q m M'->Q' m M')->wO Φ e σ M Q->wO Φ e σ M Q'
 |.none,σ,M,Q,Q',hq,h=>by exact hq _ _ h
 |.some e,σ,M,Q,Q',hq,h=>by
  exact Z04 hΦ e (λx M1 ⟨i,e,h1⟩=>⟨i,e,hq _ _ h1⟩) h
theorem mon_i{Φ:List (Str×SpM)}(hΦ:∀(j:Nat) f sp,Φ[j]?=some (f,sp)->MonW sp):∀(e:IO) {σ M} {Q Q':Bool->MH->Prop},(∀m M',Q m M'->Q' m M')->wI Φ e σ M Q->wI Φ e σ M Q'
 |.none,σ,M,Q,Q',hq,h=>by exact hq _ _ h
 |.some e,σ,M,Q,Q',hq,h=>by
  exact Z04 hΦ e (λx M1 ⟨i,e,h1⟩=>⟨i,e,hq _ _ h1⟩) h
theorem mon_sr{Φ:List (Str×SpM)}(hΦ:∀(j:Nat) f sp,Φ[j]?=some (f,sp)->MonW sp):∀(e:ISr) {σ M} {Q Q':Src->MH->Prop},(∀m M',Q m M'->Q' m M')->wSr Φ e σ M Q->wSr Φ e σ M Q'
 |.seq e,σ,M,Q,Q',hq,h=>by
  exact Z04 hΦ e (λx M1 h1=>by
   rcases h1 with⟨xs,e,h1⟩|⟨a,xs,e,e2,h1⟩|⟨a,xs,e,e2,h1⟩|⟨z,e,h1⟩
   ·exact .inl ⟨xs,e,hq _ _ h1⟩
   ·exact .inr (.inl ⟨a,xs,e,e2,hq _ _ h1⟩)
   ·exact .inr (.inr (.inl ⟨a,xs,e,e2,λo=>hq _ _ (h1 o)⟩))
   ·exact .inr (.inr (.inr ⟨z,e,hq _ _ h1⟩))) h
 |.rng e,σ,M,Q,Q',hq,h=>by
  exact Z04 hΦ e (λx M1 ⟨j,e,a,b,h1⟩=>⟨j,e,a,b,hq _ _ h1⟩) h
 |.rng2 a b,σ,M,Q,Q',hq,h=>by
  exact Z04 hΦ a (λx M1 h1=>Z04 hΦ b (λy M2 ⟨i,j,e,e2,c,h2⟩=>⟨i,j,e,e2,c,hq _ _ h2⟩) h1) h
 |.rng3 a b c,σ,M,Q,Q',hq,h=>by
  exact Z04 hΦ a (λx M1 h1=>Z04 hΦ b (λy M2 h2=>Z04 hΦ c (λz M3 ⟨i,j,e,e2,e3,c,h3⟩=>⟨i,j,e,e2,e3,c,hq _ _ h3⟩) h2) h1) h
end
end L2
namespace L2
open PySem PySem.Spec PyProof.Rows
structure GI where
 bl:List Str
 gl:List (Str×Int)
 fns:List Str
 mts:List (Nat×Str×Str):=[]
 mks:List (Nat×Str):=[]
 cls:List (Str×Str):=[]
noncomputable def visB(sc:Scope)(x:Str):Bool:=match sc.names.lookup x with
 |some .local=>true|some .cell=>true|some .free=>true|_=>false
noncomputable def locB(sc:Scope)(x:Str):Bool:=match sc.names.lookup x with
 |some .local=>true|some .cell=>true|_=>false
noncomputable def glB(sc:Scope)(x:Str):Bool:=decide (sc.names.lookup x=some .globalImplicit)&& !(x==("__debug__":Str))&&decide (x≠"__name__")
noncomputable def relab(scope osc:Scope):Scope:={scope with names:=scope.names.map fun(n,k)=>if(k==.free&&osc.kind==.function&&osc.names.lookup n==some .cell)then(n,.cell)else(n,k)}
noncomputable def BI.name:BI->String
 |.len=>"len"|.isinst=>"isinstance"|.max=>"max"|.min=>"min"|.sum=>"sum"|.abs=>"abs"|.int=>"int"|.list=>"list"|.tuple=>"tuple"|.dict=>"dict"|.sorted=>"sorted"|.dictL=>"dict"|.all=>"all"
noncomputable def MT.name:MT->String
 |.dclear=>"clear"|.dget=>"get"|.dgetD=>"get"|.join=>"join"
 |.append=>"append"|.extend=>"extend"|.reverse=>"reverse"|.clear=>"clear"|.pop=>"pop"|.popAt=>"pop"|.remove=>"remove"
noncomputable def notSl:Expr->Bool
 |.Slice ..=>false|_=>true
noncomputable def notSet:Expr->Bool
 |.Set ..=>false|_=>true
noncomputable def tok:IE->Bool
 |.ife ..=>false
 |.not a=>tok a
 |.and a b=>tok a&&tok b
 |.or a b=>tok a&&tok b
 |_=>true
noncomputable def Z15:Expr->Option Str|.Name x _=>some x|_=>none
noncomputable def asConst:Expr->Option Const|.Constant c _ _=>some c|_=>none
noncomputable def asBin:Expr->Option (Expr×Operator×Expr)|.BinOp l o r _=>some (l,o,r)|_=>none
noncomputable def asUn:Expr->Option (UnaryOp×Expr)|.UnaryOp o x _=>some (o,x)|_=>none
noncomputable def asCmp:Expr->Option (Expr×List CmpOp×List Expr)|.Compare l o r _=>some (l,o,r)|_=>none
noncomputable def asBoo:Expr->Option (BoolOp×List Expr×Pos)|.BoolOp o vs p=>some (o,vs,p)|_=>none
noncomputable def asIf:Expr->Option (Expr×Expr×Expr)|.IfExp t x y _=>some (t,x,y)|_=>none
noncomputable def asTup:Expr->Option (List Expr)|.Tuple xs _ _=>some xs|_=>none
noncomputable def asLst:Expr->Option (List Expr)|.List xs _=>some xs|_=>none
noncomputable def asDic:Expr->Option (List (Option Expr)×List Expr)|.Dict ks vs _=>some (ks,vs)|_=>none
noncomputable def asSub:Expr->Option (Expr×Expr)|.Subscript x y _=>some (x,y)|_=>none
noncomputable def asSl:Expr->Option (Option Expr×Option Expr×Option Expr)|.Slice l u s _=>some (l,u,s)|_=>none
noncomputable def asCall:Expr->Option (Expr×List Expr×List Keyword×Pos)|.Call f xs ks p=>some (f,xs,ks,p)|_=>none
noncomputable def asAtt:Expr->Option (Expr×Str×Pos)|.Attribute o n p=>some (o,n,p)|_=>none
noncomputable def asLC:Expr->Option (Expr×List Comprehension×Scope)|.ListComp e gs sc _=>some (e,gs,sc)|_=>none
noncomputable def the1{α:Type}:List α->Option α|[x]=>some x|_=>none
noncomputable def the3{α:Type}:List α->Option (α×α×α)|[x,y,z]=>some (x,y,z)|_=>none
noncomputable def the2{α:Type}:List α->Option (α×α)|[x,y]=>some (x,y)|_=>none
noncomputable def hd1{α:Type}:List α->Option (α×List α)|x::r=>some (x,r)|_=>none
noncomputable def hd2{α:Type}:List α->Option (α×α×List α)|x::y::r=>some (x,y,r)|_=>none
noncomputable def non0{α:Type}:List α->Bool|[]=>true|_=>false
theorem Z02{α:Type}{o:Option α}{p:α->Bool}(h:o.any p=true):∃x,o=some x/\p x=true:=by
 cases o with
 |none=>cases h
 |some x=>exact⟨x,rfl,h⟩
section
variable{e:Expr}
theorem Z0c{x:Str}(h:Z15 e=some x):∃p,e=.Name x p:=by cases e<;>cases h;exact⟨_,rfl⟩
theorem asConst_of{x:Const}(h:asConst e=some x):∃k p,e=.Constant x k p:=by cases e<;>cases h;exact⟨_,_,rfl⟩
theorem asBin_of{x:Expr×Operator×Expr}(h:asBin e=some x):∃p,e=.BinOp x.1 x.2.1 x.2.2 p:=by cases e<;>cases h;exact⟨_,rfl⟩
theorem asUn_of{x:UnaryOp×Expr}(h:asUn e=some x):∃p,e=.UnaryOp x.1 x.2 p:=by cases e<;>cases h;exact⟨_,rfl⟩
theorem asCmp_of{x:Expr×List CmpOp×List Expr}(h:asCmp e=some x):∃p,e=.Compare x.1 x.2.1 x.2.2 p:=by cases e<;>cases h;exact⟨_,rfl⟩
theorem asBoo_of{x:BoolOp×List Expr×Pos}(h:asBoo e=some x):e=.BoolOp x.1 x.2.1 x.2.2:=by cases e<;>cases h;rfl
theorem asTup_of{x:List Expr}(h:asTup e=some x):∃k p,e=.Tuple x k p:=by cases e<;>cases h;exact⟨_,_,rfl⟩
theorem asLst_of{x:List Expr}(h:asLst e=some x):∃p,e=.List x p:=by cases e<;>cases h;exact⟨_,rfl⟩
theorem asSub_of{x:Expr×Expr}(h:asSub e=some x):∃p,e=.Subscript x.1 x.2 p:=by cases e<;>cases h;exact⟨_,rfl⟩
theorem asSl_of{x:Option Expr×Option Expr×Option Expr}(h:asSl e=some x):∃p,e=.Slice x.1 x.2.1 x.2.2 p:=by cases e<;>cases h;exact⟨_,rfl⟩
theorem Z16{x:Expr×List Expr×List Keyword×Pos}(h:asCall e=some x):e=.Call x.1 x.2.1 x.2.2.1 x.2.2.2:=by cases e<;>cases h;rfl
theorem asAtt_of{x:Expr×Str×Pos}(h:asAtt e=some x):e=.Attribute x.1 x.2.1 x.2.2:=by cases e<;>cases h;rfl
theorem asLC_of{x:Expr×List Comprehension×Scope}(h:asLC e=some x):∃p,e=.ListComp x.1 x.2.1 x.2.2 p:=by cases e<;>cases h;exact⟨_,rfl⟩
theorem Z1W{α:Type}{l:List α}{x:α}(h:the1 l=some x):l=[x]:=by
 match l,h with
 |[_],h=>cases h;rfl
theorem the2_of{α:Type}{l:List α}{x:α×α}(h:the2 l=some x):l=[x.1,x.2]:=by
 match l,h with
 |[_,_],h=>cases h;rfl
theorem the3_of{α:Type}{l:List α}{x:α×α×α}(h:the3 l=some x):l=[x.1,x.2.1,x.2.2]:=by
 match l,h with
 |[_,_,_],h=>cases h;rfl
theorem hd1_of{α:Type}{l:List α}{x:α×List α}(h:hd1 l=some x):l=x.1::x.2:=by
 match l,h with
 |_::_,h=>cases h;rfl
theorem hd2_of{α:Type}{l:List α}{x:α×α×List α}(h:hd2 l=some x):l=x.1::x.2.1::x.2.2:=by
 match l,h with
 |_::_::_,h=>cases h;rfl
theorem Z0s{α:Type}{l:List α}(h:non0 l=true):l=[]:=by
 match l,h with
 |[],_=>rfl
end
noncomputable def plainE(e:Expr):Bool:=(Z15 e).isSome||(asConst e).isSome||(asBin e).isSome||(asUn e).isSome||(asCmp e).isSome||(asBoo e).isSome||(asIf e).isSome||(asTup e).isSome||(asLst e).isSome||(asDic e).isSome||(asSub e).isSome||(asCall e).isSome||(asLC e).isSome||(asAtt e).isSome
mutual
noncomputable def chkTg(sc:Scope)(N:List Str)(lim:Nat)(all:Bool):ITg->Expr->Bool
 |.nm i,e=>(Z15 e).any λx=>decide (N[i]?=some x)&&decide (i<lim)&&(if all then locB sc x else decide (sc.names.lookup x=some .local))
 |.tup ts,e=>(asTup e).any λes=>chkTgs sc N lim all ts es
noncomputable def chkTgs(sc:Scope)(N:List Str)(lim:Nat)(all:Bool):ITgs->List Expr->Bool
 |.nil,l=>non0 l
 |.cons t ts,l=>(hd1 l).any λq=>chkTg sc N lim all t q.1&&chkTgs sc N lim all ts q.2
end
mutual
noncomputable def chkE(G:GI):IE->Scope->List Str->Expr->Bool
 |.var i,sc,N,e=>(Z15 e).any fun x=>decide (N[i]?=some x)&&visB sc x&& !(x==("__debug__":Str))&& !(x==("__classdict__":Str))
 |.int i,_,_,e=>(asConst e).any λc=>decide (c=.int i)
 |.str x,_,_,e=>(asConst e).any λc=>decide (c=.str x)
 |.bl b,_,_,e=>(asConst e).any λc=>decide (c=.bool b)
 |.non,_,_,e=>(asConst e).any λc=>decide (c=.none)
 |.glb x i,sc,_,e=>(Z15 e).any λy=>decide (x=y)&&decide (G.gl.lookup x=some i)&&glB sc x
 |.ty c,sc,_,e=>(Z15 e).any λy=>decide (y=(c.name:Str))&&decide (c≠.none)&&G.bl.contains y&&glB sc y
 |.bin op a b,sc,N,e=>(asBin e).any λq=>decide (op=q.2.1)&&chkE G a sc N q.1&&chkE G b sc N q.2.2
 |.neg a,sc,N,e=>(asUn e).any λq=>decide (q.1=.USub)&&chkE G a sc N q.2
 |.not a,sc,N,e=>(asUn e).any λq=>decide (q.1=.Not)&&chkE G a sc N q.2
 |.cmp op a b,sc,N,e=>(asCmp e).any λq=>(the1 q.2.1).any λo=>(the1 q.2.2).any λr=>decide (op=o)&&chkE G a sc N q.1&&chkE G b sc N r&& !behindInMarks op r
 |.chn op op' a b c,sc,N,e=>(asCmp e).any λq=>(the2 q.2.1).any λo=>(the2 q.2.2).any λr=>decide (op=o.1)&&decide (op'=o.2)&&chkE G a sc N q.1&&chkE G b sc N r.1&&chkE G c sc N r.2&& !lastMarks [op,op'] [r.1,r.2]
 |.and a b,sc,N,e=>(asBoo e).any λq=>(hd2 q.2.1).any λv=>decide (q.1=.And)&&chkE G a sc N v.1&&chkE G b sc N (if non0 v.2.2 then v.2.1 else .BoolOp .And (v.2.1::v.2.2) q.2.2)
 |.or a b,sc,N,e=>(asBoo e).any λq=>(hd2 q.2.1).any λv=>decide (q.1=.Or)&&chkE G a sc N v.1&&chkE G b sc N (if non0 v.2.2 then v.2.1 else .BoolOp .Or (v.2.1::v.2.2) q.2.2)
 |.ife c a b,_,_,_=>false
 |.tup es,sc,N,e=>(asTup e).any λxs=>chkEs G es sc N xs
 |.lst es,sc,N,e=>(asLst e).any λxs=>chkEs G es sc N xs
 |.dic,_,_,_=>false
 |.ix a b,sc,N,e=>(asSub e).any λq=>chkE G a sc N q.1&&chkE G b sc N q.2&&notSl q.2
 |.sl a lo hi,sc,N,e=>(asSub e).any λq=>(asSl q.2).any λs=>chkE G a sc N q.1&&chkO G lo sc N s.1&&chkO G hi sc N s.2.1&& !s.2.2.isSome
 |.call j f es,sc,N,e=>(asCall e).any λq=>(Z15 q.1).any λg=>(hd1 q.2.1).any λx=>non0 q.2.2.1&&decide (G.fns[j]?=some g)&&glB sc g&&chkE G f sc N x.1&&chkEs G es sc N x.2
 |.bi f a es,sc,N,e=>(asCall e).any λq=>(Z15 q.1).any λg=>(hd1 q.2.1).any λx=>non0 q.2.2.1&&decide (g=(f.name:Str))&&G.bl.contains g&&glB sc g&&chkE G a sc N x.1&&chkEs G es sc N x.2
 |.b2 f a,sc,N,e=>(asCall e).any λq=>(Z15 q.1).any λg=>(the1 q.2.1).any λy=>(asCall y).any λr=>(Z15 r.1).any λk=>(the1 r.2.1).any λx=>non0 q.2.2.1&&non0 r.2.2.1&&decide (g=(f.out:Str))&&decide (k=(f.inn:Str))&&G.bl.contains g&&G.bl.contains k&&glB sc g&&glB sc k&&chkE G a sc N x
 |.st3 a,_,_,_=>false
 |.mxd a,_,_,_=>false
 |.mt m o es,sc,N,e=>(asCall e).any λq=>(asAtt q.1).any λa=>non0 q.2.2.1&&decide (a.2.1=(m.name:Str))&&(a.2.2.endLine==q.2.2.2.line)&&chkE G o sc N a.1&&chkEs G es sc N q.2.1&&decide (q.2.1.length<20)
 |.comp own fr src tg test elt,sc,N,e=>(asLC e).any λq=>(the1 q.2.1).any λg=>compOk sc q.2.2 N own fr&&notSet g.iter&&decide (nC own fr N).Nodup&&chkSr G src sc N g.iter&&chkTg (relab q.2.2 sc) (nC own fr N) own.length false tg g.target&&
   chkI G test (relab q.2.2 sc) (nC own fr N) g.ifs&&chkE G elt (relab q.2.2 sc) (nC own fr N) q.1&&decide (g.is_async=0)
 |.fld c o f,_,_,_=>false
 |.mcall j c m o es,_,_,_=>false
 |.make j c a es,_,_,_=>false
 |.disp ps,_,_,_=>false
noncomputable def chkPs(G:GI):IPs->Scope->List Str->List (Option Expr)->List Expr->Bool
 |.nil,_,_,l,r=>non0 l&&non0 r
 |.cons k v ps,sc,N,l,r=>(hd1 l).any λq=>(hd1 r).any λs=>q.1.any λx=>chkE G k sc N x&&chkE G v sc N s.1&&chkPs G ps sc N q.2 s.2
noncomputable def chkEs(G:GI):IEs->Scope->List Str->List Expr->Bool
 |.nil,_,_,l=>non0 l
 |.cons e es,sc,N,l=>(hd1 l).any λq=>chkE G e sc N q.1&&chkEs G es sc N q.2
noncomputable def chkO(G:GI):IO->Scope->List Str->Option Expr->Bool
 |.none,_,_,o=>!o.isSome
 |.some e,sc,N,o=>o.any λx=>chkE G e sc N x
noncomputable def chkI(G:GI):IO->Scope->List Str->List Expr->Bool
 |.none,_,_,l=>non0 l
 |.some e,sc,N,l=>(the1 l).any λx=>tok e&&chkE G e sc N x
noncomputable def chkSr(G:GI):ISr->Scope->List Str->Expr->Bool
 |.seq a,sc,N,e=>chkE G a sc N e
 |.rng a,sc,N,e=>(asCall e).any fun q=>(Z15 q.1).any fun f=>(the1 q.2.1).any fun x=>non0 q.2.2.1&&decide (f=("range":Str))&&G.bl.contains f&&glB sc f&&chkE G a sc N x
 |.rng2 a b,sc,N,e=>(asCall e).any fun q=>(Z15 q.1).any fun f=>(the2 q.2.1).any fun x=>non0 q.2.2.1&&decide (f=("range":Str))&&G.bl.contains f&&glB sc f&&chkE G a sc N x.1&&chkE G b sc N x.2
 |.rng3 a b c,sc,N,e=>(asCall e).any fun q=>(Z15 q.1).any fun f=>(the3 q.2.1).any fun x=>non0 q.2.2.1&&decide (f=("range":Str))&&G.bl.contains f&&glB sc f&&chkE G a sc N x.1&&chkE G b sc N x.2.1&&chkE G c sc N x.2.2
end
noncomputable def liSp(K:Y00)(sp:SpM):Sp:=λvs H Q _=>∃ms M,RMs K H ms vs/\RH K M H/\sp ms M (Dn K H Q)
structure Cok (X:Cx) (G:GI) (Φ:List (Str×SpM)):Prop where
 room:X.A.units+70<cLine
 calm:X.calm=true
 nox:X.xe=λ_ _=>False
 blk:X.env.blockKind=.function
 nd:X.N.Nodup
 bls:∀x,G.bl.contains x=true->X.mg x=none
 gls:∀x i,G.gl.lookup x=some i->∃tk,X.mg x=some (.int i tk)
 fnn:∀(j:Nat) f,G.fns[j]?=some f->∃sp,Φ[j]?=some (f,sp)
 mon:∀(j:Nat) f sp,Φ[j]?=some (f,sp)->MonW sp
 fns:∀(j:Nat) f sp,G.fns[j]?=some f->Φ[j]?=some (f,sp)->∃k fa fd ps,Room k X.A/\FnOk X.prog X.w X.K X.mg X.base CX0 k fa fd ps (liSp X.K sp)/\X.mg f=some (.ref fa)/\Y0U X.K (.ref fa)=true/\Binds X.K fd ps []
 mts:∀(j:Nat) c m,G.mts.contains (j,c,m)=true->∃f sp,Φ[j]?=some (f,sp)/\∃k C fa fd ps,Room k X.A/\FnOk X.prog X.w X.K X.mg X.base CX0 k fa fd ps (liSp X.K sp)/\Y0j X.K mainGlobals c=some (some (.ref C))/\Cls X.K C/\Meth X.K C m fa/\Binds X.K fd ps []
 mks:∀(j:Nat) c,G.mks.contains (j,c)=true->∃f sp,Φ[j]?=some (f,sp)/\∃k C fa fd ps,Room (k+1) X.A/\FnOk X.prog X.w X.K X.mg X.base CX0 k fa fd ps (liSp X.K sp)/\Y0j X.K mainGlobals c=some (some (.ref C))/\X.mg c=some (.ref C)/\Mk X.K C fa/\Binds X.K fd ps []
 cls:∀c f,G.cls.contains (c,f)=true->∃C,Y0j X.K mainGlobals c=some (some (.ref C))/\Cls X.K C/\NoAttr X.K C f
section
variable{X:Cx}{G:GI}{Φ:List (Str×SpM)}
theorem vis_of{sc:Scope}{x:Str}(h:visB sc x=true):Vis sc x:=by
 unfold visB at h
 unfold Vis
 cases e:sc.names.lookup x with
 |none=>rw[e]at h;cases h
 |some k=>rw[e]at h;cases k<;>first|exact .inl rfl|exact .inr (.inl rfl)|exact .inr (.inr rfl)|cases h
theorem loc_of{sc:Scope}{x:Str}(h:locB sc x=true):Loc sc x:=by
 unfold locB at h
 unfold Loc
 cases e:sc.names.lookup x with
 |none=>rw[e]at h;cases h
 |some k=>rw[e]at h;cases k<;>first|exact .inl rfl|exact .inr rfl|cases h
theorem gl_of{x:Str}(h:glB X.env.scope x=true):Gl X x/\(x==("__debug__":Str))=false/\x≠"__name__":=by
 unfold glB at h
 simp only[Y06,decide_eq_true_eq,Y1U]at h
 exact⟨h.1.1,h.1.2,h.2⟩
theorem boot_bi(f:BI):bootBuiltins (f.name:Str)=some f.val:=by cases f<;>(show bootBuiltins _=some _;decide+kernel)
theorem boot_ty{c:Ty7}(h:c≠.none):bootBuiltins (c.name:Str)=some (.type c.name):=by cases c<;>first|exact absurd rfl h|decide+kernel
theorem boot_range:bootBuiltins ("range":Str)=some (.type "range"):=by decide+kernel
theorem chkE_plain:∀{ie:IE} {sc:Scope} {N:List Str} {e:Expr},chkE G ie sc N e=true->plainE e=true:=by
 intro ie sc N e h
 cases ie
 all_goals
  first
   |exact absurd h Y04
   |(replace h:=Z02 h
     obtain⟨x,hx,_⟩:=h
     simp only[plainE,hx,Option.isSome_some,Y25,Y3c])
theorem Z08:∀{ie:IE} {sc:Scope} {N:List Str} {e:Expr} {es:List Expr} {env:Env},chkE G ie sc N e=true->starEach (e::es) env=(false,eval e env)::starEach es env:=by
 intro ie sc N e es env h
 cases e<;>first|rfl|cases chkE_plain h
theorem star_any:∀{ies:IEs} {sc:Scope} {N:List Str} {es:List Expr} {env:Env} {pos:Pos},chkEs G ies sc N es=true->(starEach es env).all (λx=>!x.1)=true
 |.nil,sc,N,es,_,_,h=>by
  cases Z0s h
  rfl
 |.cons e es,sc,N,xs,env,pos,h=>by
  replace h:=Z02 h
  obtain⟨q,h1,h2⟩:=h
  cases hd1_of h1
  rw[Y06]at h2
  rw[Z08 h2.1,Y1a]
  exact star_any (pos:=pos) h2.2
theorem no_call0:∀{ie:IE} {sc:Scope} {N:List Str} {x:Str} {px p:Pos} {ks:List Keyword},chkE G ie sc N (.Call (.Name x px) [] ks p)=true->False:=by
 intro ie sc N x px p ks h
 cases ie
 all_goals exact absurd h Y04
theorem attr_base{ie:IE}{sc:Scope}{N:List Str}{o:Expr}{nm:Str}{env:Env}(h:chkE G ie sc N o=true):attributeBase o nm env (eval o env)=eval o env:=by
 cases o<;>try rfl
 rename_i fn args kw pos
 cases fn<;>try rfl
 cases args with
 |cons a r=>rfl
 |nil=>exact(no_call0 h).elim
theorem back_all{pos:Pos}{l:List (Bool×Sem Value)}(h:l.all (λx=>!x.1)=true):(backTo pos l).all (λx=>!x.1)=true/\(backTo pos l).any (·.1)=false:=by
 induction l with
 |nil=>exact⟨rfl,rfl⟩
 |cons a r ih=>
  rw[Y1a,Y06]at h
  obtain⟨h1,h2⟩:=ih h.2
  have e:a.1=false:=by simpa using h.1
  unfold backTo at h1 h2 ⊢
  rw[Y0d,Y1a,Y1j,h1,h2]
  obtain⟨b,t⟩:=a
  cases e
  exact⟨rfl,rfl⟩
end
end L2
namespace L2
open PySem PySem.Spec PyProof.Rows
noncomputable def tCW2(own:List Str)(fr:List Nat)(g:TG)(tt:TT)(te:TE)(σ:St)(H1:Hp)(Q:VK)(J:It)(D:Addr):Prop:=∃W:Nat->Nat->List V->Hp->Prop,
 (∃m,W 0 m [] (upd H1 D (.lst [])))/\∀i m ys H2,W i m ys H2->
  ((J.stop i H2/\Q (.ref D) H2)\/(J.go i H2/\∃N:List V->Hp->Prop,(∀ys' H',N ys' H'->∃m',m'<m/\W (i+1) m' ys' H')/\∀x H3,J.yld i H2 x H3->g x (sC own fr σ) H3 λσ2 H4=>Keep (sC own fr σ) σ2/\tt σ2 H4 λb H5=>
   if b=true then te σ2 H5 λy H6=>∃zs,H6 D=some (.lst zs)/\zs.length<sizeLine/\N (zs++[y]) (upd H6 D (.lst (zs++[y])))else N ys H5))
noncomputable def tComp2(own:List Str)(fr:List Nat)(wi:TI)(g:TG)(tt:TT)(te:TE):TE:=λσ H Q=>wi σ H λJ H1=>∀D,H1 D=none->tCW2 own fr g tt te σ H1 Q J D
section
variable{X:Cx}{pins:List (Addr×Obj)}{σ:St}{H1:Hp}{s2:Shared}{tg elt iter:Expr}{ifs:List Expr}{scope:Scope}{pos:Pos}{own:List Str}{fr:List Nat}{g:TG}{tt:TT}{te:TE}
theorem comp_core2{J:It}{fp:List Addr}{it:Addr}{tn:Nat->Heap->Prop}{RR:Value->Addr->Result->Shared->Prop}{Q:VK}{E:Value->Shared->Prop}(hc:X.calm=true)(ok:CompOk X.env.scope scope X.N fr)
  (hg:∀C fp s₃ H₃,PG (cxC X scope own fr C fp s₃ H₃) tg g) (ht:∀C fp s₃ H₃,PTs (cxC X scope own fr C fp s₃ H₃) ifs tt) (he:∀C fp s₃ H₃,PE (cxC X scope own fr C fp s₃ H₃) elt te)
  (I2:Inv X pins σ H1 s2) (T:Turn X.prog X.w X.K tg J fp it tn) (st:tn 0 s2.heap) (hf:∀b∈fp,FpOk X pins H1 b)
  (h:∀D,H1 D=none->tCW2 own fr g tt te σ H1 Q J D)
  (hRR:∀D C H' s',Inv X pins σ H' s'->(∃m,s'.heap.Ns C m)->H' C=none->C≠X.env.locals->X.s₀.heap.objs.size≤C->(∀x c,X.env.cells.lookup x=some c->c≠C)->(∀p∈X.pn++pins,p.1≠C)->Q (.ref D) H'->RR (.ref D) C (.ok .next) s'):
  wpAny (model X.prog X.w) X.A (newList []) (λacc s₃=>wpAny (model X.prog X.w) X.A (newFunctionEnv scope X.env.globals (clOf X.env.cells scope.names []) [] X.env.qual none .none (some X.env)) (λcenv s₄=>
   codeAny (model X.prog X.w) X.A (.compStart (.ListComp elt [⟨tg,iter,ifs,0⟩] scope pos) 0 (.ref it) acc {cenv with scope:=relabel scope X.env}) (RR acc cenv.locals) s₄) E s₃) E s2:=by
 have hD:H1 s2.heap.objs.size=none:=I2.hok.fresh (Y09 _)
 obtain⟨W,⟨m0,w0⟩,step⟩:=h _ hD
 refine wpAny_newObj_type (wpAny_newFunctionEnv ok.nocell (by intro y hy;simp at hy) (λh4 ns4 sb4=>?_) ok.kind)
 dsimp only at ns4 sb4 ⊢
 have I3:Inv X pins σ (upd H1 s2.heap.objs.size (.lst [])) {s2 with heap:=s2.heap.push {cls:=.type "list",dict:=none,data:=.seq ([]:List Value).toArray},toks:=s2.toks}:=
  I2.laid (λb u e=>Y01 _ e) (Y09 _) ⟨Y1x _,[],0,.nil,Y0a _ rfl⟩
 have fpo:∀b∈fp,∃o,s2.heap.get? b=some o:=λb hb=>let⟨o,e,_⟩:=T.obj 0 _ st b hb;⟨o,e⟩
 have fpD:∀b∈fp,b≠s2.heap.objs.size:=λb hb=>let⟨o,e⟩:=fpo b hb;Y0f (Y08 e)
 have hf3:∀b∈fp,FpOk X pins (upd H1 s2.heap.objs.size (.lst [])) b:=λb hb=>⟨by rw[Z0e (fpD b hb)];exact(hf b hb).1,(hf b hb).2⟩
 generalize hs3:({s2 with heap:=s2.heap.push {cls:=.type "list",dict:=none,data:=.seq ([]:List Value).toArray},toks:=s2.toks}:Shared)=s3 at*
 have e3:s2.heap.push {cls:=.type "list",dict:=none,data:=.seq ([]:List Value).toArray}=s3.heap:=by rw[<- hs3]
 rw[e3]at ns4 sb4 ⊢
 have kp:∀b o,s3.heap.get? b=some o->h4.get? b=some o:=λb o e=>(sb4.2 b (Y0f (Y08 e))).trans (Y01 _ e)
 have fpo3:∀b∈fp,∃o,s3.heap.get? b=some o:=λb hb=>let⟨o,e⟩:=fpo b hb;⟨o,by rw[<- e3];exact Y01 _ e⟩
 have I4:=comp_start (own:=own) (scope:=scope) (fr:=fr) (tk:=s2.toks+0) ok I3 rfl hf3 fpo3 ns4 kp
 have st4:tn 0 h4:=T.keep _ _ _ st λb hb o e=>kp b o (by rw[<- e3];exact Y01 _ e)
 have fpC:∀b∈fp,b≠s3.heap.objs.size:=λb hb=>let⟨o,e⟩:=fpo3 b hb;Y0f (Y08 e)
 have stat:∀{H':Hp},(∀b∈fp,H' b=none)->∀b∈fp,FpOk (cxC X scope own fr s3.heap.objs.size fp s3 (upd H1 s2.heap.objs.size (.lst []))) pins H' b:=λhn b hb=>by
  refine⟨hn b hb,fpC b hb,λz=>?_,.inl hb,λx c e=>?_,(hf b hb).2.2.2.2.2⟩
  ·rcases Y05.mp (I3.stkSub b z)with z|z
   ·exact(hf b hb).2.1 z
   ·exact(hf b hb).2.2.1 z
  ·exact(hf b hb).2.2.2.2.1 x c ((clOf_spec _ _ _ _ _ e).elim (λz=>by simp at z) id)
 have loop:codeAny (model X.prog X.w) X.A (.compLoop (.ListComp elt [⟨tg,iter,ifs,0⟩] scope pos) 0 (.ref it) (.ref s2.heap.objs.size) (compEnvC scope (clOf X.env.cells scope.names []) s3.heap.objs.size X.env))
   (RR (.ref s2.heap.objs.size) s3.heap.objs.size) {s3 with heap:=h4,toks:=s2.toks+0}:=by
  refine compLoop_any (λn s'=>∃i ys H',Inv (cxC X scope own fr s3.heap.objs.size fp s3 (upd H1 s2.heap.objs.size (.lst []))) pins (sC own fr σ) H' s'/\tn i s'.heap/\(∀b∈fp,H' b=none)/\W i n ys H') ?_ m0
   ⟨0,[],_,I4,st4,λb hb=>(hf3 b hb).1,w0⟩
  rintro n s5 ⟨i,ys,H5,I5,st5,fr5,w5⟩
  have way:=step i n ys H5 w5
  rcases way with⟨stop,q⟩|⟨go,N,hN,turn⟩
  ·refine thn (T.done (cxC X scope own fr s3.heap.objs.size fp s3 (upd H1 s2.heap.objs.size (.lst []))) rfl rfl rfl hc i pins s5 _ H5 _ I5 (stat fr5) st5 stop) λr s6 ⟨hr,I6⟩=>?_
   subst hr
   have J6:Inv X pins σ H5 s6:=I3.call' I6.os I6.base I6.hok I6.bare λb hb=>⟨(hf b hb).2.2.2.1,(hf b hb).2.1,(hf b hb).2.2.2.2.1,(hf b hb).2.2.2.2.2⟩
   obtain⟨m6,ns6,_⟩:=I6.loc
   refine hRR _ _ H5 s6 J6 ⟨m6,ns6⟩ I6.free (Y21 I3.lt) I3.sz (λx c e=>?_) (λp hp=>?_) q
   ·obtain⟨v,z⟩:=I3.cell x c e
    exact Y0f z.lt
   ·exact Y0f (Y08 (I3.pin p hp).1)
  ·refine thn (T.item (cxC X scope own fr s3.heap.objs.size fp s3 (upd H1 s2.heap.objs.size (.lst []))) rfl rfl rfl hc i pins s5 _ H5 _ I5 (stat fr5) st5 go) λr s6 ⟨u,hr,h6⟩=>?_
   subst hr
   refine thn h6 λ_ s7 ⟨x,H7,I7,r7,y7,st7,fr7⟩=>?_
   have I7':=I7.pinned (stat fr7) (T.obj _ _ st7)
   refine thn (hg _ _ _ _ _ s7 _ H7 x u _ I7' r7 (turn x H7 y7)) λ_ s8 ⟨σ8,H8,I8,kp8,q8⟩=>?_
   have again:∀{H9:Hp} {s9:Shared},Inv (cxC X scope own fr s3.heap.objs.size fp s3 (upd H1 s2.heap.objs.size (.lst []))) (pins++pinsAt fp s7.heap) σ8 H9 s9->∀{ys'},(∃m',m'<n/\W (i+1) m' ys' H9)->
     ∃m,m<n/\∃i ys H',Inv (cxC X scope own fr s3.heap.objs.size fp s3 (upd H1 s2.heap.objs.size (.lst []))) pins (sC own fr σ) H' s9/\tn i s9.heap/\(∀b∈fp,H' b=none)/\W i m ys H':=fun{H9 s9} I9 {ys'} ⟨m',hm,w9⟩=>by
    refine⟨m',hm,i+1,ys',H9,(I9.unpinned).weak kp8.1 kp8.2,T.keep _ _ _ st7 λb hb o e=>(I9.pin (b,o) (Y0N _ (Y0N _ (mem_pinsAt hb e)))).1,λb hb=>?_,w9⟩
    obtain⟨o,e,d⟩:=T.obj _ _ st7 b hb
    exact(I9.pin (b,o) (Y0N _ (Y0N _ (mem_pinsAt hb e)))).2.1
   have fin:∀{ok:Bool} {s9:Shared} {H9:Hp},Inv (cxC X scope own fr s3.heap.objs.size fp s3 (upd H1 s2.heap.objs.size (.lst []))) (pins++pinsAt fp s7.heap) σ8 H9 s9->
     (if ok=true then te σ8 H9 λy H6=>∃zs,H6 s2.heap.objs.size=some (.lst zs)/\zs.length<sizeLine/\N (zs++[y]) (upd H6 s2.heap.objs.size (.lst (zs++[y])))else N ys H9)->
     (if ok=true then wpAny (model X.prog X.w) X.A (eval elt (compEnvC scope (clOf X.env.cells scope.names []) s3.heap.objs.size X.env)) (λx s₄=>
      wpAny (model X.prog X.w) X.A (call (.builtin "list.append") [.ref s2.heap.objs.size,x]) (fun _ s₅=>∃m,m<n/\∃i ys H',Inv (cxC X scope own fr s3.heap.objs.size fp s3 (upd H1 s2.heap.objs.size (.lst []))) pins (sC own fr σ) H' s₅/\tn i s₅.heap/\(∀b∈fp,H' b=none)/\W i m ys H') (fun _ _=>False) s₄) (fun _ _=>False) s9
      else∃m,m<n/\∃i ys H',Inv (cxC X scope own fr s3.heap.objs.size fp s3 (upd H1 s2.heap.objs.size (.lst []))) pins (sC own fr σ) H' s9/\tn i s9.heap/\(∀b∈fp,H' b=none)/\W i m ys H'):=fun{ok s9 H9} I9 q9=>by
    cases ok with
    |false=>
     rw[if_neg Y04]at q9 ⊢
     exact again I9 (hN _ _ q9)
    |true=>
     rw[if_pos rfl]at q9 ⊢
     refine thn (he _ _ _ _ _ s9 σ8 H9 _ I9 q9) λv s10 ⟨y,H10,I10,r10,zs,hl10,hz5,w10⟩=>?_
     refine thn (mt_append (X:=cxC X scope own fr s3.heap.objs.size fp s3 (upd H1 s2.heap.objs.size (.lst []))) _ s10 σ8 H10 (.ref s2.heap.objs.size) [y] (.ref s2.heap.objs.size) [v] (λ_ H'=>H'=upd H10 s2.heap.objs.size (.lst (zs++[y]))) I10 rfl (.cons r10 .nil) ⟨_,zs,y,rfl,rfl,hl10,hz5,rfl⟩) λ_ s11 ⟨_,H11,I11,_,e11⟩=>?_
     subst e11
     exact again I11 (hN _ _ w10)
   rcases ht s3.heap.objs.size fp s3 (upd H1 s2.heap.objs.size (.lst []))with⟨e,et⟩|⟨c,e,hcT⟩
   ·subst e et
    exact wpAny_tests_nil (fin (ok:=true) I8 q8)
   ·subst e
    exact wpAny_tests_one (thn (hcT _ s8 σ8 H8 _ I8 q8) λb s9 ⟨H9,I9,q9⟩=>fin I9 q9)
 subst hs3
 exact codeAny_compStart_list loop (T.self _ 0 _ _ _ st4 loop)
theorem pe_comp2(own:List Str)(fr:List Nat){wi:TI}(hx:∀e s,¬X.xe e s)(hc:X.calm=true)(ok:compOk X.env.scope scope X.N own fr=true)(hi:PI X tg iter wi)
  (hg:∀C fp s₃ H₃,PG (cxC X scope own fr C fp s₃ H₃) tg g) (ht:∀C fp s₃ H₃,PTs (cxC X scope own fr C fp s₃ H₃) ifs tt) (he:∀C fp s₃ H₃,PE (cxC X scope own fr C fp s₃ H₃) elt te)
  (hs:∀x,foldedSetIterable iter X.env x=pure x:=by intro _;rfl):
  PE X (.ListComp elt [⟨tg,iter,ifs,0⟩] scope pos) (tComp2 own fr wi g tt te):=by
 have ok':=compOk_of ok
 intro pins s σ H Q I h
 rw[eval_ListComp]
 refine wpAny_comprehension_free (use:=none) (cl:=clOf X.env.cells scope.names []) rfl hs (closure_is λy hy hk=>I.ok.has y.1 (ok'.has y hy hk)) ok'.kind ok'.names (thn (hi pins s σ H _ I h) λv s1 h1=>thn h1 λitv s2 h2=>?_)
 obtain⟨it,fp,tn,J,H2,e,I2,T,st2,f2,R⟩:=h2
 subst e
 refine comp_core2 (RR:=λacc C=>compPost (model X.prog X.w) X.A X.xe none (EP X pins σ Q) acc C) (Q:=Q) hc ok' hg ht he I2 T st2 f2 R ?_
 rintro D C H' s' I' ⟨m,ns⟩ c1 c2 c3 c4 c5 q
 refine⟨m,ns,λh' sb=>⟨.ref D,H',?_,rfl,q⟩⟩
 exact I'.turned (t':=s'.toks) (λb o hb e=>(sb.2 b hb).trans e) c1 c2 (.inr c3) c4 c5
theorem ps_setcomp2(own:List Str)(fr:List Nat){i:Nat}{y:Str}{py spos:Pos}{wi:TI}(hN:X.N.Nodup)(hi:X.N[i]?=some y) (hy:Loc X.env.scope y) (hx:∀e s,¬X.xe e s) (hc:X.calm=true) (ok:compOk X.env.scope scope X.N own fr=true) (hit:PI X tg iter wi)
  (hg:∀C fp s₃ H₃,PG (cxC X scope own fr C fp s₃ H₃) tg g) (ht:∀C fp s₃ H₃,PTs (cxC X scope own fr C fp s₃ H₃) ifs tt) (he:∀C fp s₃ H₃,PE (cxC X scope own fr C fp s₃ H₃) elt te)
  (hsw:swapsWith (.ListComp elt [⟨tg,iter,ifs,0⟩] scope pos) (some (.Name y py)) spos.line X.env=pure true:=by rfl) (hs:∀x,foldedSetIterable iter X.env x=pure x:=by intro _;rfl)
  (hf:X.fn y=true\/X.env.scope.names.lookup y=some .local:=by first|exact .inl rfl|exact .inr rfl|assumption):
  PS X (.Assign [.Name y py] (.ListComp elt [⟨tg,iter,ifs,0⟩] scope pos) spos) (tAsg (tComp2 own fr wi g tt te) (gName i)):=by
 have ok':=compOk_of ok
 intro pins s σ H D I h
 rw[exec_Assign_Name_used _ _ _ _ hsw]
 refine wpAny_bind (wpAny_standAt (wpAny_bind ?_))
 show wpAny _ X.A (do let _<- comprehension (.ListComp elt [⟨tg,iter,ifs,0⟩] scope pos) scope X.env _ (newList []) false (eval iter X.env) (some (assign (.Name y py) X.env))) _ _ s
 refine wpAny_bind (wpAny_mono (wpAny_comprehension_free (use:=some (assign (.Name y py) X.env)) (cl:=clOf X.env.cells scope.names []) (Q:=λ_ s'=>SP X pins D .next s') rfl hs (closure_is λy hy hk=>I.ok.has y.1 (ok'.has y hy hk)) ok'.kind ok'.names
  (thn (hit pins s σ H _ I h) λv s1 h1=>thn h1 λitv s2 h2=>?_)) (λ_ s' hq=>wpAny_pure (wpAny_pure hq)) λ_ _ e=>e)
 obtain⟨it,fp,tn,J,H2,e,I2,T,st2,f2,R⟩:=h2
 subst e
 refine comp_core2 (RR:=λacc C=>compPost (model X.prog X.w) X.A X.xe (some (assign (.Name y py) X.env)) (λ_ s'=>SP X pins D .next s') acc C) (Q:=λv H'=>D.nx (σ.set i (some v)) H') hc ok' hg ht he I2 T st2 f2 R ?_
 rintro E C H' s' I' ⟨m,ns⟩ c1 c2 c3 c4 c5 q
 show wpAny _ X.A (assign (.Name y py) X.env (.ref E)) _ _ _
 refine wpAny_assign_Name (store_ok2 I' hN hi hy (v:=.ref E) (u:=.ref E) rfl (λs'' I'' sb=>?_) hf)
 obtain⟨a,sb,ha⟩:=sb
 have hCa:C≠a:=by
  rcases ha with z|z
  ·rw[z];exact c2
  ·exact λe=>c4 _ _ z e.symm
 refine⟨m,ns.sameBut sb hCa,λh' sb'=>⟨_,H',?_,q⟩⟩
 exact I''.turned (t':=s''.toks) (λb o hb e=>(sb'.2 b hb).trans e) c1 c2 (.inr c3) c4 c5
end
end L2
namespace L2
open PySem PySem.Spec PyProof.Rows
section
variable{G:GI}{sc:Scope}{N:List Str}{e:Expr}
theorem Z03{a b:Bool}(h:(a&&b)=true):a=true/\b=true:=by rwa [Y06]at h
theorem Z06{p:Prop} [Decidable p] (h:decide p=true):p:=of_decide_eq_true h
theorem not_of{b:Bool}(h:(!b)=true):b=false:=by cases b with|false=>rfl|true=>cases h
theorem inv_var{i:Nat}(h:chkE G (.var i) sc N e=true):∃x p,e=.Name x p/\N[i]?=some x/\visB sc x=true/\(x==("__debug__":Str))=false/\(x==("__classdict__":Str))=false:=by
 replace h:=Z02 h
 obtain⟨x,h1,h⟩:=h
 obtain⟨p,rfl⟩:=Z0c h1
 replace h:=Z03 h
 obtain⟨h,h5⟩:=h
 replace h:=Z03 h
 obtain⟨h,h4⟩:=h
 replace h:=Z03 h
 obtain⟨h2,h3⟩:=h
 exact⟨x,p,rfl,Z06 h2,h3,not_of h4,not_of h5⟩
theorem inv_int{i:Int}(h:chkE G (.int i) sc N e=true):∃k p,e=.Constant (.int i) k p:=by
 replace h:=Z02 h
 obtain⟨x,h1,h⟩:=h
 obtain⟨k,p,rfl⟩:=asConst_of h1
 exact⟨k,p,by rw[Z06 h]⟩
theorem inv_str{i:Str}(h:chkE G (.str i) sc N e=true):∃k p,e=.Constant (.str i) k p:=by
 replace h:=Z02 h
 obtain⟨x,h1,h⟩:=h
 obtain⟨k,p,rfl⟩:=asConst_of h1
 exact⟨k,p,by rw[Z06 h]⟩
theorem inv_bl{i:Bool}(h:chkE G (.bl i) sc N e=true):∃k p,e=.Constant (.bool i) k p:=by
 replace h:=Z02 h
 obtain⟨x,h1,h⟩:=h
 obtain⟨k,p,rfl⟩:=asConst_of h1
 exact⟨k,p,by rw[Z06 h]⟩
theorem inv_non(h:chkE G .non sc N e=true):∃k p,e=.Constant .none k p:=by
 replace h:=Z02 h
 obtain⟨x,h1,h⟩:=h
 obtain⟨k,p,rfl⟩:=asConst_of h1
 exact⟨k,p,by rw[Z06 h]⟩
theorem inv_glb{x:Str}{i:Int}(h:chkE G (.glb x i) sc N e=true):∃p,e=.Name x p/\G.gl.lookup x=some i/\glB sc x=true:=by
 replace h:=Z02 h
 obtain⟨y,h1,h⟩:=h
 obtain⟨p,rfl⟩:=Z0c h1
 replace h:=Z03 h
 obtain⟨h,h4⟩:=h
 replace h:=Z03 h
 obtain⟨h2,h3⟩:=h
 obtain rfl:=Z06 h2
 exact⟨p,rfl,Z06 h3,h4⟩
theorem inv_ty{c:Ty7}(h:chkE G (.ty c) sc N e=true):∃p,e=.Name (c.name:Str) p/\c≠.none/\G.bl.contains (c.name:Str)=true/\glB sc (c.name:Str)=true:=by
 replace h:=Z02 h
 obtain⟨y,h1,h⟩:=h
 obtain⟨p,rfl⟩:=Z0c h1
 replace h:=Z03 h
 obtain⟨h,h5⟩:=h
 replace h:=Z03 h
 obtain⟨h,h4⟩:=h
 replace h:=Z03 h
 obtain⟨h2,h3⟩:=h
 obtain rfl:=Z06 h2
 exact⟨p,rfl,Z06 h3,h4,h5⟩
theorem inv_bin{op:Operator}{a b:IE}(h:chkE G (.bin op a b) sc N e=true):∃l r p,e=.BinOp l op r p/\chkE G a sc N l=true/\chkE G b sc N r=true:=by
 replace h:=Z02 h
 obtain⟨⟨l,o,r⟩,h1,h⟩:=h
 obtain⟨p,rfl⟩:=asBin_of h1
 replace h:=Z03 h
 obtain⟨h,h4⟩:=h
 replace h:=Z03 h
 obtain⟨h2,h3⟩:=h
 obtain rfl:=Z06 h2
 exact⟨l,r,p,rfl,h3,h4⟩
theorem inv_neg{a:IE}(h:chkE G (.neg a) sc N e=true):∃l p,e=.UnaryOp .USub l p/\chkE G a sc N l=true:=by
 replace h:=Z02 h
 obtain⟨⟨o,l⟩,h1,h⟩:=h
 obtain⟨p,rfl⟩:=asUn_of h1
 replace h:=Z03 h
 obtain⟨h2,h3⟩:=h
 obtain rfl:=Z06 h2
 exact⟨l,p,rfl,h3⟩
theorem inv_not{a:IE}(h:chkE G (.not a) sc N e=true):∃l p,e=.UnaryOp .Not l p/\chkE G a sc N l=true:=by
 replace h:=Z02 h
 obtain⟨⟨o,l⟩,h1,h⟩:=h
 obtain⟨p,rfl⟩:=asUn_of h1
 replace h:=Z03 h
 obtain⟨h2,h3⟩:=h
 obtain rfl:=Z06 h2
 exact⟨l,p,rfl,h3⟩
theorem inv_cmp{op:CmpOp}{a b:IE}(h:chkE G (.cmp op a b) sc N e=true):∃l r p,e=.Compare l [op] [r] p/\chkE G a sc N l=true/\chkE G b sc N r=true/\behindInMarks op r=false:=by
 replace h:=Z02 h
 obtain⟨⟨l,os,rs⟩,h1,h⟩:=h
 obtain⟨p,rfl⟩:=asCmp_of h1
 replace h:=Z02 h
 obtain⟨o,h2,h⟩:=h
 replace h:=Z02 h
 obtain⟨r,h3,h⟩:=h
 obtain rfl:=Z1W h2
 obtain rfl:=Z1W h3
 replace h:=Z03 h
 obtain⟨h,h7⟩:=h
 replace h:=Z03 h
 obtain⟨h,h6⟩:=h
 replace h:=Z03 h
 obtain⟨h4,h5⟩:=h
 obtain rfl:=Z06 h4
 exact⟨l,r,p,rfl,h5,h6,not_of h7⟩
theorem inv_chn{op op':CmpOp}{a b c:IE}(h:chkE G (.chn op op' a b c) sc N e=true):∃l m r p,e=.Compare l [op,op'] [m,r] p/\chkE G a sc N l=true/\chkE G b sc N m=true/\chkE G c sc N r=true/\lastMarks [op,op'] [m,r]=false:=by
 replace h:=Z02 h
 obtain⟨⟨l,os,rs⟩,h1,h⟩:=h
 obtain⟨p,rfl⟩:=asCmp_of h1
 replace h:=Z02 h
 obtain⟨⟨o,o'⟩,h2,h⟩:=h
 replace h:=Z02 h
 obtain⟨⟨m,r⟩,h3,h⟩:=h
 obtain rfl:=the2_of h2
 obtain rfl:=the2_of h3
 replace h:=Z03 h
 obtain⟨h,h9⟩:=h
 replace h:=Z03 h
 obtain⟨h,h8⟩:=h
 replace h:=Z03 h
 obtain⟨h,h7⟩:=h
 replace h:=Z03 h
 obtain⟨h,h6⟩:=h
 replace h:=Z03 h
 obtain⟨h4,h5⟩:=h
 obtain rfl:=Z06 h4
 obtain rfl:=Z06 h5
 exact⟨l,m,r,p,rfl,h6,h7,h8,not_of h9⟩
theorem inv_and{a b:IE}(h:chkE G (.and a b) sc N e=true):∃l r rest p,e=.BoolOp .And (l::r::rest) p/\chkE G a sc N l=true/\((rest=[]/\chkE G b sc N r=true)\/chkE G b sc N (.BoolOp .And (r::rest) p)=true):=by
 replace h:=Z02 h
 obtain⟨⟨o,vs,p⟩,h1,h⟩:=h
 obtain rfl:=asBoo_of h1
 replace h:=Z02 h
 obtain⟨⟨l,r,rest⟩,h2,h⟩:=h
 obtain rfl:=hd2_of h2
 replace h:=Z03 h
 obtain⟨h,h4⟩:=h
 replace h:=Z03 h
 obtain⟨h2,h3⟩:=h
 obtain rfl:=Z06 h2
 refine⟨l,r,rest,p,rfl,h3,?_⟩
 cases rest with
 |nil=>exact .inl ⟨rfl,h4⟩
 |cons _ _=>exact .inr h4
theorem inv_or{a b:IE}(h:chkE G (.or a b) sc N e=true):∃l r rest p,e=.BoolOp .Or (l::r::rest) p/\chkE G a sc N l=true/\((rest=[]/\chkE G b sc N r=true)\/chkE G b sc N (.BoolOp .Or (r::rest) p)=true):=by
 replace h:=Z02 h
 obtain⟨⟨o,vs,p⟩,h1,h⟩:=h
 obtain rfl:=asBoo_of h1
 replace h:=Z02 h
 obtain⟨⟨l,r,rest⟩,h2,h⟩:=h
 obtain rfl:=hd2_of h2
 replace h:=Z03 h
 obtain⟨h,h4⟩:=h
 replace h:=Z03 h
 obtain⟨h2,h3⟩:=h
 obtain rfl:=Z06 h2
 refine⟨l,r,rest,p,rfl,h3,?_⟩
 cases rest with
 |nil=>exact .inl ⟨rfl,h4⟩
 |cons _ _=>exact .inr h4
theorem inv_tup{es:IEs}(h:chkE G (.tup es) sc N e=true):∃xs k p,e=.Tuple xs k p/\chkEs G es sc N xs=true:=by
 replace h:=Z02 h
 obtain⟨xs,h1,h⟩:=h
 obtain⟨k,p,rfl⟩:=asTup_of h1
 exact⟨xs,k,p,rfl,h⟩
theorem inv_lst{es:IEs}(h:chkE G (.lst es) sc N e=true):∃xs p,e=.List xs p/\chkEs G es sc N xs=true:=by
 replace h:=Z02 h
 obtain⟨xs,h1,h⟩:=h
 obtain⟨p,rfl⟩:=asLst_of h1
 exact⟨xs,p,rfl,h⟩
theorem inv_ix{a b:IE}(h:chkE G (.ix a b) sc N e=true):∃x y p,e=.Subscript x y p/\chkE G a sc N x=true/\chkE G b sc N y=true/\notSl y=true:=by
 replace h:=Z02 h
 obtain⟨⟨x,y⟩,h1,h⟩:=h
 obtain⟨p,rfl⟩:=asSub_of h1
 replace h:=Z03 h
 obtain⟨h,h4⟩:=h
 replace h:=Z03 h
 obtain⟨h2,h3⟩:=h
 exact⟨x,y,p,rfl,h2,h3,h4⟩
theorem inv_sl{a:IE}{lo hi:IO}(h:chkE G (.sl a lo hi) sc N e=true):∃x l u p p2,e=.Subscript x (.Slice l u none p2) p/\chkE G a sc N x=true/\chkO G lo sc N l=true/\chkO G hi sc N u=true:=by
 replace h:=Z02 h
 obtain⟨⟨x,y⟩,h1,h⟩:=h
 obtain⟨p,rfl⟩:=asSub_of h1
 replace h:=Z02 h
 obtain⟨⟨l,u,st⟩,h2,h⟩:=h
 obtain⟨p2,rfl⟩:=asSl_of h2
 replace h:=Z03 h
 obtain⟨h,h6⟩:=h
 replace h:=Z03 h
 obtain⟨h,h5⟩:=h
 replace h:=Z03 h
 obtain⟨h3,h4⟩:=h
 cases st with
 |some _=>cases h6
 |none=>exact⟨x,l,u,p,p2,rfl,h3,h4,h5⟩
theorem inv_call{j:Nat}{a:IE}{es:IEs}(h:chkE G (.call j a es) sc N e=true):∃f p x xs p2,e=.Call (.Name f p) (x::xs) [] p2/\G.fns[j]?=some f/\glB sc f=true/\chkE G a sc N x=true/\chkEs G es sc N xs=true:=by
 replace h:=Z02 h
 obtain⟨⟨f,l,ks,p2⟩,h1,h⟩:=h
 obtain rfl:=Z16 h1
 replace h:=Z02 h
 obtain⟨g,h2,h⟩:=h
 obtain⟨p,rfl⟩:=Z0c h2
 replace h:=Z02 h
 obtain⟨⟨x,xs⟩,h3,h⟩:=h
 obtain rfl:=hd1_of h3
 replace h:=Z03 h
 obtain⟨h,h8⟩:=h
 replace h:=Z03 h
 obtain⟨h,h7⟩:=h
 replace h:=Z03 h
 obtain⟨h,h6⟩:=h
 replace h:=Z03 h
 obtain⟨h4,h5⟩:=h
 obtain rfl:=Z0s h4
 exact⟨g,p,x,xs,p2,rfl,Z06 h5,h6,h7,h8⟩
theorem inv_bi{f:BI}{a:IE}{es:IEs}(h:chkE G (.bi f a es) sc N e=true):∃p x xs p2,e=.Call (.Name (f.name:Str) p) (x::xs) [] p2/\G.bl.contains (f.name:Str)=true/\glB sc (f.name:Str)=true/\chkE G a sc N x=true/\chkEs G es sc N xs=true:=by
 replace h:=Z02 h
 obtain⟨⟨f',l,ks,p2⟩,h1,h⟩:=h
 obtain rfl:=Z16 h1
 replace h:=Z02 h
 obtain⟨g,h2,h⟩:=h
 obtain⟨p,rfl⟩:=Z0c h2
 replace h:=Z02 h
 obtain⟨⟨x,xs⟩,h3,h⟩:=h
 obtain rfl:=hd1_of h3
 replace h:=Z03 h
 obtain⟨h,h9⟩:=h
 replace h:=Z03 h
 obtain⟨h,h8⟩:=h
 replace h:=Z03 h
 obtain⟨h,h7⟩:=h
 replace h:=Z03 h
 obtain⟨h,h6⟩:=h
 replace h:=Z03 h
 obtain⟨h4,h5⟩:=h
 obtain rfl:=Z0s h4
 obtain rfl:=Z06 h5
 exact⟨p,x,xs,p2,rfl,h6,h7,h8,h9⟩
theorem inv_b2{f:B2}{a:IE}(h:chkE G (.b2 f a) sc N e=true):∃p p' x p2 p2',e=.Call (.Name (f.out:Str) p) [.Call (.Name (f.inn:Str) p') [x] [] p2'] [] p2/\G.bl.contains (f.out:Str)=true/\G.bl.contains (f.inn:Str)=true/\glB sc (f.out:Str)=true/\glB sc (f.inn:Str)=true/\chkE G a sc N x=true:=by
 replace h:=Z02 h
 obtain⟨⟨f',l,ks,p2⟩,h1,h⟩:=h
 obtain rfl:=Z16 h1
 replace h:=Z02 h
 obtain⟨g,h2,h⟩:=h
 obtain⟨p,rfl⟩:=Z0c h2
 replace h:=Z02 h
 obtain⟨y,h3,h⟩:=h
 obtain rfl:=Z1W h3
 replace h:=Z02 h
 obtain⟨⟨f'',l',ks',p2'⟩,h4,h⟩:=h
 obtain rfl:=Z16 h4
 replace h:=Z02 h
 obtain⟨k,h5,h⟩:=h
 obtain⟨p',rfl⟩:=Z0c h5
 replace h:=Z02 h
 obtain⟨x,h6,h⟩:=h
 obtain rfl:=Z1W h6
 simp only[Y06]at h
 obtain⟨⟨⟨⟨⟨⟨⟨⟨a1,a2⟩,a3⟩,a4⟩,a5⟩,a6⟩,a7⟩,a8⟩,a9⟩:=h
 obtain rfl:=Z0s a1
 obtain rfl:=Z0s a2
 obtain rfl:=Z06 a3
 obtain rfl:=Z06 a4
 exact⟨p,p',x,p2,p2',rfl,a5,a6,a7,a8,a9⟩
theorem inv_mt{m:MT}{o:IE}{es:IEs}(h:chkE G (.mt m o es) sc N e=true):∃ob ap args cp,e=.Call (.Attribute ob (m.name:Str) ap) args [] cp/\(ap.endLine==cp.line)=true/\chkE G o sc N ob=true/\chkEs G es sc N args=true/\args.length<20:=by
 replace h:=Z02 h
 obtain⟨⟨f',args,ks,cp⟩,h1,h⟩:=h
 obtain rfl:=Z16 h1
 replace h:=Z02 h
 obtain⟨⟨ob,nm,ap⟩,h2,h⟩:=h
 obtain rfl:=asAtt_of h2
 replace h:=Z03 h
 obtain⟨h,h8⟩:=h
 replace h:=Z03 h
 obtain⟨h,h7⟩:=h
 replace h:=Z03 h
 obtain⟨h,h6⟩:=h
 replace h:=Z03 h
 obtain⟨h,h5⟩:=h
 replace h:=Z03 h
 obtain⟨h3,h4⟩:=h
 obtain rfl:=Z0s h3
 obtain rfl:=Z06 h4
 exact⟨ob,ap,args,cp,rfl,h5,h6,h7,Z06 h8⟩
theorem inv_comp{own:List Str}{fr:List Nat}{src:ISr}{tg:ITg}{test:IO}{elt:IE}(h:chkE G (.comp own fr src tg test elt) sc N e=true):∃x t it ifs scope p,e=.ListComp x [⟨t,it,ifs,0⟩] scope p/\compOk sc scope N own fr=true/\notSet it=true/\
  (nC own fr N).Nodup/\chkSr G src sc N it=true/\chkTg (relab scope sc) (nC own fr N) own.length false tg t=true/\chkI G test (relab scope sc) (nC own fr N) ifs=true/\chkE G elt (relab scope sc) (nC own fr N) x=true:=by
 replace h:=Z02 h
 obtain⟨⟨x,gs,scope⟩,h1,h⟩:=h
 obtain⟨p,rfl⟩:=asLC_of h1
 replace h:=Z02 h
 obtain⟨⟨t,it,ifs,k⟩,h2,h⟩:=h
 obtain rfl:=Z1W h2
 replace h:=Z03 h
 obtain⟨h,h9⟩:=h
 replace h:=Z03 h
 obtain⟨h,h8⟩:=h
 replace h:=Z03 h
 obtain⟨h,h7⟩:=h
 replace h:=Z03 h
 obtain⟨h,h6⟩:=h
 replace h:=Z03 h
 obtain⟨h,h5⟩:=h
 replace h:=Z03 h
 obtain⟨h,h4⟩:=h
 replace h:=Z03 h
 obtain⟨h2,h3⟩:=h
 obtain rfl:=Z06 h9
 exact⟨x,t,it,ifs,scope,p,rfl,h2,h3,Z06 h4,h5,h6,h7,h8⟩
theorem inv_ps_nil{ks:List (Option Expr)}{vs:List Expr}(h:chkPs G .nil sc N ks vs=true):ks=[]/\vs=[]:=by
 replace h:=Z03 h
 exact⟨Z0s h.1,Z0s h.2⟩
theorem inv_ps_cons{k v:IE}{ps:IPs}{ks:List (Option Expr)}{vs:List Expr}(h:chkPs G (.cons k v ps) sc N ks vs=true):∃x ks' y vs',ks=some x::ks'/\vs=y::vs'/\chkE G k sc N x=true/\chkE G v sc N y=true/\chkPs G ps sc N ks' vs'=true:=by
 replace h:=Z02 h
 obtain⟨⟨o,ks'⟩,h1,h⟩:=h
 replace h:=Z02 h
 obtain⟨⟨y,vs'⟩,h2,h⟩:=h
 replace h:=Z02 h
 obtain⟨x,h3,h⟩:=h
 replace h:=Z03 h
 obtain⟨h,h6⟩:=h
 replace h:=Z03 h
 obtain⟨h4,h5⟩:=h
 dsimp only at h3
 subst h3
 exact⟨x,ks',y,vs',hd1_of h1,hd1_of h2,h4,h5,h6⟩
theorem inv_es_nil{l:List Expr}(h:chkEs G .nil sc N l=true):l=[]:=by
 exact Z0s h
theorem inv_es_cons{a:IE}{es:IEs}{l:List Expr}(h:chkEs G (.cons a es) sc N l=true):∃x xs,l=x::xs/\chkE G a sc N x=true/\chkEs G es sc N xs=true:=by
 replace h:=Z02 h
 obtain⟨⟨x,xs⟩,h1,h⟩:=h
 exact⟨x,xs,hd1_of h1,Z03 h⟩
theorem inv_o_none{o:Option Expr}(h:chkO G .none sc N o=true):o=none:=by
 cases o with
 |none=>rfl
 |some _=>cases h
theorem inv_o_some{a:IE}{o:Option Expr}(h:chkO G (.some a) sc N o=true):∃x,o=some x/\chkE G a sc N x=true:=by
 exact Z02 h
theorem inv_i_none{l:List Expr}(h:chkI G .none sc N l=true):l=[]:=by
 exact Z0s h
theorem inv_i_some{a:IE}{l:List Expr}(h:chkI G (.some a) sc N l=true):∃x,l=[x]/\tok a=true/\chkE G a sc N x=true:=by
 replace h:=Z02 h
 obtain⟨x,h1,h⟩:=h
 exact⟨x,Z1W h1,Z03 h⟩
theorem inv_rng{a:IE}(h:chkSr G (.rng a) sc N e=true):∃p x p2,e=.Call (.Name ("range":Str) p) [x] [] p2/\G.bl.contains ("range":Str)=true/\glB sc ("range":Str)=true/\chkE G a sc N x=true:=by
 replace h:=Z02 h
 obtain⟨⟨f',l,ks,p2⟩,h1,h⟩:=h
 obtain rfl:=Z16 h1
 replace h:=Z02 h
 obtain⟨g,h2,h⟩:=h
 obtain⟨p,rfl⟩:=Z0c h2
 replace h:=Z02 h
 obtain⟨x,h3,h⟩:=h
 obtain rfl:=Z1W h3
 replace h:=Z03 h
 obtain⟨h,h8⟩:=h
 replace h:=Z03 h
 obtain⟨h,h7⟩:=h
 replace h:=Z03 h
 obtain⟨h,h6⟩:=h
 replace h:=Z03 h
 obtain⟨h4,h5⟩:=h
 obtain rfl:=Z0s h4
 obtain rfl:=Z06 h5
 exact⟨p,x,p2,rfl,h6,h7,h8⟩
theorem inv_rng2{a b:IE}(h:chkSr G (.rng2 a b) sc N e=true):∃p x y p2,e=.Call (.Name ("range":Str) p) [x,y] [] p2/\G.bl.contains ("range":Str)=true/\glB sc ("range":Str)=true/\chkE G a sc N x=true/\chkE G b sc N y=true:=by
 replace h:=Z02 h
 obtain⟨⟨f',l,ks,p2⟩,h1,h⟩:=h
 obtain rfl:=Z16 h1
 replace h:=Z02 h
 obtain⟨g,h2,h⟩:=h
 obtain⟨p,rfl⟩:=Z0c h2
 replace h:=Z02 h
 obtain⟨⟨x,y⟩,h3,h⟩:=h
 obtain rfl:=the2_of h3
 replace h:=Z03 h
 obtain⟨h,h9⟩:=h
 replace h:=Z03 h
 obtain⟨h,h8⟩:=h
 replace h:=Z03 h
 obtain⟨h,h7⟩:=h
 replace h:=Z03 h
 obtain⟨h,h6⟩:=h
 replace h:=Z03 h
 obtain⟨h4,h5⟩:=h
 obtain rfl:=Z0s h4
 obtain rfl:=Z06 h5
 exact⟨p,x,y,p2,rfl,h6,h7,h8,h9⟩
theorem inv_rng3{a b c:IE}(h:chkSr G (.rng3 a b c) sc N e=true):∃p x y z p2,e=.Call (.Name ("range":Str) p) [x,y,z] [] p2/\G.bl.contains ("range":Str)=true/\glB sc ("range":Str)=true/\chkE G a sc N x=true/\chkE G b sc N y=true/\chkE G c sc N z=true:=by
 replace h:=Z02 h
 obtain⟨⟨f',l,ks,p2⟩,h1,h⟩:=h
 obtain rfl:=Z16 h1
 replace h:=Z02 h
 obtain⟨g,h2,h⟩:=h
 obtain⟨p,rfl⟩:=Z0c h2
 replace h:=Z02 h
 obtain⟨⟨x,y,z⟩,h3,h⟩:=h
 obtain rfl:=the3_of h3
 replace h:=Z03 h
 obtain⟨h,h10⟩:=h
 replace h:=Z03 h
 obtain⟨h,h9⟩:=h
 replace h:=Z03 h
 obtain⟨h,h8⟩:=h
 replace h:=Z03 h
 obtain⟨h,h7⟩:=h
 replace h:=Z03 h
 obtain⟨h,h6⟩:=h
 replace h:=Z03 h
 obtain⟨h4,h5⟩:=h
 obtain rfl:=Z0s h4
 obtain rfl:=Z06 h5
 exact⟨p,x,y,z,p2,rfl,h6,h7,h8,h9,h10⟩
theorem inv_tg_nm{lim:Nat}{all:Bool}{i:Nat}(h:chkTg sc N lim all (.nm i) e=true):∃x p,e=.Name x p/\N[i]?=some x/\i<lim/\(if all then locB sc x else decide (sc.names.lookup x=some .local))=true:=by
 replace h:=Z02 h
 obtain⟨x,h1,h⟩:=h
 obtain⟨p,rfl⟩:=Z0c h1
 replace h:=Z03 h
 obtain⟨h,h4⟩:=h
 replace h:=Z03 h
 obtain⟨h2,h3⟩:=h
 exact⟨x,p,rfl,Z06 h2,Z06 h3,h4⟩
theorem inv_tg_tup{lim:Nat}{all:Bool}{ts:ITgs}(h:chkTg sc N lim all (.tup ts) e=true):∃es k p,e=.Tuple es k p/\chkTgs sc N lim all ts es=true:=by
 replace h:=Z02 h
 obtain⟨es,h1,h⟩:=h
 obtain⟨k,p,rfl⟩:=asTup_of h1
 exact⟨es,k,p,rfl,h⟩
theorem inv_tgs_nil{lim:Nat}{all:Bool}{l:List Expr}(h:chkTgs sc N lim all .nil l=true):l=[]:=by
 exact Z0s h
theorem inv_tgs_cons{lim:Nat}{all:Bool}{t:ITg}{ts:ITgs}{l:List Expr}(h:chkTgs sc N lim all (.cons t ts) l=true):∃x xs,l=x::xs/\chkTg sc N lim all t x=true/\chkTgs sc N lim all ts xs=true:=by
 replace h:=Z02 h
 obtain⟨⟨x,xs⟩,h1,h⟩:=h
 exact⟨x,xs,hd1_of h1,Z03 h⟩
end
end L2
namespace L2
open PySem PySem.Spec PyProof.Rows
noncomputable def liT(K:Y00)(t:TEm):TT:=λσ H Q=>∃σm M,RS K H σm σ/\RH K M H/\t σm M (λm M'=>∃b,m=.bl b/\∀H',Kp H H'->RH K M' H'->Q b H')
noncomputable def liO(K:Y00)(t:Sm->MH->(Option Int->MH->Prop)->Prop):TO:=λσ H Q=>∃σm M,RS K H σm σ/\RH K M H/\t σm M (λo M'=>∀H',Kp H H'->RH K M' H'->Q o H')
section
variable{K:Y00}
theorem li_test{t:TEm}(m:MonE t){σ:St}{H:Hp}{Q:Bool->Hp->Prop}(h:liT K t σ H Q):liE K t σ H λx H'=>∃c,x=.bl c/\Q c H':=by
 obtain⟨σm,M,rs,rh,h⟩:=h
 refine⟨σm,M,rs,rh,m (λx M1 ⟨b,e,h1⟩=>?_) h⟩
 subst e
 intro v H1 k1 r1 rh1
 cases r1
 exact⟨b,rfl,h1 H1 k1 rh1⟩
theorem liT_on{t:TEm}(m:MonE t){σm:Sm}{M:MH}{H H1:Hp}{Q:Bool->Hp->Prop}(k:Kp H H1)(h:t σm M λx M'=>∃b,x=.bl b/\∀H',Kp H H'->RH K M' H'->Q b H'):
  t σm M λx M'=>∃b,x=.bl b/\∀H',Kp H1 H'->RH K M' H'->Q b H':=
 m (λx M' ⟨b,e,q⟩=>⟨b,e,λH' k'=>q H' (k.trans k')⟩) h
theorem li_cons{te:TEm}{t:TAm}(me:MonE te)(mt:MonA t){σ:St}{H:Hp}{Q:List V->Hp->Prop}(h:liA K (λσ M Q=>te σ M λv M1=>t σ M1 λvs M2=>Q (v::vs) M2) σ H Q):tCons (liE K te) (liA K t) σ H Q:=by
 obtain⟨σm,M,rs,rh,h⟩:=h
 refine⟨σm,M,rs,rh,me (λx M1 h1=>?_) h⟩
 intro v H1 k1 r1 rh1
 refine⟨σm,M1,rs.mono k1,rh1,mt (λms M2 h2=>?_) h1⟩
 intro vs H2 k2 r2 rh2
 exact h2 (v::vs) H2 (k1.trans k2) (.cons (r1.mono k2) r2) rh2
end
noncomputable def SrcIt(X:Cx)(H:Hp):Src->It->Prop
 |.tup xs,J=>(∃a vs,H a=some (.tup vs)/\RMs X.K H xs vs/\J=Itt X.K a)\/∃a vs,FrL X.K H a vs/\RMs X.K H xs vs/\J=Itl X.K a
 |.lst a _,J=>J=Itl X.K a
 |.rng lo n,J=>J=Itr lo n
 |.rst lo st n,J=>J=Itrs lo st n
 |.dic a o _,J=>J=Itd a o/\∀o' u',X.H₀ a≠some (.frz o' u')
 |.str x,J=>J=Its x
theorem src_thaw{X:Cx}{H0 H:Hp}{M:MH}{S:Src}{J:It}(s:SrcIt X H0 S J)(rh:RH X.K M H)(ok:S.okT M):∃H',Thw X H H'/\Kp H H'/\RH X.K (S.thaw M) H':=by
 cases S with
 |tup xs=>exact⟨H,.inl rfl,Kp.refl _,rh⟩
 |lst a xs=>exact⟨H,.inl rfl,Kp.refl _,rh⟩
 |rng a xs=>exact⟨H,.inl rfl,Kp.refl _,rh⟩
 |rst a b xs=>exact⟨H,.inl rfl,Kp.refl _,rh⟩
 |str x=>exact⟨H,.inl rfl,Kp.refl _,rh⟩
 |dic a o kvs=>
  obtain⟨vs,e,r,nd⟩:=rh.fdic ok
  have k:=Kp.upd e rfl (.dK vs)
  exact⟨_,.inr ⟨a,o,.dK vs,e,trivial,s.2,rfl⟩,k,rh.put k (o:=.dic kvs) ⟨r.mono k,nd⟩⟩
theorem ok_okT{M:MH}{S:Src}(ok:S.ok M):S.okT M:=by
 cases S<;>first|trivial|exact ok
theorem rk_get{K:Y00}{H:Hp}{k:Key}{v:V}:∀{m:List (Key×MV)} {vs:List (Key×V)} {i:Nat},RKs K H m vs->vs[i]?=some (k,v)->∃x,m[i]?=some (k,x)/\RM K H x v
 |_,_,_,.nil,h=>by cases h
 |_,_,0,.cons r _,h=>by cases h;exact⟨_,rfl,r⟩
 |_,_,i+1,.cons _ t,h=>rk_get (i:=i) t h
theorem src_turn{X:Cx}{H0 H:Hp}{M:MH}{S:Src}{J:It}(s:SrcIt X H0 S J)(k:Kp H0 H)(rh:RH X.K M H)(ok:S.ok M):
  (∀i,i<S.len->J.go i H/\∀x H',J.yld i H x H'->H'=H/\∃m,S.items[i]?=some m/\RM X.K H m x)/\∀i,S.len≤i->J.stop i H:=by
 have seqL:∀{a:Addr} {xs:List MV} {vs:List V},SqL X.K H a vs->RMs X.K H xs vs->(∀i,i<xs.length->(Itl X.K a).go i H/\∀x H',(Itl X.K a).yld i H x H'->H'=H/\∃m,xs[i]?=some m/\RM X.K H m x)/\∀i,xs.length≤i->(Itl X.K a).stop i H:=by
  intro a xs vs hs r
  refine⟨λi hi=>⟨⟨vs,_,hs,Y02 (by rw[<- r.length];exact hi)⟩,λx H' y=>?_⟩,λi hi=>⟨vs,hs,by rw[<- r.length];exact hi⟩⟩
  exact⟨y.1,r.get' (y.2 vs hs)⟩
 cases S with
 |tup xs=>
  rcases s with⟨a,vs,h,r,rfl⟩|⟨a,vs,h,r,rfl⟩
  ·have h:=SqT.of (K:=X.K) (k _ _ h rfl)
   have r:=r.mono k
   refine⟨λi hi=>⟨⟨vs,_,h,Y02 (by rw[<- r.length];exact hi)⟩,λx H' y=>?_⟩,λi hi=>⟨vs,h,by rw[<- r.length];exact hi⟩⟩
   exact⟨y.1,r.get' (y.2 vs h)⟩
  ·refine seqL (FrL.sq ?_) (r.mono k)
   rcases h with⟨o,h⟩|h
   ·exact .inl ⟨o,k _ _ h rfl⟩
   ·exact .inr h
 |lst a xs=>
  cases s
  obtain⟨vs,h,r⟩:=rh.lst ok
  exact seqL (SqL.of h) r
 |rng lo n=>
  cases s
  refine⟨λi hi=>⟨hi,λx H' y=>⟨y.1,.int (lo+(i:Nat)),?_,?_⟩⟩,λi hi=>hi⟩
  ·show((Y0I n).map _)[i]?=_
   rw[Y0b,Y02 (by simpa using(show i<n from hi))]
   simp
  ·rw[y.2];exact .int _
 |rst lo st n=>
  cases s
  refine⟨λi hi=>⟨hi,λx H' y=>⟨y.1,.int (lo+(i:Nat)*st),?_,?_⟩⟩,λi hi=>hi⟩
  ·show((Y0I n).map _)[i]?=_
   rw[Y0b,Y02 (by simpa using(show i<n from hi))]
   simp
  ·rw[y.2];exact .int _
 |str z=>
  cases s
  refine⟨λi hi=>⟨hi,λx H' y=>?_⟩,λi hi=>hi⟩
  obtain⟨e,c,hc,rfl⟩:=y
  refine⟨e,.str ⟨#[c]⟩,?_,.str _⟩
  show(z.cps.toList.map _)[i]?=_
  rw[Y0b,Y3e,hc]
  rfl
 |dic a o kvs=>
  obtain⟨rfl,_⟩:=s
  obtain⟨vs,e,r,nd⟩:=rh.fdic ok
  refine⟨λi hi=>⟨⟨vs,e,by rw[<- r.length];exact hi⟩,λx H' y=>?_⟩,λi hi=>⟨vs,e,by rw[<- r.length];exact hi⟩⟩
  obtain⟨rfl,y⟩:=y
  obtain⟨kk,v,hv,rfl⟩:=y vs e
  obtain⟨x,hx,_⟩:=rk_get r hv
  refine⟨rfl,kM kk,?_,?_⟩
  ·show(kvs.map λp=>kM p.1)[i]?=_
   rw[Y0b,hx];rfl
  ·cases kk with
   |inl i=>exact .int i
   |inr x=>exact .str x
noncomputable def liSr(X:Cx)(t:TSm):TI:=λσ H R=>∃σm M,RS X.K H σm σ/\RH X.K M H/\t σm M (λS M'=>∀J H',Kp H H'->RH X.K M' H'->SrcIt X H' S J->R J H')
section
variable{X:Cx}{tg:Expr}
theorem PI.weak{e:Expr}{t t':TI}(h:PI X tg e t)(i:∀σ H R,t' σ H R->t σ H R):PI X tg e t':=λpins s σ H R I q=>h pins s σ H R I (i _ _ _ q)
end
mutual
noncomputable def gOf(K:Y00):ITg->TG
 |.nm i=>gName i
 |.tup ts=>gTup K (ITgs.len ts) (gsOf K ts)
noncomputable def gsOf(K:Y00):ITgs->TGs
 |.nil=>gNil
 |.cons t ts=>gCons (gOf K t) (gsOf K ts)
noncomputable def ITgs.len:ITgs->Nat
 |.nil=>0
 |.cons _ ts=>ts.len+1
end
mutual
theorem sTg{X:Cx}{lim:Nat}{all:Bool}(hc:X.calm=true)(hN:X.N.Nodup)(hf:all=true->∀x,X.fn x=true):∀(t:ITg) {e:Expr},chkTg X.env.scope X.N lim all t e=true->PG X e (gOf X.K t)
 |.nm i,e,h=>by
  obtain⟨x,p,rfl,h1,h2,h3⟩:=inv_tg_nm h
  cases all with
  |true=>
   rw[if_pos rfl]at h3
   exact pg_name hN h1 (loc_of h3) (.inl (hf rfl _))
  |false=>
   rw[if_neg Y04,decide_eq_true_eq]at h3
   exact pg_name hN h1 (.inl h3) (.inr h3)
 |.tup ts,e,h=>by
  obtain⟨es,k,p,rfl,h⟩:=inv_tg_tup h
  obtain⟨h1,h2,h3⟩:=sTgs hc hN hf ts h
  exact pg_tup hc h1 h2 h3
theorem sTgs{X:Cx}{lim:Nat}{all:Bool}(hc:X.calm=true)(hN:X.N.Nodup)(hf:all=true->∀x,X.fn x=true):∀(t:ITgs) {es:List Expr},chkTgs X.env.scope X.N lim all t es=true->PGs X es (gsOf X.K t)/\(assignEach es X.env).length=t.len/\(assignEach es X.env).findIdx? (·.1)=none
 |.nil,l,h=>by
  cases inv_tgs_nil h
  rw[gsOf,ITgs.len];exact⟨pgs_nil,rfl,rfl⟩
 |.cons t ts,l,h=>by
  obtain⟨e,es,rfl,ha,hb⟩:=inv_tgs_cons h
  obtain⟨h1,h2,h3⟩:=sTgs hc hN hf ts hb
  have h4:=sTg hc hN hf t ha
  have e1:assignEach (e::es) X.env=(false,assign e X.env)::assignEach es X.env:=by
   cases t with
   |nm i=>obtain⟨x,p,rfl,_⟩:=inv_tg_nm ha;rfl
   |tup ts=>obtain⟨x,k,p,rfl,_⟩:=inv_tg_tup ha;rfl
  rw[gsOf,ITgs.len]
  refine⟨pgs_cons h4 h1 (by rw[e1];rfl),by rw[e1,Y0q,h2],?_⟩
  rw[e1,List.findIdx?_cons,if_neg Y04,h3]
  rfl
end
theorem RMs.len_tgs{K:Y00}:∀{ts:ITgs} {xs:List MV} {σ:Sm} {P:Sm->Prop},wTgs ts xs σ P->xs.length=ts.len
 |.nil,xs,σ,P,h=>by rw[h.1,ITgs.len];rfl
 |.cons t ts,xs,σ,P,h=>by
  obtain⟨v,r,rfl,h⟩:=h
  rw[Y0q,ITgs.len]
  have aux:∀(t:ITg) {v:MV} {σ:Sm},wTg t v σ (λσ'=>wTgs ts r σ' P)->∃σ',wTgs ts r σ' P:=by
   have both:(∀(t:ITg) {v:MV} {σ:Sm} {P:Sm->Prop},wTg t v σ P->∃σ',P σ')/\(∀(t:ITgs) {v:List MV} {σ:Sm} {P:Sm->Prop},wTgs t v σ P->∃σ',P σ'):=by
    refine⟨λt=>?_,λt=>?_⟩
    ·exact ITg.rec (motive_1:=λt=>∀{v:MV} {σ:Sm} {P:Sm->Prop},wTg t v σ P->∃σ',P σ') (motive_2:=λt=>∀{v:List MV} {σ:Sm} {P:Sm->Prop},wTgs t v σ P->∃σ',P σ')
      (λi v σ P h=>⟨_,h⟩) (λts ih v σ P h=>by obtain⟨xs,_,h⟩:=h;exact ih h)
      (fun{v σ P} h=>⟨_,h.2⟩) (λt ts i1 i2 v σ P h=>by obtain⟨x,r,_,h⟩:=h;obtain⟨σ',h⟩:=i1 h;exact i2 h) t
    ·exact ITgs.rec (motive_1:=λt=>∀{v:MV} {σ:Sm} {P:Sm->Prop},wTg t v σ P->∃σ',P σ') (motive_2:=λt=>∀{v:List MV} {σ:Sm} {P:Sm->Prop},wTgs t v σ P->∃σ',P σ')
      (λi v σ P h=>⟨_,h⟩) (λts ih v σ P h=>by obtain⟨xs,_,h⟩:=h;exact ih h)
      (fun{v σ P} h=>⟨_,h.2⟩) (λt ts i1 i2 v σ P h=>by obtain⟨x,r,_,h⟩:=h;obtain⟨σ',h⟩:=i1 h;exact i2 h) t
   exact λt {v σ} h=>both.1 t h
  obtain⟨σ',h'⟩:=aux t h
  rw[RMs.len_tgs (K:=K) h']
mutual
theorem tg_ok{K:Y00}{H:Hp}{lim:Nat}{sc:Scope}{N:List Str}{all:Bool}{Ψ:St->Prop}(hΨ:∀σ i v,i<lim->Ψ σ->Ψ (σ.set i (some v))):∀(t:ITg) {e:Expr} {mv:MV} {v:V} {σm:Sm} {σ:St} {P:Sm->Prop} {Q:St->Hp->Prop},chkTg sc N lim all t e=true->
  RM K H mv v->RS K H σm σ->Ψ σ->wTg t mv σm P->(∀σm' σ',P σm'->RS K H σm' σ'->Ψ σ'->Q σ' H)->gOf K t v σ H Q
 |.nm i,e,mv,v,σm,σ,P,Q,hc,r,rs,ps,h,hq=>by
  obtain⟨x,p,rfl,_,hl,_⟩:=inv_tg_nm hc
  exact hq _ _ h (rs.set r i) (hΨ _ _ _ hl ps)
 |.tup ts,e,mv,v,σm,σ,P,Q,hc,r,rs,ps,h,hq=>by
  obtain⟨es,k,p,rfl,hc⟩:=inv_tg_tup hc
  obtain⟨xs,rfl,h⟩:=h
  cases r with
  |tup h1 q1=>
   exact⟨_,_,rfl,SqT.of h1,by rw[<- q1.length];exact RMs.len_tgs (K:=K) h,tgs_ok hΨ ts hc q1 rs ps h hq⟩
theorem tgs_ok{K:Y00}{H:Hp}{lim:Nat}{sc:Scope}{N:List Str}{all:Bool}{Ψ:St->Prop}(hΨ:∀σ i v,i<lim->Ψ σ->Ψ (σ.set i (some v))):∀(t:ITgs) {es:List Expr} {mvs:List MV} {vs:List V} {σm:Sm} {σ:St} {P:Sm->Prop} {Q:St->Hp->Prop},chkTgs sc N lim all t es=true->
  RMs K H mvs vs->RS K H σm σ->Ψ σ->wTgs t mvs σm P->(∀σm' σ',P σm'->RS K H σm' σ'->Ψ σ'->Q σ' H)->gsOf K t vs σ H Q
 |.nil,es,mvs,vs,σm,σ,P,Q,hc,r,rs,ps,h,hq=>by
  obtain⟨rfl,h⟩:=h
  cases r
  rw[gsOf]
  exact⟨rfl,hq _ _ h rs ps⟩
 |.cons t ts,es,mvs,vs,σm,σ,P,Q,hc,r,rs,ps,h,hq=>by
  obtain⟨e,es,rfl,hc1,hc2⟩:=inv_tgs_cons hc
  obtain⟨x,rr,rfl,h⟩:=h
  cases r with
  |cons r1 r2=>
   rw[gsOf]
   exact⟨_,_,rfl,tg_ok hΨ t hc1 r1 rs ps h λσm' σ' h' rs' ps'=>tgs_ok hΨ ts hc2 r2 rs' ps' h' hq⟩
end
end L2
namespace L2
open PySem PySem.Spec PyProof.Rows
theorem sC_rs{K:Y00}{H:Hp}{own:List Str}{fr:List Nat}{σm:Sm}{σ:St}(rs:RS K H σm σ):RS K H (sCm own fr σm) (sC own fr σ):=by
 refine⟨by simp[sCm,sC],λi m e=>?_⟩
 unfold sCm at e
 unfold sC
 by_cases hi:i<own.length
 ·rw[Y0s (by simpa using hi),Y0b]at e
  cases q:own[i]? with
  |none=>rw[q]at e;cases e
  |some z=>rw[q]at e;cases e
 ·rw[Y0v (by simpa using hi),Y03,Y0b]at e
  rw[Y0v (by simpa using hi),Y03,Y0b]
  cases q:fr[i - own.length]? with
  |none=>rw[q]at e;cases e
  |some j=>
   rw[q]at e
   have e':σm.getD j none=some m:=Y0w e
   have e2:σm[j]?=some (some m):=by
    rw[Y0K]at e'
    cases q2:σm[j]? with
    |none=>rw[q2]at e';cases e'
    |some o=>rw[q2]at e';rw[show o=some m from e']
   obtain⟨v,hv,r⟩:=rs.2 j m e2
   refine⟨v,?_,r⟩
   show some (σ.getD j none)=_
   rw[Y0K,hv]
   rfl
theorem keep_set{own:List Str}{fr:List Nat}{σ σ':St}{i:Nat}{v:V}(hi:i<own.length)(k:Keep (sC own fr σ) σ'):Keep (sC own fr σ) (σ'.set i (some v)):=by
 refine⟨by rw[List.length_set];exact k.1,λj w h=>?_⟩
 by_cases hij:i=j
 ·subst hij
  exfalso
  unfold sC at h
  rw[Y0s (by simpa using hi),Y0b]at h
  cases q:own[i]? with
  |none=>rw[q]at h;cases h
  |some z=>rw[q]at h;cases h
 ·rw[Y17,if_neg hij]
  exact k.2 j w h
theorem plain_ix{y:Expr}(h:notSl y=true):PlainIx y:=by
 intro o i
 cases y<;>first|rfl|cases h
theorem fold_set{it:Expr}(h:notSet it=true)(env:Env):∀x,foldedSetIterable it env x=pure x:=by
 intro x
 cases it<;>first|rfl|cases h
theorem Cok.comp{X:Cx}{G:GI}{Φ:List (Str×SpM)}(c:Cok X G Φ){scope:Scope}{own:List Str}{fr:List Nat}{C:Addr}{fp:List Addr}{s₃:Shared}{H₃:Hp}(hk:scope.kind=.function)(nd:(nC own fr X.N).Nodup):Cok (cxC X scope own fr C fp s₃ H₃) G Φ:=
 ⟨c.room,c.calm,rfl,(by show(if scope.kind.isAnnotationScope then Y2G else scope.kind)=.function;rw[hk];rfl),nd,c.bls,c.gls,c.fnn,c.mon,c.fns,c.mts,c.mks,c.cls⟩
noncomputable def ttOf(K:Y00)(Φ:List (Str×SpM)):IO->TT
 |.none=>tAll
 |.some e=>liT K (wE Φ e)
theorem comp_read{X:Cx}{Φ:List (Str×SpM)}(hΦ:∀(j:Nat) f sp,Φ[j]?=some (f,sp)->MonW sp) {own:List Str} {fr:List Nat} {src:ISr} {tg:ITg} {test:IO} {elt:IE} {sc:Scope} {N:List Str} {t:Expr}
  (h5:chkTg sc N own.length false tg t=true) {σ:St} {H:Hp} {Q:VK} (hw:liE X.K (wE Φ (.comp own fr src tg test elt)) σ H Q):tComp2 own fr (liSr X (wSr Φ src)) (gOf X.K tg) (ttOf X.K Φ test) (liE X.K (wE Φ elt)) σ H (λv H'=>∃H2,Thw X H' H2/\Q v H2):=by
 obtain⟨σm,M,rs,rh,hw⟩:=hw
 refine⟨σm,M,rs,rh,mon_sr hΦ src (λS M1 ⟨hz,q⟩=>?_) hw⟩
 intro J H1 k1 rh1 sit D hD
 obtain⟨Jm,j0,j1,j2,j3⟩:=q D (rh1.free hD)
 refine⟨λi m ys H2=>m=S.len - i/\i≤S.len/\Kp H1 H2/\∃mys M2,RH X.K M2 H2/\Jm i mys M2,⟨S.len,rfl,Y1x _,Kp.new hD _,[],_,rh1.put (Kp.new hD (.lst [])) (o:=.lst []) RMs.nil,j0⟩,?_⟩
 rintro i m ys H2 ⟨rfl,hi,k2,mys,M2,rh2,hj⟩
 obtain⟨d1,d2,d3⟩:=j1 i mys M2 hj
 obtain⟨goes,stops⟩:=src_turn sit k2 rh2 d3
 by_cases hlt:i<S.len
 ·obtain⟨go,yld⟩:=goes i hlt
  refine .inr ⟨go,λys' H'=>Kp H1 H'/\∃mys M',RH X.K M' H'/\Jm (i+1) mys M',λys' H' ⟨a,mys',M',b,c⟩=>⟨S.len - (i+1),by lia,rfl,hlt,a,mys',M',b,c⟩,λx H3 y=>?_⟩
  obtain⟨e3,m,hm,rm⟩:=yld x H3 y
  subst e3
  have ht:=j2 i m mys M2 hm hj
  refine tg_ok (Ψ:=Keep (sC own fr σ)) (lim:=own.length) (λσ' i v hi k=>keep_set hi k) tg h5 rm (sC_rs (rs.mono (k1.trans k2))) ⟨rfl,λ_ _ h=>h⟩ ht λσm' σ' hP rs' keep=>⟨keep,?_⟩
  have eltp:∀{M4:MH} {H5:Hp},Kp H3 H5->RH X.K M4 H5->(wE Φ elt σm' M4 λy M5=>M5 D=some (.lst mys)/\Jm (i+1) (mys++[y]) (updM M5 D (.lst (mys++[y]))))->
    liE X.K (wE Φ elt) σ' H5 λy H6=>∃zs,H6 D=some (.lst zs)/\zs.length<sizeLine/\Kp H1 (upd H6 D (.lst (zs++[y])))/\∃mys M',RH X.K M' (upd H6 D (.lst (zs++[y])))/\Jm (i+1) mys M':=fun{M4 H5} k5 rh5 q=>by
   refine⟨σm',M4,rs'.mono k5,rh5,Z04 hΦ elt (λy M5 ⟨hd,hj'⟩=>?_) q⟩
   intro v H6 k6 r6 rh6
   obtain⟨zs,e,rz⟩:=rh6.lst hd
   have ku:=Kp.upd e rfl (.lst (zs++[v]))
   exact⟨zs,e,by rw[<- rz.length];lia,k2.trans (k5.trans (k6.trans ku)),_,_,rh6.put ku (o:=.lst (mys++[y])) ((rz.append (.cons r6 .nil)).mono ku),hj'⟩
  cases test with
  |none=>
   rw[wI]at hP
   rw[if_pos rfl]at hP
   rw[ttOf]
   refine all_go ?_
   dsimp only
   rw[if_pos rfl]
   exact eltp (Kp.refl _) rh2 hP
  |some e=>
   refine⟨σm',M2,rs',rh2,Z04 hΦ e (λv M4 ⟨b,eb,q⟩=>⟨b,eb,λH5 k5 rh5=>Z19 (λq=>eltp k5 rh5 q) (λq=>⟨k2.trans k5,_,_,rh5,q⟩) q⟩) hP⟩
 ·refine .inl ⟨stops i (by lia),?_⟩
  have e:i=S.len:=by lia
  subst e
  obtain⟨H',th,k3,rh3⟩:=src_thaw sit rh2 (ok_okT d3)
  exact⟨H',th,j3 mys M2 hj _ _ (k1.trans (k2.trans k3)) (.ref D) rh3⟩
theorem chn_read{K:Y00}{Φ:List (Str×SpM)}(hΦ:∀(j:Nat) f sp,Φ[j]?=some (f,sp)->MonW sp) {op op':CmpOp} {a b d:IE} {σ:St} {H:Hp} {Q:VK} (hw:liE K (wE Φ (.chn op op' a b d)) σ H Q):
  tChain (li2 K (wCmp op)) (li2 K (wCmp op')) (liE K (wE Φ a)) (liE K (wE Φ b)) (liE K (wE Φ d)) σ H Q:=by
 obtain⟨σm,M,rs,rh,hw⟩:=hw
 rw[x_chn]at hw
 refine⟨σm,M,rs,rh,Z04 hΦ a (λx M1 q1=>?_) hw⟩
 intro v H1 k1 r1 rh1
 refine⟨σm,M1,rs.mono k1,rh1,Z04 hΦ b (λy M2 q2=>?_) q1⟩
 intro u H2 k2 r2 rh2
 refine⟨x,y,M2,r1.mono k2,r2,rh2,mon_cmp op (λz M3 ⟨k,e,q3⟩=>?_) q2⟩
 subst e
 intro z H3 k3 r3 rh3
 cases r3
 refine⟨k,rfl,Z19 (λq=>?_) (λq=>?_) q3⟩
 ·refine⟨σm,M3,rs.mono (k1.trans (k2.trans k3)),rh3,Z04 hΦ d (λw M4 q4=>?_) q⟩
  intro w' H4 k4 r4 rh4
  exact⟨y,w,M4,r2.mono (k3.trans k4),r4,rh4,mon_cmp op' (λm M' hq=>hq.on (k1.trans (k2.trans (k3.trans k4)))) q4⟩
 ·exact q _ _ (k1.trans (k2.trans k3)) (.bl _) rh3
noncomputable def trOf(K:Y00)(Φ:List (Str×SpM)):IPs->List (TE×TE)
 |.nil=>[]
 |.cons k v r=>(liE K (wE Φ k),liE K (wE Φ v))::trOf K Φ r
noncomputable def aob:IE->Bool
 |.and ..=>true
 |.or ..=>true
 |_=>false
structure Snd (X:Cx) (Φ:List (Str×SpM)) (ie:IE) (e:Expr):Prop where
 pe:PE X e (liE X.K (wE Φ ie))
 pt:tok ie=true->PT X e (liT X.K (wE Φ ie))
 pw:tok ie=true->aob ie=true->PW X e (liT X.K (wE Φ ie))
theorem Snd.plain{X:Cx}{G:GI}{Φ:List (Str×SpM)}{ie:IE}{e:Expr}(c:Cok X G Φ)(pe:PE X e (liE X.K (wE Φ ie)))(he:∀whole,isTrue e X.env whole=(do let v<- whole;standAt e.pos;holding [v] (truthy v)))(na:aob ie=false):Snd X Φ ie e:=
 ⟨pe,λ_=>(pt_val pe he).weak λσ H Q h=>li_test (t:=wE Φ ie) (Z04 c.mon ie) h,λ_ h=>by rw[na]at h;cases h⟩
mutual
theorem sE{G:GI}{Φ:List (Str×SpM)}:∀(ie:IE) {X:Cx} {e:Expr},Cok X G Φ->chkE G ie X.env.scope X.N e=true->Snd X Φ ie e
 |.var i,X,e,c,h=>by
  obtain⟨x,p,rfl,h1,h2,h3,h4⟩:=inv_var h
  refine .plain c ?_ (λ_=>rfl) rfl
  refine(pe_var h1 (vis_of h2) h3 h4).weak λσ H Q hw=>?_
  obtain⟨σm,M,rs,rh,hw⟩:=hw
  rw[x_var]at hw
  obtain⟨v,e,q⟩:=hw
  obtain⟨u,hu,r⟩:=rs.2 i v e
  exact⟨u,hu,q _ _ (Kp.refl _) r rh⟩
 |.int i,X,e,c,h=>by
  obtain⟨k,p,rfl⟩:=inv_int h
  refine .plain c ?_ (λ_=>rfl) rfl
  refine pe_int.weak λσ H Q hw=>?_
  obtain⟨σm,M,rs,rh,hw⟩:=hw
  exact hw _ _ (Kp.refl _) (.int i) rh
 |.str i,X,e,c,h=>by
  obtain⟨k,p,rfl⟩:=inv_str h
  refine .plain c ?_ (λ_=>rfl) rfl
  refine pe_str.weak λσ H Q hw=>?_
  obtain⟨σm,M,rs,rh,hw⟩:=hw
  exact hw _ _ (Kp.refl _) (.str i) rh
 |.bl i,X,e,c,h=>by
  obtain⟨k,p,rfl⟩:=inv_bl h
  refine .plain c ?_ (λ_=>rfl) rfl
  refine pe_bl.weak λσ H Q hw=>?_
  obtain⟨σm,M,rs,rh,hw⟩:=hw
  exact hw _ _ (Kp.refl _) (.bl i) rh
 |.non,X,e,c,h=>by
  obtain⟨k,p,rfl⟩:=inv_non h
  refine .plain c ?_ (λ_=>rfl) rfl
  refine pe_non.weak λσ H Q hw=>?_
  obtain⟨σm,M,rs,rh,hw⟩:=hw
  exact hw _ _ (Kp.refl _) .non rh
 |.glb x i,X,e,c,h=>by
  obtain⟨p,rfl,h1,h2⟩:=inv_glb h
  obtain⟨g1,g2,g3⟩:=gl_of h2
  obtain⟨tk,hm⟩:=c.gls x i h1
  refine .plain c ?_ (λ_=>rfl) rfl
  refine(pe_glob (v:=.int i) g1 hm ⟨tk,rfl⟩ g2).weak λσ H Q hw=>?_
  obtain⟨σm,M,rs,rh,hw⟩:=hw
  exact hw _ _ (Kp.refl _) (.int i) rh
 |.ty t,X,e,c,h=>by
  obtain⟨p,rfl,h0,h1,h2⟩:=inv_ty h
  obtain⟨g1,g2,g3⟩:=gl_of h2
  refine .plain c ?_ (λ_=>rfl) rfl
  refine(pe_bltn (v:=.ty t.name) g1 (c.bls _ h1) (boot_ty h0) rfl g3 g2).weak λσ H Q hw=>?_
  obtain⟨σm,M,rs,rh,hw⟩:=hw
  exact hw _ _ (Kp.refl _) (.ty t) rh
 |.bin op a b,X,e,c,h=>by
  obtain⟨l,r,p,rfl,h1,h2⟩:=inv_bin h
  refine .plain c ?_ (λ_=>rfl) rfl
  refine(pe_op (op_bin op) (sE a c h1).pe (sE b c h2).pe).weak λσ H Q hw=>?_
  have:wE Φ (.bin op a b)=λσ M Q=>wE Φ a σ M λx M1=>wE Φ b σ M1 λy M2=>wBin op x y M2 Q:=rfl
  rw[this]at hw
  exact li_op (ta:=wE Φ a) (tb:=wE Φ b) (w:=wBin op) (Z04 c.mon a) (Z04 c.mon b) (mon_bin op) hw
 |.neg a,X,e,c,h=>by
  obtain⟨l,p,rfl,h1⟩:=inv_neg h
  refine .plain c ?_ (λ_=>rfl) rfl
  refine(pe_un un_neg (sE a c h1).pe).weak λσ H Q hw=>?_
  obtain⟨σm,M,rs,rh,hw⟩:=hw
  refine⟨σm,M,rs,rh,Z04 c.mon a (λx M1 ⟨i,e,q⟩=>?_) hw⟩
  subst e
  intro v H1 k1 r1 rh1
  cases r1
  exact⟨i,rfl,q _ _ k1 (.int _) rh1⟩
 |.not a,X,e,c,h=>by
  obtain⟨l,p,rfl,h1⟩:=inv_not h
  have ih:=sE a c h1
  refine⟨(pe_not ih.pe).weak λσ H Q hw=>?_,λht=>(pt_not (ih.pt ht)).weak λσ H Q hw=>?_,λ_ z=>by cases z⟩
  ·obtain⟨σm,M,rs,rh,hw⟩:=hw
   rw[x_not]at hw
   refine⟨σm,M,rs,rh,Z04 c.mon a (λx M1 ⟨i,e,q⟩=>?_) hw⟩
   subst e
   intro v H1 k1 r1 rh1
   cases r1
   exact⟨i,rfl,q _ _ k1 (.bl _) rh1⟩
  ·obtain⟨σm,M,rs,rh,hw⟩:=hw
   rw[x_not]at hw
   refine⟨σm,M,rs,rh,Z04 c.mon a (λx M1 ⟨i,e,b,e2,q⟩=>⟨i,e,λH' k rh'=>?_⟩) hw⟩
   cases e2
   exact q H' k rh'
 |.cmp op a b,X,e,c,h=>by
  obtain⟨l,r,p,rfl,h1,h2,h3⟩:=inv_cmp h
  have rd:∀σ H Q,liE X.K (wE Φ (.cmp op a b)) σ H Q->tOp (li2 X.K (wCmp op)) (liE X.K (wE Φ a)) (liE X.K (wE Φ b)) σ H Q:=λσ H Q hw=>by
   have:wE Φ (.cmp op a b)=λσ M Q=>wE Φ a σ M λx M1=>wE Φ b σ M1 λy M2=>wCmp op x y M2 Q:=rfl
   rw[this]at hw
   exact li_op (ta:=wE Φ a) (tb:=wE Φ b) (w:=wCmp op) (Z04 c.mon a) (Z04 c.mon b) (mon_cmp op) hw
  refine⟨(pe_cmpR (op_cmp c.room op) (sE a c h1).pe (sE b c h2).pe h3).weak rd,λ_=>(pt_cmpR (op_cmp c.room op) (sE a c h1).pe (sE b c h2).pe h3).weak λσ H Q hw=>?_,λ_ z=>by cases z⟩
  exact rd σ H _ (li_test (t:=wE Φ (.cmp op a b)) (Z04 c.mon _) hw)
 |.chn op op' a b d,X,e,c,h=>by
  obtain⟨l,m,r,p,rfl,h1,h2,h3,h4⟩:=inv_chn h
  refine⟨(pe_chain (op_cmp c.room op) (op_cmp c.room op') (sE a c h1).pe (sE b c h2).pe (sE d c h3).pe h4).weak λσ H Q hw=>chn_read c.mon hw,
   λ_=>(pt_chain (op_cmp c.room op) (op_cmp c.room op') (sE a c h1).pe (sE b c h2).pe (sE d c h3).pe h4).weak λσ H Q hw=>?_,λ_ z=>by cases z⟩
  exact chn_read c.mon (li_test (t:=wE Φ (.chn op op' a b d)) (Z04 c.mon _) hw)
 |.and a b,X,e,c,h=>by
  obtain⟨l,r,rest,p,rfl,h1,h2⟩:=inv_and h
  have ih:=sE a c h1
  have hb:PE X (.BoolOp .And (r::rest) p) (liE X.K (wE Φ b)):=by
   rcases h2 with⟨rfl,h2⟩|h2
   ·exact pe_one (sE b c h2).pe
   ·exact(sE b c h2).pe
  have hw':tok (.and a b)=true->PW X (.BoolOp .And (l::r::rest) p) (liT X.K (wE Φ (.and a b))):=λht=>by
   have ht:(tok a&&tok b)=true:=ht
   rw[Y06]at ht
   have hb2:PW X (.BoolOp .And (r::rest) p) (liT X.K (wE Φ b)):=by
    rcases h2 with⟨rfl,h2⟩|h2
    ·exact pw_and1 ((sE b c h2).pt ht.2)
    ·refine(sE b c h2).pw ht.2 ?_
     cases b<;>first|rfl|exact absurd h2 Y04
   refine(pw_and (ih.pt ht.1) hb2).weak λσ H Q hw=>?_
   obtain⟨σm,M,rs,rh,hw⟩:=hw
   rw[x_and]at hw
   refine⟨σm,M,rs,rh,Z04 c.mon a (λx M1 ⟨k,e,q⟩=>⟨k,e,λH1 k1 rh1=>?_⟩) hw⟩
   refine Z19 (λq=>⟨σm,M1,rs.mono k1,rh1,liT_on (t:=wE Φ b) (Z04 c.mon b) k1 q⟩) (λq=>let⟨b,e,q⟩:=q;MV.noConfusion e λeb=>eb▸q H1 k1 rh1) q
  refine⟨(pe_and ih.pe hb).weak λσ H Q hw=>?_,λht=>(hw' ht).pt,λht _=>hw' ht⟩
  obtain⟨σm,M,rs,rh,hw⟩:=hw
  rw[x_and]at hw
  refine⟨σm,M,rs,rh,Z04 c.mon a (λx M1 ⟨k,e,q⟩=>?_) hw⟩
  subst e
  intro v H1 k1 r1 rh1
  cases r1
  refine⟨k,rfl,Z19 (λq=>⟨σm,M1,rs.mono k1,rh1,Z04 c.mon b (λm M' hq=>hq.on k1) q⟩) (λq=>q _ _ k1 (.bl _) rh1) q⟩
 |.or a b,X,e,c,h=>by
  obtain⟨l,r,rest,p,rfl,h1,h2⟩:=inv_or h
  have ih:=sE a c h1
  have hb:PE X (.BoolOp .Or (r::rest) p) (liE X.K (wE Φ b)):=by
   rcases h2 with⟨rfl,h2⟩|h2
   ·exact pe_one (sE b c h2).pe
   ·exact(sE b c h2).pe
  have hw':tok (.or a b)=true->PW X (.BoolOp .Or (l::r::rest) p) (liT X.K (wE Φ (.or a b))):=λht=>by
   have ht:(tok a&&tok b)=true:=ht
   rw[Y06]at ht
   have hb2:PW X (.BoolOp .Or (r::rest) p) (liT X.K (wE Φ b)):=by
    rcases h2 with⟨rfl,h2⟩|h2
    ·exact pw_or1 ((sE b c h2).pt ht.2)
    ·refine(sE b c h2).pw ht.2 ?_
     cases b<;>first|rfl|exact absurd h2 Y04
   refine(pw_or (ih.pt ht.1) hb2).weak λσ H Q hw=>?_
   obtain⟨σm,M,rs,rh,hw⟩:=hw
   rw[x_or]at hw
   refine⟨σm,M,rs,rh,Z04 c.mon a (λx M1 ⟨k,e,q⟩=>⟨k,e,λH1 k1 rh1=>?_⟩) hw⟩
   refine Z19 (λq=>let⟨b,e,q⟩:=q;MV.noConfusion e λeb=>eb▸q H1 k1 rh1) (λq=>⟨σm,M1,rs.mono k1,rh1,liT_on (t:=wE Φ b) (Z04 c.mon b) k1 q⟩) q
  refine⟨(pe_or ih.pe hb).weak λσ H Q hw=>?_,λht=>(hw' ht).pt,λht _=>hw' ht⟩
  obtain⟨σm,M,rs,rh,hw⟩:=hw
  rw[x_or]at hw
  refine⟨σm,M,rs,rh,Z04 c.mon a (λx M1 ⟨k,e,q⟩=>?_) hw⟩
  subst e
  intro v H1 k1 r1 rh1
  cases r1
  refine⟨k,rfl,Z19 (λq=>q _ _ k1 (.bl _) rh1) (λq=>⟨σm,M1,rs.mono k1,rh1,Z04 c.mon b (λm M' hq=>hq.on k1) q⟩) q⟩
 |.ife d a b,X,e,c,h=>absurd h Y04
 |.tup es,X,e,c,h=>by
  obtain⟨xs,k,p,rfl,h1⟩:=inv_tup h
  refine .plain c ?_ (λ_=>rfl) rfl
  refine(pe_tup (sA es c h1)).weak λσ H Q hw=>?_
  obtain⟨σm,M,rs,rh,hw⟩:=hw
  refine⟨σm,M,rs,rh,mon_es c.mon es (λms M1 ⟨hz,q⟩=>?_) hw⟩
  intro vs H1 k1 r1 rh1
  refine⟨by rw[<- r1.length];exact hz,λp hp=>?_⟩
  have k2:=Kp.new hp (.tup vs)
  exact q _ _ (k1.trans k2) (.tup Z1F (r1.mono k2)) (rh1.kept hp _)
 |.lst es,X,e,c,h=>by
  obtain⟨xs,p,rfl,h1⟩:=inv_lst h
  refine .plain c ?_ (λ_=>rfl) rfl
  refine(pe_lst (sA es c h1)).weak λσ H Q hw=>?_
  obtain⟨σm,M,rs,rh,hw⟩:=hw
  refine⟨σm,M,rs,rh,mon_es c.mon es (λms M1 ⟨hz,q⟩=>?_) hw⟩
  intro vs H1 k1 r1 rh1
  refine⟨by rw[<- r1.length];exact hz,λp hp=>?_⟩
  have k2:=Kp.new hp (.lst vs)
  exact q p (rh1.free hp) _ _ (k1.trans k2) (.ref p) (rh1.put k2 (r1.mono k2))
 |.dic,X,e,c,h=>absurd h Y04
 |.ix a b,X,e,c,h=>by
  obtain⟨l,r,p,rfl,h1,h2,h3⟩:=inv_ix h
  refine .plain c ?_ (λ_=>rfl) rfl
  refine(pe_ix (ix_any (by have:=c.room;lia)) (sE a c h1).pe (sE b c h2).pe (plain_ix h3)).weak λσ H Q hw=>?_
  have:wE Φ (.ix a b)=λσ M Q=>wE Φ a σ M λx M1=>wE Φ b σ M1 λy M2=>wIx x y M2 Q:=rfl
  rw[this]at hw
  exact li_op (ta:=wE Φ a) (tb:=wE Φ b) (w:=wIx) (Z04 c.mon a) (Z04 c.mon b) mon_ix hw
 |.sl a lo hi,X,e,c,h=>by
  obtain⟨x,l,u,p,p2,rfl,h1,h2,h3⟩:=inv_sl h
  refine .plain c ?_ (λ_=>rfl) rfl
  refine(pe_slice sl_any (sE a c h1).pe (sO lo c h2) (sO hi c h3)).weak λσ H Q hw=>?_
  obtain⟨σm,M,rs,rh,hw⟩:=hw
  refine⟨σm,M,rs,rh,Z04 c.mon a (λx M1 q1=>?_) hw⟩
  intro v H1 k1 r1 rh1
  refine⟨σm,M1,rs.mono k1,rh1,mon_o c.mon lo (λl M2 q2=>?_) q1⟩
  intro H2 k2 rh2
  refine⟨σm,M2,rs.mono (k1.trans k2),rh2,mon_o c.mon hi (λu M3 q3=>?_) q2⟩
  intro H3 k3 rh3
  exact⟨x,M3,r1.mono (k2.trans k3),rh3,mon_sl (λm M' hq=>hq.on (k1.trans (k2.trans k3))) q3⟩
 |.call j a es,X,e,c,h=>by
  obtain⟨f,p,x,xs,p2,rfl,h1,h2,h3,h4⟩:=inv_call h
  obtain⟨g1,g2,g3⟩:=gl_of h2
  obtain⟨sp,hj⟩:=c.fnn j f h1
  obtain⟨k,fa,fd,ps,hr,F,hm,hk,hb⟩:=c.fns j f sp h1 hj
  have ha:PA X (x::xs) (tCons (liE X.K (wE Φ a)) (liA X.K (wEs Φ es))):=Z0K (sE a c h3).pe (sA es c h4) (Z08 h3)
  refine .plain c ?_ (λ_=>rfl) rfl
  refine(pe_call (E:=E0) F hr g1 hm hk hb .nil pass0 ha g2 (Z08 h3) (back_all (star_any (pos:=p2) h4)).2).weak λσ H Q hw=>?_
  obtain⟨σm,M,rs,rh,hw⟩:=hw
  rw[x_call]at hw
  refine⟨σm,M,rs,rh,Z04 c.mon a (λv M1 q1=>?_) hw⟩
  intro u H1 k1 r1 rh1
  refine⟨σm,M1,rs.mono k1,rh1,mon_es c.mon es (λvs M2 ⟨f',sp',e,q2⟩=>?_) q1⟩
  rw[hj]at e
  cases e
  intro us H2 k2 r2 rh2
  refine⟨v::vs,M2,?_,rh2,c.mon j f sp hj (λm M' hq=>hq.on (k1.trans k2)) q2⟩
  rw[Y1e]
  exact .cons (r1.mono k2) r2
 |.bi f a es,X,e,c,h=>by
  obtain⟨p,x,xs,p2,rfl,h1,h2,h3,h4⟩:=inv_bi h
  obtain⟨g1,g2,g3⟩:=gl_of h2
  have ha:PA X (x::xs) (tCons (liE X.K (wE Φ a)) (liA X.K (wEs Φ es))):=Z0K (sE a c h3).pe (sA es c h4) (Z08 h3)
  have hv:=boot_bi f
  have hcall:=call_bi (X:=X) c.calm f
  have hp:PE X (.Call (.Name (f.name:Str) p) (x::xs) [] p2) (tCB (liW X.K (wBi f)) (tCons (liE X.K (wE Φ a)) (liA X.K (wEs Φ es)))):=by
   cases hf:f.val<;>rw[hf]at hv hcall<;>first
    |exact pe_callB hcall g1 (c.bls _ h1) hv ha g3 g2 (Z08 h3) (back_all (star_any (pos:=p2) h4)).2
    |exact pe_callTy hcall g1 (c.bls _ h1) hv ha g3 g2 (Z08 h3) (back_all (star_any (pos:=p2) h4)).2
    |(cases f<;>cases hf)
  refine .plain c ?_ (λ_=>rfl) rfl
  refine hp.weak λσ H Q hw=>?_
  obtain⟨σm,M,rs,rh,hw⟩:=hw
  refine⟨σm,M,rs,rh,Z04 c.mon a (λv M1 q1=>?_) hw⟩
  intro u H1 k1 r1 rh1
  refine⟨σm,M1,rs.mono k1,rh1,mon_es c.mon es (λvs M2 q2=>?_) q1⟩
  intro us H2 k2 r2 rh2
  exact⟨v::vs,M2,.cons (r1.mono k2) r2,rh2,mon_bi f (λm M' hq=>hq.on (k1.trans k2)) q2⟩
 |.b2 f a,X,e,c,h=>by
  obtain⟨p,p',x,p2,p2',rfl,h1,h2,h3,h4,h5⟩:=inv_b2 h
  obtain⟨g1,g2,g3⟩:=gl_of h3
  obtain⟨k1,k2,k3⟩:=gl_of h4
  have hv:bootBuiltins (f.out:Str)=some f.outV:=by cases f<;>decide+kernel
  have hv':bootBuiltins (f.inn:Str)=some (.type f.inn):=by cases f<;>decide+kernel
  have hp:PE X (.Call (.Name (f.out:Str) p) [.Call (.Name (f.inn:Str) p') [x] [] p2'] [] p2) (λσ H Q=>liE X.K (wE Φ a) σ H λv H1=>li1 X.K (wB2 f) v H1 Q):=by
   have hc:=call_b2 (X:=X) c.calm f
   cases f with
   |lrng=>exact pe_call2T (p:=p) (p':=p') (pos:=p2) (pos':=p2') hc g1 (c.bls _ h1) hv k1 (c.bls _ h2) hv' (sE a c h5).pe g3 g2 k3 k2 (Z08 h5)
   |ssrt=>exact pe_call2 (p:=p) (p':=p') (pos:=p2) (pos':=p2') hc g1 (c.bls _ h1) hv k1 (c.bls _ h2) hv' (sE a c h5).pe g3 g2 k3 k2 (Z08 h5)
   |lset=>exact pe_call2 (p:=p) (p':=p') (pos:=p2) (pos':=p2') hc g1 (c.bls _ h1) hv k1 (c.bls _ h2) hv' (sE a c h5).pe g3 g2 k3 k2 (Z08 h5)
   |tset=>exact pe_call2 (p:=p) (p':=p') (pos:=p2) (pos':=p2') hc g1 (c.bls _ h1) hv k1 (c.bls _ h2) hv' (sE a c h5).pe g3 g2 k3 k2 (Z08 h5)
  refine .plain c ?_ (λ_=>rfl) rfl
  refine hp.weak λσ H Q hw=>?_
  obtain⟨σm,M,rs,rh,hw⟩:=hw
  refine⟨σm,M,rs,rh,Z04 c.mon a (λv M1 q1=>?_) hw⟩
  intro u H1 k1 r1 rh1
  exact⟨v,M1,r1,rh1,mon_b2 f (λm M' hq=>hq.on k1) q1⟩
 |.st3 a,X,e,c,h=>absurd h Y04
 |.mxd a,X,e,c,h=>absurd h Y04
 |.mt m o es,X,e,c,h=>by
  obtain⟨ob,ap,args,cp,rfl,h1,h2,h3,h4⟩:=inv_mt h
  have slot:PySem.Slot m.ty (m.name:Str) m.id/\typeOf (.builtin m.id)=pure (.type "method_descriptor"):=by
   cases m
   ·exact⟨PySem.F.slot_list_append,PySem.F.type_list_append⟩
   ·exact⟨PySem.F.slot_list_extend,PySem.F.type_list_extend⟩
   ·exact⟨PySem.F.slot_list_reverse,PySem.F.type_list_reverse⟩
   ·exact⟨PySem.F.slot_list_clear,PySem.F.type_list_clear⟩
   ·exact⟨Y3i,Y3j⟩
   ·exact⟨Y3i,Y3j⟩
   ·exact⟨PySem.F.slot_dict_clear,PySem.F.type_dict_clear⟩
   ·exact⟨Y3k,Y3l⟩
   ·exact⟨Y3k,Y3l⟩
   ·exact⟨Y3g,PySem.F.type_str_join⟩
   ·exact⟨PySem.F.slot_list_remove,PySem.F.type_list_remove⟩
  have plain:PlainAttrs m.ty:=by
   cases m<;>first|exact PySem.F.plainAttrs_list|exact PySem.F.plainAttrs_dict|exact PySem.F.plainAttrs_str
  have hu1:X.A.units+1<cLine:=by have:=c.room;lia
  have tyL:∀{H1:Hp} {M1:MH} {mx:MV} {v:V},RH X.K M1 H1->RM X.K H1 mx v->mtOk m mx M1->tyV X.K m.ty v H1:=by
   intro H1 M1 mx v rh r hm
   cases m
   case join=>
    obtain⟨z,rfl⟩:=hm
    cases r
    exact rfl
   case dclear|dget|dgetD=>
    obtain⟨a,kvs,rfl,hm⟩:=hm
    cases r
    obtain⟨vs,e,_⟩:=rh.dic hm
    exact .inr (.inr (.inl ⟨rfl,.inl ⟨vs,e⟩⟩))
   all_goals
    obtain⟨a,xs,rfl,hm⟩:=hm
    cases r
    obtain⟨vs,e,_⟩:=rh.lst hm
    exact .inl ⟨rfl,vs,SqL.of e⟩
  refine .plain c ?_ (λ_=>rfl) rfl
  cases args with
  |nil=>
   refine(pe_bm0 plain slot.1 slot.2 (mt_any hu1 m) (sE o c h2).pe (attr_base h2) h1).weak λσ H Q hw=>?_
   obtain⟨σm,M,rs,rh,hw⟩:=hw
   refine⟨σm,M,rs,rh,Z04 c.mon o (λv M1 ⟨q0,q1⟩=>?_) hw⟩
   intro u H1 k1 r1 rh1
   cases es with
   |cons _ _=>exact absurd h3 Y04
   |nil=>
    exact⟨tyL rh1 r1 q0,v,[],M1,r1,.nil,rh1,mon_mt (λm M' hq=>hq.on k1) q1⟩
  |cons x xs=>
   cases es with
   |nil=>cases inv_es_nil h3
   |cons a es=>
    have h3':=h3
    obtain⟨x',xs',e',h3⟩:=inv_es_cons h3
    cases e'
    have ha:=sA (.cons a es) c h3'
    have hall:=back_all (pos:=cp) (star_any (env:=X.env) (pos:=cp) h3')
    refine(pe_bm plain slot.1 slot.2 (mt_any hu1 m) (sE o c h2).pe ha (attr_base h2) ?_ h1 (Z08 h3.1) (back_all (star_any (pos:=cp) h3.2)).2).weak λσ H Q hw=>?_
    ·rw[hall.1]
     simp only[Bool.true_and,Y06,decide_eq_true_eq]
     refine⟨rfl,?_⟩
     simp at h4 ⊢
     lia
    obtain⟨σm,M,rs,rh,hw⟩:=hw
    refine⟨σm,M,rs,rh,Z04 c.mon o (λv M1 ⟨q0,q1⟩=>?_) hw⟩
    intro u H1 k1 r1 rh1
    refine⟨tyL rh1 r1 q0,σm,M1,rs.mono k1,rh1,mon_es c.mon (.cons a es) (λvs M2 q2=>?_) q1⟩
    intro us H2 k2 r2 rh2
    exact⟨v,vs,M2,r1.mono k2,r2,rh2,mon_mt (λm M' hq=>hq.on (k1.trans k2)) q2⟩
 |.comp own fr src tg test elt,X,e,c,h=>by
  obtain⟨x,t,it,ifs,scope,p,rfl,h1,h2,h3,h4,h5,h6,h7⟩:=inv_comp h
  refine .plain c ?_ (λ_=>rfl) rfl
  refine(pe_comp2 own fr (g:=gOf X.K tg) (te:=liE X.K (wE Φ elt)) (λe s h=>by rw[c.nox]at h;exact h) c.calm h1 (sSr src (tg:=t) c h4) (λC fp s₃ H₃=>sTg (X:=cxC X scope own fr C fp s₃ H₃) (lim:=own.length) (all:=false) c.calm h3 (λz=>by cases z) tg h5) (tt:=ttOf X.K Φ test) (λC fp s₃ H₃=>sI (X:=cxC X scope own fr C fp s₃ H₃) test (c.comp (compOk_of h1).kind h3) h6)
   (λC fp s₃ H₃=>(sE (X:=cxC X scope own fr C fp s₃ H₃) elt (c.comp (compOk_of h1).kind h3) h7).pe) (fold_set h2 _)).thaw.weak λσ H Q hw=>?_
  exact comp_read c.mon h5 hw
 |.fld cn o f,X,e,c,h=>absurd h Y04
 |.mcall j cn m o es,X,e,c,h=>absurd h Y04
 |.make j cn a es,X,e,c,h=>absurd h Y04
 |.disp ps,X,e,c,h=>absurd h Y04
theorem sP{G:GI}{Φ:List (Str×SpM)}:∀(ps:IPs) {X:Cx} {pos:Pos} {ks:List (Option Expr)} {vs:List Expr},Cok X G Φ->chkPs G ps X.env.scope X.N ks vs=true->PPs X pos ks vs (trOf X.K Φ ps)
 |.nil,X,pos,ks,vs,c,h=>by
  obtain⟨rfl,rfl⟩:=inv_ps_nil h
  exact pps_nil
 |.cons k v r,X,pos,ks,vs,c,h=>by
  obtain⟨x,ks',y,vs',rfl,rfl,h1,h2,h3⟩:=inv_ps_cons h
  exact pps_cons (sE k c h1).pe (sE v c h2).pe (sP r c h3)
theorem sA{G:GI}{Φ:List (Str×SpM)}:∀(ies:IEs) {X:Cx} {es:List Expr},Cok X G Φ->chkEs G ies X.env.scope X.N es=true->PA X es (liA X.K (wEs Φ ies))
 |.nil,X,es,c,h=>by
  cases es with
  |cons _ _=>cases inv_es_nil h
  |nil=>
   refine pa_nil.weak λσ H Q hw=>?_
   obtain⟨σm,M,rs,rh,hw⟩:=hw
   exact hw _ _ (Kp.refl _) .nil rh
 |.cons a as,X,es,c,h=>by
  cases es with
  |nil=>cases h
  |cons x xs=>
   obtain⟨x',xs',e',h⟩:=inv_es_cons h
   cases e'
   refine(Z0K (sE a c h.1).pe (sA as c h.2) (Z08 h.1)).weak λσ H Q hw=>?_
   have:wEs Φ (.cons a as)=λσ M Q=>wE Φ a σ M λv M1=>wEs Φ as σ M1 λvs M2=>Q (v::vs) M2:=rfl
   rw[this]at hw
   exact li_cons (te:=wE Φ a) (t:=wEs Φ as) (Z04 c.mon a) (mon_es c.mon as) hw
theorem sO{G:GI}{Φ:List (Str×SpM)}:∀(io:IO) {X:Cx} {e:Option Expr},Cok X G Φ->chkO G io X.env.scope X.N e=true->PO X e (liO X.K (wO Φ io))
 |.none,X,e,c,h=>by
  cases e with
  |some _=>cases inv_o_none h
  |none=>
   intro pins s σ H Q I hw
   refine po_none pins s σ H Q I ?_
   obtain⟨σm,M,rs,rh,hw⟩:=hw
   exact hw _ (Kp.refl _) rh
 |.some a,X,e,c,h=>by
  cases e with
  |none=>exact absurd h Y04
  |some x=>
   obtain⟨x',e',h⟩:=inv_o_some h
   cases e'
   intro pins s σ H Q I hw
   refine po_some (sE a c h).pe pins s σ H Q I ?_
   obtain⟨σm,M,rs,rh,hw⟩:=hw
   refine⟨σm,M,rs,rh,Z04 c.mon a (λv M1 ⟨i,e,q⟩=>?_) hw⟩
   subst e
   intro u H1 k1 r1 rh1
   cases r1
   exact⟨i,rfl,q H1 k1 rh1⟩
theorem sI{G:GI}{Φ:List (Str×SpM)}:∀(io:IO) {X:Cx} {es:List Expr},Cok X G Φ->chkI G io X.env.scope X.N es=true->PTs X es (ttOf X.K Φ io)
 |.none,X,es,c,h=>by
  cases es with
  |cons _ _=>cases inv_i_none h
  |nil=>exact .inl ⟨rfl,rfl⟩
 |.some a,X,es,c,h=>by
  obtain⟨x,rfl,h1,h2⟩:=inv_i_some h
  exact .inr ⟨x,rfl,(sE a c h2).pt h1⟩
theorem sSr{G:GI}{Φ:List (Str×SpM)}:∀(s:ISr) {X:Cx} {tg e:Expr},Cok X G Φ->chkSr G s X.env.scope X.N e=true->PI X tg e (liSr X (wSr Φ s))
 |.seq a,X,tg,e,c,h=>by
  refine(pi_seqS (sE a c h).pe).weak λσ H R hw=>?_
  obtain⟨σm,M,rs,rh,hw⟩:=hw
  refine⟨σm,M,rs,rh,Z04 c.mon a (λv M1 q=>?_) hw⟩
  intro u H1 k1 r1 rh1
  rcases q with⟨xs,e,q⟩|⟨b,xs,e,hb,q⟩|⟨b,kvs,e,hb,q⟩|⟨z,e,q⟩
  ·rcases e with e|e
   ·subst e
    cases r1 with
    |tup h1 q1=>exact .inl ⟨_,rfl,.inr (.inl ⟨_,SqT.of h1,q _ _ k1 rh1 (.inl ⟨_,_,h1,q1,rfl⟩)⟩)⟩
   ·subst e
    cases r1 with
    |frl h1 q1=>exact .inl ⟨_,rfl,.inl ⟨_,h1.sq,q _ _ k1 rh1 (.inr ⟨_,_,h1,q1,rfl⟩)⟩⟩
  ·subst e
   cases r1
   obtain⟨vs,e2,_⟩:=rh1.lst hb
   exact .inl ⟨_,rfl,.inl ⟨_,SqL.of e2,q _ _ k1 rh1 rfl⟩⟩
  ·subst e
   cases r1
   obtain⟨vs,e2,r2,nd⟩:=rh1.dic hb
   refine .inl ⟨_,rfl,.inr (.inr ⟨vs,e2,λo nf=>?_⟩)⟩
   have k:=Kp.upd e2 rfl (.frz o (.dK vs))
   exact q o _ _ (k1.trans k) (rh1.put k (o:=.fdic o kvs) ⟨rfl,r2.mono k,nd⟩) ⟨rfl,nf⟩
  ·subst e
   cases r1
   exact .inr ⟨z,rfl,q _ _ k1 rh1 rfl⟩
 |.rng a,X,tg,e,c,h=>by
  obtain⟨p,x,p2,rfl,h2,h3,h4⟩:=inv_rng h
  refine(pi_range1 (gl_of h3).1 (c.bls _ h2) (Z0K (sE a c h4).pe pa_nil (Z08 h4)) (Z08 h4)).weak λσ H R hw=>?_
  obtain⟨σm,M,rs,rh,hw⟩:=hw
  refine⟨σm,M,rs,rh,Z04 c.mon a (λv M1 ⟨j,e,q1,q2,q⟩=>?_) hw⟩
  subst e
  intro u H1 k1 r1 rh1
  cases r1
  exact⟨j,rfl,q1,q2,q _ _ k1 rh1 rfl⟩
 |.rng2 a b,X,tg,e,c,h=>by
  obtain⟨p,x,y,p2,rfl,h2,h3,h4,h5⟩:=inv_rng2 h
  refine(pi_range2 (gl_of h3).1 (c.bls _ h2) (Z0K (sE a c h4).pe (Z0K (sE b c h5).pe pa_nil (Z08 h5)) (Z08 h4)) (by rw[Z08 h4,Z08 h5];rfl) (Z08 h5)).weak λσ H R hw=>?_
  obtain⟨σm,M,rs,rh,hw⟩:=hw
  refine⟨σm,M,rs,rh,Z04 c.mon a (λv M1 q1=>?_) hw⟩
  intro u H1 k1 r1 rh1
  refine⟨σm,M1,rs.mono k1,rh1,Z04 c.mon b (λw M2 ⟨i,j,e1,e2,hb,q⟩=>?_) q1⟩
  subst e1 e2
  intro u2 H2 k2 r2 rh2
  cases r1
  cases r2
  exact⟨i,j,rfl,hb,q _ _ (k1.trans k2) rh2 rfl⟩
 |.rng3 a b d,X,tg,e,c,h=>by
  obtain⟨p,x,y,z,p2,rfl,h2,h3,h4,h5,h6⟩:=inv_rng3 h
  refine(pi_range3 (gl_of h3).1 (c.bls _ h2) (Z0K (sE a c h4).pe (Z0K (sE b c h5).pe (Z0K (sE d c h6).pe pa_nil (Z08 h6)) (Z08 h5)) (Z08 h4)) (by rw[Z08 h4,Z08 h5,Z08 h6];rfl) (by rw[Z08 h5,Z08 h6];rfl)).weak λσ H R hw=>?_
  obtain⟨σm,M,rs,rh,hw⟩:=hw
  refine⟨σm,M,rs,rh,Z04 c.mon a (λv M1 q1=>?_) hw⟩
  intro u H1 k1 r1 rh1
  refine⟨σm,M1,rs.mono k1,rh1,Z04 c.mon b (λw M2 q2=>?_) q1⟩
  intro u2 H2 k2 r2 rh2
  refine⟨σm,M2,rs.mono (k1.trans k2),rh2,Z04 c.mon d (λw2 M3 ⟨i,j,e1,e2,e3,hb,q⟩=>?_) q2⟩
  subst e1 e2 e3
  intro u3 H3 k3 r3 rh3
  cases r1
  cases r2
  cases r3
  exact⟨i,j,rfl,hb,q _ _ (k1.trans (k2.trans k3)) rh3 rfl⟩
end
end L2
namespace L2
set_option genInjectivity false
open PySem PySem.Spec PyProof.Rows
mutual
inductive IS where
 |pass|brk|cnt|never
 |ret (e:IE)|retN
 |set (i:Nat) (e:IE)
 |asg (t:ITgs) (e:IE)
 |put (o i e:IE)
 |fset (c:Str) (o:IE) (f:Str) (e:IE)
 |expr (e:IE)
 |ite (c:IE) (a b:ISs)
 |for_ (t:ITg) (s:ISr) (b:ISs)
 |while_ (c:IE) (b:ISs)
inductive ISs where|nil|cons (s:IS) (r:ISs)
end
structure EndM where
 nx:Sm->MH->Prop
 rt:QM
 bk:Sm->MH->Prop:=λ_ _=>False
 ct:Sm->MH->Prop:=λ_ _=>False
mutual
noncomputable def wS(Φ:List (Str×SpM)):IS->EndM->Sm->MH->Prop
 |.pass,D,σ,M=>D.nx σ M
 |.brk,D,σ,M=>D.bk σ M
 |.cnt,D,σ,M=>D.ct σ M
 |.never,_,_,_=>False
 |.ret e,D,σ,M=>wE Φ e σ M D.rt
 |.retN,D,_,M=>D.rt .non M
 |.set i e,D,σ,M=>wE Φ e σ M λv M1=>D.nx (σ.set i (some v)) M1
 |.asg t e,D,σ,M=>wE Φ e σ M λv M1=>∃xs,v=.tup xs/\wTgs t xs σ λσ'=>D.nx σ' M1
 |.put o i e,D,σ,M=>wE Φ e σ M λv M1=>wE Φ o σ M1 λx M2=>wE Φ i σ M2 λy M3=>wPut x y v M3 λM4=>D.nx σ M4
 |.fset c o f e,D,σ,M=>wE Φ e σ M λv M1=>wE Φ o σ M1 λx M2=>∃a fs,x=.ref a/\M2 a=some (.ins c fs)/\fs.length<1000/\D.nx σ (updM M2 a (.ins c (putM fs f v)))
 |.expr e,D,σ,M=>wE Φ e σ M λ_ M1=>D.nx σ M1
 |.ite c a b,D,σ,M=>wE Φ c σ M λx M1=>onB x λk=>(if k=true then wSs Φ a D σ M1 else wSs Φ b D σ M1)
 |.for_ t s b,D,σ,M=>wSr Φ s σ M λS M1=>∃J:Nat->Sm->MH->Prop,J 0 σ M1/\(∀i σ M,J i σ M->S.ok M)/\
   (∀i x σ M,S.items[i]?=some x->J i σ M->wTg t x σ λσ2=>wSs Φ b {nx:=J (i+1),rt:=λv M=>S.okT M/\D.rt v (S.thaw M),bk:=λσ M=>S.okT M/\D.nx σ (S.thaw M),ct:=J (i+1)} σ2 M)/\∀σ M,J S.len σ M->D.nx σ (S.thaw M)
 |.while_ c b,D,σ,M=>∃J:Nat->Sm->MH->Prop,(∃m,J m σ M)/\∀m σ M,J m σ M->wE Φ c σ M λx M1=>∃k,x=.bl k/\
   (if k=true then wSs Φ b {nx:=λσ' M'=>∃m',m'<m/\J m' σ' M',rt:=D.rt,bk:=D.nx,ct:=λσ' M'=>∃m',m'<m/\J m' σ' M'} σ M1 else D.nx σ M1)
noncomputable def wSs(Φ:List (Str×SpM)):ISs->EndM->Sm->MH->Prop
 |.nil,D,σ,M=>D.nx σ M
 |.cons s r,D,σ,M=>wS Φ s {nx:=λσ M=>wSs Φ r D σ M,rt:=D.rt,bk:=D.bk,ct:=D.ct} σ M
end
theorem x_ite{Φ:List (Str×SpM)}{c:IE}{a b:ISs}{D:EndM}{σ:Sm}{M:MH}:wS Φ (.ite c a b) D σ M=wE Φ c σ M λx M1=>∃k,x=.bl k/\(if k=true then wSs Φ a D σ M1 else wSs Φ b D σ M1):=by rw[wS];simp only[onB_ex]
structure EndM.Le (D D':EndM):Prop where
 nx:∀σ M,D.nx σ M->D'.nx σ M
 rt:∀v M,D.rt v M->D'.rt v M
 bk:∀σ M,D.bk σ M->D'.bk σ M
 ct:∀σ M,D.ct σ M->D'.ct σ M
mutual
theorem mon_s{Φ:List (Str×SpM)}(hΦ:∀(j:Nat) f sp,Φ[j]?=some (f,sp)->MonW sp):∀(s:IS) {D D':EndM} {σ:Sm} {M:MH},D.Le D'->wS Φ s D σ M->wS Φ s D' σ M
 |.pass,D,D',σ,M,l,h=>by exact l.nx _ _ h
 |.brk,D,D',σ,M,l,h=>by exact l.bk _ _ h
 |.cnt,D,D',σ,M,l,h=>by exact l.ct _ _ h
 |.never,D,D',σ,M,l,h=>h.elim
 |.ret e,D,D',σ,M,l,h=>by exact Z04 hΦ e l.rt h
 |.retN,D,D',σ,M,l,h=>by exact l.rt _ _ h
 |.set i e,D,D',σ,M,l,h=>by exact Z04 hΦ e (λv M1 h1=>l.nx _ _ h1) h
 |.asg t e,D,D',σ,M,l,h=>by exact Z04 hΦ e (λv M1 ⟨xs,e,h1⟩=>⟨xs,e,mon_tgs t (λσ' h2=>l.nx _ _ h2) h1⟩) h
 |.put o i e,D,D',σ,M,l,h=>by
  exact Z04 hΦ e (λv M1 h1=>Z04 hΦ o (λx M2 h2=>Z04 hΦ i (λy M3 h3=>mon_put (λM4 h4=>l.nx _ _ h4) h3) h2) h1) h
 |.fset c o f e,D,D',σ,M,l,h=>by
  exact Z04 hΦ e (λv M1 h1=>Z04 hΦ o (λx M2 ⟨a,fs,e1,e2,e3,h2⟩=>⟨a,fs,e1,e2,e3,l.nx _ _ h2⟩) h1) h
 |.expr e,D,D',σ,M,l,h=>by exact Z04 hΦ e (λv M1 h1=>l.nx _ _ h1) h
 |.ite c a b,D,D',σ,M,l,h=>by
  rw[x_ite]at h ⊢
  exact Z04 hΦ c (λx M1 ⟨k,e,h1⟩=>⟨k,e,Z19 (mon_ss hΦ a l) (mon_ss hΦ b l) h1⟩) h
 |.for_ t s b,D,D',σ,M,l,h=>by
  refine mon_sr hΦ s (λS M1 ⟨J,j0,j1,j2,j3⟩=>⟨J,j0,j1,λi x σ M hx hj=>?_,λσ M hj=>l.nx _ _ (j3 σ M hj)⟩) h
  exact mon_tg t (λσ2 h2=>by refine mon_ss hΦ b ?_ h2;exact⟨λ_ _ z=>z,λ_ _ z=>⟨z.1,l.rt _ _ z.2⟩,λ_ _ z=>⟨z.1,l.nx _ _ z.2⟩,λ_ _ z=>z⟩) (j2 i x σ M hx hj)
 |.while_ c b,D,D',σ,M,l,h=>by
  obtain⟨J,j0,j1⟩:=h
  refine⟨J,j0,λm σ M hj=>Z04 hΦ c (λx M1 ⟨k,e,h1⟩=>⟨k,e,Z19 (λz=>by refine mon_ss hΦ b ?_ z;exact⟨λ_ _ z=>z,l.rt,l.nx,λ_ _ z=>z⟩) (l.nx _ _) h1⟩) (j1 m σ M hj)⟩
theorem mon_ss{Φ:List (Str×SpM)}(hΦ:∀(j:Nat) f sp,Φ[j]?=some (f,sp)->MonW sp):∀(s:ISs) {D D':EndM} {σ:Sm} {M:MH},D.Le D'->wSs Φ s D σ M->wSs Φ s D' σ M
 |.nil,D,D',σ,M,l,h=>by exact l.nx _ _ h
 |.cons s r,D,D',σ,M,l,h=>by
  refine mon_s hΦ s ?_ h
  exact⟨λσ M h1=>mon_ss hΦ r l h1,l.rt,l.bk,l.ct⟩
end
noncomputable def notTup:Expr->Bool
 |.Tuple ..=>false|_=>true
noncomputable def notComp:Expr->Bool
 |.ListComp ..=>false|.SetComp ..=>false|.DictComp ..=>false|_=>true
noncomputable def asRet:Stmt->Option (Option Expr)|.Return v _=>some v|_=>none
noncomputable def asAsg:Stmt->Option (List Expr×Expr)|.Assign ts v _=>some (ts,v)|_=>none
noncomputable def asEx:Stmt->Option Expr|.Expr v _=>some v|_=>none
noncomputable def asIfS:Stmt->Option (Expr×List Stmt×List Stmt)|.If t x y _=>some (t,x,y)|_=>none
noncomputable def asFor:Stmt->Option (Expr×Expr×List Stmt×List Stmt)|.For t i b r _=>some (t,i,b,r)|_=>none
section
variable{e:Stmt}
theorem asRet_of{x:Option Expr}(h:asRet e=some x):∃p,e=.Return x p:=by cases e<;>cases h;exact⟨_,rfl⟩
theorem asAsg_of{x:List Expr×Expr}(h:asAsg e=some x):∃p,e=.Assign x.1 x.2 p:=by cases e<;>cases h;exact⟨_,rfl⟩
theorem asEx_of{x:Expr}(h:asEx e=some x):∃p,e=.Expr x p:=by cases e<;>cases h;exact⟨_,rfl⟩
theorem asIfS_of{x:Expr×List Stmt×List Stmt}(h:asIfS e=some x):∃p,e=.If x.1 x.2.1 x.2.2 p:=by cases e<;>cases h;exact⟨_,rfl⟩
theorem asFor_of{x:Expr×Expr×List Stmt×List Stmt}(h:asFor e=some x):∃p,e=.For x.1 x.2.1 x.2.2.1 x.2.2.2 p:=by cases e<;>cases h;exact⟨_,rfl⟩
end
mutual
noncomputable def chkS(G:GI)(sc:Scope)(N:List Str):IS->Stmt->Bool
 |.pass,_=>false
 |.brk,_=>false
 |.cnt,_=>false
 |.never,_=>true
 |.ret e,s=>(asRet s).any λo=>o.any λx=>chkE G e sc N x
 |.retN,_=>false
 |.set i e,s=>(asAsg s).any λq=>(the1 q.1).any λt=>(Z15 t).any λx=>decide (N[i]?=some x)&&locB sc x&&chkE G e sc N q.2
 |.asg t e,s=>(asAsg s).any λq=>(the1 q.1).any λg=>(asTup g).any λes=>chkTgs sc N N.length true t es&&chkE G e sc N q.2&&notTup q.2
 |.put o i e,_=>false
 |.fset c o f e,_=>false
 |.expr e,s=>(asEx s).any λv=>chkE G e sc N v&&notComp v
 |.ite c a b,s=>(asIfS s).any λq=>tok c&&chkE G c sc N q.1&&chkSs G sc N a q.2.1&&chkSs G sc N b q.2.2
 |.for_ t r b,s=>(asFor s).any λq=>chkTg sc N N.length true t q.1&&chkSr G r sc N q.2.1&&notSet q.2.1&&chkSs G sc N b q.2.2.1&&non0 q.2.2.2
 |.while_ c b,_=>false
noncomputable def chkSs(G:GI)(sc:Scope)(N:List Str):ISs->List Stmt->Bool
 |.nil,l=>non0 l
 |.cons s r,l=>(hd1 l).any λq=>chkS G sc N s q.1&&chkSs G sc N r q.2
end
noncomputable def liD(K:Y00)(H:Hp)(D:Ends):EndM where
 nx:=λσm M=>∀σ H',Kp H H'->RS K H' σm σ->RH K M H'->D.nx σ H'
 rt:=Dn K H D.rt
 bk:=λσm M=>∀σ H',Kp H H'->RS K H' σm σ->RH K M H'->D.bk σ H'
 ct:=λσm M=>∀σ H',Kp H H'->RS K H' σm σ->RH K M H'->D.ct σ H'
theorem liD.on{K:Y00}{H H1:Hp}{D:Ends}(k:Kp H H1):(liD K H D).Le (liD K H1 D):=
 ⟨λ_ _ h σ H' k'=>h σ H' (k.trans k'),λ_ _ h=>h.on k,λ_ _ h σ H' k'=>h σ H' (k.trans k'),λ_ _ h σ H' k'=>h σ H' (k.trans k')⟩
noncomputable def liSt(K:Y00)(t:EndM->Sm->MH->Prop):TS:=λD σ H=>∃σm M,RS K H σm σ/\RH K M H/\t (liD K H D) σm M
theorem swap_name{e:Expr}{x:Str}{p:Pos}{ln:Nat}{env:Env}(h:notComp e=true):swapsWith e (some (.Name x p)) ln env=pure false:=by cases e<;>first|rfl|cases h
theorem swap_none{e:Expr}{ln:Nat}{env:Env}(h:notComp e=true):swapsWith e none ln env=pure false:=by cases e<;>first|rfl|cases h
theorem swap_tup{e:Expr}{es:List Expr}{k:Nat}{p:Pos}{ln:Nat}{env:Env}:swapsWith e (some (.Tuple es k p)) ln env=pure false:=by cases e<;>rfl
theorem swap_comp{elt:Expr}{gs:List Comprehension}{scope:Scope}{pos p:Pos}{x:Str}{ln:Nat}{env:Env}:∃b:Bool,swapsWith (.ListComp elt gs scope pos) (some (.Name x p)) ln env=pure b:=⟨_,rfl⟩
theorem comp_of{G:GI}{ie:IE}{sc:Scope}{N:List Str}{e:Expr}(h:chkE G ie sc N e=true):notComp e=true\/∃own fr src tg test elt,ie=.comp own fr src tg test elt:=by
 cases e<;>first
  |exact .inl rfl
  |(cases ie<;>first
    |exact .inr ⟨_,_,_,_,_,_,rfl⟩
    |exact absurd h Y04)
section
variable{G:GI}{sc:Scope}{N:List Str}{st:Stmt}
theorem invS_ret{e:IE}(h:chkS G sc N (.ret e) st=true):∃x p,st=.Return (some x) p/\chkE G e sc N x=true:=by
 replace h:=Z02 h
 obtain⟨o,h1,h⟩:=h
 obtain⟨p,rfl⟩:=asRet_of h1
 replace h:=Z02 h
 obtain⟨x,rfl,h⟩:=h
 exact⟨x,p,rfl,h⟩
theorem invS_set{i:Nat}{e:IE}(h:chkS G sc N (.set i e) st=true):∃x px v p,st=.Assign [.Name x px] v p/\N[i]?=some x/\locB sc x=true/\chkE G e sc N v=true:=by
 replace h:=Z02 h
 obtain⟨⟨ts,v⟩,h1,h⟩:=h
 obtain⟨p,rfl⟩:=asAsg_of h1
 replace h:=Z02 h
 obtain⟨t,h2,h⟩:=h
 obtain rfl:=Z1W h2
 replace h:=Z02 h
 obtain⟨x,h3,h⟩:=h
 obtain⟨px,rfl⟩:=Z0c h3
 replace h:=Z03 h
 obtain⟨h,h6⟩:=h
 replace h:=Z03 h
 obtain⟨h4,h5⟩:=h
 exact⟨x,px,v,p,rfl,Z06 h4,h5,h6⟩
theorem invS_asg{t:ITgs}{e:IE}(h:chkS G sc N (.asg t e) st=true):∃es k pt v p,st=.Assign [.Tuple es k pt] v p/\chkTgs sc N N.length true t es=true/\chkE G e sc N v=true/\notTup v=true:=by
 replace h:=Z02 h
 obtain⟨⟨ts,v⟩,h1,h⟩:=h
 obtain⟨p,rfl⟩:=asAsg_of h1
 replace h:=Z02 h
 obtain⟨g,h2,h⟩:=h
 obtain rfl:=Z1W h2
 replace h:=Z02 h
 obtain⟨es,h3,h⟩:=h
 obtain⟨k,pt,rfl⟩:=asTup_of h3
 replace h:=Z03 h
 obtain⟨h,h6⟩:=h
 replace h:=Z03 h
 obtain⟨h4,h5⟩:=h
 exact⟨es,k,pt,v,p,rfl,h4,h5,h6⟩
theorem invS_expr{e:IE}(h:chkS G sc N (.expr e) st=true):∃v p,st=.Expr v p/\chkE G e sc N v=true/\notComp v=true:=by
 replace h:=Z02 h
 obtain⟨v,h1,h⟩:=h
 obtain⟨p,rfl⟩:=asEx_of h1
 exact⟨v,p,rfl,Z03 h⟩
theorem invS_ite{c:IE}{a b:ISs}(h:chkS G sc N (.ite c a b) st=true):∃t x y p,st=.If t x y p/\tok c=true/\chkE G c sc N t=true/\chkSs G sc N a x=true/\chkSs G sc N b y=true:=by
 replace h:=Z02 h
 obtain⟨⟨t,x,y⟩,h1,h⟩:=h
 obtain⟨p,rfl⟩:=asIfS_of h1
 replace h:=Z03 h
 obtain⟨h,h5⟩:=h
 replace h:=Z03 h
 obtain⟨h,h4⟩:=h
 replace h:=Z03 h
 obtain⟨h2,h3⟩:=h
 exact⟨t,x,y,p,rfl,h2,h3,h4,h5⟩
theorem invS_for{t:ITg}{s:ISr}{b:ISs}(h:chkS G sc N (.for_ t s b) st=true):∃tg it body p,st=.For tg it body [] p/\chkTg sc N N.length true t tg=true/\chkSr G s sc N it=true/\notSet it=true/\chkSs G sc N b body=true:=by
 replace h:=Z02 h
 obtain⟨⟨tg,it,body,els⟩,h1,h⟩:=h
 obtain⟨p,rfl⟩:=asFor_of h1
 replace h:=Z03 h
 obtain⟨h,h6⟩:=h
 replace h:=Z03 h
 obtain⟨h,h5⟩:=h
 replace h:=Z03 h
 obtain⟨h,h4⟩:=h
 replace h:=Z03 h
 obtain⟨h2,h3⟩:=h
 obtain rfl:=Z0s h6
 exact⟨tg,it,body,p,rfl,h2,h3,h4,h5⟩
theorem invSs_nil{sts:List Stmt}(h:chkSs G sc N .nil sts=true):sts=[]:=by
 exact Z0s h
theorem invSs_cons{s:IS}{r:ISs}{sts:List Stmt}(h:chkSs G sc N (.cons s r) sts=true):∃x xs,sts=x::xs/\chkS G sc N s x=true/\chkSs G sc N r xs=true:=by
 replace h:=Z02 h
 obtain⟨⟨x,xs⟩,h1,h⟩:=h
 exact⟨x,xs,hd1_of h1,Z03 h⟩
end
mutual
theorem sS{G:GI}{Φ:List (Str×SpM)}:∀(is:IS) {X:Cx} {st:Stmt},Cok X G Φ->(∀x,X.fn x=true)->chkS G X.env.scope X.N is st=true->PS X st (liSt X.K (wS Φ is))
 |.pass,X,st,c,hf,h=>absurd h Y04
 |.brk,X,st,c,hf,h=>absurd h Y04
 |.cnt,X,st,c,hf,h=>absurd h Y04
 |.never,X,st,c,hf,h=>by
  refine ps_never.weak λD σ H hw=>?_
  obtain⟨σm,M,rs,rh,hw⟩:=hw
  exact hw
 |.ret e,X,st,c,hf,h=>by
  obtain⟨v,p,rfl,h⟩:=invS_ret h
  refine(ps_ret (sE e c h).pe).weak λD σ H hw=>?_
  obtain⟨σm,M,rs,rh,hw⟩:=hw
  exact⟨σm,M,rs,rh,hw⟩
 |.retN,X,st,c,hf,h=>absurd h Y04
 |.set i e,X,st,c,hf,h=>by
   obtain⟨x,px,v,p,rfl,h1,h2,h3⟩:=invS_set h
   have rd:∀D σ H,liSt X.K (wS Φ (.set i e)) D σ H->liE X.K (wE Φ e) σ H λv H1=>D.nx (σ.set i (some v)) H1:=λD σ H hw=>by
    obtain⟨σm,M,rs,rh,hw⟩:=hw
    refine⟨σm,M,rs,rh,Z04 c.mon e (λv M1 q=>?_) hw⟩
    intro u H1 k1 r1 rh1
    exact q _ _ k1 ((rs.mono k1).set r1 i) rh1
   rcases comp_of h3 with hn|⟨own,fr,src,tg,test,elt,rfl⟩
   ·exact(ps_set c.nd h1 (loc_of h2) (sE e c h3).pe (swap_name hn) (.inl (hf _))).weak rd
   ·obtain⟨y,t,it,ifs,scope,p3,rfl,i1,i2,i3,i4,i5,i6,i7⟩:=inv_comp h3
    obtain⟨b,hb⟩:=swap_comp (elt:=y) (gs:=[⟨t,it,ifs,0⟩]) (scope:=scope) (pos:=p3) (p:=px) (x:=x) (ln:=p.line) (env:=X.env)
    cases b with
    |false=>exact(ps_set c.nd h1 (loc_of h2) (sE _ c h3).pe hb (.inl (hf _))).weak rd
    |true=>
     refine(ps_setcomp2 own fr (g:=gOf X.K tg) (te:=liE X.K (wE Φ elt)) (tt:=ttOf X.K Φ test) c.nd h1 (loc_of h2) (λe s h=>by rw[c.nox]at h;exact h) c.calm i1 (sSr src (tg:=t) c i4)
      (λC fp s₃ H₃=>sTg (X:=cxC X scope own fr C fp s₃ H₃) (lim:=own.length) (all:=false) c.calm i3 (λz=>by cases z) tg i5) (λC fp s₃ H₃=>sI (X:=cxC X scope own fr C fp s₃ H₃) test (c.comp (compOk_of i1).kind i3) i6)
      (λC fp s₃ H₃=>(sE (X:=cxC X scope own fr C fp s₃ H₃) elt (c.comp (compOk_of i1).kind i3) i7).pe) hb (fold_set i2 _) (.inl (hf _))).thaw.weak λD σ H hw=>?_
     exact comp_read c.mon i5 (rd D σ H hw)
 |.asg t e,X,st,c,hf,h=>by
   obtain⟨es,k,pt,v,p,rfl,h1,h2,h3⟩:=invS_asg h
   have hT:chkTg X.env.scope X.N X.N.length true (.tup t) (.Tuple es k pt)=true:=h1
   refine(ps_asg (sE e c h2).pe (sTg (lim:=X.N.length) (all:=true) c.calm c.nd (λ_=>hf) (.tup t) hT) (swap_tup (e:=v) (es:=es) (k:=k) (p:=pt) (ln:=p.line) (env:=X.env)) (by cases v<;>first|rfl|cases h3) rfl).weak λD σ H hw=>?_
   obtain⟨σm,M,rs,rh,hw⟩:=hw
   refine⟨σm,M,rs,rh,Z04 c.mon e (λv M1 ⟨xs,e,q⟩=>?_) hw⟩
   intro u H1 k1 r1 rh1
   refine tg_ok (Ψ:=λ_=>True) (lim:=X.N.length) (λ_ _ _ _ z=>z) (.tup t) hT r1 (rs.mono k1) trivial (P:=λσ'=>(liD X.K H D).nx σ' M1) ⟨xs,e,q⟩ λσm' σ' q' rs' _=>?_
   exact q' _ _ k1 rs' rh1
 |.put o i e,X,st,c,hf,h=>absurd h Y04
 |.fset cn o f e,X,st,c,hf,h=>absurd h Y04
 |.expr e,X,st,c,hf,h=>by
  obtain⟨v,p,rfl,h1,h2⟩:=invS_expr h
  refine(ps_expr (sE e c h1).pe (swap_none h2)).weak λD σ H hw=>?_
  obtain⟨σm,M,rs,rh,hw⟩:=hw
  refine⟨σm,M,rs,rh,Z04 c.mon e (λv M1 q=>?_) hw⟩
  intro u H1 k1 r1 rh1
  exact q _ _ k1 (rs.mono k1) rh1
 |.ite d a b,X,st,c,hf,h=>by
  obtain⟨t,x,y,p,rfl,h1,h2,h3,h4⟩:=invS_ite h
  refine(ps_if ((sE d c h2).pt h1) (sSs a c hf h3) (sSs b c hf h4)).weak λD σ H hw=>?_
  obtain⟨σm,M,rs,rh,hw⟩:=hw
  rw[x_ite]at hw
  refine⟨σm,M,rs,rh,Z04 c.mon d (λx M1 ⟨k,e,q⟩=>⟨k,e,λH1 k1 rh1=>?_⟩) hw⟩
  exact Z19 (λq=>⟨σm,M1,rs.mono k1,rh1,mon_ss c.mon a (liD.on k1) q⟩) (λq=>⟨σm,M1,rs.mono k1,rh1,mon_ss c.mon b (liD.on k1) q⟩) q
 |.for_ t s b,X,st,c,hf,h=>by
   obtain⟨tg,it,body,p,rfl,h1,h2,h3,h4⟩:=invS_for h
   refine(ps_for (by rw[c.nox];exact PassesOwn.never) c.calm (sSr s (tg:=tg) c h2) (sTg (lim:=X.N.length) (all:=true) c.calm c.nd (λ_=>hf) t h1) (sSs b c hf h4) (fold_set h3 _)).thaw.weak λD σ H hw=>?_
   obtain⟨σm,M,rs,rh,hw⟩:=hw
   refine⟨σm,M,rs,rh,mon_sr c.mon s (λS M1 ⟨J,j0,j1,j2,j3⟩=>?_) hw⟩
   intro I H1 k1 rh1 sit
   refine⟨λi m σ' H'=>m=S.len - i/\i≤S.len/\Kp H1 H'/\∃σm' M',RS X.K H' σm' σ'/\RH X.K M' H'/\J i σm' M',⟨_,rfl,Y1x _,Kp.refl _,σm,M1,rs.mono k1,rh1,j0⟩,?_⟩
   rintro i m σ2 H2 ⟨rfl,hi,k2,σm2,M2,rs2,rh2,hj⟩
   obtain⟨goes,stops⟩:=src_turn sit k2 rh2 (j1 i σm2 M2 hj)
   by_cases hlt:i<S.len
   ·obtain⟨go,yld⟩:=goes i hlt
    refine .inr ⟨go,λσ' H'=>Kp H1 H'/\∃σm' M',RS X.K H' σm' σ'/\RH X.K M' H'/\J (i+1) σm' M',λσ' H' ⟨a,z⟩=>⟨S.len - (i+1),by lia,rfl,hlt,a,z⟩,λx H' y=>?_⟩
    obtain⟨e,m,hm,rm⟩:=yld x H' y
    subst e
    refine tg_ok (Ψ:=λ_=>True) (lim:=X.N.length) (λ_ _ _ _ z=>z) t h1 rm rs2 trivial (j2 i m σm2 M2 hm hj) λσm3 σ3 q rs3 _=>?_
    refine⟨σm3,M2,rs3,rh2,?_⟩
    refine mon_ss c.mon b ?_ q
    refine⟨λσ' M' z σv H3 k3 rs' rh'=>⟨k2.trans k3,σ',M',rs',rh',z⟩,λv M' z u H3 k3 r3 rh'=>?_,λσ' M' z σv H3 k3 rs' rh'=>?_,λσ' M' z σv H3 k3 rs' rh'=>⟨k2.trans k3,σ',M',rs',rh',z⟩⟩
    ·obtain⟨H4,th,k4,rh4⟩:=src_thaw sit rh' z.1
     exact⟨H4,th,z.2 u H4 (k1.trans (k2.trans (k3.trans k4))) (r3.mono k4) rh4⟩
    ·obtain⟨H4,th,k4,rh4⟩:=src_thaw sit rh' z.1
     exact⟨H4,th,z.2 σv H4 (k1.trans (k2.trans (k3.trans k4))) (rs'.mono k4) rh4⟩
   ·have e:i=S.len:=by lia
    subst e
    obtain⟨H4,th,k4,rh4⟩:=src_thaw sit rh2 (ok_okT (j1 _ σm2 M2 hj))
    exact .inl ⟨stops _ (Y09 _),H4,th,j3 σm2 M2 hj _ _ (k1.trans (k2.trans k4)) (rs2.mono k4) rh4⟩
 |.while_ d b,X,st,c,hf,h=>absurd h Y04
theorem sSs{G:GI}{Φ:List (Str×SpM)}:∀(is:ISs) {X:Cx} {sts:List Stmt},Cok X G Φ->(∀x,X.fn x=true)->chkSs G X.env.scope X.N is sts=true->PSs X sts (liSt X.K (wSs Φ is))
 |.nil,X,sts,c,hf,h=>by
   cases invSs_nil h
   refine pss_nil.weak λD σ H hw=>?_
   obtain⟨σm,M,rs,rh,hw⟩:=hw
   exact hw σ H (Kp.refl _) rs rh
 |.cons s r,X,sts,c,hf,h=>by
   obtain⟨x,xs,rfl,h1,h2⟩:=invSs_cons h
   refine(pss_cons (sS s c hf h1) (sSs r c hf h2)).weak λD σ H hw=>?_
   obtain⟨σm,M,rs,rh,hw⟩:=hw
   refine⟨σm,M,rs,rh,?_⟩
   refine mon_s c.mon s ?_ hw
   refine⟨λσ' M' z σv H1 k1 rs' rh'=>?_,λv M' z=>z,λσ' M' z=>z,λσ' M' z=>z⟩
   exact⟨σ',M',rs',rh',mon_ss c.mon r (liD.on k1) z⟩
end
end L2
namespace L2
open PySem PySem.Spec PyProof.Rows
structure Fts (P:Program) (w:World) (K:Y00) (mg:Str->Option Value) (base:Heap) (k:Nat) (G:GI) (Φ:List (Str×SpM)):Prop where
 bls:∀x,G.bl.contains x=true->mg x=none
 gls:∀x i,G.gl.lookup x=some i->∃tk,mg x=some (.int i tk)
 fnn:∀(j:Nat) f,G.fns[j]?=some f->∃sp,Φ[j]?=some (f,sp)
 mon:∀(j:Nat) f sp,Φ[j]?=some (f,sp)->MonW sp
 fns:∀(j:Nat) f sp,G.fns[j]?=some f->Φ[j]?=some (f,sp)->∃fa fd ps,FnOk P w K mg base CX0 k fa fd ps (liSp K sp)/\mg f=some (.ref fa)/\Y0U K (.ref fa)=true/\Binds K fd ps []
 mts:∀(j:Nat) c m,G.mts.contains (j,c,m)=true->∃f sp,Φ[j]?=some (f,sp)/\∃C fa fd ps,FnOk P w K mg base CX0 k fa fd ps (liSp K sp)/\Y0j K mainGlobals c=some (some (.ref C))/\Cls K C/\Meth K C m fa/\Binds K fd ps []
 mks:∀(j:Nat) c,G.mks.contains (j,c)=true->∃f sp,Φ[j]?=some (f,sp)/\∃k' C fa fd ps,k'+1≤k/\FnOk P w K mg base CX0 k' fa fd ps (liSp K sp)/\Y0j K mainGlobals c=some (some (.ref C))/\mg c=some (.ref C)/\Mk K C fa/\Binds K fd ps []
 cls:∀c f,G.cls.contains (c,f)=true->∃C,Y0j K mainGlobals c=some (some (.ref C))/\Cls K C/\NoAttr K C f
noncomputable def startM(n:Nat)(vs:List MV):Sm:=vs.map some++Y1J (n - vs.length) none
theorem start_rs{K:Y00}{H:Hp}{N:List Str}{ms:List MV}{vs:List V}(r:RMs K H ms vs):RS K H (startM N.length ms) (start N vs):=by
 unfold startM start
 have hl:=r.length
 refine⟨by simp[hl],λi m e=>?_⟩
 by_cases hi:i<ms.length
 ·rw[Y0s (by simpa using hi),Y0b]at e
  cases q:ms[i]? with
  |none=>rw[q]at e;cases e
  |some x=>
   rw[q]at e
   have ex:x=m:=Y0w (Y0w e)
   subst ex
   obtain⟨u,hu,ru⟩:=r.get q
   exact⟨u,by rw[Y0s (by simpa [<- hl]using hi),Y0b,hu];rfl,ru⟩
 ·rw[Y0v (by simpa using hi),Y2Y]at e
  split at e<;>cases e
theorem Fun.okM{P:Program}{w:World}{K:Y00}{mg:Str->Option Value}{base:Heap}{G:GI}{Φ:List (Str×SpM)}{x qual:Str}{st:Stmt}{f:Addr}{fd:FuncData}{N ps:List Str}{k:Nat}{sp:SpM}
  (F:Fun K x qual st f fd) (S:FnScope N ps (Z00 st)) (T:Fts P w K mg base k G Φ) (ir:ISs) (hc:chkSs G (Z00 st) N ir (Z05 st)=true)
  (len:∀vs M Q,sp vs M Q->vs.length=ps.length) (h:∀vs M Q,sp vs M Q->wSs Φ ir {nx:=λ_ M'=>Q .non M',rt:=Q} (startM N.length vs) M):FnOk P w K mg base CX0 (k+1) f fd ps (liSp K sp):=by
 refine F.ok S (λvs H Q E hs=>?_) λcdv A outer s H vs Q E hr hs=>?_
 ·obtain⟨ms,M,r,rh,q⟩:=hs
  rw[<- r.length];exact len _ _ _ q
 obtain⟨ms,M,r,rh,q⟩:=hs
 have c:Cok (cxOf CX0 P w K mg base N qual (Z00 st) f cdv A outer s H E).nox G Φ:=
  ⟨(by have:=hr.un;show(A.deeper _).units+70<cLine;lia),rfl,rfl,(by show(if(Z00 st).kind.isAnnotationScope then Y2G else(Z00 st).kind)=.function;rw[S.kind];rfl),S.nd,T.bls,T.gls,T.fnn,T.mon,
   (λj f sp hg hj=>let⟨fa,fd,ps,F,hm,hk,hb⟩:=T.fns j f sp hg hj;⟨k,fa,fd,ps,hr,F,hm,hk,hb⟩),
   (λj c m h=>let⟨f,sp,hj,C,fa,fd,ps,F,hC,cl,hm,hb⟩:=T.mts j c m h;⟨f,sp,hj,k,C,fa,fd,ps,hr,F,hC,cl,hm,hb⟩),
   (λj c h=>let⟨f,sp,hj,k',C,fa,fd,ps,hk,F,hC,hm,mk1,hb⟩:=T.mks j c h;⟨f,sp,hj,k',C,fa,fd,ps,hr.mono hk,F,hC,hm,mk1,hb⟩),T.cls⟩
 refine⟨_,sSs ir c (λ_=>rfl) hc,startM N.length ms,M,start_rs r,rh,?_⟩
 refine mon_ss T.mon ir ?_ (h ms M _ q)
 exact⟨λσ M' z σv H' k1 rs' rh'=>z _ _ k1 .non rh',λv M' z=>z,λ_ _ z=>z.elim,λ_ _ z=>z.elim⟩
noncomputable def spLawM:SpM:=λvs M Q=>∃ns:List Int,vs=[.frl (ns.map .int)]/\ns.length≤63/\∀M',Q (.bl true) M'
noncomputable def spLawV(K:Y00):Sp:=λvs H Q _=>∃(a:Addr) (ns:List Int),vs=[.ref a]/\FrL K H a (ns.map V.int)/\ns.length≤63/\∀H',Q (.bl true) H'
theorem law_imp{K:Y00}{P:Program}{w:World}{mg:Str->Option Value}{base:Heap}{k:Nat}{f:Addr}{fd:FuncData}{ps:List Str}(F:FnOk P w K mg base CX0 k f fd ps (liSp K spLawM)):FnOk P w K mg base CX0 k f fd ps (spLawV K):=
 F.imp λvs H Q E ⟨a,ns,e,hs,hl,q⟩=>by
  subst e
  refine⟨[.frl (ns.map .int)],λ_=>none,.cons (.frl hs (RMs.ints ns)) .nil,λ_ _ z=>(by cases z),ns,rfl,hl,λM'=>?_⟩
  intro v H' k r rh
  cases r
  exact q _
theorem frl_of{K:Y00}{H:Hp}{a:Addr}{vs:List V}(o:Only H)(h:SqL K H a vs):FrL K H a vs:=by
 rcases h with(h|⟨ob,h⟩)|h
 ·rcases o a with z|⟨ob,xs,z⟩
  ·rw[h]at z;cases z
  ·rw[h]at z;cases z
 ·exact .inl ⟨ob,h⟩
 ·exact .inr h
end L2
namespace L2
open PySem PySem.Spec PyProof.Rows
theorem mkFts0{P:Program}{w:World}{K:Y00}{mg:Str->Option Value}{base:Heap}{k:Nat}{G:GI}{Φ Ψ:List (Str×SpM)}(hb:∀x∈G.bl,mg x=none)(hg:∀p∈G.gl,∃tk,mg p.1=some (.int p.2 tk))(hf:Φ.map (·.1)=G.fns)
  (hm:∀p∈Φ++Ψ,MonW p.2) (hF:∀p∈Φ,∃fa fd ps,FnOk P w K mg base CX0 k fa fd ps (liSp K p.2)/\mg p.1=some (.ref fa)/\Y0U K (.ref fa)=true/\Binds K fd ps [])
  (ht:∀q∈G.mts,∃f sp,(Φ++Ψ)[q.1]?=some (f,sp)/\∃C fa fd ps,FnOk P w K mg base CX0 k fa fd ps (liSp K sp)/\Y0j K mainGlobals q.2.1=some (some (.ref C))/\Cls K C/\Meth K C q.2.2 fa/\Binds K fd ps [])
  (hk:∀q∈G.mks,∃f sp,(Φ++Ψ)[q.1]?=some (f,sp)/\∃k' C fa fd ps,k'+1≤k/\FnOk P w K mg base CX0 k' fa fd ps (liSp K sp)/\Y0j K mainGlobals q.2=some (some (.ref C))/\mg q.2=some (.ref C)/\Mk K C fa/\Binds K fd ps [])
  (hc:∀q∈G.cls,∃C,Y0j K mainGlobals q.1=some (some (.ref C))/\Cls K C/\NoAttr K C q.2):Fts P w K mg base k G (Φ++Ψ)where
 bls:=λx h=>hb x (by simpa using h)
 gls:=λx i h=>hg (x,i) (Y1o h)
 fnn:=λj f h=>by
  rw[<- hf,Y0b]at h
  cases e:Φ[j]? with
  |none=>rw[e]at h;cases h
  |some p=>rw[e]at h;cases h;exact⟨p.2,by rw[Y0s (Y07.mp e).1,e]⟩
 mon:=λj f sp h=>hm (f,sp) (Y0C h)
 fns:=λj f sp hj h=>by
  rw[<- hf,Y0b]at hj
  cases e:Φ[j]? with
  |none=>rw[e]at hj;cases hj
  |some p=>
   rw[Y0s (Y07.mp e).1,e]at h
   cases h
   exact hF (f,sp) (Y0C e)
 mts:=λj c m h=>ht (j,c,m) (by simpa using h)
 mks:=λj c h=>hk (j,c) (by simpa using h)
 cls:=λc f h=>hc (c,f) (by simpa using h)
theorem Z0M{P:Program}{w:World}{K:Y00}{mg:Str->Option Value}{base:Heap}{k:Nat}{G:GI}{Φ:List (Str×SpM)}(hb:∀x∈G.bl,mg x=none)(hg:∀p∈G.gl,∃tk,mg p.1=some (.int p.2 tk))(hf:Φ.map (·.1)=G.fns)
  (hm:∀p∈Φ,MonW p.2) (hF:∀p∈Φ,∃fa fd ps,FnOk P w K mg base CX0 k fa fd ps (liSp K p.2)/\mg p.1=some (.ref fa)/\Y0U K (.ref fa)=true/\Binds K fd ps []) (h1:G.mts=[]:=by rfl) (h2:G.mks=[]:=by rfl) (h3:G.cls=[]:=by rfl):Fts P w K mg base k G Φ:=by
 have:=mkFts0 (Ψ:=[]) hb hg hf (by rw[Y1e];exact hm) hF (by rw[h1];exact λ_ z=>nomatch z) (by rw[h2];exact λ_ z=>nomatch z) (by rw[h3];exact λ_ z=>nomatch z)
 rwa [Y1e]at this
structure Fn1 (K:Y00) (x:Str) (st:Stmt) (f:Addr) (d:FuncData):Prop where
 a:Y0j K mainGlobals x=some (some (.ref f))
 F:Fun K x x st f d
structure FnT (K:Y00) (mg:Str->Option Value) (x:Str) (ps:List Str) (st:Stmt) (f:Addr) (d:FuncData):Prop where
 F:Fun K x x st f d
 b:Binds K d ps []
 m:mg x=some (.ref f)
theorem Fn1.t{K:Y00}{h:Heap}{mg:Str->Option Value}{x:Str}{ps:List Str}{st:Stmt}{f:Addr}{d:FuncData}(H:Fn1 K x st f d)(X:K.In h)(G:h.Ns mainGlobals mg)
  (b:∀(kV doc pm:Value) (an:Option Addr) (cdv ct:Value) (us:List Value),us.length=ps.length->bindArgs (Y1O x x (defArgs st) (Z05 st) (Z00 st) .none kV doc pm an cdv ct) ⟨us,[]⟩=pure (ps.zip us)):FnT K mg x ps st f d:=⟨H.F,H.F.binds b,Y0S X G H.a⟩
theorem Fn1.bt{K:Y00}{x:Str}{y:Str}{st:Stmt}{f:Addr}{d:FuncData}(H:Fn1 K x st f d)
  (r:∀(kV doc pm:Value) (an:Option Addr) (cdv ct v:Value),bindArgs (Y1O x x (defArgs st) (Z05 st) (Z00 st) .none kV doc pm an cdv ct) ⟨[v],[]⟩=pure [(y,v)]) (s:Shared) (v:Value):BindsTo s d ⟨[v],[]⟩ [(y,v)]:=by
 obtain⟨_,_,kV,doc,pm,an,cdv,ct,_,rfl,_⟩:=H.F.ex
 exact .of_eq (r kV doc pm an cdv ct v)
theorem us0{p:List Value->Prop}(h:p [])(us:List Value)(hl:us.length=0):p us:=by cases us with|nil=>exact h|cons _ _=>cases hl
theorem us1{p:List Value->Prop}(h:∀a0,p [a0])(us:List Value)(hl:us.length=1):p us:=by cases us with|nil=>cases hl|cons a r=>exact us0 (p:=λr=>p (a::r)) (h a) r (Y3m hl)
theorem us2{p:List Value->Prop}(h:∀a0 a1,p [a0,a1])(us:List Value)(hl:us.length=2):p us:=by cases us with|nil=>cases hl|cons a r=>exact us1 (p:=λr=>p (a::r)) (h a) r (Y3m hl)
theorem us3{p:List Value->Prop}(h:∀a0 a1 a2,p [a0,a1,a2])(us:List Value)(hl:us.length=3):p us:=by cases us with|nil=>cases hl|cons a r=>exact us2 (p:=λr=>p (a::r)) (h a) r (Y3m hl)
theorem us4{p:List Value->Prop}(h:∀a0 a1 a2 a3,p [a0,a1,a2,a3])(us:List Value)(hl:us.length=4):p us:=by cases us with|nil=>cases hl|cons a r=>exact us3 (p:=λr=>p (a::r)) (h a) r (Y3m hl)
end L2
namespace L2
open PySem PySem.Spec PyProof.Rows
section
variable{M:MH}{Q:QM}{i j:Int}{x y:MV}{a b:Addr}
theorem q_add:wBin .Add (.int i) (.int j) M Q=Q (.int (i+j)) M:=rfl
theorem q_sub:wBin .Sub (.int i) (.int j) M Q=Q (.int (i - j)) M:=rfl
theorem q_mul:wBin .Mult (.int i) (.int j) M Q=(CMul i j/\Q (.int (i*j)) M):=rfl
theorem q_fdiv:wBin .FloorDiv (.int i) (.int j) M Q=(CDivB i j/\Q (.int (i/j)) M):=rfl
theorem q_mod:wBin .Mod (.int i) (.int j) M Q=(0<j/\Q (.int (i%j)) M):=rfl
theorem q_shl:wBin .LShift (.int i) (.int j) M Q=(CPow i j/\Q (.int (i*2^j.toNat)) M):=rfl
theorem q_adds{x y:Str}:wBin .Add (.str x) (.str y) M Q=(x.length+y.length≤sizeLine/\Q (.str (x++y)) M):=rfl
theorem q_muls{x:Str}:wBin .Mult (.str x) (.int i) M Q=(x.length≤16/\ -1000≤i/\i≤1000/\Q (.str (Txt.mul x i)) M):=rfl
theorem q_addl:wBin .Add (.ref a) (.ref b) M Q=∃xs ys,M a=some (.lst xs)/\M b=some (.lst ys)/\xs.length+ys.length≤sizeLine/\∀p,M p=none->Q (.ref p) (updM M p (.lst (xs++ys))):=rfl
theorem q_lt:wCmp .Lt (.int i) (.int j) M Q=Q (.bl (decide (i<j))) M:=propext ⟨fun⟨_,_,e,f,h⟩=>by cases e;cases f;exact h,λh=>⟨i,j,rfl,rfl,h⟩⟩
theorem q_le:wCmp .LtE (.int i) (.int j) M Q=Q (.bl (decide (i≤j))) M:=propext ⟨λh=>Or.elim h (fun⟨_,_,e,f,h⟩=>by cases e;cases f;exact h) (fun⟨_,_,e,_⟩=>nomatch e),λh=>Or.inl ⟨i,j,rfl,rfl,h⟩⟩
theorem q_les{x y:Str}:wCmp .LtE (.str x) (.str y) M Q=Q (.bl (!decide (y.cps.toList<x.cps.toList))) M:=propext ⟨λh=>Or.elim h (fun⟨_,_,e,_⟩=>nomatch e) (fun⟨_,_,e,f,h⟩=>by cases e;cases f;exact h),λh=>Or.inr ⟨x,y,rfl,rfl,h⟩⟩
theorem q_gt:wCmp .Gt (.int i) (.int j) M Q=Q (.bl (decide (j<i))) M:=propext ⟨fun⟨_,_,e,f,h⟩=>by cases e;cases f;exact h,λh=>⟨i,j,rfl,rfl,h⟩⟩
theorem q_eqi:wCmp .Eq (.int i) (.int j) M Q=Q (.bl (decide (i=j))) M:=rfl
theorem q_eqs{x y:Str}:wCmp .Eq (.str x) (.str y) M Q=Q (.bl (decide (x=y))) M:=rfl
theorem q_nes{x y:Str}:wCmp .NotEq (.str x) (.str y) M Q=Q (.bl (!decide (x=y))) M:=rfl
theorem q_eqr{y:MV}:wCmp .Eq (.ref a) y M Q=wEq (.ref a) y M λb=>Q (.bl b) M:=rfl
theorem q_in:wCmp .In x y M Q=wIn x y M λb=>Q (.bl b) M:=rfl
theorem q_nin:wCmp .NotIn x y M Q=wIn x y M λb=>Q (.bl (!b)) M:=rfl
theorem eq_nil{xs:List MV}{k:Bool->Prop}(h:M a=some (.lst xs))(hb:M b=some (.lst []))(q:k xs.isEmpty):wEq (.ref a) (.ref b) M k:=.inr (.inl ⟨a,b,xs,rfl,rfl,h,hb,q⟩)
theorem eq_alike{k:Bool->Prop}{m:Nat}(n:eqS x y=none)(h:Alike M m x y)(le:m≤60)(q:k true):wEq x y M k:=by
 unfold wEq;rw[n];exact .inl ⟨m,le,h,q⟩
theorem Alike.flat{x:MV}(n:Nat)(f:flatM x=true):Alike M n x x:=by
 cases n<;>rw[Alike]
 ·exact⟨f,rfl⟩
 ·exact .inl ⟨f,rfl⟩
theorem Alike.tup{xs ys:List MV}{n:Nat}(e:xs.length=ys.length)(h:∀(i:Nat) u v,xs[i]?=some u->ys[i]?=some v->Alike M n u v):Alike M (n+1) (.tup xs) (.tup ys):=by
 rw[Alike];exact .inr (.inl ⟨xs,ys,rfl,rfl,e,h⟩)
theorem Alike.two{a b a' b':MV}{n:Nat}(h1:Alike M n a a')(h2:Alike M n b b'):Alike M (n+1) (.tup [a,b]) (.tup [a',b']):=by
 refine .tup rfl λi u v h h'=>?_
 match i with
 |0=>cases h;cases h';exact h1
 |1=>cases h;cases h';exact h2
 |i+2=>cases h
theorem Alike.lst{x y:MV}{xs ys:List MV}{n:Nat}(h1:LstM M x xs)(h2:LstM M y ys)(e:xs.length=ys.length)(h:∀(i:Nat) u v,xs[i]?=some u->ys[i]?=some v->Alike M n u v):Alike M (n+1) x y:=by
 rw[Alike];exact .inr (.inr (.inl ⟨xs,ys,h1,h2,e,h⟩))
noncomputable def ixO(o:Option MO)(y:MV)(M:MH)(Q:QM):Prop:=match o with
 |some (.lst xs)=>∃i v,y=.int i/\atI xs i=some v/\Q v M
 |some (.dic kvs)=>∃kk v,keyM y=some kk/\valM kvs kk=some v/\Q v M
 |some (.fdic _ kvs)=>∃kk v,keyM y=some kk/\valM kvs kk=some v/\Q v M
 |_=>False
theorem q_ixr:wIx (.ref a) y M Q=ixO (M a) y M Q:=propext ⟨λh=>by
  rcases h with⟨xs,i,v,e,r⟩|⟨kvs,kk,v,e,r⟩|⟨o,kvs,kk,v,e,r⟩
  ·rw[e];exact⟨i,v,r⟩
  ·rw[e];exact⟨kk,v,r⟩
  ·rw[e];exact⟨kk,v,r⟩,λh=>by
  cases e:M a with
  |none=>rw[e]at h;exact h.elim
  |some o=>
   rw[e]at h
   cases o with
   |lst xs=>obtain⟨i,v,r⟩:=h;exact .inl ⟨xs,i,v,e,r⟩
   |dic kvs=>obtain⟨kk,v,r⟩:=h;exact .inr (.inl ⟨kvs,kk,v,e,r⟩)
   |ins _ _=>exact h.elim
   |fdic o kvs=>obtain⟨kk,v,r⟩:=h;exact .inr (.inr ⟨o,kvs,kk,v,e,r⟩)⟩
theorem q_ixol{xs:List MV}:ixO (some (.lst xs)) (.int i) M Q=∃v,atI xs i=some v/\Q v M:=propext ⟨fun⟨_,v,e,h⟩=>by cases e;exact⟨v,h⟩,fun⟨v,h⟩=>⟨i,v,rfl,h⟩⟩
theorem q_ixods{kvs:List (Key×MV)}{x:Str}:ixO (some (.dic kvs)) (.str x) M Q=∃v,valM kvs (Y1r x)=some v/\Q v M:=propext ⟨fun⟨_,v,e,h⟩=>by cases e;exact⟨v,h⟩,fun⟨v,h⟩=>⟨_,v,rfl,h⟩⟩
theorem q_ixt{xs:List MV}:wIx (.tup xs) (.int i) M Q=∃v,atI xs i=some v/\Q v M:=propext ⟨fun⟨_,v,e,h⟩=>by cases e;exact⟨v,h⟩,fun⟨v,h⟩=>⟨i,v,rfl,h⟩⟩
theorem q_ixf{xs:List MV}:wIx (.frl xs) (.int i) M Q=∃v,atI xs i=some v/\Q v M:=propext ⟨fun⟨_,v,e,h⟩=>by cases e;exact⟨v,h⟩,fun⟨v,h⟩=>⟨i,v,rfl,h⟩⟩
theorem q_ixs{z:Str}:wIx (.str z) (.int i) M Q=(z.length≤sizeLine/\∃c,atI z.cps.toList i=some c/\Q (.str ⟨#[c]⟩) M):=propext ⟨fun⟨_,c,e,h1,h2⟩=>by cases e;exact⟨h1,c,h2⟩,fun⟨h1,c,h2⟩=>⟨i,c,rfl,h1,h2⟩⟩
noncomputable def slO(o:Option MO)(lo hi:Option Int)(M:MH)(Q:QM):Prop:=match o with
 |some (.lst xs)=>∀p,M p=none->Q (.ref p) (updM M p (.lst (cutM xs lo hi)))
 |_=>False
theorem q_slr{lo hi:Option Int}:wSl (.ref a) lo hi M Q=slO (M a) lo hi M Q:=propext ⟨fun⟨xs,e,h⟩=>by rw[e];exact h,λh=>by
  cases e:M a with
  |none=>rw[e]at h;exact h.elim
  |some o=>
   rw[e]at h
   cases o with
   |lst xs=>exact⟨xs,e,h⟩
   |dic kvs=>exact h.elim
   |ins _ _=>exact h.elim
   |fdic _ _=>exact h.elim⟩
theorem q_slol{lo hi:Option Int}{xs:List MV}:slO (some (.lst xs)) lo hi M Q=∀p,M p=none->Q (.ref p) (updM M p (.lst (cutM xs lo hi))):=rfl
theorem q_sls{lo hi:Option Int}{z:Str}:wSl (.str z) lo hi M Q=(z.length≤sizeLine/\Q (.str (cutS z lo hi)) M):=rfl
theorem q_slt{lo hi:Option Int}{xs:List MV}:wSl (.tup xs) lo hi M Q=Q (.tup (cutM xs lo hi)) M:=rfl
theorem q_lenf{xs:List MV}:wBi .len [.frl xs] M Q=Q (.int xs.length) M:=rfl
theorem q_lens{z:Str}:wBi .len [.str z] M Q=(z.length≤sizeLine/\Q (.int z.length) M):=rfl
noncomputable def lenO(o:Option MO)(M:MH)(Q:QM):Prop:=match o with
 |some (.lst xs)=>Q (.int xs.length) M
 |some (.dic kvs)=>Q (.int kvs.length) M
 |_=>False
theorem q_lenr:wBi .len [.ref a] M Q=lenO (M a) M Q:=propext ⟨λh=>by
  rcases h with⟨xs,e,h⟩|⟨kvs,e,h⟩<;>(rw[e];exact h),λh=>by
  cases e:M a with
  |none=>rw[e]at h;exact h.elim
  |some o=>
   rw[e]at h
   cases o with
   |lst xs=>exact .inl ⟨xs,e,h⟩
   |dic kvs=>exact .inr ⟨kvs,e,h⟩
   |ins _ _=>exact h.elim
   |fdic _ _=>exact h.elim⟩
theorem q_lenol{xs:List MV}:lenO (some (.lst xs)) M Q=Q (.int xs.length) M:=rfl
noncomputable def isO(o:Option Ty7)(c:Ty7)(M:MH)(Q:QM):Prop:=match o with
 |some T=>c≠.none/\Q (.bl (isTy T c)) M
 |none=>False
theorem q_isi{c:Ty7}:wBi .isinst [x,.ty c] M Q=isO (tyM M x) c M Q:=propext (by
 have e:wBi .isinst [x,.ty c] M Q=∃T,tyM M x=some T/\c≠.none/\Q (.bl (isTy T c)) M:=by cases x<;>rfl
 rw[e]
 exact⟨fun⟨T,e,h⟩=>by rw[e];exact h,λh=>by
  cases e:tyM M x with
  |none=>rw[e]at h;exact h.elim
  |some T=>rw[e]at h;exact⟨T,rfl,h⟩⟩)
noncomputable def isO2(o:Option Ty7)(c d:Ty7)(M:MH)(Q:QM):Prop:=match o with
 |some T=>c≠.none/\d≠.none/\Q (.bl (isTy T c||isTy T d)) M
 |none=>False
theorem q_isi2{c d:Ty7}:wBi .isinst [x,.tup [.ty c,.ty d]] M Q=isO2 (tyM M x) c d M Q:=propext (by
 have e:wBi .isinst [x,.tup [.ty c,.ty d]] M Q=∃T,tyM M x=some T/\c≠.none/\d≠.none/\Q (.bl (isTy T c||isTy T d)) M:=by cases x<;>rfl
 rw[e]
 exact⟨fun⟨T,e,h⟩=>by rw[e];exact h,λh=>by
  cases e:tyM M x with
  |none=>rw[e]at h;exact h.elim
  |some T=>rw[e]at h;exact⟨T,rfl,h⟩⟩)
theorem q_isoi2{T c d:Ty7}:isO2 (some T) c d M Q=(c≠.none/\d≠.none/\Q (.bl (isTy T c||isTy T d)) M):=rfl
theorem q_isoi{T c:Ty7}:isO (some T) c M Q=(c≠.none/\Q (.bl (isTy T c)) M):=rfl
theorem q_tyi:tyM M (.int i)=some .int:=rfl
theorem q_tys{k:Str}:tyM M (.str k)=some .str:=rfl
theorem q_tyt{xs:List MV}:tyM M (.tup xs)=some .tuple:=rfl
noncomputable def tyO:Option MO->Option Ty7
 |some (.lst _)=>some .list
 |some (.dic _)=>some .dict
 |_=>none
theorem q_tyr:tyM M (.ref a)=tyO (M a):=by
 cases e:M a with
 |none=>simp[tyM,tyO,e]
 |some o=>cases o<;>simp[tyM,tyO,e]
theorem q_tyol{xs:List MV}:tyO (some (.lst xs))=some .list:=rfl
theorem q_all:wBi .all [.ref a] M Q=∃bs:List Bool,M a=some (.lst (bs.map MV.bl))/\Q (.bl (bs.all id)) M:=rfl
theorem q_dictL:wBi .dictL [.ref a] M Q=∃ps:List (Key×MV),M a=some (.lst (ps.map prM))/\∀p,M p=none->Q (.ref p) (updM M p (.dic (putAllM ps))):=rfl
theorem q_listt{xs:List MV}:wBi .list [.tup xs] M Q=∀p,M p=none->Q (.ref p) (updM M p (.lst xs)):=rfl
theorem q_listr:wBi .list [.ref a] M Q=∃xs,M a=some (.lst xs)/\∀p,M p=none->Q (.ref p) (updM M p (.lst xs)):=rfl
theorem q_tupr:wBi .tuple [.ref a] M Q=∃xs,M a=some (.lst xs)/\Q (.tup xs) M:=rfl
noncomputable def apO(o:Option MO)(a:Addr)(y:MV)(M:MH)(Q:QM):Prop:=match o with
 |some (.lst xs)=>xs.length<sizeLine/\Q .non (updM M a (.lst (xs++[y])))
 |_=>False
theorem q_app:wMts .append (.ref a) [y] M Q=apO (M a) a y M Q:=propext ⟨fun⟨xs,e,h⟩=>by rw[e];exact h,λh=>by
  cases e:M a with
  |none=>rw[e]at h;exact h.elim
  |some o=>
   rw[e]at h
   cases o with
   |lst xs=>exact⟨xs,e,h⟩
   |dic kvs=>exact h.elim
   |ins _ _=>exact h.elim
   |fdic _ _=>exact h.elim⟩
theorem q_apol{xs:List MV}:apO (some (.lst xs)) a y M Q=(xs.length<sizeLine/\Q .non (updM M a (.lst (xs++[y])))):=rfl
theorem q_ext:wMts .extend (.ref a) [.ref b] M Q=∃xs,M a=some (.lst xs)/\∃ys,M b=some (.lst ys)/\xs.length+ys.length≤sizeLine/\Q .non (updM M a (.lst (xs++ys))):=rfl
theorem q_okl1:mtOk .append x M=(∃a xs,x=.ref a/\M a=some (.lst xs)):=rfl
theorem q_okl2:mtOk .extend x M=(∃a xs,x=.ref a/\M a=some (.lst xs)):=rfl
theorem q_okj{z:Str}:mtOk .join (.str z) M=True:=propext ⟨λ_=>trivial,λ_=>⟨z,rfl⟩⟩
theorem q_join{sep:Str}:wMts .join (.str sep) [.ref b] M Q=(∃ss,M b=some (.lst (ss.map MV.str))/\ss.toArray.foldl (λn z=>n+z.length+sep.length) 0≤sizeLine/\(Y11 sep ss).length≤sizeLine/\Q (.str (Y11 sep ss)) M):=
 propext ⟨fun⟨_,_,ss,e,e',h⟩=>by cases e;cases e';exact⟨ss,h⟩,fun⟨ss,h⟩=>⟨sep,b,ss,rfl,rfl,h⟩⟩
noncomputable def srO(o:Option MO)(a:Addr)(M:MH)(Q:Src->MH->Prop):Prop:=match o with
 |some (.lst xs)=>Q (.lst a xs) M
 |some (.dic kvs)=>∀o,Q (.dic a o kvs) (updM M a (.fdic o kvs))
 |_=>False
noncomputable def srV(v:MV)(M:MH)(Q:Src->MH->Prop):Prop:=(∃xs,(v=.tup xs\/v=.frl xs)/\Q (.tup xs) M)\/(∃a xs,v=.ref a/\M a=some (.lst xs)/\Q (.lst a xs) M)\/(∃a kvs,v=.ref a/\M a=some (.dic kvs)/\∀o,Q (.dic a o kvs) (updM M a (.fdic o kvs)))\/∃z,v=.str z/\Q (.str z) M
theorem q_seq{Φ:List (Str×SpM)}{e:IE}{σ:Sm}{R:Src->MH->Prop}:wSr Φ (.seq e) σ M R=wE Φ e σ M λv M1=>srV v M1 R:=rfl
theorem q_srr{R:Src->MH->Prop}:srV (.ref a) M R=srO (M a) a M R:=propext ⟨λh=>by
  rcases h with⟨xs,e,h⟩|⟨b,xs,e,f,h⟩|⟨b,xs,e,f,h⟩|⟨z,e,_⟩
  ·rcases e with e|e<;>cases e
  ·cases e;rw[f];exact h
  ·cases e;rw[f];exact h
  ·exact(nomatch e),λh=>by
  cases e:M a with
  |none=>rw[e]at h;exact h.elim
  |some o=>
   rw[e]at h
   cases o with
   |lst xs=>exact .inr (.inl ⟨a,xs,rfl,e,h⟩)
   |dic kvs=>exact .inr (.inr (.inl ⟨a,kvs,rfl,e,h⟩))
   |ins _ _=>exact h.elim
   |fdic _ _=>exact h.elim⟩
theorem q_srs{z:Str}{R:Src->MH->Prop}:srV (.str z) M R=R (.str z) M:=propext ⟨λh=>by
  rcases h with⟨xs,e,h⟩|⟨_,_,e,_⟩|⟨_,_,e,_⟩|⟨_,e,h⟩
  ·rcases e with e|e<;>exact(nomatch e)
  ·exact(nomatch e)
  ·exact(nomatch e)
  ·cases e;exact h,λh=>.inr (.inr (.inr ⟨z,rfl,h⟩))⟩
theorem q_th5{x:Str}:Src.thaw M (.str x)=M:=rfl
theorem q_ot5{x:Str}:Src.okT M (.str x)=True:=rfl
theorem q_th2{xs:List MV}:Src.thaw M (.lst a xs)=M:=rfl
theorem q_th3{n:Nat}:Src.thaw M (.rng i n)=M:=rfl
theorem q_ot2{xs:List MV}:Src.okT M (.lst a xs)=True:=rfl
theorem q_ot3{n:Nat}:Src.okT M (.rng i n)=True:=rfl
theorem q_srol{xs:List MV}{R:Src->MH->Prop}:srO (some (.lst xs)) a M R=R (.lst a xs) M:=rfl
theorem q_srt{zs:List MV}{R:Src->MH->Prop}:srV (.tup zs) M R=R (.tup zs) M:=propext ⟨λh=>by
  rcases h with⟨xs,e,h⟩|h
  ·rcases e with e|e
   ·cases e;exact h
   ·exact nomatch e
  ·rcases h with⟨_,_,e,_⟩|⟨_,_,e,_⟩|⟨_,e,_⟩<;>exact(nomatch e),λh=>.inl ⟨zs,.inl rfl,h⟩⟩
noncomputable def rgV(v:MV)(M:MH)(Q:Src->MH->Prop):Prop:=∃j,v=.int j/\ -(2^62)≤j/\j<2^62/\Q (.rng 0 j.toNat) M
theorem q_rng{Φ:List (Str×SpM)}{e:IE}{σ:Sm}{R:Src->MH->Prop}:wSr Φ (.rng e) σ M R=wE Φ e σ M λv M1=>rgV v M1 R:=rfl
theorem q_rgi{R:Src->MH->Prop}:rgV (.int i) M R=(-(2^62)≤i/\i<2^62/\R (.rng 0 i.toNat) M):=propext ⟨fun⟨_,e,h⟩=>by cases e;exact h,λh=>⟨i,rfl,h⟩⟩
theorem q_max2:wBi .max [.int i,.int j] M Q=Q (.int (if j>i then j else i)) M:=rfl
end
theorem v_s{v:MV}{k:MV->Prop}:onV (some (some v)) k=k v:=rfl
theorem b_0{b:Bool}{k:Bool->Prop}:onB (.bl b) k=k b:=rfl
theorem f_s{f:Str}{sp:SpM}{k:SpM->Prop}:onF (some (f,sp)) k=k sp:=rfl
theorem e_var{Φ:List (Str×SpM)}{σ:Sm}{M:MH}{Q:QM}{i:Nat}:wE Φ (.var i) σ M Q=onV σ[i]? (λv=>Q v M):=rfl
theorem e_int{Φ:List (Str×SpM)}{σ:Sm}{M:MH}{Q:QM}{i:Int}:wE Φ (.int i) σ M Q=(Q (.int i) M):=rfl
theorem e_str{Φ:List (Str×SpM)}{σ:Sm}{M:MH}{Q:QM}{x:Str}:wE Φ (.str x) σ M Q=(Q (.str x) M):=rfl
theorem e_bl{Φ:List (Str×SpM)}{σ:Sm}{M:MH}{Q:QM}{b:Bool}:wE Φ (.bl b) σ M Q=(Q (.bl b) M):=rfl
theorem e_non{Φ:List (Str×SpM)}{σ:Sm}{M:MH}{Q:QM}:wE Φ (.non) σ M Q=(Q .non M):=rfl
theorem e_glb{Φ:List (Str×SpM)}{σ:Sm}{M:MH}{Q:QM}{x:Str}{i:Int}:wE Φ (.glb x i) σ M Q=(Q (.int i) M):=rfl
theorem e_ty{Φ:List (Str×SpM)}{σ:Sm}{M:MH}{Q:QM}{c:Ty7}:wE Φ (.ty c) σ M Q=(Q (.ty c) M):=rfl
theorem e_bin{Φ:List (Str×SpM)}{σ:Sm}{M:MH}{Q:QM}{op:Operator}{a b:IE}:wE Φ (.bin op a b) σ M Q=(wE Φ a σ M λx M1=>wE Φ b σ M1 λy M2=>wBin op x y M2 Q):=rfl
theorem e_neg{Φ:List (Str×SpM)}{σ:Sm}{M:MH}{Q:QM}{a:IE}:wE Φ (.neg a) σ M Q=(wE Φ a σ M λx M1=>∃i,x=.int i/\Q (.int (-i)) M1):=rfl
theorem e_not{Φ:List (Str×SpM)}{σ:Sm}{M:MH}{Q:QM}{a:IE}:wE Φ (.not a) σ M Q=(wE Φ a σ M λx M1=>onB x λb=>Q (.bl (!b)) M1):=rfl
theorem e_cmp{Φ:List (Str×SpM)}{σ:Sm}{M:MH}{Q:QM}{op:CmpOp}{a b:IE}:wE Φ (.cmp op a b) σ M Q=(wE Φ a σ M λx M1=>wE Φ b σ M1 λy M2=>wCmp op x y M2 Q):=rfl
theorem e_chn{Φ:List (Str×SpM)}{σ:Sm}{M:MH}{Q:QM}{op op':CmpOp}{a b c:IE}:wE Φ (.chn op op' a b c) σ M Q=(wE Φ a σ M λx M1=>wE Φ b σ M1 λy M2=>wCmp op x y M2 λz M3=>onB z λk=>(if k=true then wE Φ c σ M3 λw M4=>wCmp op' y w M4 Q else Q (.bl false) M3)):=rfl
theorem e_and{Φ:List (Str×SpM)}{σ:Sm}{M:MH}{Q:QM}{a b:IE}:wE Φ (.and a b) σ M Q=(wE Φ a σ M λx M1=>onB x λc=>(if c=true then wE Φ b σ M1 Q else Q (.bl false) M1)):=rfl
theorem e_or{Φ:List (Str×SpM)}{σ:Sm}{M:MH}{Q:QM}{a b:IE}:wE Φ (.or a b) σ M Q=(wE Φ a σ M λx M1=>onB x λc=>(if c=true then Q (.bl true) M1 else wE Φ b σ M1 Q)):=rfl
theorem e_tup{Φ:List (Str×SpM)}{σ:Sm}{M:MH}{Q:QM}{es:IEs}:wE Φ (.tup es) σ M Q=(wEs Φ es σ M λvs M1=>vs.length≤sizeLine/\Q (.tup vs) M1):=rfl
theorem e_lst{Φ:List (Str×SpM)}{σ:Sm}{M:MH}{Q:QM}{es:IEs}:wE Φ (.lst es) σ M Q=(wEs Φ es σ M λvs M1=>vs.length≤sizeLine/\∀p,M1 p=none->Q (.ref p) (updM M1 p (.lst vs))):=rfl
theorem e_ix{Φ:List (Str×SpM)}{σ:Sm}{M:MH}{Q:QM}{a b:IE}:wE Φ (.ix a b) σ M Q=(wE Φ a σ M λx M1=>wE Φ b σ M1 λy M2=>wIx x y M2 Q):=rfl
theorem e_sl{Φ:List (Str×SpM)}{σ:Sm}{M:MH}{Q:QM}{a:IE}{lo hi:IO}:wE Φ (.sl a lo hi) σ M Q=(wE Φ a σ M λx M1=>wO Φ lo σ M1 λl M2=>wO Φ hi σ M2 λh M3=>wSl x l h M3 Q):=rfl
theorem e_call{Φ:List (Str×SpM)}{σ:Sm}{M:MH}{Q:QM}{j:Nat}{e:IE}{es:IEs}:wE Φ (.call j e es) σ M Q=(wE Φ e σ M λv M1=>wEs Φ es σ M1 λvs M2=>onF Φ[j]? λsp=>sp (v::vs) M2 Q):=rfl
theorem e_b2{Φ:List (Str×SpM)}{σ:Sm}{M:MH}{Q:QM}{f:B2}{e:IE}:wE Φ (.b2 f e) σ M Q=(wE Φ e σ M λv M1=>wB2 f v M1 Q):=rfl
theorem e_bi{Φ:List (Str×SpM)}{σ:Sm}{M:MH}{Q:QM}{f:BI}{e:IE}{es:IEs}:wE Φ (.bi f e es) σ M Q=(wE Φ e σ M λv M1=>wEs Φ es σ M1 λvs M2=>wBi f (v::vs) M2 Q):=rfl
theorem e_mt{Φ:List (Str×SpM)}{σ:Sm}{M:MH}{Q:QM}{m:MT}{o:IE}{es:IEs}:wE Φ (.mt m o es) σ M Q=(wE Φ o σ M λx M1=>mtOk m x M1/\wEs Φ es σ M1 λvs M2=>wMts m x vs M2 Q):=rfl
theorem e_comp{Φ:List (Str×SpM)}{σ:Sm}{M:MH}{Q:QM}{own:List Str}{fr:List Nat}{src:ISr}{tg:ITg}{test:IO}{elt:IE}:wE Φ (.comp own fr src tg test elt) σ M Q=(wSr Φ src σ M λS M1=>S.len<sizeLine/\∀D,M1 D=none->∃J:Nat->List MV->MH->Prop,J 0 [] (updM M1 D (.lst []))/\
   (∀i ys M2,J i ys M2->M2 D=some (.lst ys)/\ys.length≤i/\S.ok M2)/\
   (∀i x ys M2,S.items[i]?=some x->J i ys M2->wTg tg x (sCm own fr σ) λσ2=>wI Φ test σ2 M2 λb M4=>
    if b=true then wE Φ elt σ2 M4 λy M5=>M5 D=some (.lst ys)/\J (i+1) (ys++[y]) (updM M5 D (.lst (ys++[y])))else J (i+1) ys M4)/\
   ∀ys M2,J S.len ys M2->Q (.ref D) (S.thaw M2)):=rfl
theorem thaw_F{M M':MH}{S:Src}(h:S.okF M):S.thaw M'=M':=by
 cases S<;>first|rfl|exact h.elim
theorem Z14{Φ:List (Str×SpM)}{own:List Str}{fr:List Nat}{src:ISr}{tg:ITg}{elt:IE}{σ:Sm}{M:MH}{Q:QM}{α:Type}(xs:List α)(f g:α->MV)
  (hs:wSr Φ src σ M λS M1=>S.items=xs.map f/\xs.length<sizeLine/\S.okF M1/\M1=M)
  (ht:∀x∈xs,∀M',(∀a o,M a=some o->M' a=some o)->wTg tg (f x) (sCm own fr σ) λσ2=>wE Φ elt σ2 M' λy M2=>y=g x/\M2=M')
  (hΦ:∀(j:Nat) f sp,Φ[j]?=some (f,sp)->MonW sp) (q:∀D,M D=none->Q (.ref D) (updM M D (.lst (xs.map g)))):wE Φ (.comp own fr src tg .none elt) σ M Q:=by
 rw[e_comp]
 refine mon_sr hΦ src (λS M1 ⟨h1,h2,h3,h4⟩=>?_) hs
 subst h4
 have hl:S.len=xs.length:=by rw[<- S.items_len,h1,Y03]
 refine⟨by rw[hl];exact h2,λD hD=>⟨λi ys M2=>M2=updM M1 D (.lst ys)/\ys=(xs.take i).map g,⟨rfl,by simp⟩,?_,?_,?_⟩⟩
 ·rintro i ys M2 ⟨rfl,rfl⟩
  refine⟨Z01,by rw[Y03,Y0p];lia,?_⟩
  cases S with
  |tup _=>trivial
  |rng _ _=>trivial
  |rst _ _ _=>trivial
  |dic _ _ _=>exact h3.elim
  |str _=>trivial
  |lst a zs=>
   have:a≠D:=by intro e;subst e;have h3:M1 a=some (.lst zs):=h3;rw[h3]at hD;cases hD
   show updM M1 D _ a=_
   rw[Z0m this];exact h3
 ·rintro i x ys M2 hx ⟨rfl,rfl⟩
  rw[h1]at hx
  have hi:i<xs.length:=by have:=(Y07.mp hx).1;rw[Y03]at this;exact this
  rw[Y0b,Y02 hi]at hx
  cases hx
  refine mon_tg tg (λσ2 h=>?_) (ht xs[i] (Y0u hi) (updM M1 D (.lst ((xs.take i).map g))) (λa o e=>by
   rw[Z0m (by intro z;subst z;rw[e]at hD;cases hD)];exact e))
  rw[wI,if_pos rfl]
  refine Z04 hΦ elt (λy M2 ⟨e1,e2⟩=>?_) h
  subst e1 e2
  refine⟨Z01,updM_updM,?_⟩
  rw[Y1d,Y02 hi,Y0Z]
  rfl
 ·rintro ys M2 ⟨rfl,rfl⟩
  rw[hl,Y13 (Y09 _),thaw_F h3]
  exact q D hD
theorem comp_same{Φ:List (Str×SpM)}{own:List Str}{fr:List Nat}{src:ISr}{tg:ITg}{elt:IE}{σ:Sm}{M:MH}{Q:QM}{α:Type}(xs:List α)(f g:α->MV)
  (hs:wSr Φ src σ M λS M1=>S.items=xs.map f/\xs.length<sizeLine/\S.okF M1/\∀a o,M a=some o->M1 a=some o)
  (ht:∀x∈xs,∀M',(∀a o,M a=some o->M' a=some o)->wTg tg (f x) (sCm own fr σ) λσ2=>wE Φ elt σ2 M' λy M2=>y=g x/\∀a o,M' a=some o->M2 a=some o)
  (hΦ:∀(j:Nat) f sp,Φ[j]?=some (f,sp)->MonW sp) (q:∀D M',M D=none->(∀a o,M a=some o->M' a=some o)->M' D=some (.lst (xs.map g))->Q (.ref D) M'):wE Φ (.comp own fr src tg .none elt) σ M Q:=by
 rw[e_comp]
 refine mon_sr hΦ src (λS M1 ⟨h1,h2,h3,h4⟩=>?_) hs
 have hl:S.len=xs.length:=by rw[<- S.items_len,h1,Y03]
 have fre:∀D,M1 D=none->M D=none:=λD hD=>by
  cases e:M D with
  |none=>rfl
  |some o=>rw[h4 _ _ e]at hD;cases hD
 have ne:∀{a D:Addr} {o:MO},M1 a=some o->M1 D=none->a≠D:=λh h' z=>by subst z;rw[h]at h';cases h'
 refine⟨by rw[hl];exact h2,λD hD=>⟨λi ys M2=>(∀a o,M1 a=some o->M2 a=some o)/\M2 D=some (.lst ys)/\ys=(xs.take i).map g,⟨λa o e=>by rw[Z0m (ne e hD)];exact e,Z01,by simp⟩,?_,?_,?_⟩⟩
 ·rintro i ys M2 ⟨s2,d2,rfl⟩
  refine⟨d2,by rw[Y03,Y0p];lia,?_⟩
  cases S with
  |tup _=>trivial
  |rng _ _=>trivial
  |rst _ _ _=>trivial
  |dic _ _ _=>exact h3.elim
  |str _=>trivial
  |lst a zs=>exact s2 _ _ h3
 ·rintro i x ys M2 hx ⟨s2,d2,rfl⟩
  rw[h1]at hx
  have hi:i<xs.length:=by have:=(Y07.mp hx).1;rw[Y03]at this;exact this
  rw[Y0b,Y02 hi]at hx
  cases hx
  refine mon_tg tg (λσ2 h=>?_) (ht xs[i] (Y0u hi) M2 (λa o e=>s2 _ _ (h4 _ _ e)))
  rw[wI,if_pos rfl]
  refine Z04 hΦ elt (λy M3 ⟨e1,e2⟩=>?_) h
  subst e1
  refine⟨e2 _ _ d2,λa o e=>by rw[Z0m (ne e hD)];exact e2 _ _ (s2 _ _ e),Z01,?_⟩
  rw[Y1d,Y02 hi,Y0Z]
  rfl
 ·rintro ys M2 ⟨s2,d2,rfl⟩
  rw[hl,Y13 (Y09 _)]at d2
  rw[thaw_F h3]
  exact q D M2 (fre D hD) (λa o e=>s2 _ _ (h4 _ _ e)) d2
theorem q_tg1{i:Nat}{v:MV}{σ:Sm}{R:Sm->Prop}:wTg (.nm i) v σ R=R (σ.set i (some v)):=rfl
theorem q_tgt{ts:ITgs}{xs:List MV}{σ:Sm}{R:Sm->Prop}:wTg (.tup ts) (.tup xs) σ R=wTgs ts xs σ R:=by
 exact propext ⟨fun⟨_,e,h⟩=>by cases e;exact h,λh=>⟨_,rfl,h⟩⟩
theorem q_tgc{t:ITg}{ts:ITgs}{v:MV}{r:List MV}{σ:Sm}{R:Sm->Prop}:wTgs (.cons t ts) (v::r) σ R=wTg t v σ λσ'=>wTgs ts r σ' R:=by
 exact propext ⟨fun⟨_,_,e,h⟩=>by cases e;exact h,λh=>⟨_,_,rfl,h⟩⟩
theorem q_tgn{σ:Sm}{R:Sm->Prop}:wTgs .nil [] σ R=R σ:=propext ⟨λh=>h.2,λh=>⟨rfl,h⟩⟩
section
variable{M:MH}
theorem Alike.lstFlat{x y:MV}{xs:List MV}(n:Nat)(h1:LstM M x xs)(h2:LstM M y xs)(f:∀v∈xs,flatM v=true):Alike M (n+1) x y:=
 .lst h1 h2 rfl λi u v e e'=>by
  rw[e]at e';cases e'
  exact .flat n (f u (Y0C e))
end
section
variable{Φ:List (Str×SpM)}{D:EndM}{σ:Sm}{M:MH}
theorem s_nil:wSs Φ .nil D σ M=D.nx σ M:=rfl
theorem s_cons{s:IS}{r:ISs}:wSs Φ (.cons s r) D σ M=wS Φ s {nx:=λσ M=>wSs Φ r D σ M,rt:=D.rt,bk:=D.bk,ct:=D.ct} σ M:=rfl
theorem s_ret{e:IE}:wS Φ (.ret e) D σ M=wE Φ e σ M D.rt:=rfl
theorem s_set{i:Nat}{e:IE}:wS Φ (.set i e) D σ M=wE Φ e σ M λv M1=>D.nx (σ.set i (some v)) M1:=rfl
theorem s_asg{t:ITgs}{e:IE}:wS Φ (.asg t e) D σ M=wE Φ e σ M λv M1=>∃xs,v=.tup xs/\wTgs t xs σ λσ'=>D.nx σ' M1:=rfl
theorem s_expr{e:IE}:wS Φ (.expr e) D σ M=wE Φ e σ M λ_ M1=>D.nx σ M1:=rfl
theorem s_ite{c:IE}{a b:ISs}:wS Φ (.ite c a b) D σ M=wE Φ c σ M λx M1=>onB x λk=>(if k=true then wSs Φ a D σ M1 else wSs Φ b D σ M1):=rfl
theorem s_for{t:ITg}{s:ISr}{b:ISs}:wS Φ (.for_ t s b) D σ M=wSr Φ s σ M λS M1=>∃J:Nat->Sm->MH->Prop,J 0 σ M1/\(∀i σ M,J i σ M->S.ok M)/\
   (∀i x σ M,S.items[i]?=some x->J i σ M->wTg t x σ λσ2=>wSs Φ b {nx:=J (i+1),rt:=λv M=>S.okT M/\D.rt v (S.thaw M),bk:=λσ M=>S.okT M/\D.nx σ (S.thaw M),ct:=J (i+1)} σ2 M)/\∀σ M,J S.len σ M->D.nx σ (S.thaw M):=rfl
theorem o_none{Q:Option Int->MH->Prop}:wO Φ .none σ M Q=Q none M:=rfl
theorem o_some{e:IE}{Q:Option Int->MH->Prop}:wO Φ (.some e) σ M Q=wE Φ e σ M λv M1=>∃i,v=.int i/\Q (some i) M1:=rfl
theorem es_nil{Q:List MV->MH->Prop}:wEs Φ .nil σ M Q=Q [] M:=rfl
theorem es_cons{e:IE}{es:IEs}{Q:List MV->MH->Prop}:wEs Φ (.cons e es) σ M Q=wE Φ e σ M λv M1=>wEs Φ es σ M1 λvs M2=>Q (v::vs) M2:=rfl
end
section
variable{Φ:List (Str×SpM)}{σ σ':Sm}{M M':MH}{Q:QM}{x x' y y' z z':MV}{o o':Option MO}{vs vs':List MV}
end
end L2
namespace L2
open PySem PySem.Spec PyProof.Rows
theorem ObjOk.there{P:Program}{w:World}{H:Hp}{h:Heap}{a:Addr}{o:HO}(x:ObjOk P w H h a o):∃u,h.get? a=some u:=by
 cases o with
 |lst xs=>obtain⟨_,_,_,_,e⟩:=x;exact⟨_,e⟩
 |tup xs=>obtain⟨_,_,_,_,o,e,_⟩:=x;exact⟨_,e⟩
 |dK kvs=>obtain⟨_,_,_,_,o,_,_,e,_⟩:=x;exact⟨_,e⟩
 |dT kvs=>obtain⟨_,_,_,_,o,_,_,e,_⟩:=x;exact⟨_,e⟩
 |set S n=>obtain⟨o,_,_,_,e,_⟩:=x;exact⟨_,e⟩
 |ins C dx fs=>obtain⟨_,_,_,e,_⟩:=x;exact⟨_,e⟩
 |own y=>exact x
 |xd fs=>obtain⟨_,⟨_,_,_,e,_⟩,_⟩:=x;exact⟨_,e⟩
 |rng lo hi=>obtain⟨_,_,_,e⟩:=x;exact⟨_,e⟩
 |frz ob u=>obtain⟨e,_⟩:=x;exact⟨_,e⟩
 |tbl ps=>exact⟨_,(show h.get? a=some _ from x)⟩
 |met f y=>exact⟨_,(show h.get? a=some _ from x)⟩
 |ext φ=>exact x.2.1
noncomputable def CX1(P:Program)(w:World):CXT:=λouter H s E e s'=>
 ∃(a C t:Addr) (B:Heap) (H':Hp),e=.ref a/\s'.os=s.os/\AllBare s'.gens/\Un (frs outer) [] H H' s.heap s'.heap/\HOk P w H' s'.heap/\Y2o B outer a (.ref C) (.ref t) s'.heap/\
  (∀b o,s.heap.get? b=some o->b∉frs outer->(H b=none->B.get? b=some o)/\∃o',B.get? b=some o')/\(∀b u,H' b=some u->∃o,B.get? b=some o)/\E (.ref C) none H'
section
variable{P:Program}{w:World}{K:Y00}{mg:Str->Option Value}{base:Heap}{N:List Str}{qual:Str}{scope:Scope}{f:Addr}{cd:Value}{A:Around}{outer:List Env}{s₀:Shared}{H₀:Hp}{E:XK}
 {pins:List (Addr×Obj)} {σ:St} {H:Hp} {s:Shared}
theorem left1{a C t:Addr}{B:Heap}{s':Shared}(I:Inv (cxOf (CX1 P w) P w K mg base N qual scope f cd A outer s₀ H₀ E) pins σ H s){H':Hp}{h:Heap}(os:s'.os=s.os)(bare:AllBare s'.gens)(hu:Un (frs outer) [] H₀ H' s₀.heap h)(hok:HOk P w H' h)
  (st:B.StaysIn h) (fl:Y2o B outer a (.ref C) (.ref t) s'.heap) (ups:h.UpToSlots s'.heap) (fun1:h.FunFrames B (envOfC qual scope s₀.heap.objs.size f cd::outer))
  (cov:∀b o,s₀.heap.get? b=some o->b∉frs outer->(H₀ b=none->B.get? b=some o)/\∃o',B.get? b=some o') (own:∀b u,H' b=some u->∃o,B.get? b=some o) (q:E (.ref C) none H'):CX1 P w outer H₀ s₀ E (.ref a) s':=by
 have frm:∀b∈frs outer,∃o,h.get? b=some o/\∀vs,o.data≠.fields vs:=λb hb=>(fun1.2.2.mem hb).2
 refine⟨a,C,t,B,H',rfl,os.trans I.os,bare,⟨λb o e n hb _=>fl.1 b o ((cov b o e hb).1 n),λb o e n hb hx=>?_,λb o e n hx=>hu.free b o e n hx,λb o e hx=>?_,hu.tups,hu.frzs,hu.tbls⟩,λb u e=>?_,fl,cov,own,q⟩
 ·obtain⟨sl,e1⟩:=hu.slot b o e n hb hx
  obtain⟨o1,e2,nf⟩:=frm b hb
  rw[e1]at e2;cases e2
  obtain⟨sl2,e3⟩:=ups b _ e1 nf
  exact⟨sl2,e3⟩
 ·by_cases hb:b∈frs outer
  ·obtain⟨o1,e2,nf⟩:=frm b hb
   obtain⟨sl2,e3⟩:=ups b _ e2 nf
   exact⟨_,e3⟩
  ·obtain⟨o',e'⟩:=(cov b o e hb).2
   exact⟨o',fl.1 b o' e'⟩
 ·refine(hok b u e).stay (λc v hc r=>?_) (λ_ z=>z) λ_ _ z=>z
  obtain⟨o,ho⟩:∃o,B.get? c=some o:=by
   rcases hc with rfl|hc
   ·exact own _ _ e
   ·exact own _ _ hc
  have:=st c o ho
  rw[r]at this;cases this
  exact fl.1 c _ ho
theorem raise1{a C:Addr}{h':Heap}{vs:List Value}(I:Inv (cxOf (CX1 P w) P w K mg base N qual scope f cd A outer s₀ H₀ E) pins σ H s)(hx:Y3z s.heap h' a (.ref C) vs)(q:E (.ref C) none H):
  (cxOf (CX1 P w) P w K mg base N qual scope f cd A outer s₀ H₀ E).xe (.ref a) {s with heap:=h'}:=by
 have hst:=I.stack
 have stk:frs (cxOf (CX1 P w) P w K mg base N qual scope f cd A outer s₀ H₀ E).stack=s₀.heap.objs.size::frs outer:=rfl
 have hB:(Y28 s.heap (frs (envOfC qual scope s₀.heap.objs.size f cd::outer))).StaysIn s.heap:=λb o e=>PySem.W.of_hideAll _ e
 have get:∀b o,s.heap.get? b=some o->b∉frs (envOfC qual scope s₀.heap.objs.size f cd::outer)->(Y28 s.heap (frs (envOfC qual scope s₀.heap.objs.size f cd::outer))).get? b=some o:=λb o e n=>Y3A _ e n
 have nfr:∀b o,s₀.heap.get? b=some o->b∉frs outer->b∉frs (envOfC qual scope s₀.heap.objs.size f cd::outer):=λb o e n z=>by
  rcases Y05.mp (show b∈s₀.heap.objs.size::frs outer from z)with rfl|z
  ·exact absurd (Y08 e) (Y1E _)
  ·exact n z
 have ff:=PySem.W.funFrames_hide hst λenv he b hb=>Y2D.mpr ⟨env,he,hb⟩
 have un:Un (frs outer) [] H₀ H s₀.heap s.heap:=I.base
 have cov:∀b o,s₀.heap.get? b=some o->b∉frs outer->(H₀ b=none->(Y28 s.heap (frs (envOfC qual scope s₀.heap.objs.size f cd::outer))).get? b=some o)/\∃o',(Y28 s.heap (frs (envOfC qual scope s₀.heap.objs.size f cd::outer))).get? b=some o':=λb o e n=>by
  refine⟨λz=>get b o (un.keep b o e z n (by simp)) (nfr b o e n),?_⟩
  obtain⟨o',e'⟩:=un.there b o e (by simp)
  exact⟨o',get b o' e' (nfr b o e n)⟩
 refine wpAny_leaves_madeW I.ok.frames rfl hB ff hx λh'' t fl _ _ ups=>?_
 refine left1 (h:=s.heap) (s':={s with heap:=h''}) I rfl I.bare un I.hok hB fl ((Heap.UpToSlots.of_keeps hx.keeps).trans ups) ff cov (λb u e=>?_) q
 obtain⟨o,ho⟩:=(I.hok b u e).there
 exact⟨o,get b o ho λz=>by rw[I.stkFree b z]at e;cases e⟩
theorem pass1:Passes (CX1 P w) (cxOf (CX1 P w) P w K mg base N qual scope f cd A outer s₀ H₀ E) E:=by
 intro pins σ H s e s' I hc
 obtain⟨a,C,t,B,H',rfl,os,bare,un,hok,fl,cov,own,q⟩:=hc
 have I':=I.call' os un hok bare (λ_ z=>nomatch z)
 refine wpAny_leaves_onW I.ok.frames rfl fl λh'' fl' ups=>?_
 refine left1 (h:=s'.heap) (s':={s' with heap:=h''}) I os bare I'.base hok fl.1 fl' ups fl.2.2.1 (λb o e n=>?_) own q
 have nfr:b∉frs (envOfC qual scope s₀.heap.objs.size f cd::outer):=λz=>by
  rcases Y05.mp (show b∈s₀.heap.objs.size::frs outer from z)with rfl|z
  ·exact absurd (Y08 e) (Y1E _)
  ·exact n z
 refine⟨λz=>?_,?_⟩
 ·exact(cov b o (I.base.keep b o e z n (by simp[cxOf])) nfr).1 (I.base.free b o e z (by simp[cxOf]))
 ·obtain⟨o',e'⟩:=I.base.there b o e (by simp[cxOf])
  exact(cov b o' e' nfr).2
theorem own1:PassesOwn (model P w) (cxOf (CX1 P w) P w K mg base N qual scope f cd A outer s₀ H₀ E).A (cxOf (CX1 P w) P w K mg base N qual scope f cd A outer s₀ H₀ E).env (cxOf (CX1 P w) P w K mg base N qual scope f cd A outer s₀ H₀ E).xe:=by
 unfold cxOf
 passes_own
end
end L2
namespace L2
open PySem PySem.Spec PyProof.Rows
noncomputable def nsOk(K:Y00)(N:Addr):Bool:=match K.lookup N with
 |some ⟨_,_,.dict es _,_⟩=>es.toList.all (fun e=>match e.key with|.str _ _=>true|_=>false)&&(nsFind es "__init__").isNone
 |_=>false
theorem nsOk_of{K:Y00}{N:Addr}(e:nsOk K N=true):∃mN,(∀h:Heap,K.In h->h.Ns N mN)/\mN "__init__"=none:=by
 unfold nsOk at e
 split at e
 ·rename_i c d es ep sl ho
  rw[Y06]at e
  refine⟨nsFind es,λh X=>⟨_,es,ep,X _ _ ho,rfl,λx hx=>?_,λ_=>rfl⟩,Option.isNone_iff_eq_none.mp e.2⟩
  have:=Y1g.mp e.1 x (by simpa using hx)
  split at this
  ·rename_i n t z;exact⟨n,t,z⟩
  ·cases this
 ·cases e
noncomputable abbrev veMro:List Value:=[.type "ValueError",.type "Exception",.type "BaseException",.type "object"]
noncomputable def XCls(K:Y00)(C:Addr)(bm:List Value):Prop:=
 ∃nm q N bs hdct sn sub ab col dd k0 k1 k2 k3 k5,K.lookup C=some (excClassObj nm q C N bs bm hdct sn sub ab col dd k0 k1 k2 k3 k5 "ValueError.__new__")/\nsOk K N=true
theorem own_tail{K:Y00}{h:Heap}{F:Addr}(X:K.In h)(hF:XCls K F veMro):OwnTail h veMro (.ref F::veMro):=by
 obtain⟨nm,q,N,bs,hdct,sn,sub,ab,col,dd,k0,k1,k2,k3,k5,l,n⟩:=hF
 obtain⟨mN,a,b⟩:=nsOk_of n
 exact .own (X _ _ l) (a h X) b .base
section
variable{X:Cx}{C F:Addr}{x:Str}{a:Expr}{t:TA}{R:Hp->Prop}{np cpos pos:Pos}
theorem ps_raise(hF:XCls X.K F veMro)(hC:XCls X.K C (.ref F::veMro))(hc:X.calm=true)(hg:Gl X x)(hm:X.mg x=some (.ref C))(ha:PA X [a] t)
  (hxe:∀pins σ H s h' e vs,Inv X pins σ H s->Y3z s.heap h' e (.ref C) vs->R H->X.xe (.ref e) {s with heap:=h'})
  (hdb:(x==("__debug__":Str))=false) (he:starEach [a] X.env=(false,eval a X.env)::starEach [] X.env):
  PS X (.Raise (some (.Call (.Name x np) [a] [] cpos)) none pos) (λ_ σ H=>t σ H λvs H1=>vs.length≤sizeLine/\R H1):=by
 intro pins s σ H D I h
 obtain⟨nm,q,N,bs,hdct,sn,sub,ab,col,dd,k0,k1,k2,k3,k5,l,n⟩:=hC
 have hplain:(backTo cpos (starEach [a] X.env)).any (·.1)=false:=by rw[he];rfl
 obtain⟨mN,hmN,hni⟩:=nsOk_of n
 refine wpAny_Raise_call_subT (mN:=mN) (C:=C) (nm:=nm) (q:=q) (N:=N) (bs:=bs) (bm:=.ref F::veMro) (hdct:=hdct) (sn:=sn) (sub:=sub) (ab:=ab) (col:=col) (dd:=dd) (k0:=k0) (k1:=k1) (k2:=k2) (k3:=k3) (k5:=k5) PySem.F.excBase_ValueError (by rw[Y1u,show veMro.contains (Y0n "BaseException")=true by decide+kernel,Y25]) (I.ok.hd hc) hplain hni ?_
 refine ld_glob I hg hm ⟨rfl,?_⟩ hdb
 have h2:=ha cpos pins s σ H _ I h
 rw[he]at h2 ⊢
 refine Calls.evalArgs_plain (wpAny_mono h2 (λus s1 hs=>?_) λ_ _ z=>z)
 obtain⟨vs,H1,I1,r,hl,q1⟩:=hs
 exact⟨rfl,by rw[<- r.length];exact hl,I1.kIn _ _ l,hmN _ I1.kIn,own_tail I1.kIn hF,λh' e hm=>hxe pins σ H1 s1 h' e us I1 hm q1⟩
end
end L2
namespace L2
open PySem PySem.Spec PyProof.Rows
structure ShortT (x:Str):Prop where
 len:x.length≤100
 cps:∀c∈x.cps.toList,c<16^8
theorem ShortT.rep{x:Str}(h:ShortT x):(reprText x).length≤1002:=by
 have:=StrLaws.reprText_len x h.cps
 have:=h.len
 omega
noncomputable def chkFs(sc:Scope)(N:List Str)(i:Nat):List Expr->Bool
 |[]=>true
 |.FormattedValue (.Name x _) 114 none _::r=>decide (N[i]?=some x)&&visB sc x&& !(x==("__debug__":Str))&& !(x==("__classdict__":Str))&&chkFs sc N i r
 |.Constant (.str s) _ _::r=>decide (s.length≤1000)&&chkFs sc N i r
 |_=>false
section
variable{X:Cx}{pins:List (Addr×Obj)}{σ:St}{H:Hp}{i:Nat}{x:Str}{R:Str->Shared->Prop}
theorem joins_fs(hx:ShortT x)(hσ:σ[i]?=some (some (.str x))):∀(parts:List Expr) (acc:Str) (s:Shared),chkFs X.env.scope X.N i parts=true->Inv X pins σ H s->acc.length+1100*parts.length≤sizeLine->
  (∀out s1,Inv X pins σ H s1->out.length≤sizeLine->R out s1)->Joins (model X.prog X.w) X.A X.xe (evalEach parts X.env) acc R s:=by
 intro parts
 induction parts with
 |nil=>intro acc s _ I hl k;exact k acc s I (by simpa using hl)
 |cons e r ih=>
  intro acc s h I hl k
  have hl:acc.length+1100+1100*r.length≤sizeLine:=by rw[Y0q]at hl;omega
  unfold chkFs at h
  split at h
  ·cases ‹_::_=[]›
  ·rename_i h0
   cases h0
   simp only[Y06,Y1U,decide_eq_true_eq]at h
   obtain⟨⟨⟨⟨a1,a2⟩,a3⟩,a4⟩,a5⟩:=h
   have hr:=hx.rep
   have fin:∀t' s1,Inv X pins σ H s1->∃y t,Y0r (reprText x) t'=.str y t/\(acc++y).length≤sizeLine/\Joins (model X.prog X.w) X.A X.xe (evalEach r X.env) (acc++y) R s1:=λt' s1 I1=>by
    refine⟨_,_,rfl,?_,ih _ _ a5 I1 ?_ k⟩
    ·rw[strLen_append];omega
    ·rw[strLen_append];omega
   refine wpAny_FormattedValue_repr (thn (pe_var a1 (vis_of a2) a3 a4 pins s σ H (λv H'=>v=.str x/\H'=H) I ⟨_,hσ,rfl,rfl⟩) λu s1 ⟨v,H1,I1,r1,e1,e2⟩=>?_)
   subst e1 e2
   obtain⟨t,rfl⟩:=r1
   exact pyReprObj_str (wpAny_handedOn (fin _ _ (I1.tok _)) (fin _ _ (I1.tok _)) (by omega)) (by omega)
  ·rename_i h0
   cases h0
   simp only[Y06,decide_eq_true_eq]at h
   obtain⟨h1,h2⟩:=h
   refine Calls.Constant_str ⟨_,_,rfl,?_,ih _ _ h2 (I.tok _) ?_ k⟩
   ·rw[strLen_append];omega
   ·rw[strLen_append];omega
  ·cases h
noncomputable def asFs:Expr->Option (List Expr)|.JoinedStr (a::b::r) _=>some (a::b::r)|_=>none
theorem asFs_of{e:Expr}{q:List Expr}(h:asFs e=some q):∃a b r p,q=a::b::r/\e=.JoinedStr (a::b::r) p:=by
 unfold asFs at h
 split at h
 ·cases h;exact⟨_,_,_,_,rfl,rfl⟩
 ·cases h
noncomputable def tFs(i:Nat):TE:=λσ H Q=>∃x,σ[i]?=some (some (.str x))/\ShortT x/\∀y,Q (.str y) H
theorem pe_fs{e:Expr}{q:List Expr}(h1:asFs e=some q)(h2:q.length≤10)(h3:chkFs X.env.scope X.N i q=true):PE X e (tFs i):=by
 obtain⟨a,b,r,p,rfl,rfl⟩:=asFs_of h1
 rintro pins s σ H Q I ⟨x,hσ,hx,q⟩
 refine wpAny_JoinedStr (joins_fs hx hσ _ _ _ h3 I ?_ λout s1 I1 hl=>⟨hl,?_⟩)
 ·have:(Y3a).length=0:=rfl
  have:20000≤sizeLine:=by decide
  omega
 ·exact⟨.str out,H,I1.tok _,⟨_,rfl⟩,q out⟩
end
end L2
namespace L2
set_option genInjectivity false
open PySem PySem.Spec PyProof.Rows
noncomputable abbrev SpX:=List MV->MH->QM->(Str->MH->Prop)->Prop
noncomputable def MonX(sp:SpX):Prop:=∀⦃vs:List MV⦄ ⦃M:MH⦄ ⦃Q Q':QM⦄ ⦃X X':Str->MH->Prop⦄,(∀v M,Q v M->Q' v M)->(∀c M,X c M->X' c M)->sp vs M Q X->sp vs M Q' X'
noncomputable def liEx(K:Y00)(E:XK)(H:Hp):Str->MH->Prop:=λc M'=>∀C H',Y0j K mainGlobals c=some (some (.ref C))->Kp H H'->RH K M' H'->E (.ref C) none H'
noncomputable def liSpX(K:Y00)(sp:SpX):Sp:=λvs H Q E=>∃ms M,RMs K H ms vs/\RH K M H/\sp ms M (Dn K H Q) (liEx K E H)
mutual
inductive IX where
 |pl (s:IS)
 |rs (c:Str) (e:IE)
 |rf (c:Str) (i:Nat)
 |cl (j:Nat) (e:IE) (es:IEs)
 |st (i j:Nat) (e:IE) (es:IEs)
 |rt (j:Nat) (e:IE) (es:IEs)
 |ite (c:IE) (a b:IXs)
 |for_ (t:ITg) (s:ISr) (b:IXs)
inductive IXs where|nil|cons (s:IX) (r:IXs)
end
noncomputable def Src.flat:Src->Prop
 |.dic _ _ _=>False
 |_=>True
section
variable(Φ:List (Str×SpM))(Ψ:List (Str×SpX))(ex:Str->MH->Prop)
mutual
noncomputable def wX:IX->EndM->Sm->MH->Prop
 |.pl s,D,σ,M=>wS Φ s D σ M
 |.rs c e,_,σ,M=>wE Φ e σ M λ_ M1=>ex c M1
 |.rf c i,_,σ,M=>∃x,σ[i]?=some (some (.str x))/\ShortT x/\ex c M
 |.cl j e es,D,σ,M=>wE Φ e σ M λv M1=>wEs Φ es σ M1 λvs M2=>∃f sp,Ψ[j]?=some (f,sp)/\sp (v::vs) M2 (λ_ M3=>D.nx σ M3) ex
 |.st i j e es,D,σ,M=>wE Φ e σ M λv M1=>wEs Φ es σ M1 λvs M2=>∃f sp,Ψ[j]?=some (f,sp)/\sp (v::vs) M2 (λx M3=>D.nx (σ.set i (some x)) M3) ex
 |.rt j e es,D,σ,M=>wE Φ e σ M λv M1=>wEs Φ es σ M1 λvs M2=>∃f sp,Ψ[j]?=some (f,sp)/\sp (v::vs) M2 D.rt ex
 |.ite c a b,D,σ,M=>wE Φ c σ M λx M1=>onB x λk=>(if k=true then wXs a D σ M1 else wXs b D σ M1)
 |.for_ t s b,D,σ,M=>wSr Φ s σ M λS M1=>S.flat/\∃J:Nat->Sm->MH->Prop,J 0 σ M1/\(∀i σ M,J i σ M->S.ok M)/\
   (∀i x σ M,S.items[i]?=some x->J i σ M->wTg t x σ λσ2=>wXs b {nx:=J (i+1),rt:=D.rt,bk:=D.nx,ct:=J (i+1)} σ2 M)/\∀σ M,J S.len σ M->D.nx σ M
noncomputable def wXs:IXs->EndM->Sm->MH->Prop
 |.nil,D,σ,M=>D.nx σ M
 |.cons s r,D,σ,M=>wX s {nx:=λσ M=>wXs r D σ M,rt:=D.rt,bk:=D.bk,ct:=D.ct} σ M
end
end
section
variable{Φ:List (Str×SpM)}{Ψ:List (Str×SpX)}{ex:Str->MH->Prop}
theorem x_iteX{c:IE}{a b:IXs}{D:EndM}{σ:Sm}{M:MH}:wX Φ Ψ ex (.ite c a b) D σ M=wE Φ c σ M λx M1=>∃k,x=.bl k/\(if k=true then wXs Φ Ψ ex a D σ M1 else wXs Φ Ψ ex b D σ M1):=by rw[wX];simp only[onB_ex]
mutual
theorem mon_x(hΦ:∀(j:Nat) f sp,Φ[j]?=some (f,sp)->MonW sp) (hΨ:∀(j:Nat) f sp,Ψ[j]?=some (f,sp)->MonX sp):∀(s:IX) {ex':Str->MH->Prop} {D D':EndM} {σ:Sm} {M:MH},(∀c M,ex c M->ex' c M)->D.Le D'->wX Φ Ψ ex s D σ M->wX Φ Ψ ex' s D' σ M
 |.pl s,ex',D,D',σ,M,hx,l,h=>by exact mon_s hΦ s l h
 |.rs c e,ex',D,D',σ,M,hx,l,h=>by exact Z04 hΦ e (λv M1 h1=>hx _ _ h1) h
 |.rf c i,ex',D,D',σ,M,hx,l,⟨x,e,t,h⟩=>by exact⟨x,e,t,hx _ _ h⟩
 |.cl j e es,ex',D,D',σ,M,hx,l,h=>by
  exact Z04 hΦ e (λv M1 h1=>mon_es hΦ es (λvs M2 ⟨f,sp,e,h2⟩=>⟨f,sp,e,hΨ j f sp e (λ_ _ z=>l.nx _ _ z) hx h2⟩) h1) h
 |.st i j e es,ex',D,D',σ,M,hx,l,h=>by
  exact Z04 hΦ e (λv M1 h1=>mon_es hΦ es (λvs M2 ⟨f,sp,e,h2⟩=>⟨f,sp,e,hΨ j f sp e (λ_ _ z=>l.nx _ _ z) hx h2⟩) h1) h
 |.rt j e es,ex',D,D',σ,M,hx,l,h=>by
  exact Z04 hΦ e (λv M1 h1=>mon_es hΦ es (λvs M2 ⟨f,sp,e,h2⟩=>⟨f,sp,e,hΨ j f sp e l.rt hx h2⟩) h1) h
 |.ite c a b,ex',D,D',σ,M,hx,l,h=>by
  rw[x_iteX]at h ⊢
  exact Z04 hΦ c (λx M1 ⟨k,e,h1⟩=>⟨k,e,Z19 (mon_xs hΦ hΨ a hx l) (mon_xs hΦ hΨ b hx l) h1⟩) h
 |.for_ t s b,ex',D,D',σ,M,hx,l,h=>by
  refine mon_sr hΦ s (λS M1 ⟨fl,J,j0,j1,j2,j3⟩=>⟨fl,J,j0,j1,λi x σ M hi hj=>?_,λσ M hj=>l.nx _ _ (j3 σ M hj)⟩) h
  exact mon_tg t (λσ2 h2=>by refine mon_xs hΦ hΨ b hx ?_ h2;exact⟨λ_ _ z=>z,l.rt,l.nx,λ_ _ z=>z⟩) (j2 i x σ M hi hj)
theorem mon_xs(hΦ:∀(j:Nat) f sp,Φ[j]?=some (f,sp)->MonW sp) (hΨ:∀(j:Nat) f sp,Ψ[j]?=some (f,sp)->MonX sp):∀(s:IXs) {ex':Str->MH->Prop} {D D':EndM} {σ:Sm} {M:MH},(∀c M,ex c M->ex' c M)->D.Le D'->wXs Φ Ψ ex s D σ M->wXs Φ Ψ ex' s D' σ M
 |.nil,ex',D,D',σ,M,hx,l,h=>by exact l.nx _ _ h
 |.cons s r,ex',D,D',σ,M,hx,l,h=>by
  refine mon_x hΦ hΨ s hx ?_ h
  exact⟨λσ M h1=>mon_xs hΦ hΨ r hx l h1,l.rt,l.bk,l.ct⟩
end
end
noncomputable def asRaise:Stmt->Option (Str×Expr)
 |.Raise (some (.Call (.Name x _) [a] [] _)) none _=>some (x,a)
 |_=>none
theorem asRaise_of{st:Stmt}{q:Str×Expr}(h:asRaise st=some q):∃np cpos pos,st=.Raise (some (.Call (.Name q.1 np) [q.2] [] cpos)) none pos:=by
 unfold asRaise at h
 split at h
 ·cases h;exact⟨_,_,_,rfl⟩
 ·cases h
structure GX where
 g:GI
 xf:List Str
 xc:List Str
noncomputable def chkC(G:GX)(sc:Scope)(N:List Str)(j:Nat)(e:IE)(es:IEs)(v:Expr):Bool:=
 (asCall v).any λq=>(Z15 q.1).any λf=>(hd1 q.2.1).any λy=>non0 q.2.2.1&&decide (G.xf[j]?=some f)&&glB sc f&&chkE G.g e sc N y.1&&chkEs G.g es sc N y.2
mutual
noncomputable def chkX(G:GX)(sc:Scope)(N:List Str):IX->Stmt->Bool
 |.pl s,st=>chkS G.g sc N s st
 |.rs c e,st=>(asRaise st).any λq=>decide (q.1=c)&&G.xc.contains c&&glB sc c&&chkE G.g e sc N q.2
 |.rf c i,st=>(asRaise st).any λq=>(asFs q.2).any λl=>decide (q.1=c)&&G.xc.contains c&&glB sc c&&decide (l.length≤10)&&chkFs sc N i l
 |.cl j e es,st=>(asEx st).any λv=>chkC G sc N j e es v
 |.st i j e es,st=>(asAsg st).any λq=>(the1 q.1).any λt=>(Z15 t).any λx=>decide (N[i]?=some x)&&locB sc x&&chkC G sc N j e es q.2
 |.rt j e es,st=>(asRet st).any λo=>o.any λx=>chkC G sc N j e es x
 |.ite c a b,s=>(asIfS s).any λq=>tok c&&chkE G.g c sc N q.1&&chkXs G sc N a q.2.1&&chkXs G sc N b q.2.2
 |.for_ t r b,s=>(asFor s).any λq=>chkTg sc N N.length true t q.1&&chkSr G.g r sc N q.2.1&&notSet q.2.1&&chkXs G sc N b q.2.2.1&&non0 q.2.2.2
noncomputable def chkXs(G:GX)(sc:Scope)(N:List Str):IXs->List Stmt->Bool
 |.nil,l=>non0 l
 |.cons s r,l=>(hd1 l).any λq=>chkX G sc N s q.1&&chkXs G sc N r q.2
end
theorem chkC_of{G:GX}{sc:Scope}{N:List Str}{j:Nat}{a:IE}{es:IEs}{v:Expr}(h:chkC G sc N j a es v=true):∃f p x xs p2,v=.Call (.Name f p) (x::xs) [] p2/\G.xf[j]?=some f/\glB sc f=true/\chkE G.g a sc N x=true/\chkEs G.g es sc N xs=true:=by
 replace h:=Z02 h
 obtain⟨⟨f,l,ks,p2⟩,h1,h⟩:=h
 obtain rfl:=Z16 h1
 replace h:=Z02 h
 obtain⟨g,h2,h⟩:=h
 obtain⟨p,rfl⟩:=Z0c h2
 replace h:=Z02 h
 obtain⟨⟨x,xs⟩,h3,h⟩:=h
 obtain rfl:=hd1_of h3
 simp only[Y06]at h
 obtain⟨⟨⟨⟨a1,a2⟩,a3⟩,a4⟩,a5⟩:=h
 obtain rfl:=Z0s a1
 exact⟨g,p,x,xs,p2,rfl,Z06 a2,a3,a4,a5⟩
section
variable{X:Cx}{E:Value->Shared->Prop}
theorem PA.nox{es:List Expr}{t:TA}(h:PA X.nox es t):PA X es t:=λpos pins s σ H Q I hw=>
 wpAny_mono (h pos pins s σ H Q (I.wish _) hw) (λ_ _ ⟨v,H',I',r,q⟩=>⟨v,H',I'.unwish,r,q⟩) λ_ _ z=>Y0D z
theorem PS.nox{st:Stmt}{t:TS}(h:PS X.nox st t):PS X st t:=λpins s σ H D I hw=>
 wpAny_mono (h pins s σ H D (I.wish _) hw) (λ_ _ q=>q.unwish) λ_ _ z=>Y0D z
theorem PG.nox{e:Expr}{t:TG}(h:PG X.nox e t):PG X e t:=λpins s σ H v u Q I r hw=>
 wpAny_mono (h pins s σ H v u Q (I.wish _) r hw) (λ_ _ ⟨σ',H',I',q⟩=>⟨σ',H',I'.unwish,q⟩) λ_ _ z=>Y0D z
theorem PI.nox{tg e:Expr}{t:TI}(h:PI X.nox tg e t):PI X tg e t:=λpins s σ H R I hw=>
 wpAny_mono (h pins s σ H R (I.wish _) hw) (λ_ _ q=>wpAny_mono q (λ_ _ ⟨it,fp,tn,J,H',e,I',T,t0,f,r⟩=>⟨it,fp,tn,J,H',e,I'.unwish,T,t0,f,r⟩) λ_ _ z=>Y0D z) λ_ _ z=>Y0D z
end
structure Xok (X:Cx) (G:GX) (Φ:List (Str×SpM)) (Ψ:List (Str×SpX)) (H₀:Hp) (E:XK):Prop where
 c:Cok X.nox G.g Φ
 nd:X.N.Nodup
 calm:X.calm=true
 own:PassesOwn (model X.prog X.w) X.A X.env X.xe
 pass:Passes (CX1 X.prog X.w) X E
 rais:∀pins σ H s h' e C vs,Inv X pins σ H s->Y3z s.heap h' e (.ref C) vs->E (.ref C) none H->X.xe (.ref e) {s with heap:=h'}
 mon:∀(j:Nat) f sp,Ψ[j]?=some (f,sp)->MonX sp
 fnn:∀(j:Nat) f,G.xf[j]?=some f->∃sp,Ψ[j]?=some (f,sp)
 fns:∀(j:Nat) f sp,G.xf[j]?=some f->Ψ[j]?=some (f,sp)->∃k fa fd ps,Room k X.A/\FnOk X.prog X.w X.K X.mg X.base (CX1 X.prog X.w) k fa fd ps (liSpX X.K sp)/\X.mg f=some (.ref fa)/\Y0U X.K (.ref fa)=true/\Binds X.K fd ps []
 exc:∀c,G.xc.contains c=true->∃C F,X.mg c=some (.ref C)/\Y0j X.K mainGlobals c=some (some (.ref C))/\XCls X.K F veMro/\XCls X.K C (.ref F::veMro)
noncomputable def liXt(K:Y00)(H₀:Hp)(t:EndM->Sm->MH->Prop):TS:=λD σ H=>Kp H₀ H/\∃σm M,RS K H σm σ/\RH K M H/\t (liD K H D) σm M
section
variable{X:Cx}{G:GX}{Φ:List (Str×SpM)}{Ψ:List (Str×SpX)}{H₀:Hp}{E:XK}{ex:Str->MH->Prop}
theorem sCl(x:Xok X G Φ Ψ H₀ E)(hex:∀c M',ex c M'->liEx X.K E H₀ c M'){j:Nat}{a:IE}{es:IEs}{v:Expr}(h:chkC G X.env.scope X.N j a es v=true):
  PE X v (λσ H Q=>Kp H₀ H/\∃σm M,RS X.K H σm σ/\RH X.K M H/\wE Φ a σm M λv M1=>wEs Φ es σm M1 λvs M2=>∃f sp,Ψ[j]?=some (f,sp)/\sp (v::vs) M2 (Dn X.K H Q) ex)/\notComp v=true:=by
 obtain⟨f,p,y,ys,p2,rfl,h1,h2,h3,h4⟩:=chkC_of h
 obtain⟨g1,g2,g3⟩:=gl_of h2
 obtain⟨sp,hj⟩:=x.fnn j f h1
 obtain⟨k,fa,fd,ps,hr,F,hm,hk,hb⟩:=x.fns j f sp h1 hj
 have c:=x.c
 have ha:PA X (y::ys) (tCons (liE X.K (wE Φ a)) (liA X.K (wEs Φ es))):=PA.nox (Z0K (X:=X.nox) (sE a c h3).pe (sA es c h4) (Z08 h3))
 refine⟨(pe_call (E:=E) F hr g1 hm hk hb .nil x.pass ha g2 (Z08 h3) (back_all (star_any (pos:=p2) h4)).2).weak λσ H Q hw=>?_,rfl⟩
 obtain⟨k0,σm,M,rs,rh,hw⟩:=hw
 refine⟨σm,M,rs,rh,Z04 c.mon a (λv M1 q1=>?_) hw⟩
 intro u H1 k1 r1 rh1
 refine⟨σm,M1,rs.mono k1,rh1,mon_es c.mon es (λvs M2 ⟨f',sp',e,q2⟩=>?_) q1⟩
 rw[hj]at e
 cases e
 intro us H2 k2 r2 rh2
 refine⟨v::vs,M2,?_,rh2,x.mon j f sp hj (λm M' hq=>hq.on (k1.trans k2)) (λc' M' hc C H' e' kk rr=>hex c' M' hc C H' e' (k0.trans (k1.trans (k2.trans kk))) rr) q2⟩
 rw[Y1e]
 exact .cons (r1.mono k2) r2
mutual
theorem sX(x:Xok X G Φ Ψ H₀ E)(hex:∀c M',ex c M'->liEx X.K E H₀ c M')(hf:∀y,X.fn y=true):∀(is:IX) {st:Stmt},chkX G X.env.scope X.N is st=true->PS X st (liXt X.K H₀ (wX Φ Ψ ex is))
 |.pl s,st,h=>by
  refine(PS.nox (sS s x.c hf h)).weak λD σ H hw=>?_
  obtain⟨_,hw⟩:=hw
  exact hw
 |.rs c e,st,h=>by
  replace h:=Z02 h
  obtain⟨⟨n,a⟩,h1,h⟩:=h
  obtain⟨np,cpos,pos,rfl⟩:=asRaise_of h1
  simp only[Y06]at h
  obtain⟨⟨⟨a1,a2⟩,a3⟩,a4⟩:=h
  obtain rfl:=Z06 a1
  obtain⟨g1,g2,g3⟩:=gl_of a3
  obtain⟨C,F,m1,m2,cF,cC⟩:=x.exc _ a2
  have ha:PA X [a] (tCons (liE X.K (wE Φ e)) tNil):=PA.nox (Z0K (X:=X.nox) (sE e x.c a4).pe pa_nil (Z08 a4))
  refine(ps_raise (R:=λH=>E (.ref C) none H) cF cC x.calm g1 m1 ha (λpins σ H s h' e vs I hm q=>x.rais pins σ H s h' e C vs I hm q) g2 (Z08 a4)).weak λD σ H hw=>?_
  obtain⟨k0,σm,M,rs,rh,hw⟩:=hw
  refine⟨σm,M,rs,rh,Z04 x.c.mon e (λv M1 q1=>?_) hw⟩
  intro u H1 k1 r1 rh1
  refine⟨by rw[Y1s];decide,?_⟩
  exact hex _ _ q1 C H1 m2 (k0.trans k1) rh1
 |.rf c i,st,h=>by
  replace h:=Z02 h
  obtain⟨⟨n,a⟩,h1,h⟩:=h
  obtain⟨np,cpos,pos,rfl⟩:=asRaise_of h1
  replace h:=Z02 h
  obtain⟨l,h2,h⟩:=h
  simp only[Y06]at h
  obtain⟨⟨⟨⟨a1,a2⟩,a3⟩,a4⟩,a5⟩:=h
  obtain rfl:=Z06 a1
  obtain⟨g1,g2,g3⟩:=gl_of a3
  obtain⟨C,F,m1,m2,cF,cC⟩:=x.exc _ a2
  have st1:starEach [a] X.env=(false,eval a X.env)::starEach [] X.env:=by obtain⟨_,_,_,_,_,e⟩:=asFs_of h2;cases e;rfl
  have ha:PA X [a] (tCons (tFs i) tNil):=Z0K (pe_fs h2 (Z06 a4) a5) pa_nil st1
  refine(ps_raise (R:=λH=>E (.ref C) none H) cF cC x.calm g1 m1 ha (λpins σ H s h' e vs I hm q=>x.rais pins σ H s h' e C vs I hm q) g2 st1).weak λD σ H hw=>?_
  obtain⟨k0,σm,M,rs,rh,y,hy,hs,hw⟩:=hw
  obtain⟨v,hv,rv⟩:=rs.2 i _ hy
  cases rv
  refine⟨y,hv,hs,λz=>⟨by rw[Y1s];decide,?_⟩⟩
  exact hex _ _ hw C H m2 k0 rh
 |.cl j e es,st,h=>by
  replace h:=Z02 h
  obtain⟨v,h1,h⟩:=h
  obtain⟨p,rfl⟩:=asEx_of h1
  obtain⟨hp,hn⟩:=sCl x hex h
  refine(ps_expr hp (swap_none hn)).weak λD σ H hw=>?_
  obtain⟨k0,σm,M,rs,rh,hw⟩:=hw
  refine⟨k0,σm,M,rs,rh,Z04 x.c.mon e (λv M1 q1=>mon_es x.c.mon es (λvs M2 ⟨f,sp,e1,q2⟩=>⟨f,sp,e1,x.mon j f sp e1 (λm M' z=>?_) (λ_ _ z=>z) q2⟩) q1) hw⟩
  intro u H1 k1 r1 rh1
  exact z _ _ k1 (rs.mono k1) rh1
 |.st i j e es,st,h=>by
  replace h:=Z02 h
  obtain⟨⟨ts,v⟩,h1,h⟩:=h
  obtain⟨p,rfl⟩:=asAsg_of h1
  replace h:=Z02 h
  obtain⟨t,h2,h⟩:=h
  obtain rfl:=Z1W h2
  replace h:=Z02 h
  obtain⟨y,h3,h⟩:=h
  obtain⟨px,rfl⟩:=Z0c h3
  simp only[Y06]at h
  obtain⟨⟨a1,a2⟩,a3⟩:=h
  obtain⟨hp,hn⟩:=sCl x hex a3
  refine(ps_set x.nd (Z06 a1) (loc_of a2) hp (swap_name hn) (.inl (hf _))).weak λD σ H hw=>?_
  obtain⟨k0,σm,M,rs,rh,hw⟩:=hw
  refine⟨k0,σm,M,rs,rh,Z04 x.c.mon e (λv M1 q1=>mon_es x.c.mon es (λvs M2 ⟨f,sp,e1,q2⟩=>⟨f,sp,e1,x.mon j f sp e1 (λm M' z=>?_) (λ_ _ z=>z) q2⟩) q1) hw⟩
  intro u H1 k1 r1 rh1
  exact z _ _ k1 ((rs.mono k1).set r1 i) rh1
 |.rt j e es,st,h=>by
  replace h:=Z02 h
  obtain⟨o,h1,h⟩:=h
  obtain⟨p,rfl⟩:=asRet_of h1
  replace h:=Z02 h
  obtain⟨v,rfl,h⟩:=h
  obtain⟨hp,hn⟩:=sCl x hex h
  refine(ps_ret hp).weak λD σ H hw=>?_
  obtain⟨k0,σm,M,rs,rh,hw⟩:=hw
  exact⟨k0,σm,M,rs,rh,hw⟩
 |.ite d a b,st,h=>by
  replace h:=Z02 h
  obtain⟨⟨t,u,v⟩,h1,h⟩:=h
  obtain⟨p,rfl⟩:=asIfS_of h1
  simp only[Y06]at h
  obtain⟨⟨⟨a1,a2⟩,a3⟩,a4⟩:=h
  refine(ps_if (PT.nox ((sE d x.c a2).pt a1)) (sXs x hex hf a a3) (sXs x hex hf b a4)).weak λD σ H hw=>?_
  obtain⟨k0,σm,M,rs,rh,hw⟩:=hw
  rw[x_iteX]at hw
  refine⟨σm,M,rs,rh,Z04 x.c.mon d (λy M1 ⟨k,e,q⟩=>⟨k,e,λH1 k1 rh1=>?_⟩) hw⟩
  exact Z19 (λq=>⟨k0.trans k1,σm,M1,rs.mono k1,rh1,mon_xs x.c.mon x.mon a (λ_ _ z=>z) (liD.on k1) q⟩) (λq=>⟨k0.trans k1,σm,M1,rs.mono k1,rh1,mon_xs x.c.mon x.mon b (λ_ _ z=>z) (liD.on k1) q⟩) q
 |.for_ t s b,st,h=>by
  replace h:=Z02 h
  obtain⟨⟨tg,it,body,els⟩,h1,h⟩:=h
  obtain⟨p,rfl⟩:=asFor_of h1
  simp only[Y06]at h
  obtain⟨⟨⟨⟨a1,a2⟩,a3⟩,a4⟩,a5⟩:=h
  obtain rfl:=Z0s a5
  refine(ps_for x.own x.calm (PI.nox (sSr s (tg:=tg) x.c a2)) (PG.nox (sTg (X:=X.nox) (lim:=X.N.length) (all:=true) x.c.calm x.c.nd (λ_=>hf) t a1)) (sXs x hex hf b a4) (fold_set a3 _)).weak λD σ H hw=>?_
  obtain⟨k0,σm,M,rs,rh,hw⟩:=hw
  refine⟨σm,M,rs,rh,mon_sr x.c.mon s (λS M1 ⟨fl,J,j0,j1,j2,j3⟩=>?_) hw⟩
  intro I H1 k1 rh1 sit
  refine⟨λi m σ' H'=>m=S.len - i/\i≤S.len/\Kp H1 H'/\∃σm' M',RS X.K H' σm' σ'/\RH X.K M' H'/\J i σm' M',⟨_,rfl,Y1x _,Kp.refl _,σm,M1,rs.mono k1,rh1,j0⟩,?_⟩
  rintro i m σ2 H2 ⟨rfl,hi,k2,σm2,M2,rs2,rh2,hj⟩
  obtain⟨goes,stops⟩:=src_turn sit k2 rh2 (j1 i σm2 M2 hj)
  by_cases hlt:i<S.len
  ·obtain⟨go,yld⟩:=goes i hlt
   refine .inr ⟨go,λσ' H'=>Kp H1 H'/\∃σm' M',RS X.K H' σm' σ'/\RH X.K M' H'/\J (i+1) σm' M',λσ' H' ⟨a,z⟩=>⟨S.len - (i+1),by lia,rfl,hlt,a,z⟩,λy H' yl=>?_⟩
   obtain⟨e,m,hm,rm⟩:=yld y H' yl
   subst e
   refine tg_ok (Ψ:=λ_=>True) (lim:=X.N.length) (λ_ _ _ _ z=>z) t a1 rm rs2 trivial (j2 i m σm2 M2 hm hj) λσm3 σ3 q rs3 _=>?_
   refine⟨k0.trans (k1.trans k2),σm3,M2,rs3,rh2,?_⟩
   refine mon_xs x.c.mon x.mon b (λ_ _ z=>z) ?_ q
   exact⟨λσ' M' z σv H3 k3 rs' rh'=>⟨k2.trans k3,σ',M',rs',rh',z⟩,λv M' z=>z.on (k1.trans k2),λσ' M' z σv H3 k3=>z σv H3 (k1.trans (k2.trans k3)),λσ' M' z σv H3 k3 rs' rh'=>⟨k2.trans k3,σ',M',rs',rh',z⟩⟩
  ·have e:i=S.len:=by lia
   subst e
   exact .inl ⟨stops _ (Y09 _),j3 σm2 M2 hj _ _ (k1.trans k2) rs2 rh2⟩
theorem sXs(x:Xok X G Φ Ψ H₀ E)(hex:∀c M',ex c M'->liEx X.K E H₀ c M')(hf:∀y,X.fn y=true):∀(is:IXs) {sts:List Stmt},chkXs G X.env.scope X.N is sts=true->PSs X sts (liXt X.K H₀ (wXs Φ Ψ ex is))
 |.nil,sts,h=>by
  obtain rfl:=Z0s h
  refine pss_nil.weak λD σ H hw=>?_
  obtain⟨_,σm,M,rs,rh,hw⟩:=hw
  exact hw σ H (Kp.refl _) rs rh
 |.cons s r,sts,h=>by
  replace h:=Z02 h
  obtain⟨⟨y,ys⟩,h1,h⟩:=h
  obtain rfl:=hd1_of h1
  rw[Y06]at h
  refine(pss_cons (sX x hex hf s h.1) (sXs x hex hf r h.2)).weak λD σ H hw=>?_
  obtain⟨k0,σm,M,rs,rh,hw⟩:=hw
  refine⟨k0,σm,M,rs,rh,?_⟩
  refine mon_x x.c.mon x.mon s (λ_ _ z=>z) ?_ hw
  refine⟨λσ' M' z σv H1 k1 rs' rh'=>?_,λv M' z=>z,λσ' M' z=>z,λσ' M' z=>z⟩
  exact⟨k0.trans k1,σ',M',rs',rh',mon_xs x.c.mon x.mon r (λ_ _ z=>z) (liD.on k1) z⟩
end
end
end L2
namespace L2
open PySem PySem.Spec PyProof.Rows
section
variable{prog:Program}{w:World}{A:Around}{E:Value->Shared->Prop}{h:Heap}{g:Array GenState}{d:Drawn}{t:Nat}{os:OsState}{a:Addr}{o:Obj}
 {nm q:Str} {C N:Addr} {bs bm:List Value} {hdct:Bool} {sn:List Str} {sub:List Value} {ab:Bool} {col:Option Bool} {dd:Option Addr} {k0 k1 k2 k3 k5:Option Value} {newId:String}
theorem class_get_exc{R:Result->Shared->Prop}(hC:h.get? C=some (excClassObj nm q C N bs bm hdct sn sub ab col dd k0 k1 k2 k3 k5 newId))(hb:bm.contains (.type "object")=true)
  (hx:h.get? a=some o) (hc:o.cls=.ref C) (hq:R (.ok (.ret (.ref C))) ⟨h,g,d,t,os⟩):
  codeAny (model prog w) A (.call (.builtin "getset_descriptor.__get__") ⟨[.builtin "object.__class__",.ref a,.ref C],[]⟩) R ⟨h,g,d,t,os⟩:=by
 have hT5:(⟨h,g,d,t,os⟩:Shared).TypeIs (.builtin "object.__class__") "getset_descriptor":=Y2p
 have hcB:(Y0k C::bm).contains (.type (".".intercalate ("object.__class__".cutAt '.').dropLast))=true:=by
  rw[F.owner_object_class,Y1u,hb];rfl
 refine codeAny_call_builtin F.slot_gs_get.plain F.entry_gs_get (F.slot_gs_get.check _ _ _ _ _ _ _ _ hT5 (F.args_gs_get _ _ _) ?_)
 repeat (any_goals (first|assumption|(with_reducible refine wpAny_loadPart_at hx ?_;rw[hc])|(with_reducible refine wpAny_isSubtype_exc hC ?_;rw[hcB])|wp_step))
 refine⟨Code.quiet_builtin _ (by decide+kernel),codeAny_builtin F.entry_object_class ?_⟩
 repeat (any_goals (first|assumption|(with_reducible refine wpAny_loadPart_at hx ?_;rw[hc])|wp_step))
noncomputable abbrev Lk(prog:Program)(w:World)(h:Heap)(C:Addr)(n:Str)(r:Option Value):Prop:=∀(A:Around) (Q:Option Value->Shared->Prop) (E:Value->Shared->Prop) (g:Array GenState) (d:Drawn) (t:Nat) (os:OsState),Q r ⟨h,g,d,t,os⟩->wpAny (model prog w) A (typeLookup (.ref C) n) Q E ⟨h,g,d,t,os⟩
theorem class_entry_exc{tk:Tok}{Q:Fin->Shared->Prop}(hC:h.get? C=some (excClassObj nm q C N bs bm hdct sn sub ab col dd k0 k1 k2 k3 k5 newId))(hb:bm.contains (.type "object")=true)
  (l3:Lk prog w h C "__class__" (some (.builtin "object.__class__"))) (hx:h.get? a=some o) (hc:o.cls=.ref C) (hq:Q (.done (.ret (.ref C))) ⟨h,g,d,t,os⟩):
  wpAny (model prog w) A (Builtin.«object.__getattribute__» ⟨[.ref a,.str "__class__" tk],[]⟩) Q E ⟨h,g,d,t,os⟩:=by
 have hT5:(⟨h,g,d,t,os⟩:Shared).TypeIs (.builtin "object.__class__") "getset_descriptor":=Y2p
 have f5:=Y2p
 have f6:=F.slot_gs_get.lookup
 have f7:=F.slot_gs_set.lookup
 repeat (any_goals (first|assumption|(with_reducible refine wpAny_loadPart_at hx ?_;rw[hc])|with_reducible refine l3 _ _ _ _ _ _ _ ?_|wp_step))
 refine class_get_exc hC hb hx hc ?_
 repeat (any_goals (first|assumption|wp_step))
theorem check_ga_exc{M:Model}{nameV:Value}{Q:Unit->Shared->Prop}(hC:h.get? C=some (excClassObj nm q C N bs bm hdct sn sub ab col dd k0 k1 k2 k3 k5 newId))(hb:bm.contains (.type "BaseException")=true)
  (hx:h.get? a=some o) (hc:o.cls=.ref C) (hq:Q () ⟨h,g,d,t,os⟩):wpAny M A (checkBuiltinCall "BaseException.__getattribute__" ⟨[.ref a,nameV],[]⟩) Q E ⟨h,g,d,t,os⟩:=by
 have hk:builtinKind "BaseException.__getattribute__"=some .slot:=by decide+kernel
 have hsplit:splitId "BaseException.__getattribute__"=some ("BaseException","__getattribute__"):=by decide+kernel
 have hcB:(Y0k C::bm).contains (.type "BaseException")=true:=by rw[Y1u,hb];rfl
 have ha:=F.args_bexc_ga (.ref a) nameV
 simp only[checkBuiltinCall,hk,hsplit]
 refine wpAny_bind ?_
 ·unfold isInstance
  repeat (first|(with_reducible refine wpAny_loadPart_at hx ?_;rw[hc])|(with_reducible refine wpAny_isSubtype_exc hC ?_;rw[hcB])|wp_step)
  exact hq
theorem class_attr_exc{Q:Option Value->Shared->Prop}(hC:h.get? C=some (excClassObj nm q C N bs bm hdct sn sub ab col dd k0 k1 k2 k3 k5 newId))(hb:bm.contains (.type "BaseException")=true)(hbo:bm.contains (.type "object")=true)
  (l1:Lk prog w h C "__getattribute__" (some (.builtin "BaseException.__getattribute__"))) (l2:Lk prog w h C "__getattr__" none) (l3:Lk prog w h C "__class__" (some (.builtin "object.__class__"))) (hx:h.get? a=some o) (hc:o.cls=.ref C)
  (hq:Q (some (.ref C)) ⟨h,g,d,t+1,os⟩):wpAny (model prog w) A (getAttr? (.ref a) "__class__") Q E ⟨h,g,d,t,os⟩:=by
 have by_:∀{tk:Tok} {A:Around} {Q:Value->Shared->Prop} {E:Value->Shared->Prop} {t:Nat},Q (.ref C) ⟨h,g,d,t,os⟩->wpAny (model prog w) A (getAttrBy (.ref a) (.str "__class__" tk) false) Q E ⟨h,g,d,t,os⟩:=by
  intro tk A Q E t hq
  have f3:=F.attr_ValueError.ga.bind (.ref a)
  have hx0:(false&&onTheHeap (Y2s "BaseException.__getattribute__"))=false:=rfl
  have hx2:(Y2s "BaseException.__getattribute__"==Y2s "object.__getattribute__")=false:=by decide+kernel
  have hx1:(onTheHeap (Y0k C)&&Y2s "BaseException.__getattribute__"==Y2s "object.__getattribute__")=false:=by rw[hx2];rfl
  repeat (any_goals (first|assumption|(with_reducible refine wpAny_loadPart_at hx ?_;rw[hc])|with_reducible refine l1 _ _ _ _ _ _ _ ?_|with_reducible refine l2 _ _ _ _ _ _ _ ?_|wp_step))
  refine codeAny_call_builtin F.attr_ValueError.ga.plain F.entry_bexc_ga (check_ga_exc hC hb hx hc (class_entry_exc hC hbo l3 hx hc ?_))
  repeat (any_goals (first|assumption|wp_step))
 unfold getAttr? getAttrBy?
 repeat (any_goals (first|assumption|with_reducible apply by_|wp_step))
end
end L2
namespace L2
open PySem PySem.Spec PyProof.Rows PySem.W PySem.Calls
noncomputable def isNotR(K:Y00)(C C':Addr):Bool:=(clsIn K C').isSome&&typeIn K (.ref C')==some (.type "type")&&instIn K (.ref C') (.type "type")==some true&&subIn K (.ref C) (.ref C')==some false&& !(Y0k C==Y0k C')
section
variable{prog:Program}{w:World}{A:Around}{E:Value->Shared->Prop}{s:Shared}{K:Y00}{C C' a:Addr}{o:Obj}
theorem looks_obj{M:Model}{h:Heap}(hx:h.get? a=some o)(hc:o.cls=.ref C):Looks M h (typeOf (.ref a)) (.ref C):=by
 intro A Q E s k q
 obtain⟨hh,g,d,tt,os⟩:=s
 have hx:=k _ _ hx
 repeat (first|(with_reducible refine wpAny_loadPart_at hx ?_;rw[hc])|wp_step)
 exact q
theorem isn_nested_own{dep:Int}{tk:Tok}{Q:Fin->Shared->Prop}(X:K.In s.heap)(hx:s.heap.get? a=some o)(hc:o.cls=.ref C)(e:isNotR K C C'=true)
  (ca:∀{A:Around} {E:Value->Shared->Prop} {Q:Option Value->Shared->Prop},Q (some (.ref C)) {s with toks:=s.toks+1}->wpAny (model prog w) A (getAttr? (.ref a) "__class__") Q E s) (cC:(clsIn K C).isSome=true)
  (h:Q (.done (.ret (.bool false))) {s with toks:=s.toks+1}):
  wpAny (model prog w) A (Builtin.«isinstance.nested» ⟨[.ref a,.ref C',.int dep tk],[]⟩) Q E s:=by
 have ht:=looks_obj (M:=model prog w) hx hc
 obtain⟨hh,g,d,tt,os⟩:=s
 unfold Builtin.«isinstance.nested»
 refine wpAny_bind (ht.at ?_)
 unfold isNotR at e
 simp only[Y06,Y1U]at e
 obtain⟨⟨⟨⟨e0,e1⟩,e2⟩,e3⟩,e4⟩:=e
 rw[e4,if_neg (by simp)]
 have L1:=looks_typeIn (M:=model prog w) X (beq_iff_eq.mp e1)
 have L2:=looks_instIn (M:=model prog w) X (beq_iff_eq.mp e2)
 have L4:Looks (model prog w) hh (isSubtype (.ref C) (.ref C')) false:=looks_subIn X (beq_iff_eq.mp e3)
 have L3:Looks (model prog w) hh (isInstance (.ref a) (.ref C')) false:=ht.andThen L4
 refine wpAny_bind (L1.at ?_)
 rw[if_pos (by decide)]
 k_delta "plainIsInstance"
 unfold isType
 repeat lk
 unfold clsIn at e0
 split at e0
 ·rename_i ho
  refine nd_load (X _ _ ho) (nd_pure (wpAny_pure ?_))
  simp only[Y1T,Y0m,if_false]
  refine wpAny_bind (L3.at ?_)
  simp only[Y0m,if_false]
  refine wpAny_bind (ca ?_)
  unfold clsIn at cC
  split at cC
  ·rename_i ho'
   refine wpAny_bind ?_
   refine nd_load (X _ _ ho') (nd_pure ?_)
   simp only[Y1T,Y0m,if_false]
   refine wpAny_bind (wpAny_rule ?_)
   refine L4.at ?_
   exact wpAny_pure h
  ·cases cC
 ·cases e0
noncomputable def xAttr(K:Y00)(C:Addr):Bool:=findIn K (.ref C) "__getattribute__"==some (some (.builtin "BaseException.__getattribute__"))&&findIn K (.ref C) "__getattr__"==some none&&findIn K (.ref C) "__class__"==some (some (.builtin "object.__class__"))
theorem lk_of{h:Heap}{n:Str}{r:Option Value}(X:K.In h)(e:findIn K (.ref C) n=some r):Lk prog w h C n r:=λA Q E g d t os q=>(looks_findIn (M:=model prog w) X e).here (s:=⟨h,g,d,t,os⟩) q
theorem class_of{bm:List Value}(X:K.In s.heap)(hC:XCls K C bm)(hA:xAttr K C=true)(hb:bm.contains (.type "BaseException")=true)(hbo:bm.contains (.type "object")=true)(hx:s.heap.get? a=some o)(hc:o.cls=.ref C){A:Around}{E:Value->Shared->Prop}{Q:Option Value->Shared->Prop}
  (q:Q (some (.ref C)) {s with toks:=s.toks+1}):wpAny (model prog w) A (getAttr? (.ref a) "__class__") Q E s:=by
 obtain⟨h,g,d,t,os⟩:=s
 obtain⟨nm,qn,N,bs,hdct,sn,sub,ab,col,dd,k0,k1,k2,k3,k5,l,n⟩:=hC
 unfold xAttr at hA
 simp only[Y06,beq_iff_eq]at hA
 obtain⟨⟨a1,a2⟩,a3⟩:=hA
 exact class_attr_exc (X _ _ l) hb hbo (lk_of X a1) (lk_of X a2) (lk_of X a3) hx hc q
theorem call_isi_own{bm:List Value}{b:Bool}{Q:Value->Shared->Prop}(X:K.In s.heap)(hC:XCls K C bm)(hA:xAttr K C=true)(hb:bm.contains (.type "BaseException")=true)(hbo:bm.contains (.type "object")=true)(hx:s.heap.get? a=some o)(hc:o.cls=.ref C)
  (e:(if b then isIn K (.ref C) C' else isNotR K C C')=true) (q:∀t,Q (.bool b) {s with toks:=t}):wpAny (model prog w) A (call (.builtin "isinstance") [.ref a,.ref C']) Q E s:=by
 cases b with
 |true=>exact isi_call X (λM=>looks_obj hx hc) e (by intro z;cases z) (q s.toks)
 |false=>
  have cC:(clsIn K C).isSome=true:=by
   obtain⟨nm,qn,N,bs,hdct,sn,sub,ab,col,dd,k0,k1,k2,k3,k5,l,n⟩:=hC
   unfold clsIn;rw[l];rfl
  refine call_isinstance (S:=λ_ R s'=>s'=s/\R (.ok (.ret (.bool false))) {s with toks:=s.toks+1}) (λ_ _ _ _ s' hs=>?_) ⟨rfl,q _⟩
  obtain⟨rfl,hs⟩:=hs
  refine isinstance_outer (isn_nested_own X hx hc e (λq=>?_) cC hs) (by intro z;cases z)
  exact class_of X hC hA hb hbo hx hc q
theorem isi_ve_nested{bm:List Value}{dep:Int}{tk:Tok}{Q:Fin->Shared->Prop}(X:K.In s.heap)(hC:XCls K C bm)(hv:bm.contains (.type "ValueError")=true)(hx:s.heap.get? a=some o)(hc:o.cls=.ref C)(h:Q (.done (.ret (.bool true))) s):
  wpAny (model prog w) A (Builtin.«isinstance.nested» ⟨[.ref a,.type "ValueError",.int dep tk],[]⟩) Q E s:=by
 have ht:=looks_obj (M:=model prog w) hx hc
 obtain⟨hh,g,d,tt,os⟩:=s
 obtain⟨nm,qn,N,bs,hdct,sn,sub,ab,col,dd,k0,k1,k2,k3,k5,l,n⟩:=hC
 have f1:typeOf (.type "ValueError")=pure (.type "type"):=by kernel_rfl
 have hcB:(Y0k C::bm).contains (.type "ValueError")=true:=by rw[Y1u,hv];rfl
 unfold Builtin.«isinstance.nested»
 refine wpAny_bind (ht.at ?_)
 rw[if_neg (λq=>by cases beq_iff_eq.mp q),f1]
 refine wpAny_bind (wpAny_pure ?_)
 rw[if_pos (by decide)]
 k_delta "plainIsInstance"
 have hl:hh.get? C=some _:=X _ _ l
 have hx:hh.get? a=some o:=hx
 repeat (any_goals (first|assumption|(with_reducible refine wpAny_loadPart_at hx ?_;rw[hc])|(with_reducible refine wpAny_isSubtype_exc hl ?_;rw[hcB])|wp_step))
theorem call_isi_ve{bm:List Value}{Q:Value->Shared->Prop}(X:K.In s.heap)(hC:XCls K C bm)(hv:bm.contains (.type "ValueError")=true)(hx:s.heap.get? a=some o)(hc:o.cls=.ref C)(q:Q (.bool true) s):
  wpAny (model prog w) A (call (.builtin "isinstance") [.ref a,.type "ValueError"]) Q E s:=by
 refine call_isinstance (S:=λ_ R s'=>s'=s/\R (.ok (.ret (.bool true))) s) (λ_ _ _ _ s' hs=>?_) ⟨rfl,q⟩
 obtain⟨rfl,hs⟩:=hs
 exact isinstance_outer (isi_ve_nested X hC hv hx hc hs) (by intro z;cases z)
end
end L2
namespace L2
open PySem PySem.Spec PyProof.Rows
section
variable{M:Model}{A:Around}{E:Value->Shared->Prop}{h:Heap}{g:Array GenState}{d:Drawn}{t:Nat}{os:OsState}{e:Addr}{oe:Obj}
 {nm q:Str} {C N:Addr} {bs bm:List Value} {hdct:Bool} {sn:List Str} {sub:List Value} {ab:Bool} {col:Option Bool} {dd:Option Addr} {k0 k1 k2 k3 k5:Option Value} {newId:String}
 {nm' q':Str} {F N':Addr} {bs' bm':List Value} {hdct':Bool} {sn':List Str} {sub':List Value} {ab':Bool} {col':Option Bool} {dd':Option Addr} {k0' k1' k2' k3' k5':Option Value} {newId':String}
theorem excMatches_own{Q:Bool->Shared->Prop}(hC:h.get? C=some (excClassObj nm q C N bs bm hdct sn sub ab col dd k0 k1 k2 k3 k5 newId))(hF:h.get? F=some (excClassObj nm' q' F N' bs' bm' hdct' sn' sub' ab' col' dd' k0' k1' k2' k3' k5' newId'))(he:h.get? e=some oe)(hcls:oe.cls=.ref C)
  (hb:bm'.contains (.type "BaseException")=true) (hs:(Y0k C::bm).contains (.ref F)=true) (hq:Q true ⟨h,g,d,t,os⟩):wpAny M A (excMatches (.ref e) (.ref F)) Q E ⟨h,g,d,t,os⟩:=by
 have hcB:(Y0k F::bm').contains (.type "BaseException")=true:=by rw[Y1u,hb,Y25]
 have f:=tc_notTuple
 unfold excMatches
 repeat (first|(with_reducible refine wpAny_loadPart_at he ?_;rw[hcls])|with_reducible refine wpAny_loadPart_at hF ?_|(with_reducible refine wpAny_isSubtype_exc hF ?_;rw[hcB])|(with_reducible refine wpAny_isSubtype_exc hC ?_;rw[hs])|wp_step)
 exact hq
end
noncomputable abbrev Cx.caught(X:Cx)(a:Addr)(oe:Obj):Cx:={X with A:=X.A.mark (some (.ref a)),calm:=false,pn:=(a,oe)::X.pn,xe:=λ_ _=>False}
section
variable{X:Cx}{pins:List (Addr×Obj)}{σ:St}{H:Hp}{s:Shared}{a:Addr}{oe:Obj}
theorem Inv.caught(I:Inv X pins σ H s)(ha:s.heap.get? a=some oe)(hn:H a=none)(hl:a≠X.env.locals)(hf:a∉X.fs)(hd:∀v,oe.data≠.cell v):Inv (X.caught a oe) pins σ H s:=
 ⟨⟨I.ok.mod,I.ok.kind,I.ok.glob,I.ok.blt,I.ok.above,I.ok.inj,I.ok.has,I.ok.cab,λz=>(by cases z),I.ok.frames,I.ok.stk,I.ok.exf,I.ok.bs,I.ok.bsz,I.ok.noex,I.ok.exfs,I.ok.funs,I.ok.frf⟩,I.os,I.bare,I.base,I.loc,I.cell,I.free,I.freeC,
  λp hp=>by
   rcases Y05.mp (show p∈(a,oe)::(X.pn++pins)from hp)with rfl|hp
   ·exact⟨ha,hn,hl,hf,hd⟩
   ·exact I.pin p hp,I.hok,I.len⟩
theorem Inv.uncaught(ok:X.Ok)(I:Inv (X.caught a oe) pins σ H s):Inv X pins σ H s:=
 ⟨ok,I.os,I.bare,I.base,I.loc,I.cell,I.free,I.freeC,λp hp=>I.pin p (Y0c _ hp),I.hok,I.len⟩
theorem Inv.pinA(I:Inv (X.caught a oe) pins σ H s):s.heap.get? a=some oe:=(I.pin (a,oe) (Y0l ..)).1
end
theorem un1{outer:List Env}{H H':Hp}{h0 h h' B:Heap}(u:Un (frs outer) [] H H' h0 h)(st':B.StaysIn h')(ups:h.UpToSlots h')(ff:h.FunFrames B outer)
  (cov:∀b o,h0.get? b=some o->b∉frs outer->(H b=none->B.get? b=some o)/\∃o',B.get? b=some o'):Un (frs outer) [] H H' h0 h':=by
 have frm:∀b∈frs outer,∃o,h.get? b=some o/\∀vs,o.data≠.fields vs:=λb hb=>(ff.mem hb).2
 refine⟨λb o e n hb _=>st' b o ((cov b o e hb).1 n),λb o e n hb hx=>?_,λb o e n hx=>u.free b o e n hx,λb o e hx=>?_,u.tups,u.frzs,u.tbls⟩
 ·obtain⟨sl,e1⟩:=u.slot b o e n hb hx
  obtain⟨o1,e2,nf⟩:=frm b hb
  rw[e1]at e2;cases e2
  obtain⟨sl2,e3⟩:=ups b _ e1 nf
  exact⟨sl2,e3⟩
 ·by_cases hb:b∈frs outer
  ·obtain⟨o1,e2,nf⟩:=frm b hb
   obtain⟨sl2,e3⟩:=ups b _ e2 nf
   exact⟨_,e3⟩
  ·obtain⟨o',e'⟩:=(cov b o e hb).2
   exact⟨o',st' b o' e'⟩
theorem hok1{P:Program}{w:World}{H':Hp}{h h' B:Heap}(hok:HOk P w H' h)(st:B.StaysIn h)(st':B.StaysIn h')(own:∀b u,H' b=some u->∃o,B.get? b=some o):HOk P w H' h':=λb u e=>by
 refine(hok b u e).stay (λc v hc r=>?_) (λ_ z=>z) λ_ _ z=>z
 obtain⟨o,ho⟩:∃o,B.get? c=some o:=by
  rcases hc with rfl|hc
  ·exact own _ _ e
  ·exact own _ _ hc
 have:=st c o ho
 rw[r]at this;cases this
 exact st' c _ ho
theorem Inv.gone{X:Cx}{pins:List (Addr×Obj)}{σ:St}{H:Hp}{s:Shared}{ni tk:Nat}{n:Str}{v:Option Value}{m:Str->Option Value}{h':Heap}(I:Inv X pins σ H s)(nd:X.N.Nodup)(hni:X.N[ni]?=some n)
  (hl:∀(i:Nat) (x:Str) (v:V),X.N[i]?=some x->σ[i]?=some (some v)->Vis X.env.scope x->∃u,RelV v u/\Look X.env s.heap m x u) (hm:s.heap.Ns X.env.locals m)
  (hn':h'.Ns X.env.locals (λy=>if y=n then v else m y)) (hs:Y1N X.env.locals s.heap h'):Inv X pins (σ.set ni none) H {s with heap:=h',toks:=tk}:=by
 have cne:=I.cne
 obtain⟨oL,_,_,hoL,_⟩:=id hm
 have ne:∀b o,X.s₀.heap.get? b=some o->b≠X.env.locals:=λb o e=>Y0f (Y0x (Y08 e) I.ok.above)
 refine⟨I.ok,I.os,I.bare,⟨λb o e n hb hx=>(hs.2 b (ne b o e)).trans (I.base.keep b o e n hb hx),λb o e n hb hx=>?_,I.base.free,λb o e hx=>?_,I.base.tups,I.base.frzs,I.base.tbls⟩,⟨_,hn',λj y v' e1 e2 e3=>?_⟩,λy c e=>?_,I.free,I.freeC,λp hp=>?_,λb ob e=>?_,by simpa using I.len⟩
 ·obtain⟨sl,e1⟩:=I.base.slot b o e n hb hx
  exact⟨sl,(hs.2 b (ne b o e)).trans e1⟩
 ·obtain⟨o',e1⟩:=I.base.there b o e hx
  exact⟨o',(hs.2 b (ne b o e)).trans e1⟩
 ·by_cases hj:j=ni
  ·subst hj
   rw[Y17]at e2
   rw[if_pos rfl]at e2
   split at e2<;>cases e2
  ·rw[Y1i (Y2J hj)]at e2
   obtain⟨u',r',q⟩:=hl j y v' e1 e2 e3
   refine⟨u',r',?_⟩
   rcases q with⟨k,e⟩|⟨k,c,e,z⟩
   ·refine .inl ⟨k,?_⟩
    have:y≠n:=λe=>hj (nodup_ix nd e1 (e▸hni))
    simp[this,e]
   ·exact .inr ⟨k,c,e,z.sameBut hs (cne y c e)⟩
 ·obtain⟨w',z⟩:=I.cell y c e
  exact⟨w',z.sameBut hs (cne y c e)⟩
 ·obtain⟨e,n,ne,nf,d⟩:=I.pin p hp
  exact⟨(hs.2 p.1 ne).trans e,n,ne,nf,d⟩
 ·refine(I.hok b ob e).stay (λc w' hc q=>(hs.2 c ?_).trans q) (λ_ q=>q) λ_ _ q=>q
  rintro rfl
  rcases hc with rfl|hc
  ·rw[I.free]at e;cases e
  ·rw[I.free]at hc;cases hc
section
variable{X:Cx}{pins:List (Addr×Obj)}{σ:St}{H1:Hp}{s1 s':Shared}{e:Value}{R:Addr->Hp->Prop}{Fn n:Str}{F:Addr}{ni:Nat}{b₀:Stmt}{suite:List Stmt}{pos fp:Pos}{rest:List ExceptHandler}{Q:Flow->Shared->Prop}
theorem caught1(I1:Inv X pins σ H1 s1)(hc:CX1 X.prog X.w X.stack H1 s1 (λc _ H'=>∃C,c=.ref C/\R C H') e s')(hstk:X.stack=X.env::X.outer)(hfr:X.env.frame=some X.env.locals)
  (hF:XCls X.K F veMro) (hC:∀C H',R C H'->XCls X.K C (.ref F::veMro)) (hgF:Gl X Fn) (hmF:X.mg Fn=some (.ref F)) (hdb:(Fn==("__debug__":Str))=false)
  (nd:X.N.Nodup) (hni:X.N[ni]?=some n) (hln:X.env.scope.names.lookup n=some .local)
  (k:∀a oe C H' s6,oe.cls=.ref C->R C H'->Inv (X.caught a oe) pins (σ.set ni (some (.ref a))) H' s6->
    wpAny (model X.prog X.w) (X.A.mark (some (.ref a))) (execs (b₀::suite) X.env) (λf s7=>∃σ' H'',Inv (X.caught a oe) pins σ' H'' s7/\∀s8,Inv X pins (σ'.set ni none) H'' s8->Q f s8) (λ_ _=>False) s6):
  wpAny (model X.prog X.w) X.A (noteFrame e X.env) (λ_ s₂=>wpAny (model X.prog X.w) X.A (setFlight e none) (λ_ s₃=>
   wpAny (model X.prog X.w) X.A (handleBy e X.env (.ExceptHandler (some (.Name Fn fp)) (some n) (b₀::suite) pos::rest)) Q X.xe s₃) X.xe s₂) X.xe s':=by
 obtain⟨a,C,t,B,H',rfl,os,bare,un,hok,fl,cov,own,C',ec,q⟩:=hc
 cases ec
 have fl0:=fl
 rw[hstk]at fl0
 have inv:∀(h5:Heap) (tk:Nat),Y2o B X.stack a (.ref C) (.ref t) h5->s'.heap.UpToSlots h5->Inv X pins σ H' {s' with heap:=h5,toks:=tk}:=λh5 tk f5 u5=>
  I1.call' (s':={s' with heap:=h5,toks:=tk}) os (un1 un f5.1 u5 fl.2.2.1 cov) (hok1 hok fl.1 f5.1 own) bare (λ_ z=>nomatch z)
 have fresh:H' a=none:=by
  cases z:H' a with
  |none=>rfl
  |some u=>obtain⟨o,ho⟩:=own a u z;rw[fl.2.1]at ho;cases ho
 have fram:∀(h5:Heap),Y2o B X.stack a (.ref C) (.ref t) h5->a∉frs X.stack:=λh5 f5 z=>by
  obtain⟨oe,vs,T,oT,ts,he,_,hd,_⟩:=f5.2.2.2
  obtain⟨_,o,ho,nf⟩:=f5.2.2.1.mem z
  rw[he]at ho;cases ho;exact nf vs hd
 have obj:∀(h5:Heap),Y2o B X.stack a (.ref C) (.ref t) h5->∃oe,h5.get? a=some oe/\oe.cls=.ref C/\∀v,oe.data≠.cell v:=λh5 f5=>by
  obtain⟨oe,vs,T,oT,ts,he,hcl,hd,_⟩:=f5.2.2.2
  exact⟨oe,he,hcl.1,λv z=>by rw[hd]at z;cases z⟩
 have car:∀(h5:Heap) (tk:Nat) oe,Y2o B X.stack a (.ref C) (.ref t) h5->s'.heap.UpToSlots h5->h5.get? a=some oe->(∀v,oe.data≠.cell v)->Inv (X.caught a oe) pins σ H' {s' with heap:=h5,toks:=tk}:=λh5 tk oe f5 u5 ho hd=>by
  have na:=fram h5 f5
  rw[hstk]at na
  refine(inv h5 tk f5 u5).caught ho fresh (λz=>na ?_) (λz=>na ?_) hd
  ·unfold frs;rw[Y1F,hfr,z];exact Y0l ..
  ·unfold frs;rw[Y1F,hfr];exact Y0c _ z
 have cC:=hC C H' q
 obtain⟨nm,qn,N,bs,hdct,sn,sub,ab,col,dd,k0,k1,k2,k3,k5,l,_⟩:=cC
 obtain⟨nm',qn',N',bs',hdct',sn',sub',ab',col',dd',k0',k1',k2',k3',k5',l',_⟩:=hF
 refine wpAny_looks_onW (by rw[I1.ok.frames,hstk]) hfr fl0 λh4 hh4 u4=>?_
 refine wpAny_landsW hh4 λh5 f5 u5=>?_
 have u45:=u4.trans u5
 rw[<- hstk]at f5
 obtain⟨oe,ho,hcl,hd⟩:=obj h5 f5
 have I5:=car h5 s'.toks oe f5 u45 ho hd
 refine wpAny_handleBy_cons (codeAny_handlers_test ?_) (by intro q;cases q)
 refine ld_glob (X:=X.caught a oe) I5 hgF hmF ?_ hdb
 refine excMatches_own (I5.kIn _ _ l) (I5.kIn _ _ l') ho hcl (by decide+kernel) (by simp) ?_
 refine codeAny_handlers_suite_as ?_
 refine lands_againW f5 λh6 f6 u6=>?_
 obtain⟨oe6,ho6,hcl6,hd6⟩:=obj h6 f6
 have I6:=car h6 s'.toks oe6 f6 (u45.trans u6) ho6 hd6
 refine store_ok (X:=X.caught a oe6) (v:=.ref a) (u:=.ref a) I6 nd hni (.inl hln) rfl (λs7 I7=>?_) (.inr hln)
 refine wpAny_mono (k a oe6 C H' s7 hcl6 q I7) (λf s8 ⟨σ',H'',I8,hQ⟩=>?_) λ_ _ z=>Y0D z
 have I9:Inv X pins σ' H'' s8:=I8.uncaught I1.ok
 obtain⟨m,hm,hl⟩:=id I9.loc
 have hcls:(X.env.scope.kind==.class||(X.env.scope.kind==.module&&X.env.locals != X.env.globals))=false:=by rw[I9.ok.kind];rfl
 refine wpAny_nameGoes_keeps hln hm hcls λh9 v hn9 hs9=>hQ _ ?_
 exact I9.gone nd hni hl hm hn9 hs9
end
end L2
namespace L2
set_option genInjectivity false
open PySem PySem.Spec PyProof.Rows
section
variable{X:Cx}{xe':Value->Shared->Prop}{pins:List (Addr×Obj)}{σ:St}{H:Hp}{s:Shared}{k:Nat}{fa:Addr}{fd:FuncData}{ps:List Str}{sp:Sp}{x:Str}{p pos:Pos}{e:Expr}{es:List Expr}{t:TA}{Q:VK}{E:XK}
theorem call_try(I:Inv X pins σ H s)(F:FnOk X.prog X.w X.K X.mg X.base (CX1 X.prog X.w) k fa fd ps sp)(hr:Room k X.A)(hg:Gl X x)(hm:X.mg x=some (.ref fa))(hk:Y0U X.K (.ref fa)=true)(hb:Binds X.K fd ps [])(ha:PA X.nox (e::es) t)
  (hdb:(x==("__debug__":Str))=false) (he:starEach (e::es) X.env=(false,eval e X.env)::starEach es X.env) (hpl:(backTo pos (starEach es X.env)).any (·.1)=false) (h:t σ H fun vs H1=>sp vs H1 Q E)
  (hx:∀H1 s1 e s',Inv X pins σ H1 s1->CX1 X.prog X.w X.stack H1 s1 E e s'->xe' e s'):wpAny (model X.prog X.w) X.A (eval (.Call (.Name x p) (e::es) [] pos) X.env) (EP X pins σ Q) xe' s:=by
 refine wpAny_Call_Name_kw (ld_glob I hg hm ?_ hdb)
 refine PySem.W.callWith_K (h₀:=X.base) I.ok.mod.kin hk (wpAny_mono (ha pos pins s σ H _ (I.wish _) h) (λus s1 hq=>?_) λ_ _ z=>Y0D z) he hpl
 obtain⟨vs,H1,I1,r,q⟩:=hq
 have I1:Inv X pins σ H1 s1:=I1.unwish
 have hl:(us++[]).length=ps.length:=by rw[Y1e,<- r.length];exact F.len _ _ _ _ q
 have hb1:=hb s1 us I1.kIn hl
 rw[Y1e]at hb1
 refine⟨I1.kIn,wpAny_call (codeAny_mono (F.run X.A X.stack s1 H1 ⟨us,[]⟩ us vs Q E hr I1.env0 hb1 r q) λr s' hq=>?_)⟩
 cases r with
 |error e=>exact hx H1 s1 e s' I1 hq
 |ok fl=>
  cases fl with
  |ret u=>exact I1.after hq
  |next=>exact Y0D hq
  |brk=>exact Y0D hq
  |cont=>exact Y0D hq
end
theorem ve_in{F:Addr}{T:Value}(h:veMro.contains T=true):(Y0k F::veMro).contains T=true:=by rw[Y1u,h,Y25]
section
variable{X:Cx}{a C F:Addr}{oe:Obj}
theorem call_isx(hc:oe.cls=.ref C)(hC:XCls X.K C (.ref F::veMro))(hA:xAttr X.K C=true):CallR (X.caught a oe) (.builtin "isinstance") (fun vs H Q=>
  (∃C' b,vs=[.ref a,.ref C']/\(if b then Y2H X.K (.ref C) C' else isNotR X.K C C')=true/\Q (.bl b) H)\/(vs=[.ref a,.ty "ValueError"]/\Q (.bl true) H)):=by
 intro pins s σ H xs us Q I r h
 have ho:=I.pinA
 rcases h with⟨C',b,rfl,e,q⟩|⟨rfl,q⟩
 ·match us,r with
  |[u1,u2],.cons h1 (.cons h2 .nil)=>
   cases h1
   cases h2
   refine call_isi_own (K:=X.K) (s:=s) I.kIn hC hA (ve_in (by decide+kernel)) (ve_in (by decide+kernel)) ho hc e λt=>?_
   exact⟨.bl b,H,I.tok t,rfl,q⟩
 ·match us,r with
  |[u1,u2],.cons h1 (.cons h2 .nil)=>
   cases h1
   cases h2
   exact call_isi_ve (K:=X.K) (s:=s) I.kIn hC (ve_in (by decide+kernel)) ho hc ⟨.bl true,H,I,rfl,q⟩
end
noncomputable def chkIs(G:GI)(sc:Scope)(n:Str):List Str->List Expr->Bool
 |[],l=>non0 l
 |c::cs,l=>(hd1 l).any λq=>(asCall q.1).any λr=>(Z15 r.1).any λf=>(the2 r.2.1).any λy=>(Z15 y.1).any λv=>(Z15 y.2).any λw=>
   non0 r.2.2.1&&decide (f=("isinstance":Str))&&glB sc f&&G.bl.contains f&&decide (v=n)&&decide (w=c)&&glB sc c&&chkIs G sc n cs q.2
section
variable{X:Cx}{a C F:Addr}{oe:Obj}{G:GI}{ni:Nat}{n:Str}{b:Str->Bool}
theorem pa_is(hc:oe.cls=.ref C)(hC:XCls X.K C (.ref F::veMro))(hA:xAttr X.K C=true)(bls:∀x,G.bl.contains x=true->X.mg x=none)(hni:X.N[ni]?=some n) (hln:X.env.scope.names.lookup n=some .local) (hd1:(n==("__debug__":Str))=false) (hd2:(n==("__classdict__":Str))=false):
  ∀(cs:List Str) (elts:List Expr),chkIs G X.env.scope n cs elts=true->(∀c'∈cs,(c'="ValueError"/\X.mg c'=none/\b c'=true)\/∃C',X.mg c'=some (.ref C')/\(if b c' then Y2H X.K (.ref C) C' else isNotR X.K C C')=true)->
  PA (X.caught a oe) elts (λσ H Q=>σ[ni]?=some (some (.ref a))/\Q (cs.map λc'=>V.bl (b c')) H)/\(starEach elts X.env).all (λx=>!x.1)=true:=by
 intro cs
 induction cs with
 |nil=>
  intro elts h _
  obtain rfl:=Z0s h
  exact⟨pa_nil.weak λσ H Q hw=>hw.2,rfl⟩
 |cons c' cs IH=>
  intro elts h ht
  replace h:=Z02 h
  obtain⟨⟨x,xs⟩,h1,h⟩:=h
  obtain rfl:=hd1_of h1
  replace h:=Z02 h
  obtain⟨⟨f,l,ks,p2⟩,h2,h⟩:=h
  obtain rfl:=Z16 h2
  replace h:=Z02 h
  obtain⟨f,h3,h⟩:=h
  obtain⟨pf,rfl⟩:=Z0c h3
  replace h:=Z02 h
  obtain⟨⟨y1,y2⟩,h4,h⟩:=h
  obtain rfl:=the2_of h4
  replace h:=Z02 h
  obtain⟨v,h5,h⟩:=h
  obtain⟨pv1,rfl⟩:=Z0c h5
  replace h:=Z02 h
  obtain⟨w,h6,h⟩:=h
  obtain⟨pw1,rfl⟩:=Z0c h6
  simp only[Y06]at h
  obtain⟨⟨⟨⟨⟨⟨⟨a1,a2⟩,a3⟩,a4⟩,a5⟩,a6⟩,a7⟩,a8⟩:=h
  obtain rfl:=Z0s a1
  obtain rfl:=Z06 a2
  obtain rfl:=Z06 a5
  obtain rfl:=Z06 a6
  obtain⟨g1,g2,g3⟩:=gl_of a3
  obtain⟨e1,e2,e3⟩:=gl_of a7
  obtain⟨ih,is⟩:=IH xs a8 λc hc=>ht c (Y0c _ hc)
  refine⟨?_,by show(!false&&(starEach xs X.env).all _)=true;rw[is];rfl⟩
  have pv:PE (X.caught a oe) (.Name v pv1) (tVar ni):=pe_var hni (.inl hln) hd1 hd2
  have hd:PE (X.caught a oe) (.Call (.Name ("isinstance":Str) pf) [.Name v pv1,.Name w pw1] [] p2) (fun σ H Q=>σ[ni]?=some (some (.ref a))/\Q (.bl (b w)) H):=by
   rcases ht w (Y0l ..)with⟨rfl,m,hb⟩|⟨C',m,hb⟩
   ·have pc:PE (X.caught a oe) (.Name ("ValueError":Str) pw1) (tC (.ty "ValueError")):=fun pins s σ H Q I h=>ld_blt (X:=X.caught a oe) I e1 m (by decide+kernel:bootBuiltins ("ValueError":Str)=some (.type "ValueError")) ⟨.ty "ValueError",H,I,rfl,h⟩ e3 e2
    refine(pe_callB (call_isx hc hC hA) g1 (bls _ a4) bt_isinstance (Z0K pv (Z0K pc pa_nil)) g3 g2).weak λσ H Q hw=>?_
    exact⟨.ref a,hw.1,.inr ⟨rfl,hb▸hw.2⟩⟩
   ·have pc:PE (X.caught a oe) (.Name w pw1) (tC (.ref C')):=pe_glob (X:=X.caught a oe) e1 m rfl e2
    refine(pe_callB (call_isx hc hC hA) g1 (bls _ a4) bt_isinstance (Z0K pv (Z0K pc pa_nil)) g3 g2).weak λσ H Q hw=>?_
    exact⟨.ref a,hw.1,.inl ⟨C',b w,rfl,hb,hw.2⟩⟩
  refine(Z0K hd ih).weak λσ H Q hw=>?_
  exact⟨hw.1,hw.1,hw.2⟩
end
end L2
namespace L2
set_option genInjectivity false
open PySem PySem.Spec PyProof.Rows
inductive SE where
 |tt
 |isi (c:Str)
 |is2 (c d:Str)
 |nt (e:SE)
 |an (a b:SE)
noncomputable def xsub(c c':Str):Bool:=decide (c'="ValueError")||decide (c'=c)
noncomputable def SE.val(k:Str):SE->Bool
 |.tt=>true
 |.isi c=>xsub k c
 |.is2 c d=>xsub k c||xsub k d
 |.nt e=>!e.val k
 |.an a b=>a.val k&&b.val k
noncomputable def Grow(K:Y00)(H H':Hp):Prop:=Kp H H'/\∀M,RH K M H->RH K M H'
theorem Grow.trans{K:Y00}{H H1 H2:Hp}(a:Grow K H H1)(b:Grow K H1 H2):Grow K H H2:=⟨a.1.trans b.1,λ_ z=>b.2 _ (a.2 _ z)⟩
section
variable{X:Cx}{a C F:Addr}{oe:Obj}{G:GI}{ni:Nat}{n c:Str}{xc:List Str}
structure Sub (X:Cx) (C:Addr) (c:Str) (xc:List Str):Prop where
 ve:X.mg "ValueError"=none
 own:∀c',xc.contains c'=true->c'≠"ValueError"/\∃C',X.mg c'=some (.ref C')/\Y1k X.K (.ref C) (.ref C')=some (xsub c c')
 tve:Y1k X.K (.ref C) (.type "ValueError")=some true
end
end L2
namespace L2
set_option genInjectivity false
open PySem PySem.Spec PyProof.Rows
structure TryD where
 i:Option Nat
 j:Nat
 e:IE
 es:IEs
 ni:Nat
 k:Nat
 cs:List Str
noncomputable def asTry:Stmt->Option (Stmt×Str×Str×Stmt)
 |.Try [b] [.ExceptHandler (some (.Name F _)) (some n) [s] _] [] [] _=>some (b,F,n,s)
 |_=>none
theorem asTry_of{st:Stmt}{q:Stmt×Str×Str×Stmt}(h:asTry st=some q):∃fp hp pos,st=.Try [q.1] [.ExceptHandler (some (.Name q.2.1 fp)) (some q.2.2.1) [q.2.2.2] hp] [] [] pos:=by
 unfold asTry at h
 split at h
 ·cases h;exact⟨_,_,_,rfl⟩
 ·cases h
structure TryB where
 i:Option Nat
 j:Nat
 e:IE
 es:IEs
 hc:Option Str
 ni:Option Nat
 k:Nat
 su:SE
noncomputable def stO(i:Option Nat)(x:MV)(σ:Sm):Sm:=match i with
 |none=>σ
 |some i=>σ.set i (some x)
section
variable(Φ:List (Str×SpM))(Ψ:List (Str×SpX))(xc:List Str)
noncomputable def wTry(D:TryD)(E:EndM)(σ:Sm)(M:MH):Prop:=wE Φ D.e σ M λv M1=>wEs Φ D.es σ M1 λvs M2=>∃f sp,Ψ[D.j]?=some (f,sp)/\
 sp (v::vs) M2 (λx M3=>E.nx (stO D.i x σ) M3) λc M3=>xc.contains c=true/\∀p,M3 p=none->E.nx ((σ.set D.k (some (.ref p))).set D.ni none) (updM M3 p (.lst (D.cs.map λc'=>.bl (xsub c c'))))
inductive IT where|pl (s:IS)|tr (D:TryD)|tb (D:TryB)
noncomputable def wT:IT->EndM->Sm->MH->Prop
 |.pl s=>wS Φ s
 |.tr D=>wTry Φ Ψ xc D
 |.tb _=>λ_ _ _=>False
noncomputable def wTs:List IT->EndM->Sm->MH->Prop
 |[],D,σ,M=>D.nx σ M
 |s::r,D,σ,M=>wT Φ Ψ xc s {nx:=λσ M=>wTs r D σ M,rt:=D.rt,bk:=D.bk,ct:=D.ct} σ M
end
section
variable{Φ:List (Str×SpM)}{Ψ:List (Str×SpX)}{xc:List Str}
theorem mon_t(hΦ:∀(j:Nat) f sp,Φ[j]?=some (f,sp)->MonW sp) (hΨ:∀(j:Nat) f sp,Ψ[j]?=some (f,sp)->MonX sp) (s:IT) {D D':EndM} {σ:Sm} {M:MH} (l:D.Le D') (h:wT Φ Ψ xc s D σ M):wT Φ Ψ xc s D' σ M:=by
 cases s with
 |pl s=>exact mon_s hΦ s l h
 |tr d=>exact Z04 hΦ d.e (λv M1 h1=>mon_es hΦ d.es (λvs M2 ⟨f,sp,e,h2⟩=>⟨f,sp,e,hΨ _ f sp e (λ_ _ z=>l.nx _ _ z) (λc M3 ⟨z,y⟩=>⟨z,λp hp=>l.nx _ _ (y p hp)⟩) h2⟩) h1) h
 |tb d=>exact h.elim
theorem mon_ts(hΦ:∀(j:Nat) f sp,Φ[j]?=some (f,sp)->MonW sp) (hΨ:∀(j:Nat) f sp,Ψ[j]?=some (f,sp)->MonX sp):∀(s:List IT) {D D':EndM} {σ:Sm} {M:MH},D.Le D'->wTs Φ Ψ xc s D σ M->wTs Φ Ψ xc s D' σ M
 |[],D,D',σ,M,l,h=>by exact l.nx _ _ h
 |s::r,D,D',σ,M,l,h=>by
  refine mon_t hΦ hΨ s ?_ h
  exact⟨λσ M h1=>mon_ts hΦ hΨ r l h1,l.rt,l.bk,l.ct⟩
end
noncomputable def chkTb(G:GX)(sc:Scope)(N:List Str)(i:Option Nat)(j:Nat)(e:IE)(es:IEs)(b:Stmt):Bool:=match i with
 |none=>(asEx b).any λv=>chkC G sc N j e es v
 |some i=>(asAsg b).any λq=>(the1 q.1).any λt=>(Z15 t).any λx=>decide (N[i]?=some x)&&locB sc x&&chkC G sc N j e es q.2
noncomputable def chkSu(G:GX)(sc:Scope)(N:List Str)(D:TryD)(n:Str)(s:Stmt):Bool:=
 (asAsg s).any λq=>(the1 q.1).any λt=>(Z15 t).any λx=>(asLst q.2).any λl=>decide (N[D.k]?=some x)&&locB sc x&&chkIs G.g sc n D.cs l
noncomputable def chkTry(G:GX)(xb:Str)(sc:Scope)(N:List Str)(D:TryD)(st:Stmt):Bool:=(asTry st).any λq=>
 decide (q.2.1=xb)&&glB sc xb&&decide (N[D.ni]?=some q.2.2.1)&&decide (sc.names.lookup q.2.2.1=some .local)&& !(q.2.2.1==("__debug__":Str))&& !(q.2.2.1==("__classdict__":Str))&& !(D.k==D.ni)&&decide (D.cs.length≤100)&&
 D.cs.all (fun c=>decide (c="ValueError")||G.xc.contains c)&&chkTb G sc N D.i D.j D.e D.es q.1&&chkSu G sc N D q.2.2.1 q.2.2.2
noncomputable def chkT(G:GX)(xb:Str)(sc:Scope)(N:List Str):IT->Stmt->Bool
 |.pl s,st=>chkS G.g sc N s st
 |.tr D,st=>chkTry G xb sc N D st
 |.tb _,_=>false
noncomputable def chkTs(G:GX)(xb:Str)(sc:Scope)(N:List Str):List IT->List Stmt->Bool
 |[],l=>non0 l
 |s::r,l=>(hd1 l).any λq=>chkT G xb sc N s q.1&&chkTs G xb sc N r q.2
structure Exs (K:Y00) (mg:Str->Option Value) (xb:Str) (xc:List Str):Prop where
 ve:mg "ValueError"=none
 bas:∃F,mg xb=some (.ref F)/\XCls K F veMro/\∀c,xc.contains c=true->∃C,mg c=some (.ref C)/\Y0j K mainGlobals c=some (some (.ref C))/\XCls K C (.ref F::veMro)/\xAttr K C=true/\
  ∀c',xc.contains c'=true->∃C',mg c'=some (.ref C')/\(if decide (c'=c)then Y2H K (.ref C) C' else isNotR K C C')=true
structure Tok (X:Cx) (G:GX) (xb:Str) (Φ:List (Str×SpM)) (Ψ:List (Str×SpX)):Prop where
 c:Cok X.nox G.g Φ
 stk:X.stack=X.env::X.outer
 frm:X.env.frame=some X.env.locals
 exs:Exs X.K X.mg xb G.xc
 vx:G.xc.contains "ValueError"=false
 mon:∀(j:Nat) f sp,Ψ[j]?=some (f,sp)->MonX sp
 fnn:∀(j:Nat) f,G.xf[j]?=some f->∃sp,Ψ[j]?=some (f,sp)
 fns:∀(j:Nat) f sp,G.xf[j]?=some f->Ψ[j]?=some (f,sp)->∃k fa fd ps,Room k X.A/\FnOk X.prog X.w X.K X.mg X.base (CX1 X.prog X.w) k fa fd ps (liSpX X.K sp)/\X.mg f=some (.ref fa)/\Y0U X.K (.ref fa)=true/\Binds X.K fd ps []
theorem RS.gone{K:Y00}{H:Hp}{σm:Sm}{σ:St}(h:RS K H σm σ){m:MV}{v:V}(r:RM K H m v)(k ni:Nat)(w:Option V):RS K H ((σm.set k (some m)).set ni none) (((σ.set ni w).set k (some v)).set ni none):=by
 refine⟨by simp[h.1],λj x e=>?_⟩
 by_cases hj:ni=j
 ·subst hj
  rw[Y17,if_pos rfl]at e
  split at e<;>cases e
 ·rw[Y1i hj]at e ⊢
  by_cases hk:k=j
  ·subst hk
   rw[Y17,if_pos rfl]at e
   split at e
   ·rename_i hlt
    cases e
    refine⟨v,?_,r⟩
    rw[Y17,if_pos rfl,if_pos (by simpa [<- h.1]using hlt)]
   ·cases e
  ·rw[Y1i hk]at e ⊢
   rw[Y1i hj]
   exact h.2 j x e
section
variable{X:Cx}{G:GX}{xb:Str}{Φ:List (Str×SpM)}{Ψ:List (Str×SpX)}
noncomputable def Cau(X:Cx)(xc:List Str)(H:Hp)(R:Str->MH->Prop)(C:Addr)(H':Hp):Prop:=∃c M3,xc.contains c=true/\Y0j X.K mainGlobals c=some (some (.ref C))/\Kp H H'/\RH X.K M3 H'/\R c M3
theorem try_call(x:Tok X G xb Φ Ψ){j:Nat}{a:IE}{es:IEs}{v:Expr}(h:chkC G X.env.scope X.N j a es v=true){pins:List (Addr×Obj)}{s:Shared}{σ:St}{σm:Sm}{H:Hp}{M:MH}{Q:VK}{R:Str->MH->Prop}{xe':Value->Shared->Prop}(I:Inv X pins σ H s)(rs:RS X.K H σm σ)(rh:RH X.K M H)
  (hw:wE Φ a σm M λv M1=>wEs Φ es σm M1 λvs M2=>∃f sp,Ψ[j]?=some (f,sp)/\sp (v::vs) M2 (Dn X.K H Q) λc M3=>G.xc.contains c=true/\R c M3)
  (hx:∀H1 s1 e s',Inv X pins σ H1 s1->CX1 X.prog X.w X.stack H1 s1 (λc _ H'=>∃C,c=.ref C/\Cau X G.xc H R C H') e s'->xe' e s'):
  wpAny (model X.prog X.w) X.A (eval v X.env) (EP X pins σ Q) xe' s/\notComp v=true:=by
 obtain⟨f,p,y,ys,p2,rfl,h1,h2,h3,h4⟩:=chkC_of h
 obtain⟨g1,g2,g3⟩:=gl_of h2
 obtain⟨sp,hj⟩:=x.fnn j f h1
 obtain⟨k,fa,fd,ps,hr,F,hm,hk,hb⟩:=x.fns j f sp h1 hj
 have c:=x.c
 have ha:PA X.nox (y::ys) (tCons (liE X.K (wE Φ a)) (liA X.K (wEs Φ es))):=Z0K (X:=X.nox) (sE a c h3).pe (sA es c h4) (Z08 h3)
 refine⟨call_try (E:=λc _ H'=>∃C,c=.ref C/\Cau X G.xc H R C H') I F hr g1 hm hk hb ha g2 (Z08 h3) (back_all (star_any (pos:=p2) h4)).2 ?_ hx,rfl⟩
 refine⟨σm,M,rs,rh,Z04 c.mon a (λv M1 q1=>?_) hw⟩
 intro u H1 k1 r1 rh1
 refine⟨σm,M1,rs.mono k1,rh1,mon_es c.mon es (λvs M2 ⟨f',sp',e,q2⟩=>?_) q1⟩
 rw[hj]at e
 cases e
 intro us H2 k2 r2 rh2
 refine⟨v::vs,M2,.cons (r1.mono k2) r2,rh2,x.mon j f sp hj (λm M' hq=>hq.on (k1.trans k2)) (λc' M' hc C H' e' kk rr=>?_) q2⟩
 exact⟨C,rfl,c',M',hc.1,e',k1.trans (k2.trans kk),rr,hc.2⟩
theorem try_suite(x:Tok X G xb Φ Ψ){D:TryD}{F C a:Addr}{c n:Str}{oe:Obj}{st:Stmt}{pins:List (Addr×Obj)}{σ:St}{H':Hp}{s6:Shared}{Q:Flow->Shared->Prop}(hc:oe.cls=.ref C)(hC:XCls X.K C (.ref F::veMro))(hA:xAttr X.K C=true)
  (hT:∀c'∈D.cs,(c'="ValueError"/\X.mg c'=none/\xsub c c'=true)\/∃C',X.mg c'=some (.ref C')/\(if xsub c c' then Y2H X.K (.ref C) C' else isNotR X.K C C')=true)
  (hni:X.N[D.ni]?=some n) (hln:X.env.scope.names.lookup n=some .local) (d1:(n==("__debug__":Str))=false) (d2:(n==("__classdict__":Str))=false) (hk:D.k≠D.ni) (hl:D.cs.length≤100) (h:chkSu G X.env.scope X.N D n st=true) (hfn:∀y,X.fn y=true)
  (hlt:D.ni<σ.length) (I:Inv (X.caught a oe) pins (σ.set D.ni (some (.ref a))) H' s6)
  (hq:∀p,H' p=none->∀s8,Inv X pins (((σ.set D.ni (some (.ref a))).set D.k (some (.ref p))).set D.ni none) (upd H' p (.lst (D.cs.map λc'=>V.bl (xsub c c')))) s8->Q .next s8):
  wpAny (model X.prog X.w) (X.A.mark (some (.ref a))) (execs [st] X.env) (λf s7=>∃σ' H'',Inv (X.caught a oe) pins σ' H'' s7/\∀s8,Inv X pins (σ'.set D.ni none) H'' s8->Q f s8) (λ_ _=>False) s6:=by
 replace h:=Z02 h
 obtain⟨⟨ts,v⟩,h1,h⟩:=h
 obtain⟨p,rfl⟩:=asAsg_of h1
 replace h:=Z02 h
 obtain⟨t,h2,h⟩:=h
 obtain rfl:=Z1W h2
 replace h:=Z02 h
 obtain⟨y,h3,h⟩:=h
 obtain⟨px,rfl⟩:=Z0c h3
 replace h:=Z02 h
 obtain⟨l,h4,h⟩:=h
 obtain⟨pl,rfl⟩:=asLst_of h4
 simp only[Y06]at h
 obtain⟨⟨a1,a2⟩,a3⟩:=h
 obtain⟨hp,_⟩:=pa_is (X:=X) (a:=a) (oe:=oe) (b:=xsub c) hc hC hA x.c.bls hni hln d1 d2 D.cs l a3 hT
 have ps:=ps_set (X:=X.caught a oe) (pos:=p) (pos':=px) x.c.nd (Z06 a1) (loc_of a2) (pe_lst (pos:=pl) hp) rfl (.inl (hfn _))
 have:=pss_one ps pins s6 _ H' {nx:=λσ' H''=>∃p,H' p=none/\σ'=(σ.set D.ni (some (.ref a))).set D.k (some (.ref p))/\H''=upd H' p (.lst (D.cs.map λc'=>V.bl (xsub c c'))),rt:=λ_ _=>False} I ⟨by rw[Y17,if_pos rfl,if_pos hlt],by rw[Y03];exact Y0M hl (by decide),λp hp=>⟨p,hp,rfl,rfl⟩⟩
 refine wpAny_mono this (λf s7 q=>?_) λ_ _ z=>z
 cases f with
 |next=>
  obtain⟨σ',H'',I',p,hp,rfl,rfl⟩:=q
  exact⟨_,_,I',hq p hp⟩
 |ret u=>obtain⟨_,_,_,_,_,z⟩:=q;exact z.elim
 |brk=>obtain⟨_,_,_,z⟩:=q;exact z.elim
 |cont=>obtain⟨_,_,_,z⟩:=q;exact z.elim
end
end L2
namespace L2
set_option genInjectivity false
open PySem PySem.Spec PyProof.Rows
theorem RMs.bls{K:Y00}{H:Hp}(b:Str->Bool):∀cs:List Str,RMs K H (cs.map λc=>.bl (b c)) (cs.map λc=>.bl (b c))
 |[]=>.nil
 |_::cs=>.cons (.bl _) (RMs.bls b cs)
section
variable{X:Cx}{G:GX}{xb:Str}{Φ:List (Str×SpM)}{Ψ:List (Str×SpX)}
theorem sTry(x:Tok X G xb Φ Ψ)(hf:∀y,X.fn y=true)(D:TryD){st:Stmt}(h:chkTry G xb X.env.scope X.N D st=true):PS X st (liSt X.K (wTry Φ Ψ G.xc D)):=by
 replace h:=Z02 h
 obtain⟨⟨b,Fn,n,su⟩,h1,h⟩:=h
 obtain⟨fp,hp,pos,rfl⟩:=asTry_of h1
 simp only[Y06,Y1U]at h
 obtain⟨⟨⟨⟨⟨⟨⟨⟨⟨⟨a1,a2⟩,a3⟩,a4⟩,a5⟩,a6⟩,a7⟩,a8⟩,a9⟩,b1⟩,b2⟩:=h
 have e1:Fn=xb:=Z06 a1
 subst e1
 obtain⟨g1,g2,g3⟩:=gl_of a2
 obtain⟨F,mF,cF,cs⟩:=x.exs.bas
 intro pins s σ H E I hw
 obtain⟨σm,M,rs,rh,hw⟩:=hw
 have hx:∀H1 s1 e s',Inv X pins σ H1 s1->CX1 X.prog X.w X.stack H1 s1 (λc _ H'=>∃C,c=.ref C/\Cau X G.xc H (λc M3=>∀p,M3 p=none->(liD X.K H E).nx ((σm.set D.k (some (.ref p))).set D.ni none) (updM M3 p (.lst (D.cs.map λc'=>.bl (xsub c c'))))) C H') e s'->
   wpAny (model X.prog X.w) X.A (noteFrame e X.env) (λ_ s₂=>wpAny (model X.prog X.w) X.A (setFlight e none) (λ_ s₃=>wpAny (model X.prog X.w) X.A (handleBy e X.env [.ExceptHandler (some (.Name Fn fp)) (some n) [su] hp]) (SP X pins E) X.xe s₃) X.xe s₂) X.xe s':=by
  intro H1 s1 e s' I1 hc
  refine caught1 I1 hc x.stk x.frm cF (λC H' ⟨c,M3,hc,hn,_⟩=>?_) g1 mF g2 x.c.nd (Z06 a3) (Z06 a4) ?_
  ·obtain⟨C',m',n',xc,_⟩:=cs c hc
   rw[hn]at n';cases n';exact xc
  rintro a oe C H' s6 hcls ⟨c,M3,hc,hn,kk,rr,hR⟩ I6
  obtain⟨C',m',n',xC,xA,sub⟩:=cs c hc
  rw[hn]at n';cases n'
  refine try_suite x hcls xC xA (c:=c) (λc' hc'=>?_) (Z06 a3) (Z06 a4) a5 a6 (by simpa using a7) (Z06 a8) b2 hf ?_ I6 λp hp s8 I8=>?_
  ·have:=Y1g.mp a9 c' hc'
   rw[Y3h]at this
   by_cases ev:c'="ValueError"
   ·subst ev
    exact .inl ⟨rfl,x.exs.ve,rfl⟩
   ·rcases this with z|z
    ·exact absurd (Z06 z) ev
    ·obtain⟨C',m'',q⟩:=sub c' z
     refine .inr ⟨C',m'',?_⟩
     unfold xsub
     rw[decide_eq_false ev,Y3I]
     exact q
  ·have:=(Y07.mp (Z06 a3)).1
   rw[I1.len];exact this
  ·have k2:=Kp.new hp (.lst (D.cs.map λc'=>V.bl (xsub c c')))
   exact⟨_,_,I8,hR p (rr.free hp) _ _ (kk.trans k2) (RS.gone (rs.mono (kk.trans k2)) (.ref p) _ _ _) (rr.put k2 (RMs.bls _ _))⟩
 refine wpAny_Try_except (wpAny_execs_cons ?_)
 unfold chkTb at b1
 unfold wTry stO at hw
 cases ei:D.i with
 |none=>
  rw[ei]at b1 hw
  replace b1:=Z02 b1
  obtain⟨v,h1,b1⟩:=b1
  obtain⟨p,rfl⟩:=asEx_of h1
  obtain⟨w1,w2⟩:=try_call (Q:=λ_ H1=>E.nx σ H1) x b1 I rs rh (Z04 x.c.mon _ (λv M1 q1=>mon_es x.c.mon _ (λvs M2 ⟨f,sp,e1,q2⟩=>⟨f,sp,e1,x.mon _ f sp e1 (λm M' z u H1 k1 r1 rh1=>z _ _ k1 (rs.mono k1) rh1) (λ_ _ z=>z) q2⟩) q1) hw) hx
  refine wpAny_Expr_any (wpAny_mono w1 (λu s1 ⟨v,H1,I1,r1,q⟩=>?_) λ_ _ z=>z) I.quiet (swap_none w2)
  exact wpAny_execs_nil (wpAny_execs_nil ⟨σ,H1,I1,q⟩)
 |some i=>
  rw[ei]at b1 hw
  replace b1:=Z02 b1
  obtain⟨⟨ts,v⟩,h1,b1⟩:=b1
  obtain⟨p,rfl⟩:=asAsg_of h1
  replace b1:=Z02 b1
  obtain⟨t,h2,b1⟩:=b1
  obtain rfl:=Z1W h2
  replace b1:=Z02 b1
  obtain⟨y,h3,b1⟩:=b1
  obtain⟨px,rfl⟩:=Z0c h3
  simp only[Y06]at b1
  obtain⟨⟨c1,c2⟩,c3⟩:=b1
  obtain⟨w1,w2⟩:=try_call (Q:=λv H1=>E.nx (σ.set i (some v)) H1) x c3 I rs rh (Z04 x.c.mon _ (λv M1 q1=>mon_es x.c.mon _ (λvs M2 ⟨f,sp,e1,q2⟩=>⟨f,sp,e1,x.mon _ f sp e1 (λm M' z u H1 k1 r1 rh1=>z _ _ k1 ((rs.mono k1).set r1 i) rh1) (λ_ _ z=>z) q2⟩) q1) hw) hx
  refine wpAny_Assign_Name (wpAny_mono w1 (λu s1 ⟨v,H1,I1,r1,q⟩=>?_) λ_ _ z=>z) (swap_name w2)
  exact store_ok I1 x.c.nd (Z06 c1) (loc_of c2) r1 (λs2 I2=>wpAny_execs_nil (wpAny_execs_nil ⟨_,H1,I2,q⟩)) (.inl (hf _))
theorem sT(x:Tok X G xb Φ Ψ)(hf:∀y,X.fn y=true)(is:IT){st:Stmt}(h:chkT G xb X.env.scope X.N is st=true):PS X st (liSt X.K (wT Φ Ψ G.xc is)):=by
 cases is with
 |pl s=>exact PS.nox (sS s x.c hf h)
 |tr d=>exact sTry x hf d h
 |tb d=>exact absurd h Y04
theorem sTs(x:Tok X G xb Φ Ψ)(hf:∀y,X.fn y=true):∀(is:List IT) {sts:List Stmt},chkTs G xb X.env.scope X.N is sts=true->PSs X sts (liSt X.K (wTs Φ Ψ G.xc is))
 |[],sts,h=>by
  obtain rfl:=Z0s h
  refine pss_nil.weak λD σ H hw=>?_
  obtain⟨σm,M,rs,rh,hw⟩:=hw
  exact hw σ H (Kp.refl _) rs rh
 |s::r,sts,h=>by
  replace h:=Z02 h
  obtain⟨⟨y,ys⟩,h1,h⟩:=h
  obtain rfl:=hd1_of h1
  rw[Y06]at h
  refine(pss_cons (sT x hf s h.1) (sTs x hf r h.2)).weak λD σ H hw=>?_
  obtain⟨σm,M,rs,rh,hw⟩:=hw
  refine⟨σm,M,rs,rh,?_⟩
  refine mon_t x.c.mon x.mon s ?_ hw
  refine⟨λσ' M' z σv H1 k1 rs' rh'=>?_,λv M' z=>z,λσ' M' z=>z,λσ' M' z=>z⟩
  exact⟨σ',M',rs',rh',mon_ts x.c.mon x.mon r (liD.on k1) z⟩
end
end L2
namespace L2
set_option genInjectivity false
open PySem PySem.Spec PyProof.Rows
noncomputable def clsB(K:Y00)(C:Addr)(bm:List Value):Bool:=match K.lookup C with
 |some ⟨.type "type",_,.cls cd,sl⟩=>(match cd.mro,sl.toList with
  |.ref C'::bm',[_,_,_,_,some (.builtin n),_]=>C'==C&&n=="ValueError.__new__"&& !cd.hasDel&&decide (bm'=bm)&&nsOk K cd.ns
  |_,_=>false)
 |_=>false
theorem clsB_of{K:Y00}{C:Addr}{bm:List Value}(q:clsB K C bm=true):XCls K C bm:=by
 unfold clsB at q
 split at q
 ·rename_i dd cd sl ho
  split at q
  ·rename_i C' bm' k0 k1 k2 k3 n k5 hm hs
   simp only[Y06,beq_iff_eq,Y1U,decide_eq_true_eq]at q
   obtain⟨⟨⟨⟨rfl,rfl⟩,hdel⟩,rfl⟩,hok⟩:=q
   obtain⟨nm,bs,mro,ns,qn,hd,sn,sub,ab,col,del⟩:=cd
   dsimp only at hm hdel hok
   subst hm hdel
   have hsl:sl=#[k0,k1,k2,k3,some (.builtin "ValueError.__new__"),k5]:=by
    obtain⟨l⟩:=sl
    simp only at hs
    rw[hs]
   subst hsl
   exact⟨_,_,_,_,_,_,_,_,_,_,_,_,_,_,_,ho,hok⟩
  ·cases q
 ·cases q
noncomputable def refIn(K:Y00)(c:Str):Option Addr:=match Y0j K mainGlobals c with
 |some (some (.ref C))=>some C
 |_=>none
theorem refIn_of{K:Y00}{c:Str}{C:Addr}(h:refIn K c=some C):Y0j K mainGlobals c=some (some (.ref C)):=by
 unfold refIn at h
 split at h
 ·cases h;assumption
 ·cases h
noncomputable def exsB(K:Y00)(xb:Str)(xc:List Str):Bool:=(refIn K xb).any λF=>clsB K F veMro&&xc.all λc=>(refIn K c).any λC=>clsB K C (.ref F::veMro)&&xAttr K C&&xc.all λc'=>(refIn K c').any λC'=>if decide (c'=c)then Y2H K (.ref C) C' else isNotR K C C'
theorem exs_of{K:Y00}{h:Heap}{mg:Str->Option Value}{xb:Str}{xc:List Str}(e:exsB K xb xc=true)(v:Y0j K mainGlobals "ValueError"=some none)(X:K.In h)(G:h.Ns mainGlobals mg):Exs K mg xb xc:=by
 unfold exsB at e
 obtain⟨F,hF,e⟩:=Z02 e
 rw[Y06]at e
 refine⟨Y0G X G v,F,Y0S X G (refIn_of hF),clsB_of e.1,λc hc=>?_⟩
 obtain⟨C,hC,q⟩:=Z02 (Y1g.mp e.2 c (by simpa using hc))
 simp only[Y06]at q
 refine⟨C,Y0S X G (refIn_of hC),refIn_of hC,clsB_of q.1.1,q.1.2,λc' hc'=>?_⟩
 obtain⟨C',hC',q'⟩:=Z02 (Y1g.mp q.2 c' (by simpa using hc'))
 exact⟨C',Y0S X G (refIn_of hC'),q'⟩
structure FtX (P:Program) (w:World) (K:Y00) (mg:Str->Option Value) (base:Heap) (k:Nat) (xf:List Str) (Ψ:List (Str×SpX)):Prop where
 mon:∀(j:Nat) f sp,Ψ[j]?=some (f,sp)->MonX sp
 fnn:∀(j:Nat) f,xf[j]?=some f->∃sp,Ψ[j]?=some (f,sp)
 fns:∀(j:Nat) f sp,xf[j]?=some f->Ψ[j]?=some (f,sp)->∃fa fd ps,FnOk P w K mg base (CX1 P w) k fa fd ps (liSpX K sp)/\mg f=some (.ref fa)/\Y0U K (.ref fa)=true/\Binds K fd ps []
theorem mkFtX{P:Program}{w:World}{K:Y00}{mg:Str->Option Value}{base:Heap}{k:Nat}{xf:List Str}{Ψ:List (Str×SpX)}(hf:Ψ.map (·.1)=xf)(hm:∀p∈Ψ,MonX p.2)
  (hF:∀p∈Ψ,∃fa fd ps,FnOk P w K mg base (CX1 P w) k fa fd ps (liSpX K p.2)/\mg p.1=some (.ref fa)/\Y0U K (.ref fa)=true/\Binds K fd ps []):FtX P w K mg base k xf Ψ where
 mon:=λj f sp h=>hm (f,sp) (Y0C h)
 fnn:=λj f h=>by
  rw[<- hf,Y0b]at h
  cases e:Ψ[j]? with
  |none=>rw[e]at h;cases h
  |some p=>rw[e]at h;cases h;exact⟨p.2,rfl⟩
 fns:=λj f sp hj h=>hF (f,sp) (Y0C h)
theorem cok_of{P:Program}{w:World}{K:Y00}{mg:Str->Option Value}{base:Heap}{G:GI}{Φ:List (Str×SpM)}{CX:CXT}{qual:Str}{sc:Scope}{f:Addr}{N ps:List Str}{k:Nat}{cdv:Value}{A:Around}{outer:List Env}{s:Shared}{H:Hp}{E:XK}
  (S:FnScope N ps sc) (T:Fts P w K mg base k G Φ) (hr:Room k (A.deeper (envOfC qual sc s.heap.objs.size f cdv))):Cok (cxOf CX P w K mg base N qual sc f cdv A outer s H E).nox G Φ:=
 ⟨(by have:=hr.un;show(A.deeper _).units+70<cLine;lia),rfl,rfl,(by show(if sc.kind.isAnnotationScope then Y2G else sc.kind)=.function;rw[S.kind];rfl),S.nd,T.bls,T.gls,T.fnn,T.mon,
  (λj f sp hg hj=>let⟨fa,fd,ps,F,hm,hk,hb⟩:=T.fns j f sp hg hj;⟨k,fa,fd,ps,hr,F,hm,hk,hb⟩),
  (λj c m h=>let⟨f,sp,hj,C,fa,fd,ps,F,hC,cl,hm,hb⟩:=T.mts j c m h;⟨f,sp,hj,k,C,fa,fd,ps,hr,F,hC,cl,hm,hb⟩),
  (λj c h=>let⟨f,sp,hj,k',C,fa,fd,ps,hk,F,hC,hm,mk1,hb⟩:=T.mks j c h;⟨f,sp,hj,k',C,fa,fd,ps,hr.mono hk,F,hC,hm,mk1,hb⟩),T.cls⟩
theorem Fun.okX{P:Program}{w:World}{K:Y00}{mg:Str->Option Value}{base:Heap}{G:GX}{xb:Str}{Φ:List (Str×SpM)}{Ψ:List (Str×SpX)}{x qual:Str}{st:Stmt}{f:Addr}{fd:FuncData}{N ps:List Str}{k:Nat}{sp:SpX}
  (F:Fun K x qual st f fd) (S:FnScope N ps (Z00 st)) (T:Fts P w K mg base k G.g Φ) (TX:FtX P w K mg base k G.xf Ψ) (Ex:Exs K mg xb G.xc) (ir:IXs) (hc:chkXs G (Z00 st) N ir (Z05 st)=true)
  (len:∀vs M Q X,sp vs M Q X->vs.length=ps.length) (h:∀vs M Q X,sp vs M Q X->wXs Φ Ψ X ir {nx:=λ_ M'=>Q .non M',rt:=Q} (startM N.length vs) M):FnOk P w K mg base (CX1 P w) (k+1) f fd ps (liSpX K sp):=by
 obtain⟨oc,od,kV,doc,pm,an,cdv,ct,osl,rfl,lk,hcd⟩:=F.ex
 refine fn_of lk hcd S (λvs H Q E hs=>?_) λA outer s H vs Q E hr hsp=>?_
 ·obtain⟨ms,M,r,rh,q⟩:=hs
  rw[<- r.length];exact len _ _ _ _ q
 obtain⟨ms,M,r,rh,q⟩:=hsp
 have x:Xok (cxOf (CX1 P w) P w K mg base N qual (Z00 st) f cdv A outer s H E) G Φ Ψ H E:=
  ⟨cok_of S T hr,S.nd,rfl,own1,pass1,λpins σ H s h' e C vs I hm q=>raise1 I hm q,TX.mon,TX.fnn,(λj f sp hg hj=>let⟨fa,fd,ps,F,hm,hk,hb⟩:=TX.fns j f sp hg hj;⟨k,fa,fd,ps,hr,F,hm,hk,hb⟩),
   λc hc=>let⟨F,mF,cF,cs⟩:=Ex.bas;let⟨C,m1,n1,xC,_⟩:=cs c hc;⟨C,F,m1,n1,cF,xC⟩⟩
 refine⟨_,sXs x (ex:=liEx K E H) (λ_ _ z=>z) (λ_=>rfl) ir hc,Kp.refl _,startM N.length ms,M,start_rs r,rh,?_⟩
 refine mon_xs T.mon TX.mon ir (λ_ _ z=>z) ?_ (h ms M _ _ q)
 exact⟨λσ M' z σv H' k1 rs' rh'=>z _ _ k1 .non rh',λv M' z=>z,λ_ _ z=>z.elim,λ_ _ z=>z.elim⟩
theorem plain_of{P:Program}{w:World}{K:Y00}{mg:Str->Option Value}{base:Heap}{k:Nat}{f:Addr}{fd:FuncData}{ps:List Str}{sp:SpX}{sp':SpM}(F:FnOk P w K mg base (CX1 P w) k f fd ps (liSpX K sp))(h:∀vs M Q X,sp' vs M Q->sp vs M Q X):FnOk P w K mg base CX0 k f fd ps (liSp K sp'):=by
 have conv:∀vs H Q E,liSp K sp' vs H Q E->liSpX K sp vs H Q E0:=λvs H Q E ⟨ms,M,r,rh,q⟩=>⟨ms,M,r,rh,h _ _ _ _ q⟩
 refine⟨λvs H Q E hs=>F.len _ _ _ _ (conv _ _ _ _ hs),λA outer s H args us vs Q E hr e0 hb r hs=>?_⟩
 refine codeAny_mono (F.run A outer s H args us vs Q E0 hr e0 hb r (conv _ _ _ _ hs)) λres s' q=>?_
 cases res with
 |error e=>
  obtain⟨_,_,_,_,_,_,_,_,_,_,_,_,_,z⟩:=q
  exact z.elim
 |ok fl=>cases fl<;>exact q
theorem Fun.okT{P:Program}{w:World}{K:Y00}{mg:Str->Option Value}{base:Heap}{G:GX}{xb:Str}{Φ:List (Str×SpM)}{Ψ:List (Str×SpX)}{x qual:Str}{st:Stmt}{f:Addr}{fd:FuncData}{N ps:List Str}{k:Nat}{sp:SpM}
  (F:Fun K x qual st f fd) (S:FnScope N ps (Z00 st)) (T:Fts P w K mg base k G.g Φ) (TX:FtX P w K mg base k G.xf Ψ) (Ex:Exs K mg xb G.xc) (vx:G.xc.contains "ValueError"=false) (ir:List IT) (hc:chkTs G xb (Z00 st) N ir (Z05 st)=true)
  (len:∀vs M Q,sp vs M Q->vs.length=ps.length) (h:∀vs M Q,sp vs M Q->wTs Φ Ψ G.xc ir {nx:=λ_ M'=>Q .non M',rt:=Q} (startM N.length vs) M):FnOk P w K mg base CX0 (k+1) f fd ps (liSp K sp):=by
 refine F.ok S (λvs H Q E hs=>?_) λcdv A outer s H vs Q E hr hs=>?_
 ·obtain⟨ms,M,r,rh,q⟩:=hs
  rw[<- r.length];exact len _ _ _ q
 obtain⟨ms,M,r,rh,q⟩:=hs
 have x:Tok (cxOf CX0 P w K mg base N qual (Z00 st) f cdv A outer s H E).nox G xb Φ Ψ:=
  ⟨cok_of (CX:=CX0) (E:=E) S T hr,rfl,rfl,Ex,vx,TX.mon,TX.fnn,(λj f sp hg hj=>let⟨fa,fd,ps,F,hm,hk,hb⟩:=TX.fns j f sp hg hj;⟨k,fa,fd,ps,hr,F,hm,hk,hb⟩)⟩
 refine⟨_,sTs x (λ_=>rfl) ir hc,startM N.length ms,M,start_rs r,rh,?_⟩
 refine mon_ts T.mon TX.mon ir ?_ (h ms M _ q)
 exact⟨λσ M' z σv H' k1 rs' rh'=>z _ _ k1 .non rh',λv M' z=>z,λ_ _ z=>z.elim,λ_ _ z=>z.elim⟩
end L2
namespace L2
open PySem PySem.Spec PyProof.Rows
section
variable{Φ:List (Str×SpM)}{Ψ:List (Str×SpX)}{ex:Str->MH->Prop}{xc:List Str}{D:EndM}{σ:Sm}{M:MH}
theorem x_nil:wXs Φ Ψ ex .nil D σ M=D.nx σ M:=rfl
theorem x_cons{s:IX}{r:IXs}:wXs Φ Ψ ex (.cons s r) D σ M=wX Φ Ψ ex s {nx:=λσ M=>wXs Φ Ψ ex r D σ M,rt:=D.rt,bk:=D.bk,ct:=D.ct} σ M:=rfl
theorem x_pl{s:IS}:wX Φ Ψ ex (.pl s) D σ M=wS Φ s D σ M:=rfl
theorem x_rs{c:Str}{e:IE}:wX Φ Ψ ex (.rs c e) D σ M=wE Φ e σ M λ_ M1=>ex c M1:=rfl
theorem x_rf{c:Str}{i:Nat}:wX Φ Ψ ex (.rf c i) D σ M=∃x,σ[i]?=some (some (.str x))/\ShortT x/\ex c M:=rfl
theorem x_cl{j:Nat}{e:IE}{es:IEs}:wX Φ Ψ ex (.cl j e es) D σ M=wE Φ e σ M λv M1=>wEs Φ es σ M1 λvs M2=>∃f sp,Ψ[j]?=some (f,sp)/\sp (v::vs) M2 (λ_ M3=>D.nx σ M3) ex:=rfl
theorem x_rt{j:Nat}{e:IE}{es:IEs}:wX Φ Ψ ex (.rt j e es) D σ M=wE Φ e σ M λv M1=>wEs Φ es σ M1 λvs M2=>∃f sp,Ψ[j]?=some (f,sp)/\sp (v::vs) M2 D.rt ex:=rfl
theorem x_for{t:ITg}{s:ISr}{b:IXs}:wX Φ Ψ ex (.for_ t s b) D σ M=wSr Φ s σ M λS M1=>S.flat/\∃J:Nat->Sm->MH->Prop,J 0 σ M1/\(∀i σ M,J i σ M->S.ok M)/\
   (∀i x σ M,S.items[i]?=some x->J i σ M->wTg t x σ λσ2=>wXs Φ Ψ ex b {nx:=J (i+1),rt:=D.rt,bk:=D.nx,ct:=J (i+1)} σ2 M)/\∀σ M,J S.len σ M->D.nx σ M:=rfl
theorem t_nil:wTs Φ Ψ xc [] D σ M=D.nx σ M:=rfl
theorem t_cons{s:IT}{r:List IT}:wTs Φ Ψ xc (s::r) D σ M=wT Φ Ψ xc s {nx:=λσ M=>wTs Φ Ψ xc r D σ M,rt:=D.rt,bk:=D.bk,ct:=D.ct} σ M:=rfl
theorem t_pl{s:IS}:wT Φ Ψ xc (.pl s) D σ M=wS Φ s D σ M:=rfl
theorem t_tr{i:Option Nat}{j ni k:Nat}{e:IE}{es:IEs}{cs:List Str}:wT Φ Ψ xc (.tr ⟨i,j,e,es,ni,k,cs⟩) D σ M=wE Φ e σ M λv M1=>wEs Φ es σ M1 λvs M2=>∃f sp,Ψ[j]?=some (f,sp)/\
 sp (v::vs) M2 (λx M3=>D.nx (stO i x σ) M3) λc M3=>xc.contains c=true/\∀p,M3 p=none->D.nx ((σ.set k (some (.ref p))).set ni none) (updM M3 p (.lst (cs.map λc'=>.bl (xsub c c')))):=rfl
theorem ex_callX{a:Str}{b:SpX}{R:SpX->Prop}:(∃f sp,(a=f/\b=sp)/\R sp)↔R b:=⟨fun⟨_,_,⟨_,e⟩,h⟩=>e▸h,λh=>⟨a,b,⟨rfl,rfl⟩,h⟩⟩
theorem sto1{i:Nat}{x:MV}:stO (some i) x σ=σ.set i (some x):=rfl
theorem xsubE{c c':Str}:xsub c c'=(decide (c'="ValueError")||decide (c'=c)):=rfl
end
end L2
namespace My
open PySem L2
noncomputable abbrev XB:Str:="FerryError"
noncomputable abbrev XC:List Str:=["NoName","Twice","NoWidth","NoWord","TooMany","Unknown","NoFerry","NoStep"]
noncomputable def top(i:Nat):Stmt:=PySem.Challenge.pw_bellferry_k23_steps_refused.main.body.getD i (.Pass ⟨0,0,0,0⟩)
noncomputable abbrev s_is_whole:Stmt:=top 12
noncomputable abbrev s_is_width:Stmt:=top 13
noncomputable abbrev s_two_to:Stmt:=top 14
noncomputable abbrev s_fits:Stmt:=top 15
noncomputable abbrev Z0Z:Stmt:=top 17
noncomputable abbrev s_size_of:Stmt:=top 18
noncomputable abbrev Z1L:Stmt:=top 19
noncomputable abbrev s_vars_in:Stmt:=top 20
noncomputable abbrev s_is_name:Stmt:=top 31
noncomputable abbrev Z1h:Stmt:=top 32
noncomputable abbrev Z0E:Stmt:=top 33
noncomputable abbrev Z0j:Stmt:=top 34
noncomputable abbrev Z0x:Stmt:=top 35
noncomputable abbrev Z1f:Stmt:=top 36
noncomputable abbrev Z1g:Stmt:=top 37
noncomputable abbrev Z0P:Stmt:=top 38
noncomputable abbrev Z0F:Stmt:=top 39
noncomputable abbrev Z0Y:Stmt:=top 40
noncomputable abbrev Z0w:Stmt:=top 41
noncomputable abbrev Z0q:Stmt:=top 42
noncomputable abbrev s_frozen:Stmt:=top 43
noncomputable abbrev s_made:Stmt:=top 44
noncomputable abbrev s__law_cell:Stmt:=top 46
noncomputable abbrev s__law_mix:Stmt:=top 47
noncomputable abbrev Z1N:Stmt:=top 48
noncomputable abbrev s__law_word:Stmt:=top 49
noncomputable abbrev s__law_made:Stmt:=top 50
noncomputable abbrev Z1O:Stmt:=top 51
noncomputable abbrev Z1P:Stmt:=top 52
noncomputable abbrev s__law_deep:Stmt:=top 53
noncomputable abbrev Z0G:Stmt:=top 54
noncomputable abbrev Z0H:Stmt:=top 55
noncomputable abbrev Z1M:Stmt:=top 56
noncomputable abbrev Z1i:Stmt:=top 57
noncomputable abbrev s_law:Stmt:=top 58
set_option genInjectivity false in
set_option genSizeOf false in
structure Adr where
 f_is_whole:Addr
 d_is_whole:FuncData
 f_is_width:Addr
 d_is_width:FuncData
 f_two_to:Addr
 d_two_to:FuncData
 f_fits:Addr
 d_fits:FuncData
 f_parts_within:Addr
 d_parts_within:FuncData
 f_size_of:Addr
 d_size_of:FuncData
 f_names_read:Addr
 d_names_read:FuncData
 f_vars_in:Addr
 d_vars_in:FuncData
 f_is_name:Addr
 d_is_name:FuncData
 f_refuse_name:Addr
 d_refuse_name:FuncData
 f_refuse_unknown:Addr
 d_refuse_unknown:FuncData
 f_refuse_ferry_names:Addr
 d_refuse_ferry_names:FuncData
 f_refuse_variables:Addr
 d_refuse_variables:FuncData
 f_refuse_term:Addr
 d_refuse_term:FuncData
 f_refuse_step:Addr
 d_refuse_step:FuncData
 f_refuse_island:Addr
 d_refuse_island:FuncData
 f_refuse_islands:Addr
 d_refuse_islands:FuncData
 f_refuse_ferry:Addr
 d_refuse_ferry:FuncData
 f_refuse_wrong_end:Addr
 d_refuse_wrong_end:FuncData
 f_refuse_wrong_ends:Addr
 d_refuse_wrong_ends:FuncData
 f_frozen:Addr
 d_frozen:FuncData
 f_made:Addr
 d_made:FuncData
 f__law_cell:Addr
 d__law_cell:FuncData
 f__law_mix:Addr
 d__law_mix:FuncData
 f__law_names:Addr
 d__law_names:FuncData
 f__law_word:Addr
 d__law_word:FuncData
 f__law_made:Addr
 d__law_made:FuncData
 f__law_fresh:Addr
 d__law_fresh:FuncData
 f__law_broad:Addr
 d__law_broad:FuncData
 f__law_deep:Addr
 d__law_deep:FuncData
 f__law_hard_term:Addr
 d__law_hard_term:FuncData
 f__law_hard_step:Addr
 d__law_hard_step:FuncData
 f__law_steps:Addr
 d__law_steps:FuncData
 f__law_answer:Addr
 d__law_answer:FuncData
 f_law:Addr
 d_law:FuncData
structure Txt (K:Y00) (mg:Str->Option Value) (t:Adr):Prop where
 q_is_whole:FnT K mg "is_whole" ["value"] s_is_whole t.f_is_whole t.d_is_whole
 q_is_width:FnT K mg "is_width" ["number"] s_is_width t.f_is_width t.d_is_width
 q_two_to:FnT K mg "two_to" ["exponent"] s_two_to t.f_two_to t.d_two_to
 q_fits:FnT K mg "fits" ["width","number"] s_fits t.f_fits t.d_fits
 q_parts_within:FnT K mg "parts_within" ["T"] Z0Z t.f_parts_within t.d_parts_within
 q_size_of:FnT K mg "size_of" ["T"] s_size_of t.f_size_of t.d_size_of
 q_names_read:FnT K mg "names_read" ["T"] Z1L t.f_names_read t.d_names_read
 q_vars_in:FnT K mg "vars_in" ["T"] s_vars_in t.f_vars_in t.d_vars_in
 q_is_name:FnT K mg "is_name" ["text"] s_is_name t.f_is_name t.d_is_name
 q_refuse_name:FnT K mg "refuse_name" ["text","earlier"] Z1h t.f_refuse_name t.d_refuse_name
 q_refuse_unknown:FnT K mg "refuse_unknown" ["name","known"] Z0E t.f_refuse_unknown t.d_refuse_unknown
 q_refuse_ferry_names:FnT K mg "refuse_ferry_names" ["ferries"] Z0j t.f_refuse_ferry_names t.d_refuse_ferry_names
 q_refuse_variables:FnT K mg "refuse_variables" ["width","pairs"] Z0x t.f_refuse_variables t.d_refuse_variables
 q_refuse_term:FnT K mg "refuse_term" ["T","known"] Z1f t.f_refuse_term t.d_refuse_term
 q_refuse_step:FnT K mg "refuse_step" ["step","known","count","ferry_names"] Z1g t.f_refuse_step t.d_refuse_step
 q_refuse_island:FnT K mg "refuse_island" ["width","island","ferry_names"] Z0P t.f_refuse_island t.d_refuse_island
 q_refuse_islands:FnT K mg "refuse_islands" ["width","islands","ferry_names"] Z0F t.f_refuse_islands t.d_refuse_islands
 q_refuse_ferry:FnT K mg "refuse_ferry" ["ferry","island_names"] Z0Y t.f_refuse_ferry t.d_refuse_ferry
 q_refuse_wrong_end:FnT K mg "refuse_wrong_end" ["name","step","givers","takers"] Z0w t.f_refuse_wrong_end t.d_refuse_wrong_end
 q_refuse_wrong_ends:FnT K mg "refuse_wrong_ends" ["islands","ferries"] Z0q t.f_refuse_wrong_ends t.d_refuse_wrong_ends
 q_frozen:FnT K mg "frozen" ["value"] s_frozen t.f_frozen t.d_frozen
 q_made:FnT K mg "made" ["width","islands","ferries"] s_made t.f_made t.d_made
 q__law_cell:FnT K mg "_law_cell" ["script","k"] s__law_cell t.f__law_cell t.d__law_cell
 q__law_mix:FnT K mg "_law_mix" ["number","salt"] s__law_mix t.f__law_mix t.d__law_mix
 q__law_names:FnT K mg "_law_names" ["number","many"] Z1N t.f__law_names t.d__law_names
 q__law_word:FnT K mg "_law_word" ["number","width"] s__law_word t.f__law_word t.d__law_word
 q__law_made:FnT K mg "_law_made" ["parts"] s__law_made t.f__law_made t.d__law_made
 q__law_fresh:FnT K mg "_law_fresh" ["stem","known"] Z1O t.f__law_fresh t.d__law_fresh
 q__law_broad:FnT K mg "_law_broad" ["many","leaf"] Z1P t.f__law_broad t.d__law_broad
 q__law_deep:FnT K mg "_law_deep" ["many","leaf"] s__law_deep t.f__law_deep t.d__law_deep
 q__law_hard_term:FnT K mg "_law_hard_term" ["number","own","stranger"] Z0G t.f__law_hard_term t.d__law_hard_term
 q__law_hard_step:FnT K mg "_law_hard_step" ["number","lanes","own","many"] Z0H t.f__law_hard_step t.d__law_hard_step
 q__law_steps:FnT K mg "_law_steps" ["script","lanes","own"] Z1M t.f__law_steps t.d__law_steps
 q__law_answer:FnT K mg "_law_answer" ["parts"] Z1i t.f__law_answer t.d__law_answer
 q_law:FnT K mg "law" ["script"] s_law t.f_law t.d_law
 z_ValueError:mg "ValueError"=none
 z_all:mg "all"=none
 z_bool:mg "bool"=none
 z_dict:mg "dict"=none
 z_int:mg "int"=none
 z_isinstance:mg "isinstance"=none
 z_len:mg "len"=none
 z_list:mg "list"=none
 z_max:mg "max"=none
 z_range:mg "range"=none
 z_set:mg "set"=none
 z_sorted:mg "sorted"=none
 z_tuple:mg "tuple"=none
 c_MOST_WIDTH:∃tk,mg "MOST_WIDTH"=some (.int 64 tk)
 c_MOST_LETTERS:∃tk,mg "MOST_LETTERS"=some (.int 8 tk)
 c_MOST_ISLANDS:∃tk,mg "MOST_ISLANDS"=some (.int 5 tk)
 c_MOST_FERRIES:∃tk,mg "MOST_FERRIES"=some (.int 6 tk)
 c_MOST_VARS:∃tk,mg "MOST_VARS"=some (.int 6 tk)
 c_MOST_STEPS:∃tk,mg "MOST_STEPS"=some (.int 12 tk)
 c_MOST_PARTS:∃tk,mg "MOST_PARTS"=some (.int 30 tk)
 c_MOST_DEPTH:∃tk,mg "MOST_DEPTH"=some (.int 8 tk)
 c_MOST_K:∃tk,mg "MOST_K"=some (.int 3 tk)
 c_MOST_STAGES:∃tk,mg "MOST_STAGES"=some (.int 3 tk)
 ex:Exs K mg XB XC
theorem sc_is_whole:FnScope ["value"] ["value"] (Z00 s_is_whole):=⟨rfl,rfl,rfl,by decide+kernel,rfl,by decide+kernel,by decide+kernel⟩
theorem sc_is_width:FnScope ["number"] ["number"] (Z00 s_is_width):=⟨rfl,rfl,rfl,by decide+kernel,rfl,by decide+kernel,by decide+kernel⟩
theorem sc_two_to:FnScope ["exponent","answer","k"] ["exponent"] (Z00 s_two_to):=⟨rfl,rfl,rfl,by decide+kernel,rfl,by decide+kernel,by decide+kernel⟩
theorem sc_fits:FnScope ["width","number"] ["width","number"] (Z00 s_fits):=⟨rfl,rfl,rfl,by decide+kernel,rfl,by decide+kernel,by decide+kernel⟩
theorem sc_parts_within:FnScope ["T"] ["T"] (Z00 Z0Z):=⟨rfl,rfl,rfl,by decide+kernel,rfl,by decide+kernel,by decide+kernel⟩
theorem sc_size_of:FnScope ["T","parts","deepest","part","size"] ["T"] (Z00 s_size_of):=⟨rfl,rfl,rfl,by decide+kernel,rfl,by decide+kernel,by decide+kernel⟩
theorem sc_names_read:FnScope ["T","names","part"] ["T"] (Z00 Z1L):=⟨rfl,rfl,rfl,by decide+kernel,rfl,by decide+kernel,by decide+kernel⟩
theorem sc_vars_in:FnScope ["T"] ["T"] (Z00 s_vars_in):=⟨rfl,rfl,rfl,by decide+kernel,rfl,by decide+kernel,by decide+kernel⟩
theorem sc_is_name:FnScope ["text"] ["text"] (Z00 s_is_name):=⟨rfl,rfl,rfl,by decide+kernel,rfl,by decide+kernel,by decide+kernel⟩
theorem sc_refuse_name:FnScope ["text","earlier"] ["text","earlier"] (Z00 Z1h):=⟨rfl,rfl,rfl,by decide+kernel,rfl,by decide+kernel,by decide+kernel⟩
theorem sc_refuse_unknown:FnScope ["name","known"] ["name","known"] (Z00 Z0E):=⟨rfl,rfl,rfl,by decide+kernel,rfl,by decide+kernel,by decide+kernel⟩
theorem sc_refuse_ferry_names:FnScope ["ferries","earlier","ferry"] ["ferries"] (Z00 Z0j):=⟨rfl,rfl,rfl,by decide+kernel,rfl,by decide+kernel,by decide+kernel⟩
theorem sc_refuse_variables:FnScope ["width","pairs","earlier","pair","name"] ["width","pairs"] (Z00 Z0x):=⟨rfl,rfl,rfl,by decide+kernel,rfl,by decide+kernel,by decide+kernel⟩
theorem sc_refuse_term:FnScope ["T","known","size","name"] ["T","known"] (Z00 Z1f):=⟨rfl,rfl,rfl,by decide+kernel,rfl,by decide+kernel,by decide+kernel⟩
theorem sc_refuse_step:FnScope ["step","known","count","ferry_names"] ["step","known","count","ferry_names"] (Z00 Z1g):=⟨rfl,rfl,rfl,by decide+kernel,rfl,by decide+kernel,by decide+kernel⟩
theorem sc_refuse_island:FnScope ["width","island","ferry_names","known","step"] ["width","island","ferry_names"] (Z00 Z0P):=⟨rfl,rfl,rfl,by decide+kernel,rfl,by decide+kernel,by decide+kernel⟩
theorem sc_refuse_islands:FnScope ["width","islands","ferry_names","earlier","island"] ["width","islands","ferry_names"] (Z00 Z0F):=⟨rfl,rfl,rfl,by decide+kernel,rfl,by decide+kernel,by decide+kernel⟩
theorem sc_refuse_ferry:FnScope ["ferry","island_names"] ["ferry","island_names"] (Z00 Z0Y):=⟨rfl,rfl,rfl,by decide+kernel,rfl,by decide+kernel,by decide+kernel⟩
theorem sc_refuse_wrong_end:FnScope ["name","step","givers","takers"] ["name","step","givers","takers"] (Z00 Z0w):=⟨rfl,rfl,rfl,by decide+kernel,rfl,by decide+kernel,by decide+kernel⟩
theorem sc_refuse_wrong_ends:FnScope ["islands","ferries","givers","takers","island","step"] ["islands","ferries"] (Z00 Z0q):=⟨rfl,rfl,rfl,by decide+kernel,rfl,by decide+kernel,by decide+kernel⟩
theorem sc_frozen:FnScope ["value"] ["value"] (Z00 s_frozen):=⟨rfl,rfl,rfl,by decide+kernel,rfl,by decide+kernel,by decide+kernel⟩
theorem sc_made:FnScope ["width","islands","ferries","island_names","ferry"] ["width","islands","ferries"] (Z00 s_made):=⟨rfl,rfl,rfl,by decide+kernel,rfl,by decide+kernel,by decide+kernel⟩
theorem sc__law_cell:FnScope ["script","k"] ["script","k"] (Z00 s__law_cell):=⟨rfl,rfl,rfl,by decide+kernel,rfl,by decide+kernel,by decide+kernel⟩
theorem sc__law_mix:FnScope ["number","salt","mixed"] ["number","salt"] (Z00 s__law_mix):=⟨rfl,rfl,rfl,by decide+kernel,rfl,by decide+kernel,by decide+kernel⟩
theorem sc__law_names:FnScope ["number","many","letters","first","step","size","at","stem","names","k","sign"] ["number","many"] (Z00 Z1N):=⟨rfl,rfl,rfl,by decide+kernel,rfl,by decide+kernel,by decide+kernel⟩
theorem sc__law_word:FnScope ["number","width","far"] ["number","width"] (Z00 s__law_word):=⟨rfl,rfl,rfl,by decide+kernel,rfl,by decide+kernel,by decide+kernel⟩
theorem sc__law_made:FnScope ["parts","islands"] ["parts"] (Z00 s__law_made):=⟨rfl,rfl,rfl,by decide+kernel,rfl,by decide+kernel,by decide+kernel⟩
theorem sc__law_fresh:FnScope ["stem","known","sign"] ["stem","known"] (Z00 Z1O):=⟨rfl,rfl,rfl,by decide+kernel,rfl,by decide+kernel,by decide+kernel⟩
theorem sc__law_broad:FnScope ["many","leaf","half"] ["many","leaf"] (Z00 Z1P):=⟨rfl,rfl,rfl,by decide+kernel,rfl,by decide+kernel,by decide+kernel⟩
theorem sc__law_deep:FnScope ["many","leaf","term","k"] ["many","leaf"] (Z00 s__law_deep):=⟨rfl,rfl,rfl,by decide+kernel,rfl,by decide+kernel,by decide+kernel⟩
theorem sc__law_hard_term:FnScope ["number","own","stranger","leaf","fault","way","more","many"] ["number","own","stranger"] (Z00 Z0G):=⟨rfl,rfl,rfl,by decide+kernel,rfl,by decide+kernel,by decide+kernel⟩
theorem sc__law_hard_step:FnScope ["number","lanes","own","many","term","fault","none","lane","var","way","at"] ["number","lanes","own","many"] (Z00 Z0H):=⟨rfl,rfl,rfl,by decide+kernel,rfl,by decide+kernel,by decide+kernel⟩
theorem sc__law_steps:FnScope ["script","lanes","own","number","good","steps","at","step","fault"] ["script","lanes","own"] (Z00 Z1M):=⟨rfl,rfl,rfl,by decide+kernel,rfl,by decide+kernel,by decide+kernel⟩
theorem sc__law_answer:FnScope ["parts","kin","world","e"] ["parts"] (Z00 Z1i):=⟨rfl,rfl,rfl,by decide+kernel,rfl,by decide+kernel,by decide+kernel⟩
theorem sc_law:FnScope ["script","names","width","own","steps","fault","more","pairs","islands","name","at","ferries","world","kin","due","sorts"] ["script"] (Z00 s_law):=⟨rfl,rfl,rfl,by decide+kernel,rfl,by decide+kernel,by decide+kernel⟩
noncomputable def GB:List Str:=["ValueError","all","bool","dict","int","isinstance","len","list","max","range","set","sorted","tuple"]
noncomputable def GL:List (Str×Int):=[("MOST_WIDTH",64),("MOST_LETTERS",8),("MOST_ISLANDS",5),("MOST_FERRIES",6),("MOST_VARS",6),("MOST_STEPS",12),("MOST_PARTS",30),("MOST_DEPTH",8),("MOST_K",3),("MOST_STAGES",3)]
theorem Z0N{K:Y00}{mg:Str->Option Value}{t:Adr}(T:Txt K mg t):∀x∈GB,mg x=none:=(fMc ⟨T.z_ValueError,(fMc ⟨T.z_all,(fMc ⟨T.z_bool,(fMc ⟨T.z_dict,(fMc ⟨T.z_int,(fMc ⟨T.z_isinstance,(fMc ⟨T.z_len,(fMc ⟨T.z_list,(fMc ⟨T.z_max,(fMc ⟨T.z_range,(fMc ⟨T.z_set,(fMc ⟨T.z_sorted,(fMc ⟨T.z_tuple,(λ_ h=>nomatch h)⟩)⟩)⟩)⟩)⟩)⟩)⟩)⟩)⟩)⟩)⟩)⟩)⟩)
theorem Z0g{K:Y00}{mg:Str->Option Value}{t:Adr}(T:Txt K mg t):∀p∈GL,∃tk,mg p.1=some (.int p.2 tk):=(fMc ⟨T.c_MOST_WIDTH,(fMc ⟨T.c_MOST_LETTERS,(fMc ⟨T.c_MOST_ISLANDS,(fMc ⟨T.c_MOST_FERRIES,(fMc ⟨T.c_MOST_VARS,(fMc ⟨T.c_MOST_STEPS,(fMc ⟨T.c_MOST_PARTS,(fMc ⟨T.c_MOST_DEPTH,(fMc ⟨T.c_MOST_K,(fMc ⟨T.c_MOST_STAGES,(λ_ h=>nomatch h)⟩)⟩)⟩)⟩)⟩)⟩)⟩)⟩)⟩)⟩)
noncomputable def iis_whole_0:ISs:=.cons (.ret (.and (.bi .isinst (.var 0) (.cons (.ty .int) .nil)) (.not (.bi .isinst (.var 0) (.cons (.ty .bool) .nil))))) .nil
noncomputable abbrev ir_is_whole:ISs:=iis_whole_0
noncomputable def G_is_whole:GI:={bl:=GB,gl:=GL,fns:=[]}
theorem ck_is_whole:chkSs G_is_whole (Z00 s_is_whole) ["value"] ir_is_whole (Z05 s_is_whole)=true:=by decide+kernel
noncomputable def iis_width_0:ISs:=.cons (.ret (.and (.call 0 (.var 0) .nil) (.chn .LtE .LtE (.int 1) (.var 0) (.glb "MOST_WIDTH" 64)))) .nil
noncomputable abbrev ir_is_width:ISs:=iis_width_0
noncomputable def G_is_width:GI:={bl:=GB,gl:=GL,fns:=["is_whole"]}
theorem ck_is_width:chkSs G_is_width (Z00 s_is_width) ["number"] ir_is_width (Z05 s_is_width)=true:=by decide+kernel
noncomputable def itwo_to_3:ISs:=.cons (.ret (.var 1)) .nil
noncomputable def itwo_to_2:ISs:=.cons (.set 1 (.bin .Mult (.var 1) (.int 2))) .nil
noncomputable def itwo_to_1:ISs:=.cons (.for_ (.nm 2) (.rng (.var 0)) itwo_to_2) itwo_to_3
noncomputable def itwo_to_0:ISs:=.cons (.set 1 (.int 1)) itwo_to_1
noncomputable abbrev ir_two_to:ISs:=itwo_to_0
noncomputable def G_two_to:GI:={bl:=GB,gl:=GL,fns:=[]}
theorem ck_two_to:chkSs G_two_to (Z00 s_two_to) ["exponent","answer","k"] ir_two_to (Z05 s_two_to)=true:=by decide+kernel
noncomputable def ifits_0:ISs:=.cons (.ret (.and (.call 0 (.var 1) .nil) (.chn .LtE .Lt (.int 0) (.var 1) (.call 1 (.var 0) .nil)))) .nil
noncomputable abbrev ir_fits:ISs:=ifits_0
noncomputable def G_fits:GI:={bl:=GB,gl:=GL,fns:=["is_whole","two_to"]}
theorem ck_fits:chkSs G_fits (Z00 s_fits) ["width","number"] ir_fits (Z05 s_fits)=true:=by decide+kernel
noncomputable def iparts_within_2:ISs:=.cons (.ret (.bi .list (.sl (.var 0) (.some (.int 1)) .none) .nil)) .nil
noncomputable def iparts_within_1:ISs:=.cons (.ret (.lst .nil)) .nil
noncomputable def iparts_within_0:ISs:=.cons (.ite (.or (.cmp .Eq (.ix (.var 0) (.int 0)) (.str "num")) (.cmp .Eq (.ix (.var 0) (.int 0)) (.str "var"))) iparts_within_1 .nil) iparts_within_2
noncomputable abbrev ir_parts_within:ISs:=iparts_within_0
noncomputable def G_parts_within:GI:={bl:=GB,gl:=GL,fns:=[]}
theorem ck_parts_within:chkSs G_parts_within (Z00 Z0Z) ["T"] ir_parts_within (Z05 Z0Z)=true:=by decide+kernel
noncomputable def isize_of_6:ISs:=.cons (.ret (.tup (.cons (.var 1) (.cons (.bin .Add (.var 2) (.int 1)) .nil)))) .nil
noncomputable def isize_of_5:ISs:=.cons (.set 2 (.bi .max (.var 2) (.cons (.ix (.var 4) (.int 1)) .nil))) .nil
noncomputable def isize_of_4:ISs:=.cons (.set 1 (.bin .Add (.var 1) (.ix (.var 4) (.int 0)))) isize_of_5
noncomputable def isize_of_3:ISs:=.cons (.set 4 (.call 1 (.var 3) .nil)) isize_of_4
noncomputable def isize_of_2:ISs:=.cons (.for_ (.nm 3) (.seq (.call 0 (.var 0) .nil)) isize_of_3) isize_of_6
noncomputable def isize_of_1:ISs:=.cons (.set 2 (.int 0)) isize_of_2
noncomputable def isize_of_0:ISs:=.cons (.set 1 (.int 1)) isize_of_1
noncomputable abbrev ir_size_of:ISs:=isize_of_0
noncomputable def G_size_of:GI:={bl:=GB,gl:=GL,fns:=["parts_within","size_of"]}
theorem ck_size_of:chkSs G_size_of (Z00 s_size_of) ["T","parts","deepest","part","size"] ir_size_of (Z05 s_size_of)=true:=by decide+kernel
noncomputable def inames_read_5:ISs:=.cons (.ret (.var 1)) .nil
noncomputable def inames_read_4:ISs:=.cons (.expr (.mt .extend (.var 1) (.cons (.call 0 (.var 2) .nil) .nil))) .nil
noncomputable def inames_read_3:ISs:=.cons (.for_ (.nm 2) (.seq (.call 1 (.var 0) .nil)) inames_read_4) inames_read_5
noncomputable def inames_read_2:ISs:=.cons (.set 1 (.lst .nil)) inames_read_3
noncomputable def inames_read_1:ISs:=.cons (.ret (.lst (.cons (.ix (.var 0) (.int 1)) .nil))) .nil
noncomputable def inames_read_0:ISs:=.cons (.ite (.cmp .Eq (.ix (.var 0) (.int 0)) (.str "var")) inames_read_1 .nil) inames_read_2
noncomputable abbrev ir_names_read:ISs:=inames_read_0
noncomputable def G_names_read:GI:={bl:=GB,gl:=GL,fns:=["names_read","parts_within"]}
theorem ck_names_read:chkSs G_names_read (Z00 Z1L) ["T","names","part"] ir_names_read (Z05 Z1L)=true:=by decide+kernel
noncomputable def ivars_in_0:ISs:=.cons (.ret (.b2 .ssrt (.call 0 (.var 0) .nil))) .nil
noncomputable abbrev ir_vars_in:ISs:=ivars_in_0
noncomputable def G_vars_in:GI:={bl:=GB,gl:=GL,fns:=["names_read"]}
theorem ck_vars_in:chkSs G_vars_in (Z00 s_vars_in) ["T"] ir_vars_in (Z05 s_vars_in)=true:=by decide+kernel
noncomputable def iis_name_0:ISs:=.cons (.ret (.and (.chn .LtE .LtE (.int 1) (.bi .len (.var 0) .nil) (.glb "MOST_LETTERS" 8)) (.bi .all (.comp ["sign"] [] (.seq (.var 0)) (.nm 0) .none (.chn .LtE .LtE (.str "a") (.var 0) (.str "z"))) .nil))) .nil
noncomputable abbrev ir_is_name:ISs:=iis_name_0
noncomputable def G_is_name:GI:={bl:=GB,gl:=GL,fns:=[]}
theorem ck_is_name:chkSs G_is_name (Z00 s_is_name) ["text"] ir_is_name (Z05 s_is_name)=true:=by decide+kernel
noncomputable def irefuse_name_3:ISs:=.cons .never .nil
noncomputable def irefuse_name_2:ISs:=.cons (.ite (.cmp .In (.var 0) (.var 1)) irefuse_name_3 .nil) .nil
noncomputable def irefuse_name_1:ISs:=.cons .never .nil
noncomputable def irefuse_name_0:ISs:=.cons (.ite (.not (.call 0 (.var 0) .nil)) irefuse_name_1 .nil) irefuse_name_2
noncomputable abbrev ir_refuse_name:ISs:=irefuse_name_0
noncomputable def G_refuse_name:GI:={bl:=GB,gl:=GL,fns:=["is_name"]}
theorem ck_refuse_name:chkSs G_refuse_name (Z00 Z1h) ["text","earlier"] ir_refuse_name (Z05 Z1h)=true:=by decide+kernel
noncomputable def irefuse_unknown_1:IXs:=.cons (.rf "Unknown" 0) .nil
noncomputable def irefuse_unknown_0:IXs:=.cons (.ite (.cmp .NotIn (.var 0) (.var 1)) irefuse_unknown_1 .nil) .nil
noncomputable abbrev Z1A:IXs:=irefuse_unknown_0
noncomputable def G_refuse_unknown:GI:={bl:=GB,gl:=GL,fns:=[]}
noncomputable def H_refuse_unknown:GX:={g:=G_refuse_unknown,xf:=[],xc:=XC}
theorem ck_refuse_unknown:chkXs H_refuse_unknown (Z00 Z0E) ["name","known"] Z1A (Z05 Z0E)=true:=by decide+kernel
noncomputable def Z1S:ISs:=.cons (.expr (.mt .append (.var 1) (.cons (.ix (.var 2) (.int 0)) .nil))) .nil
noncomputable def Z1T:ISs:=.cons (.expr (.call 0 (.ix (.var 2) (.int 0)) (.cons (.var 1) .nil))) Z1S
noncomputable def Z1U:ISs:=.cons (.for_ (.nm 2) (.seq (.var 0)) Z1T) .nil
noncomputable def Z1V:ISs:=.cons (.set 1 (.lst .nil)) Z1U
noncomputable abbrev Z0R:ISs:=Z1V
noncomputable def Z25:GI:={bl:=GB,gl:=GL,fns:=["refuse_name"]}
theorem ck_refuse_ferry_names:chkSs Z25 (Z00 Z0j) ["ferries","earlier","ferry"] Z0R (Z05 Z0j)=true:=by decide+kernel
noncomputable def irefuse_variables_6:ISs:=.cons .never .nil
noncomputable def irefuse_variables_5:ISs:=.cons (.ite (.not (.call 0 (.var 0) (.cons (.ix (.var 3) (.int 1)) .nil))) irefuse_variables_6 .nil) .nil
noncomputable def irefuse_variables_4:ISs:=.cons (.expr (.mt .append (.var 2) (.cons (.var 4) .nil))) irefuse_variables_5
noncomputable def irefuse_variables_3:ISs:=.cons (.expr (.call 1 (.var 4) (.cons (.var 2) .nil))) irefuse_variables_4
noncomputable def irefuse_variables_2:ISs:=.cons (.set 4 (.ix (.var 3) (.int 0))) irefuse_variables_3
noncomputable def irefuse_variables_1:ISs:=.cons (.for_ (.nm 3) (.seq (.var 1)) irefuse_variables_2) .nil
noncomputable def irefuse_variables_0:ISs:=.cons (.set 2 (.lst .nil)) irefuse_variables_1
noncomputable abbrev Z1b:ISs:=irefuse_variables_0
noncomputable def G_refuse_variables:GI:={bl:=GB,gl:=GL,fns:=["fits","refuse_name"]}
theorem ck_refuse_variables:chkSs G_refuse_variables (Z00 Z0x) ["width","pairs","earlier","pair","name"] Z1b (Z05 Z0x)=true:=by decide+kernel
noncomputable def irefuse_term_4:IXs:=.cons (.cl 0 (.var 3) (.cons (.var 1) .nil)) .nil
noncomputable def irefuse_term_3:IXs:=.cons (.for_ (.nm 3) (.seq (.call 1 (.var 0) .nil)) irefuse_term_4) .nil
noncomputable def irefuse_term_2:IXs:=.cons (.rs "TooMany" (.str "a term has at most 30 parts and is at most 8 deep")) .nil
noncomputable def irefuse_term_1:IXs:=.cons (.ite (.or (.cmp .Gt (.ix (.var 2) (.int 0)) (.glb "MOST_PARTS" 30)) (.cmp .Gt (.ix (.var 2) (.int 1)) (.glb "MOST_DEPTH" 8))) irefuse_term_2 .nil) irefuse_term_3
noncomputable def irefuse_term_0:IXs:=.cons (.pl (.set 2 (.call 0 (.var 0) .nil))) irefuse_term_1
noncomputable abbrev ir_refuse_term:IXs:=irefuse_term_0
noncomputable def G_refuse_term:GI:={bl:=GB,gl:=GL,fns:=["size_of","vars_in"]}
noncomputable def H_refuse_term:GX:={g:=G_refuse_term,xf:=["refuse_unknown"],xc:=XC}
theorem ck_refuse_term:chkXs H_refuse_term (Z00 Z1f) ["T","known","size","name"] ir_refuse_term (Z05 Z1f)=true:=by decide+kernel
noncomputable def irefuse_step_2:IXs:=.cons (.cl 1 (.ix (.var 0) (.int 2)) (.cons (.var 1) .nil)) .nil
noncomputable def irefuse_step_1:IXs:=.cons (.cl 1 (.ix (.var 0) (.int 1)) (.cons (.var 3) .nil)) irefuse_step_2
noncomputable def irefuse_step_5:IXs:=.cons (.cl 0 (.ix (.var 0) (.int 2)) (.cons (.var 1) .nil)) .nil
noncomputable def irefuse_step_4:IXs:=.cons (.cl 1 (.ix (.var 0) (.int 1)) (.cons (.var 3) .nil)) irefuse_step_5
noncomputable def irefuse_step_8:IXs:=.cons (.cl 0 (.ix (.var 0) (.int 2)) (.cons (.var 1) .nil)) .nil
noncomputable def irefuse_step_7:IXs:=.cons (.cl 1 (.ix (.var 0) (.int 1)) (.cons (.var 1) .nil)) irefuse_step_8
noncomputable def irefuse_step_11:IXs:=.cons (.rs "NoStep" (.str "a jump leads to a step or to the count of them")) .nil
noncomputable def irefuse_step_10:IXs:=.cons (.ite (.not (.chn .LtE .LtE (.int 0) (.ix (.var 0) (.int 2)) (.var 2))) irefuse_step_11 .nil) .nil
noncomputable def irefuse_step_9:IXs:=.cons (.cl 0 (.ix (.var 0) (.int 1)) (.cons (.var 1) .nil)) irefuse_step_10
noncomputable def irefuse_step_6:IXs:=.cons (.ite (.cmp .Eq (.ix (.var 0) (.int 0)) (.str "put")) irefuse_step_7 irefuse_step_9) .nil
noncomputable def Z1J:IXs:=.cons (.ite (.cmp .Eq (.ix (.var 0) (.int 0)) (.str "give")) irefuse_step_4 irefuse_step_6) .nil
noncomputable def irefuse_step_0:IXs:=.cons (.ite (.cmp .Eq (.ix (.var 0) (.int 0)) (.str "take")) irefuse_step_1 Z1J) .nil
noncomputable abbrev ir_refuse_step:IXs:=irefuse_step_0
noncomputable def G_refuse_step:GI:={bl:=GB,gl:=GL,fns:=[]}
noncomputable def H_refuse_step:GX:={g:=G_refuse_step,xf:=["refuse_term","refuse_unknown"],xc:=XC}
theorem ck_refuse_step:chkXs H_refuse_step (Z00 Z1g) ["step","known","count","ferry_names"] ir_refuse_step (Z05 Z1g)=true:=by decide+kernel
noncomputable def irefuse_island_7:IXs:=.cons (.cl 0 (.var 4) (.cons (.var 3) (.cons (.bi .len (.ix (.var 1) (.int 2)) .nil) (.cons (.var 2) .nil)))) .nil
noncomputable def irefuse_island_6:IXs:=.cons (.for_ (.nm 4) (.seq (.ix (.var 1) (.int 2))) irefuse_island_7) .nil
noncomputable def irefuse_island_5:IXs:=.cons (.pl (.set 3 (.comp ["pair"] [] (.seq (.ix (.var 1) (.int 1))) (.nm 0) .none (.ix (.var 0) (.int 0))))) irefuse_island_6
noncomputable def irefuse_island_4:IXs:=.cons (.pl (.expr (.call 0 (.var 0) (.cons (.ix (.var 1) (.int 1)) .nil)))) irefuse_island_5
noncomputable def irefuse_island_3:IXs:=.cons (.rs "TooMany" (.str "an island has at most 12 steps")) .nil
noncomputable def irefuse_island_2:IXs:=.cons (.ite (.cmp .Gt (.bi .len (.ix (.var 1) (.int 2)) .nil) (.glb "MOST_STEPS" 12)) irefuse_island_3 .nil) irefuse_island_4
noncomputable def irefuse_island_1:IXs:=.cons (.rs "TooMany" (.str "an island has at most 6 variables")) .nil
noncomputable def irefuse_island_0:IXs:=.cons (.ite (.cmp .Gt (.bi .len (.ix (.var 1) (.int 1)) .nil) (.glb "MOST_VARS" 6)) irefuse_island_1 .nil) irefuse_island_2
noncomputable abbrev Z1Y:IXs:=irefuse_island_0
noncomputable def G_refuse_island:GI:={bl:=GB,gl:=GL,fns:=["refuse_variables"]}
noncomputable def H_refuse_island:GX:={g:=G_refuse_island,xf:=["refuse_step"],xc:=XC}
theorem ck_refuse_island:chkXs H_refuse_island (Z00 Z0P) ["width","island","ferry_names","known","step"] Z1Y (Z05 Z0P)=true:=by decide+kernel
noncomputable def irefuse_islands_4:IXs:=.cons (.cl 0 (.var 0) (.cons (.var 4) (.cons (.var 2) .nil))) .nil
noncomputable def irefuse_islands_3:IXs:=.cons (.pl (.expr (.mt .append (.var 3) (.cons (.ix (.var 4) (.int 0)) .nil)))) irefuse_islands_4
noncomputable def irefuse_islands_2:IXs:=.cons (.pl (.expr (.call 0 (.ix (.var 4) (.int 0)) (.cons (.var 3) .nil)))) irefuse_islands_3
noncomputable def irefuse_islands_1:IXs:=.cons (.for_ (.nm 4) (.seq (.var 1)) irefuse_islands_2) .nil
noncomputable def irefuse_islands_0:IXs:=.cons (.pl (.set 3 (.bi .list (.var 2) .nil))) irefuse_islands_1
noncomputable abbrev Z1B:IXs:=irefuse_islands_0
noncomputable def G_refuse_islands:GI:={bl:=GB,gl:=GL,fns:=["refuse_name"]}
noncomputable def H_refuse_islands:GX:={g:=G_refuse_islands,xf:=["refuse_island"],xc:=XC}
theorem ck_refuse_islands:chkXs H_refuse_islands (Z00 Z0F) ["width","islands","ferry_names","earlier","island"] Z1B (Z05 Z0F)=true:=by decide+kernel
noncomputable def irefuse_ferry_7:ISs:=.cons .never .nil
noncomputable def irefuse_ferry_6:ISs:=.cons (.ite (.not (.chn .LtE .LtE (.int 1) (.ix (.var 0) (.int 4)) (.glb "MOST_STAGES" 3))) irefuse_ferry_7 .nil) .nil
noncomputable def irefuse_ferry_5:ISs:=.cons .never .nil
noncomputable def irefuse_ferry_4:ISs:=.cons (.ite (.not (.chn .LtE .LtE (.int 0) (.ix (.var 0) (.int 3)) (.glb "MOST_K" 3))) irefuse_ferry_5 .nil) irefuse_ferry_6
noncomputable def irefuse_ferry_3:ISs:=.cons .never .nil
noncomputable def irefuse_ferry_2:ISs:=.cons (.ite (.cmp .Eq (.ix (.var 0) (.int 1)) (.ix (.var 0) (.int 2))) irefuse_ferry_3 .nil) irefuse_ferry_4
noncomputable def irefuse_ferry_1:ISs:=.cons (.expr (.call 0 (.ix (.var 0) (.int 2)) (.cons (.var 1) .nil))) irefuse_ferry_2
noncomputable def irefuse_ferry_0:ISs:=.cons (.expr (.call 0 (.ix (.var 0) (.int 1)) (.cons (.var 1) .nil))) irefuse_ferry_1
noncomputable abbrev ir_refuse_ferry:ISs:=irefuse_ferry_0
noncomputable def G_refuse_ferry:GI:={bl:=GB,gl:=GL,fns:=["refuse_unknown"]}
theorem ck_refuse_ferry:chkSs G_refuse_ferry (Z00 Z0Y) ["ferry","island_names"] ir_refuse_ferry (Z05 Z0Y)=true:=by decide+kernel
noncomputable def irefuse_wrong_end_3:ISs:=.cons .never .nil
noncomputable def Z0r:ISs:=.cons (.ite (.and (.cmp .Eq (.ix (.var 1) (.int 0)) (.str "give")) (.cmp .NotEq (.ix (.var 2) (.ix (.var 1) (.int 1))) (.var 0))) irefuse_wrong_end_3 .nil) .nil
noncomputable def irefuse_wrong_end_1:ISs:=.cons .never .nil
noncomputable def irefuse_wrong_end_0:ISs:=.cons (.ite (.and (.cmp .Eq (.ix (.var 1) (.int 0)) (.str "take")) (.cmp .NotEq (.ix (.var 3) (.ix (.var 1) (.int 1))) (.var 0))) irefuse_wrong_end_1 .nil) Z0r
noncomputable abbrev Z1a:ISs:=irefuse_wrong_end_0
noncomputable def G_refuse_wrong_end:GI:={bl:=GB,gl:=GL,fns:=[]}
theorem ck_refuse_wrong_end:chkSs G_refuse_wrong_end (Z00 Z0w) ["name","step","givers","takers"] Z1a (Z05 Z0w)=true:=by decide+kernel
noncomputable def Z20:ISs:=.cons (.expr (.call 0 (.ix (.var 4) (.int 0)) (.cons (.var 5) (.cons (.var 2) (.cons (.var 3) .nil))))) .nil
noncomputable def Z21:ISs:=.cons (.for_ (.nm 5) (.seq (.ix (.var 4) (.int 2))) Z20) .nil
noncomputable def Z22:ISs:=.cons (.for_ (.nm 4) (.seq (.var 0)) Z21) .nil
noncomputable def Z23:ISs:=.cons (.set 3 (.bi .dictL (.comp ["ferry"] [] (.seq (.var 1)) (.nm 0) .none (.tup (.cons (.ix (.var 0) (.int 0)) (.cons (.ix (.var 0) (.int 2)) .nil)))) .nil)) Z22
noncomputable def Z24:ISs:=.cons (.set 2 (.bi .dictL (.comp ["ferry"] [] (.seq (.var 1)) (.nm 0) .none (.tup (.cons (.ix (.var 0) (.int 0)) (.cons (.ix (.var 0) (.int 1)) .nil)))) .nil)) Z23
noncomputable abbrev Z0W:ISs:=Z24
noncomputable def G_refuse_wrong_ends:GI:={bl:=GB,gl:=GL,fns:=["refuse_wrong_end"]}
theorem ck_refuse_wrong_ends:chkSs G_refuse_wrong_ends (Z00 Z0q) ["islands","ferries","givers","takers","island","step"] Z0W (Z05 Z0q)=true:=by decide+kernel
noncomputable def ifrozen_2:ISs:=.cons (.ret (.var 0)) .nil
noncomputable def ifrozen_1:ISs:=.cons (.ret (.bi .tuple (.comp ["part"] [] (.seq (.var 0)) (.nm 0) .none (.call 0 (.var 0) .nil)) .nil)) .nil
noncomputable def ifrozen_0:ISs:=.cons (.ite (.bi .isinst (.var 0) (.cons (.tup (.cons (.ty .list) (.cons (.ty .tuple) .nil))) .nil)) ifrozen_1 .nil) ifrozen_2
noncomputable abbrev ir_frozen:ISs:=ifrozen_0
noncomputable def G_frozen:GI:={bl:=GB,gl:=GL,fns:=["frozen"]}
theorem ck_frozen:chkSs G_frozen (Z00 s_frozen) ["value"] ir_frozen (Z05 s_frozen)=true:=by decide+kernel
noncomputable def imade_12:IXs:=.cons (.pl (.ret (.call 0 (.tup (.cons (.var 0) (.cons (.var 1) (.cons (.var 2) .nil)))) .nil))) .nil
noncomputable def imade_11:IXs:=.cons (.pl (.expr (.call 4 (.var 1) (.cons (.var 2) .nil)))) imade_12
noncomputable def imade_10:ISs:=.cons (.expr (.call 2 (.var 4) (.cons (.var 3) .nil))) .nil
noncomputable def imade_9:IXs:=.cons (.pl (.for_ (.nm 4) (.seq (.var 2)) imade_10)) imade_11
noncomputable def imade_8:IXs:=.cons (.pl (.set 3 (.comp ["island"] [] (.seq (.var 1)) (.nm 0) .none (.ix (.var 0) (.int 0))))) imade_9
noncomputable def imade_7:IXs:=.cons (.cl 0 (.var 0) (.cons (.var 1) (.cons (.comp ["ferry"] [] (.seq (.var 2)) (.nm 0) .none (.ix (.var 0) (.int 0))) .nil))) imade_8
noncomputable def imade_6:IXs:=.cons (.pl (.expr (.call 3 (.var 2) .nil))) imade_7
noncomputable def imade_5:IXs:=.cons (.rs "TooMany" (.str "a world has at most 6 ferries")) .nil
noncomputable def imade_4:IXs:=.cons (.ite (.cmp .Gt (.bi .len (.var 2) .nil) (.glb "MOST_FERRIES" 6)) imade_5 .nil) imade_6
noncomputable def imade_3:IXs:=.cons (.rs "TooMany" (.str "a world has at most 5 islands")) .nil
noncomputable def imade_2:IXs:=.cons (.ite (.cmp .Gt (.bi .len (.var 1) .nil) (.glb "MOST_ISLANDS" 5)) imade_3 .nil) imade_4
noncomputable def imade_1:IXs:=.cons (.rs "NoWidth" (.str "a width is a whole number from 1 to 64")) .nil
noncomputable def imade_0:IXs:=.cons (.ite (.not (.call 1 (.var 0) .nil)) imade_1 .nil) imade_2
noncomputable abbrev ir_made:IXs:=imade_0
noncomputable def G_made:GI:={bl:=GB,gl:=GL,fns:=["frozen","is_width","refuse_ferry","refuse_ferry_names","refuse_wrong_ends"]}
noncomputable def H_made:GX:={g:=G_made,xf:=["refuse_islands"],xc:=XC}
theorem ck_made:chkXs H_made (Z00 s_made) ["width","islands","ferries","island_names","ferry"] ir_made (Z05 s_made)=true:=by decide+kernel
noncomputable def i_law_cell_2:ISs:=.cons (.ret (.bin .Mod (.bin .Mult (.bin .Mult (.var 1) (.var 1)) (.int 7919)) (.int 1000003))) .nil
noncomputable def i_law_cell_1:ISs:=.cons (.ret (.bin .Mod (.ix (.var 0) (.var 1)) (.int 1000000007))) .nil
noncomputable def i_law_cell_0:ISs:=.cons (.ite (.cmp .Lt (.var 1) (.bi .len (.var 0) .nil)) i_law_cell_1 .nil) i_law_cell_2
noncomputable abbrev ir__law_cell:ISs:=i_law_cell_0
noncomputable def G__law_cell:GI:={bl:=GB,gl:=GL,fns:=[]}
theorem ck__law_cell:chkSs G__law_cell (Z00 s__law_cell) ["script","k"] ir__law_cell (Z05 s__law_cell)=true:=by decide+kernel
noncomputable def i_law_mix_1:ISs:=.cons (.ret (.bin .Mod (.bin .Mult (.var 2) (.var 2)) (.int 2147483629))) .nil
noncomputable def i_law_mix_0:ISs:=.cons (.set 2 (.bin .Mod (.bin .Add (.bin .Add (.bin .Mult (.var 0) (.int 69621)) (.bin .Mult (.var 1) (.int 16807))) (.int 1013)) (.int 2147483647))) i_law_mix_1
noncomputable abbrev ir__law_mix:ISs:=i_law_mix_0
noncomputable def G__law_mix:GI:={bl:=GB,gl:=GL,fns:=[]}
theorem ck__law_mix:chkSs G__law_mix (Z00 s__law_mix) ["number","salt","mixed"] ir__law_mix (Z05 s__law_mix)=true:=by decide+kernel
noncomputable def i_law_names_12:ISs:=.cons (.ret (.var 8)) .nil
noncomputable def i_law_names_10:ISs:=.cons (.expr (.mt .append (.var 8) (.cons (.bin .Add (.bin .Add (.sl (.var 7) .none (.some (.var 6))) (.var 10)) (.sl (.var 7) (.some (.bin .Add (.var 6) (.int 1))) .none)) .nil))) .nil
noncomputable def i_law_names_11:ISs:=.cons (.expr (.mt .append (.var 8) (.cons (.bin .Add (.bin .Mult (.ix (.var 2) (.var 3)) (.bin .Mod (.var 9) (.int 4))) (.var 10)) .nil))) .nil
noncomputable def i_law_names_9:ISs:=.cons (.ite (.cmp .Eq (.bin .Mod (.bin .FloorDiv (.var 0) (.int 13312)) (.int 2)) (.int 0)) i_law_names_10 i_law_names_11) .nil
noncomputable def i_law_names_8:ISs:=.cons (.set 10 (.ix (.var 2) (.bin .Mod (.bin .Add (.var 3) (.bin .Mult (.var 9) (.var 4))) (.int 26)))) i_law_names_9
noncomputable def i_law_names_7:ISs:=.cons (.for_ (.nm 9) (.rng (.var 1)) i_law_names_8) i_law_names_12
noncomputable def i_law_names_6:ISs:=.cons (.set 8 (.lst .nil)) i_law_names_7
noncomputable def i_law_names_5:ISs:=.cons (.set 7 (.mt .join (.str "") (.cons (.comp ["k"] [2,0] (.rng (.var 5)) (.nm 0) .none (.ix (.var 1) (.bin .Mod (.call 0 (.var 2) (.cons (.bin .Add (.int 20) (.var 0)) .nil)) (.int 26)))) .nil))) i_law_names_6
noncomputable def i_law_names_4:ISs:=.cons (.set 6 (.bin .Mod (.bin .FloorDiv (.var 0) (.int 1664)) (.var 5))) i_law_names_5
noncomputable def i_law_names_3:ISs:=.cons (.set 5 (.bin .Add (.int 1) (.bin .Mod (.bin .FloorDiv (.var 0) (.int 208)) (.int 8)))) i_law_names_4
noncomputable def i_law_names_2:ISs:=.cons (.set 4 (.ix (.lst (.cons (.int 1) (.cons (.int 3) (.cons (.int 5) (.cons (.int 7) (.cons (.int 9) (.cons (.int 11) (.cons (.int 15) (.cons (.int 17) .nil))))))))) (.bin .Mod (.bin .FloorDiv (.var 0) (.int 26)) (.int 8)))) i_law_names_3
noncomputable def i_law_names_1:ISs:=.cons (.set 3 (.bin .Mod (.var 0) (.int 26))) i_law_names_2
noncomputable def i_law_names_0:ISs:=.cons (.set 2 (.str "abcdefghijklmnopqrstuvwxyz")) i_law_names_1
noncomputable abbrev ir__law_names:ISs:=i_law_names_0
noncomputable def G__law_names:GI:={bl:=GB,gl:=GL,fns:=["_law_mix"]}
theorem ck__law_names:chkSs G__law_names (Z00 Z1N) ["number","many","letters","first","step","size","at","stem","names","k","sign"] ir__law_names (Z05 Z1N)=true:=by decide+kernel
noncomputable def i_law_word_1:ISs:=.cons (.ret (.bin .Mod (.ix (.lst (.cons (.var 2) (.cons (.var 2) (.cons (.int 0) (.cons (.bin .Sub (.bin .LShift (.int 1) (.var 1)) (.int 1)) .nil))))) (.bin .Mod (.bin .FloorDiv (.var 0) (.int 8)) (.int 4))) (.bin .LShift (.int 1) (.var 1)))) .nil
noncomputable def i_law_word_0:ISs:=.cons (.set 2 (.bin .Add (.bin .Mult (.bin .Add (.bin .Mult (.call 0 (.var 0) (.cons (.int 7) .nil)) (.int 2147483629)) (.call 0 (.var 0) (.cons (.int 8) .nil))) (.int 8)) (.bin .Mod (.var 0) (.int 8)))) i_law_word_1
noncomputable abbrev ir__law_word:ISs:=i_law_word_0
noncomputable def G__law_word:GI:={bl:=GB,gl:=GL,fns:=["_law_mix"]}
theorem ck__law_word:chkSs G__law_word (Z00 s__law_word) ["number","width","far"] ir__law_word (Z05 s__law_word)=true:=by decide+kernel
noncomputable def i_law_made_1:IXs:=.cons (.rt 0 (.ix (.var 0) (.int 0)) (.cons (.var 1) (.cons (.bi .list (.ix (.var 0) (.int 2)) .nil) .nil))) .nil
noncomputable def i_law_made_0:IXs:=.cons (.pl (.set 1 (.comp ["name","pairs","steps"] [] (.seq (.ix (.var 0) (.int 1))) (.tup (.cons (.nm 0) (.cons (.nm 1) (.cons (.nm 2) .nil)))) .none (.tup (.cons (.var 0) (.cons (.bi .list (.var 1) .nil) (.cons (.bi .list (.var 2) .nil) .nil))))))) i_law_made_1
noncomputable abbrev ir__law_made:IXs:=i_law_made_0
noncomputable def G__law_made:GI:={bl:=GB,gl:=GL,fns:=[]}
noncomputable def H__law_made:GX:={g:=G__law_made,xf:=["made"],xc:=XC}
theorem ck__law_made:chkXs H__law_made (Z00 s__law_made) ["parts","islands"] ir__law_made (Z05 s__law_made)=true:=by decide+kernel
noncomputable def i_law_fresh_3:ISs:=.cons (.ret (.str "")) .nil
noncomputable def i_law_fresh_2:ISs:=.cons (.ret (.bin .Add (.sl (.var 0) .none (.some (.int 7))) (.var 2))) .nil
noncomputable def i_law_fresh_1:ISs:=.cons (.ite (.cmp .NotIn (.bin .Add (.sl (.var 0) .none (.some (.int 7))) (.var 2)) (.var 1)) i_law_fresh_2 .nil) .nil
noncomputable def i_law_fresh_0:ISs:=.cons (.for_ (.nm 2) (.seq (.str "abcdefghijklmnopqrstuvwxyz")) i_law_fresh_1) i_law_fresh_3
noncomputable abbrev ir__law_fresh:ISs:=i_law_fresh_0
noncomputable def G__law_fresh:GI:={bl:=GB,gl:=GL,fns:=[]}
theorem ck__law_fresh:chkSs G__law_fresh (Z00 Z1O) ["stem","known","sign"] ir__law_fresh (Z05 Z1O)=true:=by decide+kernel
noncomputable def i_law_broad_6:ISs:=.cons (.ret (.tup (.cons (.str "times") (.cons (.call 0 (.var 2) (.cons (.var 1) .nil)) (.cons (.call 0 (.bin .Sub (.bin .Sub (.var 0) (.int 1)) (.var 2)) (.cons (.var 1) .nil)) .nil))))) .nil
noncomputable def i_law_broad_5:ISs:=.cons (.set 2 (.bin .Add (.bin .Sub (.var 2) (.int 1)) (.bin .Mod (.var 2) (.int 2)))) i_law_broad_6
noncomputable def i_law_broad_4:ISs:=.cons (.set 2 (.bin .FloorDiv (.bin .Sub (.var 0) (.int 1)) (.int 2))) i_law_broad_5
noncomputable def i_law_broad_3:ISs:=.cons (.ret (.tup (.cons (.str "pick") (.cons (.var 1) (.cons (.tup (.cons (.str "num") (.cons (.neg (.int 7)) .nil))) (.cons (.call 0 (.bin .Sub (.var 0) (.int 3)) (.cons (.var 1) .nil)) .nil)))))) .nil
noncomputable def i_law_broad_2:ISs:=.cons (.ite (.cmp .Eq (.bin .Mod (.var 0) (.int 2)) (.int 0)) i_law_broad_3 .nil) i_law_broad_4
noncomputable def i_law_broad_1:ISs:=.cons (.ret (.var 1)) .nil
noncomputable def i_law_broad_0:ISs:=.cons (.ite (.cmp .Lt (.var 0) (.int 2)) i_law_broad_1 .nil) i_law_broad_2
noncomputable abbrev ir__law_broad:ISs:=i_law_broad_0
noncomputable def G__law_broad:GI:={bl:=GB,gl:=GL,fns:=["_law_broad"]}
theorem ck__law_broad:chkSs G__law_broad (Z00 Z1P) ["many","leaf","half"] ir__law_broad (Z05 Z1P)=true:=by decide+kernel
noncomputable def i_law_deep_5:ISs:=.cons (.ret (.var 2)) .nil
noncomputable def i_law_deep_3:ISs:=.cons (.set 2 (.tup (.cons (.str "less") (.cons (.var 2) (.cons (.tup (.cons (.str "num") (.cons (.var 3) .nil))) .nil))))) .nil
noncomputable def i_law_deep_4:ISs:=.cons (.set 2 (.tup (.cons (.str "plus") (.cons (.tup (.cons (.str "num") (.cons (.var 3) .nil))) (.cons (.var 2) .nil))))) .nil
noncomputable def i_law_deep_2:ISs:=.cons (.ite (.cmp .Eq (.bin .Mod (.var 3) (.int 2)) (.int 0)) i_law_deep_3 i_law_deep_4) .nil
noncomputable def i_law_deep_1:ISs:=.cons (.for_ (.nm 3) (.rng (.bin .Sub (.var 0) (.int 1))) i_law_deep_2) i_law_deep_5
noncomputable def i_law_deep_0:ISs:=.cons (.set 2 (.var 1)) i_law_deep_1
noncomputable abbrev ir__law_deep:ISs:=i_law_deep_0
noncomputable def G__law_deep:GI:={bl:=GB,gl:=GL,fns:=[]}
theorem ck__law_deep:chkSs G__law_deep (Z00 s__law_deep) ["many","leaf","term","k"] ir__law_deep (Z05 s__law_deep)=true:=by decide+kernel
noncomputable def Z1n:ISs:=.cons (.ret (.tup (.cons (.call 1 (.bin .Add (.int 7) (.bin .Mod (.var 6) (.int 4))) (.cons (.var 3) .nil)) (.cons (.var 4) .nil)))) .nil
noncomputable def i_law_hard_term_15:ISs:=.cons (.set 4 (.str "TooMany")) .nil
noncomputable def i_law_hard_term_14:ISs:=.cons (.ite (.cmp .Gt (.bin .Add (.int 7) (.bin .Mod (.var 6) (.int 4))) (.int 8)) i_law_hard_term_15 .nil) Z1n
noncomputable def Z1o:ISs:=.cons (.ret (.tup (.cons (.call 0 (.var 7) (.cons (.var 3) .nil)) (.cons (.var 4) .nil)))) .nil
noncomputable def i_law_hard_term_12:ISs:=.cons (.set 4 (.str "TooMany")) .nil
noncomputable def i_law_hard_term_11:ISs:=.cons (.ite (.cmp .Gt (.var 7) (.int 30)) i_law_hard_term_12 .nil) Z1o
noncomputable def i_law_hard_term_10:ISs:=.cons (.set 7 (.bin .Add (.int 29) (.bin .Mod (.var 6) (.int 5)))) i_law_hard_term_11
noncomputable def i_law_hard_term_9:ISs:=.cons (.ite (.cmp .Eq (.var 5) (.int 1)) i_law_hard_term_10 .nil) i_law_hard_term_14
noncomputable def i_law_hard_term_8:ISs:=.cons (.ret (.tup (.cons (.var 3) (.cons (.var 4) .nil)))) .nil
noncomputable def i_law_hard_term_7:ISs:=.cons (.ite (.cmp .Eq (.var 5) (.int 0)) i_law_hard_term_8 .nil) i_law_hard_term_9
noncomputable def i_law_hard_term_6:ISs:=.cons (.set 6 (.bin .FloorDiv (.var 0) (.int 72))) i_law_hard_term_7
noncomputable def Z1E:ISs:=.cons (.set 5 (.bin .Mod (.bin .FloorDiv (.var 0) (.int 24)) (.int 3))) i_law_hard_term_6
noncomputable def i_law_hard_term_4:ISs:=.cons (.set 4 (.str "Unknown")) .nil
noncomputable def i_law_hard_term_3:ISs:=.cons (.set 3 (.tup (.cons (.str "var") (.cons (.var 2) .nil)))) i_law_hard_term_4
noncomputable def i_law_hard_term_2:ISs:=.cons (.ite (.cmp .Eq (.bin .Mod (.bin .FloorDiv (.var 0) (.int 8)) (.int 3)) (.int 0)) i_law_hard_term_3 .nil) Z1E
noncomputable def i_law_hard_term_1:ISs:=.cons (.set 4 (.str "")) i_law_hard_term_2
noncomputable def i_law_hard_term_0:ISs:=.cons (.set 3 (.tup (.cons (.str "var") (.cons (.ix (.var 1) (.bin .Mod (.var 0) (.bi .len (.var 1) .nil))) .nil)))) i_law_hard_term_1
noncomputable abbrev Z1C:ISs:=i_law_hard_term_0
noncomputable def G__law_hard_term:GI:={bl:=GB,gl:=GL,fns:=["_law_broad","_law_deep"]}
theorem ck__law_hard_term:chkSs G__law_hard_term (Z00 Z0G) ["number","own","stranger","leaf","fault","way","more","many"] Z1C (Z05 Z0G)=true:=by decide+kernel
noncomputable def Z0y:ISs:=.cons (.ret (.tup (.cons (.tup (.cons (.str "jump") (.cons (.var 4) (.cons (.var 10) .nil)))) (.cons (.var 5) .nil)))) .nil
noncomputable def Z1p:ISs:=.cons (.set 5 (.str "NoStep")) .nil
noncomputable def Z1q:ISs:=.cons (.ite (.and (.cmp .Eq (.var 5) (.str "")) (.or (.cmp .Lt (.var 10) (.int 0)) (.cmp .Gt (.var 10) (.var 3)))) Z1p .nil) Z0y
noncomputable def i_law_hard_step_20:ISs:=.cons (.set 10 (.ix (.lst (.cons (.bin .Sub (.neg (.int 3)) (.call 2 (.var 0) (.cons (.int 3) .nil))) (.cons (.bin .Add (.int 15) (.call 2 (.var 0) (.cons (.int 3) .nil))) .nil))) (.var 7))) .nil
noncomputable def i_law_hard_step_19:ISs:=.cons (.ite (.cmp .Eq (.bin .Mod (.bin .FloorDiv (.var 0) (.int 136)) (.int 4)) (.int 0)) i_law_hard_step_20 .nil) Z1q
noncomputable def i_law_hard_step_18:ISs:=.cons (.set 10 (.bin .Sub (.bin .Mod (.bin .FloorDiv (.var 0) (.int 8)) (.int 17)) (.int 2))) i_law_hard_step_19
noncomputable def Z1r:ISs:=.cons (.ret (.tup (.cons (.tup (.cons (.str "put") (.cons (.ix (.lst (.cons (.ix (.var 2) (.neg (.int 1))) (.cons (.call 0 (.ix (.var 2) (.int 0)) (.cons (.var 2) .nil)) .nil))) (.var 8)) (.cons (.var 4) .nil)))) (.cons (.var 5) .nil)))) .nil
noncomputable def i_law_hard_step_16:ISs:=.cons (.set 5 (.str "Unknown")) .nil
noncomputable def i_law_hard_step_15:ISs:=.cons (.ite (.cmp .Eq (.var 8) (.int 1)) i_law_hard_step_16 .nil) Z1r
noncomputable def i_law_hard_step_14:ISs:=.cons (.ite (.cmp .Eq (.var 9) (.int 2)) i_law_hard_step_15 .nil) i_law_hard_step_18
noncomputable def Z1s:ISs:=.cons (.ret (.tup (.cons (.tup (.cons (.str "give") (.cons (.ix (.lst (.cons (.ix (.var 1) (.int 0)) (.cons (.var 6) .nil))) (.var 7)) (.cons (.var 4) .nil)))) (.cons (.var 5) .nil)))) .nil
noncomputable def i_law_hard_step_12:ISs:=.cons (.set 5 (.str "Unknown")) .nil
noncomputable def i_law_hard_step_11:ISs:=.cons (.ite (.cmp .Eq (.var 7) (.int 1)) i_law_hard_step_12 .nil) Z1s
noncomputable def i_law_hard_step_10:ISs:=.cons (.ite (.cmp .Eq (.var 9) (.int 1)) i_law_hard_step_11 .nil) i_law_hard_step_14
noncomputable def Z0C:ISs:=.cons (.ret (.tup (.cons (.tup (.cons (.str "take") (.cons (.ix (.lst (.cons (.ix (.var 1) (.int 1)) (.cons (.var 6) .nil))) (.var 7)) (.cons (.ix (.lst (.cons (.ix (.var 2) (.neg (.int 1))) (.cons (.call 0 (.ix (.var 2) (.int 0)) (.cons (.var 2) .nil)) .nil))) (.var 8)) .nil)))) (.cons (.var 5) .nil)))) .nil
noncomputable def Z0V:ISs:=.cons (.set 5 (.str "Unknown")) .nil
noncomputable def i_law_hard_step_8:ISs:=.cons (.set 5 (.str "")) .nil
noncomputable def i_law_hard_step_6:ISs:=.cons (.ite (.cmp .Gt (.bin .Add (.var 7) (.var 8)) (.int 0)) Z0V i_law_hard_step_8) Z0C
noncomputable def i_law_hard_step_5:ISs:=.cons (.ite (.cmp .Eq (.var 9) (.int 0)) i_law_hard_step_6 .nil) i_law_hard_step_10
noncomputable def i_law_hard_step_4:ISs:=.cons (.set 9 (.bin .Mod (.var 0) (.int 4))) i_law_hard_step_5
noncomputable def i_law_hard_step_3:ISs:=.cons (.set 8 (.bin .Mod (.call 2 (.var 0) (.cons (.int 2) .nil)) (.int 2))) i_law_hard_step_4
noncomputable def i_law_hard_step_2:ISs:=.cons (.set 7 (.bin .Mod (.bin .FloorDiv (.var 0) (.int 8)) (.int 2))) i_law_hard_step_3
noncomputable def i_law_hard_step_1:ISs:=.cons (.set 6 (.call 0 (.ix (.var 1) (.int 0)) (.cons (.var 1) .nil))) i_law_hard_step_2
noncomputable def i_law_hard_step_0:ISs:=.cons (.asg (.cons (.nm 4) (.cons (.nm 5) .nil)) (.call 1 (.call 2 (.var 0) (.cons (.int 1) .nil)) (.cons (.var 2) (.cons (.call 0 (.ix (.var 2) (.int 0)) (.cons (.var 2) .nil)) .nil)))) i_law_hard_step_1
noncomputable abbrev Z1D:ISs:=i_law_hard_step_0
noncomputable def G__law_hard_step:GI:={bl:=GB,gl:=GL,fns:=["_law_fresh","_law_hard_term","_law_mix"]}
theorem ck__law_hard_step:chkSs G__law_hard_step (Z00 Z0H) ["number","lanes","own","many","term","fault","none","lane","var","way","at"] Z1D (Z05 Z0H)=true:=by decide+kernel
noncomputable def i_law_steps_5:ISs:=.cons (.ret (.tup (.cons (.bin .Add (.bin .Add (.sl (.var 5) .none (.some (.var 6))) (.lst (.cons (.var 7) .nil))) (.sl (.var 5) (.some (.var 6)) .none)) (.cons (.var 8) .nil)))) .nil
noncomputable def i_law_steps_4:ISs:=.cons (.asg (.cons (.nm 7) (.cons (.nm 8) .nil)) (.call 1 (.call 2 (.call 0 (.var 0) (.cons (.int 4) .nil)) (.cons (.int 5) .nil)) (.cons (.var 1) (.cons (.var 2) (.cons (.bin .Add (.bi .len (.var 5) .nil) (.int 1)) .nil))))) i_law_steps_5
noncomputable def i_law_steps_3:ISs:=.cons (.set 6 (.bin .Mod (.bin .FloorDiv (.var 3) (.int 12)) (.bin .Add (.bi .len (.var 5) .nil) (.int 1)))) i_law_steps_4
noncomputable def i_law_steps_2:ISs:=.cons (.set 5 (.comp ["k"] [4,3] (.rng (.bin .Mod (.var 3) (.int 12))) (.nm 0) .none (.ix (.var 1) (.bin .Mod (.bin .FloorDiv (.call 2 (.var 2) (.cons (.var 0) .nil)) (.int 8)) (.int 3))))) i_law_steps_3
noncomputable def i_law_steps_1:ISs:=.cons (.set 4 (.lst (.cons (.tup (.cons (.str "take") (.cons (.ix (.var 1) (.int 1)) (.cons (.ix (.var 2) (.int 0)) .nil)))) (.cons (.tup (.cons (.str "give") (.cons (.ix (.var 1) (.int 0)) (.cons (.tup (.cons (.str "var") (.cons (.ix (.var 2) (.int 1)) .nil))) .nil)))) (.cons (.tup (.cons (.str "jump") (.cons (.tup (.cons (.str "var") (.cons (.ix (.var 2) (.int 0)) .nil))) (.cons (.int 0) .nil)))) .nil))))) i_law_steps_2
noncomputable def i_law_steps_0:ISs:=.cons (.set 3 (.call 2 (.call 0 (.var 0) (.cons (.int 3) .nil)) (.cons (.int 4) .nil))) i_law_steps_1
noncomputable abbrev ir__law_steps:ISs:=i_law_steps_0
noncomputable def G__law_steps:GI:={bl:=GB,gl:=GL,fns:=["_law_cell","_law_hard_step","_law_mix"]}
theorem ck__law_steps:chkSs G__law_steps (Z00 Z1M) ["script","lanes","own","number","good","steps","at","step","fault"] ir__law_steps (Z05 Z1M)=true:=by decide+kernel
noncomputable abbrev ir__law_answer:List IT:=[.pl (.set 1 (.lst .nil)),.pl (.set 2 .non),.tr ⟨(some 2),0,(.var 0),.nil,3,1,["ValueError","NoName","Twice","NoWidth","NoWord","TooMany","Unknown","NoFerry","NoStep"]⟩,.pl (.ret (.tup (.cons (.var 2) (.cons (.var 1) .nil))))]
noncomputable def G__law_answer:GI:={bl:=GB,gl:=GL,fns:=[]}
noncomputable def H__law_answer:GX:={g:=G__law_answer,xf:=["_law_made"],xc:=XC}
theorem ck__law_answer:chkTs H__law_answer XB (Z00 Z1i) ["parts","kin","world","e"] ir__law_answer (Z05 Z1i)=true:=by decide+kernel
noncomputable def ilaw_17:ISs:=.cons (.ret (.cmp .Eq (.var 13) (.bin .Add (.lst (.cons (.bl true) .nil)) (.comp ["sort"] [5] (.seq (.var 15)) (.nm 0) .none (.cmp .Eq (.var 0) (.var 1)))))) .nil
noncomputable def ilaw_16:ISs:=.cons (.set 15 (.lst (.cons (.str "NoName") (.cons (.str "Twice") (.cons (.str "NoWidth") (.cons (.str "NoWord") (.cons (.str "TooMany") (.cons (.str "Unknown") (.cons (.str "NoFerry") (.cons (.str "NoStep") .nil)))))))))) ilaw_17
noncomputable def ilaw_15:ISs:=.cons (.ret (.and (.cmp .Eq (.var 13) (.lst .nil)) (.cmp .Eq (.comp ["island"] [] (.seq (.ix (.var 12) (.int 1))) (.nm 0) .none (.ix (.var 0) (.int 2))) (.var 14)))) .nil
noncomputable def ilaw_14:ISs:=.cons (.set 14 (.comp ["island"] [] (.seq (.var 8)) (.nm 0) .none (.bi .tuple (.ix (.var 0) (.int 2)) .nil))) ilaw_15
noncomputable def ilaw_13:ISs:=.cons (.ite (.cmp .Eq (.var 5) (.str "")) ilaw_14 .nil) ilaw_16
noncomputable def ilaw_12:ISs:=.cons (.asg (.cons (.nm 12) (.cons (.nm 13) .nil)) (.call 0 (.tup (.cons (.var 2) (.cons (.var 8) (.cons (.var 11) .nil)))) .nil)) ilaw_13
noncomputable def ilaw_11:ISs:=.cons (.set 11 (.lst (.cons (.tup (.cons (.ix (.var 1) (.int 4)) (.cons (.ix (.var 1) (.int 0)) (.cons (.ix (.var 1) (.int 1)) (.cons (.int 1) (.cons (.int 2) .nil)))))) (.cons (.tup (.cons (.ix (.var 1) (.int 5)) (.cons (.ix (.var 1) (.int 1)) (.cons (.ix (.var 1) (.int 0)) (.cons (.int 3) (.cons (.int 1) .nil)))))) .nil)))) ilaw_12
noncomputable def ilaw_10:ISs:=.cons (.set 8 (.bin .Add (.sl (.var 8) (.some (.var 10)) .none) (.sl (.var 8) .none (.some (.var 10))))) ilaw_11
noncomputable def ilaw_9:ISs:=.cons (.set 10 (.bin .Mod (.bin .FloorDiv (.var 6) (.int 3)) (.bi .len (.var 8) .nil))) ilaw_10
noncomputable def ilaw_8:ISs:=.cons (.expr (.mt .append (.var 8) (.cons (.tup (.cons (.var 9) (.cons (.lst (.cons (.tup (.cons (.ix (.var 3) (.int 0)) (.cons (.int 0) .nil))) .nil)) (.cons (.lst (.cons (.tup (.cons (.str "put") (.cons (.ix (.var 3) (.int 0)) (.cons (.tup (.cons (.str "num") (.cons (.int 5) .nil))) .nil)))) (.cons (.tup (.cons (.str "jump") (.cons (.tup (.cons (.str "num") (.cons (.int 1) .nil))) (.cons (.int 2) .nil)))) .nil))) .nil)))) .nil))) .nil
noncomputable def ilaw_7:ISs:=.cons (.for_ (.nm 9) (.seq (.sl (.var 1) (.some (.int 2)) (.some (.bin .Add (.int 2) (.bin .Mod (.var 6) (.int 3)))))) ilaw_8) ilaw_9
noncomputable def ilaw_6:ISs:=.cons (.set 8 (.lst (.cons (.tup (.cons (.ix (.var 1) (.int 0)) (.cons (.var 7) (.cons (.var 4) .nil)))) (.cons (.tup (.cons (.ix (.var 1) (.int 1)) (.cons (.lst .nil) (.cons (.lst .nil) .nil)))) .nil)))) ilaw_7
noncomputable def ilaw_5:ISs:=.cons (.set 7 (.comp ["name"] [2,6] (.seq (.var 3)) (.nm 0) .none (.tup (.cons (.var 0) (.cons (.call 5 (.call 2 (.var 2) (.cons (.int 7) .nil)) (.cons (.var 1) .nil)) .nil))))) ilaw_6
noncomputable def ilaw_4:ISs:=.cons (.set 6 (.call 2 (.call 1 (.var 0) (.cons (.int 2) .nil)) (.cons (.int 3) .nil))) ilaw_5
noncomputable def ilaw_3:ISs:=.cons (.asg (.cons (.nm 4) (.cons (.nm 5) .nil)) (.call 4 (.var 0) (.cons (.sl (.var 1) (.some (.int 4)) (.some (.int 6))) (.cons (.var 3) .nil)))) ilaw_4
noncomputable def ilaw_2:ISs:=.cons (.set 3 (.sl (.var 1) (.some (.int 6)) .none)) ilaw_3
noncomputable def ilaw_1:ISs:=.cons (.set 2 (.bin .Add (.int 1) (.bin .Mod (.call 2 (.call 1 (.var 0) (.cons (.int 1) .nil)) (.cons (.int 2) .nil)) (.int 64)))) ilaw_2
noncomputable def ilaw_0:ISs:=.cons (.set 1 (.call 3 (.call 2 (.call 1 (.var 0) (.cons (.int 0) .nil)) (.cons (.int 1) .nil)) (.cons (.int 9) .nil))) ilaw_1
noncomputable abbrev ir_law:ISs:=ilaw_0
noncomputable def G_law:GI:={bl:=GB,gl:=GL,fns:=["_law_answer","_law_cell","_law_mix","_law_names","_law_steps","_law_word"]}
theorem ck_law:chkSs G_law (Z00 s_law) ["script","names","width","own","steps","fault","more","pairs","islands","name","at","ferries","world","kin","due","sorts"] ir_law (Z05 s_law)=true:=by decide+kernel
theorem szl:sizeLine=16777216:=by decide
theorem na1:Int.natAbs 1=1:=rfl
theorem at0{α:Type}{x:α}{xs:List α}:atI (x::xs) 0=some x:=by unfold atI ixN;simp
theorem at1{α:Type}{x y:α}{xs:List α}:atI (x::y::xs) 1=some y:=Z0X (j:=1) (by rfl)
theorem at2{α:Type}{x y z:α}{xs:List α}:atI (x::y::z::xs) 2=some z:=Z0X (j:=2) (by rfl)
theorem at3{α:Type}{x y z u:α}{xs:List α}:atI (x::y::z::u::xs) 3=some u:=Z0X (j:=3) (by rfl)
theorem at4{α:Type}{x y z u v:α}{xs:List α}:atI (x::y::z::u::v::xs) 4=some v:=Z0X (j:=4) (by rfl)
theorem strEq{a b:String}:(Y0t a=Y0t b)↔a=b:=by
 constructor
 ·intro h
  rw[Str.ofString_eq_toList,Str.ofString_eq_toList]at h
  have h1:a.toList.map Y3O=b.toList.map Y3O:=by
   have:=congrArg (λs:Str=>s.cps.toList) h
   simpa using this
  have inj:∀(xs ys:List Char),xs.map Y3O=ys.map Y3O->xs=ys:=by
   intro xs
   induction xs with
   |nil=>
    intro ys e
    cases ys with
    |nil=>rfl
    |cons _ _=>cases e
   |cons x r ih=>
    intro ys e
    cases ys with
    |nil=>cases e
    |cons y s=>
     rw[Y0d,Y0d]at e
     injection e with e1 e2
     rw[ih s e2,Char.toNat_inj.mp e1]
  exact String.toList_inj.mp (inj _ _ h1)
 ·intro h;rw[h]
theorem Z13{c A B:Prop} [Decidable c] (h1:c->A)(h2:¬c->B):if c then A else B:=by
 split
 ·exact h1 ‹_›
 ·exact h2 ‹_›
local macro_rules | `(tactic| walk_at "s") => `(tactic| simp only [seval, x_nil, x_cons, x_pl, x_rs, x_rf, x_cl, x_rt, x_iteX, x_for, t_nil, t_cons, t_pl, t_tr, SE.val, ex_callX, sto1, xsubE, List.map_cons, List.map_nil, szl, na1, Nat.zero_add, Nat.reduceAdd, Nat.zero_le, at0, at1, at2, at3, at4, strEq, Z01, s_nil, s_cons, s_ret, s_set, s_asg, s_expr, s_ite, s_for, v_s, b_0, f_s, e_var, e_int, e_str, e_bl, e_non, e_glb, e_ty, e_bin, e_neg, e_not, e_cmp, e_chn, e_and, e_or, e_tup, e_lst, e_ix, e_sl, e_call, e_bi, e_b2, e_mt,
es_nil, es_cons, o_none, o_some, q_tg1, q_tgt, q_tgc, q_tgn, isTy, q_add, q_sub, q_mul, q_fdiv, q_mod, q_shl, q_adds, q_muls, q_addl, q_lt, q_le, q_les, q_gt, q_eqi, q_eqs, q_nes, q_isi2, q_isoi2, q_srs, q_th5, q_ot5, q_eqr, q_in, q_nin, q_ixr, q_ixol, q_ixods, q_ixt, q_ixf, q_ixs, q_slr, q_slol, q_slt, q_sls, q_lenf, q_lens, q_lenr, q_lenol, q_isi, q_isoi, q_tyi, q_tys, q_tyt, q_tyr, q_tyol, q_listt, q_listr, q_tupr, q_dictL, q_all, q_app, q_apol, q_ext, q_okl1, q_okl2, q_okj,
q_join, q_seq, q_srr, q_srol, q_th2, q_th3, q_ot2, q_ot3, q_srt, q_rng, q_rgi, q_max2, CDivB, CMul, CPow, List.getElem?_cons_zero, List.getElem?_cons_succ, Option.some.injEq, MV.int.injEq, MV.str.injEq, MV.bl.injEq, MV.tup.injEq, MV.ref.injEq, MO.lst.injEq, Prod.mk.injEq, exists_eq_left', exists_eq_right, exists_and_left, true_and, and_true, false_and, and_false, true_or, or_true, false_or, or_false, reduceCtorEq, ne_eq, not_false_eq_true, not_true_eq_false, List.set_cons_zero, List.set_cons_succ, decide_eq_true_eq, Bool.not_eq_true', decide_eq_false_iff_not, if_true, if_false, Bool.false_eq_true, reduceIte, List.length_cons, List.length_nil, and_self, String.reduceEq, String.reduceNe, Int.reduceLT, Int.reduceLE, Int.reducePow, Int.reduceNeg, Int.reduceToNat, Int.reduceSub, Int.reduceAdd, Int.reduceMul, Nat.reduceLT, Nat.reducePow, Nat.reduceLeDiff])
theorem ex_mono{α:Sort _}{p q:α->Prop}(h:∀a,p a->q a):(∃a,p a)->∃a,q a:=fun⟨a,x⟩=>⟨a,h a x⟩
theorem and_mono{a b c:Prop}(h:b->c):a/\b->a/\c:=λx=>⟨x.1,h x.2⟩
theorem and_mono2{a b c d:Prop}(h:a->c)(g:b->d):a/\b->c/\d:=λx=>⟨h x.1,g x.2⟩
theorem or_mono{a b c d:Prop}(h:a->c)(g:b->d):a\/b->c\/d:=λx=>x.elim (λy=>.inl (h y)) λy=>.inr (g y)
theorem all_mono{α:Sort _}{p q:α->Prop}(h:∀a,p a->q a):(∀a,p a)->∀a,q a:=λx a=>h a (x a)
local macro_rules | `(tactic| walk_at "m") => `(tactic| (intro vs M Q Q' hq; repeat (first | exact hq _ _ | exact id | refine ex_mono fun _ => ?_ | refine and_mono ?_ | refine and_mono2 ?_ ?_ | refine all_mono fun _ => ?_ | refine or_mono ?_ ?_)))
noncomputable def SameM(M M':MH):Prop:=∀a o,M a=some o->M' a=some o
theorem SameM.refl(M:MH):SameM M M:=λ_ _ h=>h
theorem SameM.trans{M M1 M2:MH}(a:SameM M M1)(b:SameM M1 M2):SameM M M2:=λc o h=>b c o (a c o h)
theorem neM{M:MH}{a p:Addr}{o:MO}(h:M a=some o)(hp:M p=none):a≠p:=by intro e;subst e;rw[h]at hp;cases hp
theorem SameM.new{M:MH}{p:Addr}(h:M p=none)(o:MO):SameM M (updM M p o):=λa u e=>by rw[Z0m (neM e h)];exact e
theorem SameM.free{M M':MH}(s:SameM M M'){p:Addr}(h:M' p=none):M p=none:=by
 cases e:M p with
 |none=>rfl
 |some o=>rw[s _ _ e]at h;cases h
theorem SameM.upd{M M':MH}(s:SameM M M'){p:Addr}(h:M p=none)(o:MO):SameM M (updM M' p o):=λa u e=>by rw[Z0m (neM e h)];exact s a u e
theorem rng_item{lo:Int}{n i:Nat}{x:MV}(h:(Src.rng lo n).items[i]?=some x):i<n/\x=.int (lo+(i:Nat)):=by
 have hi:=(Y07.mp h).1
 rw[Src.items_len]at hi
 refine⟨hi,?_⟩
 have h':((Y0I n).map λi=>MV.int (lo+(i:Nat)))[i]?=some x:=h
 rw[Y0b,Y02 (by simpa using(show i<n from hi))]at h'
 simpa using h'.symm
theorem Z18{α:Type}{f:α->MV}{xs:List α}{i:Nat}{x:MV}(h:(xs.map f)[i]?=some x):∃hi:i<xs.length,x=f xs[i]:=by
 have hi:=(Y07.mp h).1
 rw[Y03]at hi
 refine⟨hi,?_⟩
 rw[Y0b,Y02 hi]at h
 exact(Y0w h).symm
theorem mkMon{Φ:List (Str×SpM)}(hm:∀p∈Φ,MonW p.2):∀(j:Nat) f sp,Φ[j]?=some (f,sp)->MonW sp:=λj f sp h=>hm (f,sp) (Y0C h)
theorem cutM_upto0(xs:List MV)(k:Nat):cutM xs none (some (k:Int))=xs.take k:=by
 unfold cutM
 rw[HT.sIx_none,HT.sIx_nat]
 simp
theorem cutM_from0(xs:List MV)(k:Nat):cutM xs (some (k:Int)) none=xs.drop k:=by
 unfold cutM
 rw[HT.sIx_none,HT.sIx_nat]
 by_cases h:k≤xs.length
 ·rw[Y3n h,Y13 (by rw[Y0T];exact Y09 _)]
 ·rw[Y30 (by lia),Y1L (Y09 _),Y1L (by lia)]
  simp
theorem valM_putM{κ:Type} [DecidableEq κ] (k:κ)(v:MV)(j:κ):∀kvs:List (κ×MV),valM (putM kvs k v) j=if j=k then some v else valM kvs j
 |[]=>by
  unfold putM valM
  by_cases e:k=j
  ·rw[if_pos e,if_pos e.symm]
  ·rw[if_neg e,if_neg (λz=>e z.symm)]
   rfl
 |(i,u)::r=>by
  unfold putM
  by_cases e:i=k
  ·rw[if_pos e]
   subst e
   unfold valM
   by_cases f:i=j
   ·rw[if_pos f,if_pos f.symm]
   ·rw[if_neg f,if_neg (λz=>f z.symm),if_neg f]
  ·rw[if_neg e]
   unfold valM
   by_cases f:i=j
   ·rw[if_pos f,if_neg (λz=>e (f.trans z)),if_pos f]
   ·rw[if_neg f,valM_putM k v j r,if_neg f]
inductive Form where|plus|minus|times|less|same
noncomputable def Form.str:Form->Str
 |.plus=>"plus"|.minus=>"minus"|.times=>"times"|.less=>"less"|.same=>"same"
inductive Tm where
 |num (n:Int)|var (x:Str)|two (f:Form) (a b:Tm)|pick (c a b:Tm)
noncomputable def Tm.depth:Tm->Nat
 |.num _=>1|.var _=>1|.two _ a b=>1+max a.depth b.depth|.pick c a b=>1+max c.depth (max a.depth b.depth)
noncomputable def Tm.size:Tm->Nat
 |.num _=>1|.var _=>1|.two _ a b=>1+(a.size+b.size)|.pick c a b=>1+(c.size+(a.size+b.size))
noncomputable def Tm.reads:Tm->List Str
 |.num _=>[]|.var x=>[x]|.two _ a b=>a.reads++b.reads|.pick c a b=>c.reads++(a.reads++b.reads)
noncomputable def twoV(w:Nat)(l r:Int):Form->Int
 |.plus=>(l+r)%2^w
 |.minus=>(l - r)%2^w
 |.times=>(l*r)%2^w
 |.less=>if l<r then 1 else 0
 |.same=>if l=r then 1 else 0
noncomputable def Tm.val(ρ:Str->Int)(w:Nat):Tm->Int
 |.num n=>n%2^w
 |.var x=>ρ x
 |.two f a b=>twoV w (a.val ρ w) (b.val ρ w) f
 |.pick c a b=>if c.val ρ w≠0 then a.val ρ w else b.val ρ w
theorem pow_pos'(w:Nat):(0:Int)<2^w:=Int.pow_pos (by decide)
theorem mod_in(x:Int)(w:Nat):0≤x%2^w/\x%2^w<2^w:=⟨Y0F _ (Int.ne_of_gt (pow_pos' w)),Y0y _ (pow_pos' w)⟩
theorem Tm.depth_pos:∀T:Tm,1≤T.depth
 |.num _=>Y09 _
 |.var _=>Y09 _
 |.two _ _ _=>Nat.le_add_right _ _
 |.pick _ _ _=>Nat.le_add_right _ _
noncomputable def Tm.mv:Tm->MV
 |.num n=>.tup [.str "num",.int n]
 |.var x=>.tup [.str "var",.str x]
 |.two f a b=>.tup [.str f.str,a.mv,b.mv]
 |.pick c a b=>.tup [.str "pick",c.mv,a.mv,b.mv]
theorem form_num(f:Form):¬f.str="num":=by cases f<;>decide+kernel
theorem form_var(f:Form):¬f.str="var":=by cases f<;>decide+kernel
inductive Stp where
 |take (f x:Str)|give (f:Str) (T:Tm)|put (x:Str) (T:Tm)|jump (T:Tm) (i:Int)
noncomputable def Stp.mv:Stp->MV
 |.take f x=>.tup [.str "take",.str f,.str x]
 |.give f T=>.tup [.str "give",.str f,T.mv]
 |.put x T=>.tup [.str "put",.str x,T.mv]
 |.jump T i=>.tup [.str "jump",T.mv,.int i]
noncomputable def tmOk(ns:List Str)(T:Tm):Prop:=T.depth≤8/\T.size≤30/\∀x∈T.reads,x∈ns
noncomputable def Stp.ok(ns:List Str)(n:Nat):Stp->Prop
 |.take _ x=>x∈ns
 |.give _ T=>tmOk ns T
 |.put x T=>x∈ns/\tmOk ns T
 |.jump T i=>tmOk ns T/\0≤i/\i≤n
section
variable{P:Program}{w:World}{K:Y00}{mg:Str->Option Value}{base:Heap}{t:Adr}
noncomputable abbrev sp_two_to:SpM:=λvs M Q=>∃k:Nat,vs=[.int k]/\k≤64/\Q (.int (2^k)) M
theorem mon_sp_two_to:MonW sp_two_to:=by walk_at "m"
theorem ok_two_to(T:Txt K mg t):FnOk P w K mg base CX0 1 t.f_two_to t.d_two_to ["exponent"] (liSp K sp_two_to):=by
 refine T.q_two_to.F.okM sc_two_to (Z0M (Φ:=[]) (Z0N T) (Z0g T) rfl (λ_ h=>nomatch h) (λ_ h=>nomatch h):Fts P w K mg base 0 G_two_to []) ir_two_to ck_two_to (λvs M Q h=>?_) (λvs M Q h=>?_)
 ·obtain⟨k,rfl,_⟩:=h;rfl
 obtain⟨k,rfl,hk,q⟩:=h
 show wSs _ _ _ [some (.int k),none,none] M
 delta ir_two_to itwo_to_0
 walk_at "s"
 delta itwo_to_1
 walk_at "s"
 refine⟨by lia,by lia,λi σ M'=>M'=M/\∃v,σ=[some (.int k),some (.int (2^i)),v],⟨rfl,_,rfl⟩,λ_ _ _ _=>trivial,?_,?_⟩
 ·rintro i x σ M' hx ⟨rfl,v,rfl⟩
  obtain⟨hi,rfl⟩:=rng_item hx
  delta itwo_to_2
  walk_at "s"
  exact⟨_,by rw[Int.pow_succ]⟩
 ·rintro σ M' ⟨rfl,v,rfl⟩
  delta itwo_to_3
  walk_at "s"
  exact q
noncomputable def szs(ts:List Tm):Nat:=(ts.map Tm.size).sum
theorem szs_app(a b:List Tm):szs (a++b)=szs a+szs b:=by unfold szs;rw[Y0Z,List.sum_append]
theorem szs_one(a:Tm):szs [a]=a.size:=by simp[szs]
theorem szs_mem{T:Tm}:∀{ts:List Tm},T∈ts->T.size≤szs ts
 |U::ts,h=>by
  have e:szs (U::ts)=U.size+szs ts:=by simp[szs]
  rcases Y05.mp h with z|z
  ·subst z;lia
  ·have:=szs_mem z;lia
noncomputable def Tm.kids:Tm->List Tm
 |.num _=>[]
 |.var _=>[]
 |.two _ a b=>[a,b]
 |.pick c a b=>[c,a,b]
theorem Tm.size_kids:∀T:Tm,T.size=1+szs T.kids
 |.num _=>rfl
 |.var _=>rfl
 |.two _ a b=>by simp[Tm.size,Tm.kids,szs]
 |.pick c a b=>by simp[Tm.size,Tm.kids,szs]
noncomputable def mxd(ts:List Tm):Nat:=ts.foldl (λa T=>max a T.depth) 0
theorem mxd_app(ts:List Tm)(T:Tm):mxd (ts++[T])=max (mxd ts) T.depth:=by unfold mxd;rw[Y2X];rfl
theorem Tm.depth_kids:∀T:Tm,T.depth=mxd T.kids+1
 |.num _=>rfl
 |.var _=>rfl
 |.two _ a b=>by simp[Tm.depth,Tm.kids,mxd];lia
 |.pick c a b=>by simp[Tm.depth,Tm.kids,mxd];lia
theorem Tm.kid_depth{T U:Tm}(h:U∈T.kids):U.depth<T.depth:=by
 cases T<;>simp[Tm.kids]at h
 ·rcases h with rfl|rfl<;>(simp only[Tm.depth];lia)
 ·rcases h with rfl|rfl|rfl<;>(simp only[Tm.depth];lia)
theorem Tm.kid_size{T U:Tm}(h:U∈T.kids):U.size<T.size:=by
 rw[T.size_kids]
 have:=szs_mem h
 lia
noncomputable def rds(ts:List Tm):List Str:=(ts.map Tm.reads).flatten
theorem rds_app(ts:List Tm)(T:Tm):rds (ts++[T])=rds ts++T.reads:=by simp[rds]
theorem Tm.reads_kids:∀T:Tm,(∀x,T≠.var x)->T.reads=rds T.kids
 |.num _,_=>rfl
 |.var x,h=>absurd rfl (h x)
 |.two _ a b,_=>by simp[Tm.reads,Tm.kids,rds]
 |.pick c a b,_=>by simp[Tm.reads,Tm.kids,rds]
theorem Tm.reads_len:∀T:Tm,T.reads.length≤T.size
 |.num _=>by simp[Tm.reads]
 |.var _=>by simp[Tm.reads,Tm.size]
 |.two _ a b=>by
  have:=a.reads_len
  have:=b.reads_len
  simp[Tm.reads,Tm.size];lia
 |.pick c a b=>by
  have:=a.reads_len
  have:=b.reads_len
  have:=c.reads_len
  simp[Tm.reads,Tm.size];lia
theorem rds_len:∀ts:List Tm,(rds ts).length≤szs ts
 |[]=>Y09 _
 |T::ts=>by
  have:=rds_len ts
  have:=T.reads_len
  have e:szs (T::ts)=T.size+szs ts:=by simp[szs]
  have e2:rds (T::ts)=T.reads++rds ts:=by simp[rds]
  rw[e,e2,Y0o]
  lia
theorem szs_take(ts:List Tm)(i:Nat):szs (ts.take i)≤szs ts:=by
 have e1:=szs_app (ts.take i) (ts.drop i)
 rw[Y2q]at e1
 lia
theorem cut_1(x:MV)(xs:List MV):cutM (x::xs) (some 1) none=xs:=by
 have:=cutM_from0 (x::xs) 1
 simpa using this
noncomputable abbrev Z0p:SpM:=λvs M Q=>∃T:Tm,vs=[T.mv]/\∀p,M p=none->Q (.ref p) (updM M p (.lst (T.kids.map Tm.mv)))
theorem mon_sp_parts_within:MonW Z0p:=by walk_at "m"
theorem ok_parts_within(T:Txt K mg t):FnOk P w K mg base CX0 1 t.f_parts_within t.d_parts_within ["T"] (liSp K Z0p):=by
 refine T.q_parts_within.F.okM sc_parts_within (Z0M (Φ:=[]) (Z0N T) (Z0g T) rfl (λ_ h=>nomatch h) (λ_ h=>nomatch h):Fts P w K mg base 0 G_parts_within []) ir_parts_within ck_parts_within (λvs M Q h=>?_) (λvs M Q h=>?_)
 ·obtain⟨T,rfl,_⟩:=h;rfl
 obtain⟨U,rfl,q⟩:=h
 show wSs _ _ _ [some U.mv] M
 delta ir_parts_within iparts_within_0
 cases U with
 |num m=>
  simp only[Tm.mv]
  walk_at "s"
  delta iparts_within_1
  walk_at "s"
  exact q
 |var x=>
  simp only[Tm.mv]
  walk_at "s"
  delta iparts_within_1
  walk_at "s"
  exact q
 |two f a b=>
  simp only[Tm.mv]
  walk_at "s"
  rw[if_neg (form_num f),if_neg (form_var f),iparts_within_2]
  walk_at "s"
  rw[cut_1]
  exact q
 |pick c a b=>
  simp only[Tm.mv]
  walk_at "s"
  delta iparts_within_2
  walk_at "s"
  rw[cut_1]
  exact q
noncomputable abbrev Z1u(n:Nat):SpM:=λvs M Q=>∃T:Tm,vs=[T.mv]/\T.depth≤n/\∀M',SameM M M'->Q (.tup [.int (T.size:Nat),.int (T.depth:Nat)]) M'
theorem mon_sp_size_of(n:Nat):MonW (Z1u n):=by walk_at "m"
theorem ok_size_of(T:Txt K mg t):∀n:Nat,FnOk P w K mg base CX0 (n+8) t.f_size_of t.d_size_of ["T"] (liSp K (Z1u n))
 |0=>by
  have no:∀vs M Q,¬Z1u 0 vs M Q:=λvs M Q h=>by
   obtain⟨T,_,h0,_⟩:=h
   have:=T.depth_pos
   lia
  exact⟨λvs H Q E ⟨ms,M,r,rh,h⟩=>absurd h (no _ _ _),λA outer s H args us vs Q E _ _ _ _ ⟨ms,M,r,rh,h⟩=>absurd h (no _ _ _)⟩
 |n+1=>by
  have ih:=ok_size_of T n
  refine T.q_size_of.F.okM sc_size_of (Z0M (Φ:=[("parts_within",Z0p),("size_of",(Z1u n))]) (Z0N T) (Z0g T) rfl (fMc ⟨mon_sp_parts_within,(fMc ⟨(mon_sp_size_of _),(fun _ h=>nomatch h)⟩)⟩) (fMc ⟨⟨_,_,_,FnOk.mono (ok_parts_within T) (by lia),T.q_parts_within.m,T.q_parts_within.F.kp,T.q_parts_within.b⟩,(fMc ⟨⟨_,_,_,ih,T.q_size_of.m,T.q_size_of.F.kp,T.q_size_of.b⟩,(fun _ h=>nomatch h)⟩)⟩):Fts P w K mg base (n+8) G_size_of [("parts_within",Z0p),("size_of",(Z1u n))]) ir_size_of ck_size_of (fun vs M Q h=>?_) (fun vs M Q h=>?_)
  ·obtain⟨T,rfl,_⟩:=h;rfl
  obtain⟨U,rfl,hn,q⟩:=h
  show wSs _ _ _ [some U.mv,none,none,none,none] M
  delta ir_size_of isize_of_0
  walk_at "s"
  delta isize_of_1
  walk_at "s"
  delta isize_of_2
  walk_at "s"
  refine⟨U,rfl,λpk hpk=>?_⟩
  have s1:=SameM.new hpk (.lst (U.kids.map Tm.mv))
  have h1:updM M pk (.lst (U.kids.map Tm.mv)) pk=some (.lst (U.kids.map Tm.mv)):=Z01
  generalize updM M pk (.lst (U.kids.map Tm.mv))=M1 at*
  repeat (first|walk_at "s"|simp only[h1])
  obtain⟨J,hJ⟩:∃J:Nat->Sm->MH->Prop,∀i σ M2,J i σ M2↔∃(v3 v4:Option MV),SameM M1 M2/\σ=[some U.mv,some (.int ((1+szs (U.kids.take i):Nat):Int)),some (.int ((mxd (U.kids.take i):Nat):Int)),v3,v4]:=⟨_,λ_ _ _=>Y2j⟩
  refine⟨J,(hJ _ _ _).2 ⟨_,_,SameM.refl _,rfl⟩,λi σ M2 hj=>?_,λi x σ M2 hx hj=>?_,λσ M2 hj=>?_⟩
  ·obtain⟨_,_,s2,_⟩:=(hJ _ _ _).1 hj
   exact s2 _ _ h1
  ·obtain⟨v3,v4,s2,rfl⟩:=(hJ _ _ _).1 hj
   obtain⟨hi,rfl⟩:=Z18 hx
   have hk:=U.kid_depth (Y0u hi)
   delta isize_of_3
   walk_at "s"
   refine⟨U.kids[i],rfl,by lia,λM3 s3=>?_⟩
   delta isize_of_4
   walk_at "s"
   delta isize_of_5
   walk_at "s"
   have et:U.kids.take (i+1)=U.kids.take i++[U.kids[i]]:=by rw[Y1d,Y02 hi];rfl
   have e1:((1+szs (U.kids.take i):Nat):Int)+(U.kids[i].size:Nat)=((1+szs (U.kids.take (i+1)):Nat):Int):=by rw[et,szs_app,szs_one];lia
   have e2:(if((U.kids[i].depth:Nat):Int)>(mxd (U.kids.take i):Nat)then((U.kids[i].depth:Nat):Int)else(mxd (U.kids.take i):Nat))=((mxd (U.kids.take (i+1)):Nat):Int):=by
    rw[et,mxd_app];split<;>lia
   rw[e1,e2]
   exact(hJ _ _ _).2 ⟨_,_,s2.trans s3,rfl⟩
  ·obtain⟨v3,v4,s2,rfl⟩:=(hJ _ _ _).1 hj
   have e:U.kids.take (Src.lst pk (U.kids.map Tm.mv)).len=U.kids:=by simp[Src.len]
   rw[e];delta isize_of_6
   walk_at "s"
   have:=q M2 (s1.trans s2)
   rw[U.size_kids,U.depth_kids]at this
   exact this
noncomputable abbrev Z0t(n:Nat):SpM:=λvs M Q=>∃T:Tm,vs=[T.mv]/\T.depth≤n/\T.size≤4000/\∀p M',SameM M M'->M p=none->M' p=some (.lst (T.reads.map MV.str))->Q (.ref p) M'
theorem mon_sp_names_read(n:Nat):MonW (Z0t n):=by walk_at "m"
theorem ok_names_read(T:Txt K mg t):∀n:Nat,FnOk P w K mg base CX0 (n+8) t.f_names_read t.d_names_read ["T"] (liSp K (Z0t n))
 |0=>by
  have no:∀vs M Q,¬Z0t 0 vs M Q:=λvs M Q h=>by
   obtain⟨T,_,h0,_⟩:=h
   have:=T.depth_pos
   lia
  exact⟨λvs H Q E ⟨ms,M,r,rh,h⟩=>absurd h (no _ _ _),λA outer s H args us vs Q E _ _ _ _ ⟨ms,M,r,rh,h⟩=>absurd h (no _ _ _)⟩
 |n+1=>by
  have ih:=ok_names_read T n
  refine T.q_names_read.F.okM sc_names_read (Z0M (Φ:=[("names_read",(Z0t n)),("parts_within",Z0p)]) (Z0N T) (Z0g T) rfl (fMc ⟨(mon_sp_names_read _),(fMc ⟨mon_sp_parts_within,(fun _ h=>nomatch h)⟩)⟩) (fMc ⟨⟨_,_,_,ih,T.q_names_read.m,T.q_names_read.F.kp,T.q_names_read.b⟩,(fMc ⟨⟨_,_,_,FnOk.mono (ok_parts_within T) (by lia),T.q_parts_within.m,T.q_parts_within.F.kp,T.q_parts_within.b⟩,(fun _ h=>nomatch h)⟩)⟩):Fts P w K mg base (n+8) G_names_read [("names_read",(Z0t n)),("parts_within",Z0p)]) ir_names_read ck_names_read (fun vs M Q h=>?_) (fun vs M Q h=>?_)
  ·obtain⟨T,rfl,_⟩:=h;rfl
  obtain⟨U,rfl,hn,hz,q⟩:=h
  show wSs _ _ _ [some U.mv,none,none] M
  have rest:(∀x,U≠.var x)->wSs [("names_read",Z0t n),("parts_within",Z0p)] inames_read_2 {nx:=fun x M'=>Q MV.non M',rt:=Q} [some U.mv,none,none] M:=by
   intro hv
   delta inames_read_2
   walk_at "s"
   intro p0 hp0
   have s0:=SameM.new hp0 (.lst [])
   have h0:updM M p0 (.lst []) p0=some (.lst ([]:List MV)):=Z01
   generalize updM M p0 (.lst [])=M0 at*
   delta inames_read_3
   walk_at "s"
   refine⟨U,rfl,λpk hpk=>?_⟩
   have s1:=SameM.new hpk (.lst (U.kids.map Tm.mv))
   have h1:updM M0 pk (.lst (U.kids.map Tm.mv)) pk=some (.lst (U.kids.map Tm.mv)):=Z01
   have h01:=s1 _ _ h0
   have t1:=s0.trans s1
   have nk:M pk=none:=s0.free hpk
   generalize updM M0 pk (.lst (U.kids.map Tm.mv))=M1 at*
   repeat (first|walk_at "s"|simp only[h1])
   have ne:p0≠pk:=by
    intro e
    rw[e]at h0
    rw[h0]at hpk
    cases hpk
   obtain⟨J,hJ⟩:∃J:Nat->Sm->MH->Prop,∀i σ M2,J i σ M2↔∃(v2:Option MV),SameM M M2/\M2 pk=some (.lst (U.kids.map Tm.mv))/\M2 p0=some (.lst ((rds (U.kids.take i)).map MV.str))/\σ=[some U.mv,some (.ref p0),v2]:=⟨_,λ_ _ _=>Y2j⟩
   refine⟨J,(hJ _ _ _).2 ⟨_,t1,h1,h01,rfl⟩,λi σ M2 hj=>?_,λi x σ M2 hx hj=>?_,λσ M2 hj=>?_⟩
   ·obtain⟨_,_,g1,_⟩:=(hJ _ _ _).1 hj
    exact g1
   ·obtain⟨v2,s2,g1,g2,rfl⟩:=(hJ _ _ _).1 hj
    obtain⟨hi,rfl⟩:=Z18 hx
    have hk:=U.kid_depth (Y0u hi)
    have hk2:=U.kid_size (Y0u hi)
    delta inames_read_4
    walk_at "s"
    simp only[g2]
    walk_at "s"
    refine⟨⟨_,rfl⟩,?_⟩
    refine⟨U.kids[i],rfl,by lia,by lia,λp3 M3 s3 n3 g3=>?_⟩
    have g1':=s3 _ _ g1
    have g2':=s3 _ _ g2
    walk_at "s"
    have l1:=rds_len (U.kids.take i)
    have l2:=szs_take U.kids i
    have l3:=U.size_kids
    have l4:=U.kids[i].reads_len
    refine⟨_,g2',_,g3,by simp only[Y03];lia,(hJ _ _ _).2 ⟨_,(s2.trans s3).upd hp0 _,by rw[Z0m ne.symm];exact g1',?_,rfl⟩⟩
    rw[Z01,Y1d,Y02 hi,Y2F,rds_app,Y0Z]
   ·obtain⟨v2,s2,g1,g2,rfl⟩:=(hJ _ _ _).1 hj
    have e:U.kids.take (Src.lst pk (U.kids.map Tm.mv)).len=U.kids:=by simp[Src.len]
    rw[e,<- U.reads_kids hv]at g2
    delta inames_read_5
    walk_at "s"
    exact q p0 M2 s2 hp0 g2
  delta ir_names_read inames_read_0
  cases U with
  |num m=>
   simp only[Tm.mv]
   walk_at "s"
   exact rest (λ_ e=>by cases e)
  |var x=>
   simp only[Tm.mv]
   walk_at "s"
   delta inames_read_1
   walk_at "s"
   exact λp hp=>q p _ (SameM.new hp _) hp Z01
  |two f a b=>
   simp only[Tm.mv]
   walk_at "s"
   rw[if_neg (form_var f)]
   exact rest (λ_ e=>by cases e)
  |pick c a b=>
   simp only[Tm.mv]
   walk_at "s"
   exact rest (λ_ e=>by cases e)
noncomputable abbrev sp_vars_in:SpM:=λvs M Q=>∃(T:Tm) (N:List Str),vs=[T.mv]/\T.depth≤40/\T.size≤4000/\(∀x∈T.reads,x∈N)/\N.length<64/\
 ∀p M' (ys:List Str),SameM M M'->M p=none->M' p=some (.lst (ys.map MV.str))->ys.Nodup->(∀y,y∈ys↔y∈T.reads)->PyProof.Rows.sortedS ys=true->Q (.ref p) M'
theorem mon_sp_vars_in:MonW sp_vars_in:=by walk_at "m"
theorem ok_vars_in(T:Txt K mg t):FnOk P w K mg base CX0 50 t.f_vars_in t.d_vars_in ["T"] (liSp K sp_vars_in):=by
 refine T.q_vars_in.F.okM sc_vars_in (Z0M (Φ:=[("names_read",(Z0t 40))]) (Z0N T) (Z0g T) rfl (fMc ⟨(mon_sp_names_read _),(fun _ h=>nomatch h)⟩) (fMc ⟨⟨_,_,_,FnOk.mono (ok_names_read T 40) (by decide),T.q_names_read.m,T.q_names_read.F.kp,T.q_names_read.b⟩,(fun _ h=>nomatch h)⟩):Fts P w K mg base 49 G_vars_in [("names_read",(Z0t 40))]) ir_vars_in ck_vars_in (fun vs M Q h=>?_) (fun vs M Q h=>?_)
 ·obtain⟨T,N,rfl,_⟩:=h;rfl
 obtain⟨U,N,rfl,hn,hz,hN,hl,q⟩:=h
 show wSs _ _ _ [some U.mv] M
 delta ir_vars_in ivars_in_0
 walk_at "s"
 refine⟨U,rfl,hn,hz,λp1 M1 s1 n1 h1=>?_⟩
 have hb:scanBound=4096:=rfl
 have:=U.reads_len
 exact⟨p1,U.reads,N,rfl,h1,by lia,hN,hl,λp ys hp a1 a2 a3=>q p _ ys (s1.trans (SameM.new hp _)) (s1.free hp) Z01 a1 a2 a3⟩
noncomputable abbrev spNone:SpM:=λ_ _ _=>False
theorem monNone:MonW spNone:=λ_ h=>h.elim
theorem fn_none{P:Program}{w:World}{K:Y00}{mg:Str->Option Value}{base:Heap}{k:Nat}{f:Addr}{fd:FuncData}{ps:List Str}:FnOk P w K mg base CX0 k f fd ps (liSp K λ_ _ _=>False):=
 ⟨λ_ _ _ _ ⟨_,_,_,_,h⟩=>h.elim,λ_ _ _ _ _ _ _ _ _ _ _ _ _ ⟨_,_,_,_,h⟩=>h.elim⟩
noncomputable def Z1Z(z:Str):Prop:=1≤z.length/\z.length≤8/\∀c∈z.cps.toList,97≤c/\c≤122
theorem one_lt{a b:Nat}:([a]:List Nat)<[b]↔a<b:=by
 rw[List.cons_lt_cons_iff]
 constructor
 ·rintro(h|⟨_,h⟩)
  ·exact h
  ·exact absurd h (by simp)
 ·exact .inl
theorem cps_a:(("a":Str)).cps.toList=[97]:=by decide+kernel
theorem cps_z:(("z":Str)).cps.toList=[122]:=by decide+kernel
theorem le_a{c:Nat}(h:97≤c):(!decide ((⟨#[c]⟩:Str).cps.toList<(("a":Str)).cps.toList))=true:=by
 rw[cps_a]
 have:¬((⟨#[c]⟩:Str).cps.toList<[97]):=λz=>by
  have z:([c]:List Nat)<[97]:=z
  rw[one_lt]at z
  lia
 simpa using this
theorem le_z{c:Nat}(h:c≤122):(!decide ((("z":Str)).cps.toList<(⟨#[c]⟩:Str).cps.toList))=true:=by
 rw[cps_z]
 have:¬([122]<(⟨#[c]⟩:Str).cps.toList):=λz=>by
  have z:([122]:List Nat)<[c]:=z
  rw[one_lt]at z
  lia
 simpa using this
noncomputable abbrev sp_is_name:SpM:=λvs M Q=>∃z:Str,vs=[.str z]/\Z1Z z/\∀M',SameM M M'->Q (.bl true) M'
theorem mon_sp_is_name:MonW sp_is_name:=by walk_at "m"
theorem ok_is_name(T:Txt K mg t):FnOk P w K mg base CX0 1 t.f_is_name t.d_is_name ["text"] (liSp K sp_is_name):=by
 refine T.q_is_name.F.okM sc_is_name (Z0M (Φ:=[]) (Z0N T) (Z0g T) rfl (λ_ h=>nomatch h) (λ_ h=>nomatch h):Fts P w K mg base 0 G_is_name []) ir_is_name ck_is_name (λvs M Q h=>?_) (λvs M Q h=>?_)
 ·obtain⟨z,rfl,_⟩:=h;rfl
 obtain⟨z,rfl,⟨g1,g2,g3⟩,q⟩:=h
 show wSs _ _ _ [some (.str z)] M
 delta ir_is_name iis_name_0
 walk_at "s"
 refine⟨by lia,?_⟩
 rw[if_pos (by lia:(1:Int)≤(z.length:Int))]
 rw[if_pos (by lia:(z.length:Int)≤8)]
 refine Z14 z.cps.toList (λc=>.str ⟨#[c]⟩) (λ_=>.bl true) ?_ ?_ (λj f sp h=>by simp at h) λD hD=>?_
 ·walk_at "s"
  have:z.cps.toList.length=z.length:=Y0g
  exact⟨rfl,by lia,trivial⟩
 ·intro c hc M' s
  obtain⟨h1,h2⟩:=g3 c hc
  simp only[sCm,Y0d,Y0W,Y0A,Y0B,Y0L,Y0P]
  walk_at "s"
  rw[if_pos (by simpa using le_a h1)]
  simpa using le_z h2
 walk_at "s"
 refine⟨z.cps.toList.map λ_=>true,by rw[Y12];rfl,?_⟩
 have e:((z.cps.toList.map λ_=>true).all id)=true:=by simp
 rw[e]
 exact q _ (SameM.new hD _)
theorem inV_str{z:Str}{zs:List Str}:inV (toV (.str z)) ((zs.map MV.str).map toV)=decide (z∈zs):=by
 unfold inV
 induction zs with
 |nil=>simp
 |cons a r ih=>
  rw[Y0d,Y0d,Y1j,ih]
  have e:eqV (toV (.str a)) (toV (.str z))=decide (a=z):=by
   show(a==z)=decide (a=z)
   by_cases h:a=z
   ·subst h;simp
   ·simp[h]
  rw[e]
  by_cases h:a=z
  ·simp[h]
  ·have h':¬z=a:=λw=>h w.symm
   simp[h,h']
theorem flat_strs(zs:List Str):(zs.map MV.str).all flatM=true:=by
 rw[Y1g]
 intro v hv
 obtain⟨x,_,rfl⟩:=Y0E.mp hv
 rfl
noncomputable abbrev Z0k:SpM:=λvs M Q=>∃(z:Str) (e:Addr) (zs:List Str),vs=[.str z,.ref e]/\M e=some (.lst (zs.map MV.str))/\Z1Z z/\z∉zs/\∀M',SameM M M'->Q .non M'
theorem Z1l:MonW Z0k:=by walk_at "m"
theorem ok_refuse_name(T:Txt K mg t):FnOk P w K mg base CX0 2 t.f_refuse_name t.d_refuse_name ["text","earlier"] (liSp K Z0k):=by
 refine T.q_refuse_name.F.okM sc_refuse_name (Z0M (Φ:=[("is_name",sp_is_name)]) (Z0N T) (Z0g T) rfl (fMc ⟨mon_sp_is_name,(fun _ h=>nomatch h)⟩) (fMc ⟨⟨_,_,_,(FnOk.mono (ok_is_name T) (by decide)),T.q_is_name.m,T.q_is_name.F.kp,T.q_is_name.b⟩,(fun _ h=>nomatch h)⟩):Fts P w K mg base 1 G_refuse_name [("is_name",sp_is_name)]) ir_refuse_name ck_refuse_name (fun vs M Q h=>?_) (fun vs M Q h=>?_)
 ·obtain⟨z,a,zs,rfl,_⟩:=h;rfl
 obtain⟨z,a,zs,rfl,h1,h2,h3,q⟩:=h
 show wSs _ _ _ [some (.str z),some (.ref a)] M
 delta ir_refuse_name irefuse_name_0
 walk_at "s"
 refine⟨z,rfl,h2,λM1 s1=>?_⟩
 walk_at "s"
 delta irefuse_name_2
 walk_at "s"
 refine .inl ⟨_,s1 _ _ h1,rfl,flat_strs zs,?_⟩
 rw[inV_str,decide_eq_false h3]
 walk_at "s"
 exact q M1 s1
noncomputable def Leaf(v:MV):Prop:=(∃i,v=.int i)\/∃z,v=.str z
noncomputable def FroD:Nat->MH->MV->MV->Prop
 |0,_,v,v'=>Leaf v/\v'=v
 |n+1,M,v,v'=>(Leaf v/\v'=v)\/∃ps:List (MV×MV),(v=.tup (ps.map (·.1))\/∃a,v=.ref a/\M a=some (.lst (ps.map (·.1))))/\v'=.tup (ps.map (·.2))/\ps.length≤1000/\∀p∈ps,FroD n M p.1 p.2
theorem FroD.keep{M M':MH}(s:SameM M M'):∀{n:Nat} {v v':MV},FroD n M v v'->FroD n M' v v'
 |0,_,_,h=>h
 |n+1,v,v',h=>by
  rcases h with h|⟨ps,h1,h2,h3,h4⟩
  ·exact .inl h
  ·refine .inr ⟨ps,?_,h2,h3,λp hp=>(h4 p hp).keep s⟩
   rcases h1 with h1|⟨a,e,h1⟩
   ·exact .inl h1
   ·exact .inr ⟨a,e,s _ _ h1⟩
noncomputable abbrev Z0D(n:Nat):SpM:=λvs M Q=>∃v v',vs=[v]/\FroD n M v v'/\∀M',SameM M M'->Q v' M'
theorem Z26(n:Nat):MonW (Z0D n):=by walk_at "m"
theorem frozen_body{n:Nat}(hΦ:∀(j:Nat) f sp,([("frozen",Z0D n)]:List (Str×SpM))[j]?=some (f,sp)->MonW sp) {vs:List MV} {M:MH} {Q:QM} (h:Z0D (n+1) vs M Q):wSs [("frozen",Z0D n)] ir_frozen {nx:=fun _ M'=>Q .non M',rt:=Q} (startM 1 vs) M:=by
 obtain⟨v,v',rfl,hf,q⟩:=h
 show wSs _ _ _ [some v] M
 delta ir_frozen ifrozen_0
 rcases hf with⟨l,rfl⟩|⟨ps,h1,rfl,h3,h4⟩
 ·rcases l with⟨i,rfl⟩|⟨z,rfl⟩
  ·walk_at "s"
   simp only[decide_false,Y2n,Y0m,if_false,reduceCtorEq,ne_eq,not_false_eq_true,true_and]
   delta ifrozen_2
   walk_at "s"
   exact q M (SameM.refl _)
  ·walk_at "s"
   simp only[decide_false,Y2n,Y0m,if_false,reduceCtorEq,ne_eq,not_false_eq_true,true_and]
   delta ifrozen_2
   walk_at "s"
   exact q M (SameM.refl _)
 ·have go:wSs [("frozen",Z0D n)] ifrozen_1 {nx:=fun σ M=>wSs [("frozen",Z0D n)] ifrozen_2 {nx:=fun _ M'=>Q .non M',rt:=Q} σ M,rt:=Q} [some v] M:=by
   delta ifrozen_1
   walk_at "s"
   refine comp_same ps (·.1) (·.2) ?_ ?_ hΦ λD M' hD s hd=>?_
   ·rcases h1 with rfl|⟨a,rfl,ha⟩
    ·walk_at "s"
     exact⟨rfl,by lia,trivial,λ_ _ h=>h⟩
    ·repeat (first|walk_at "s"|simp only[ha])
     exact⟨rfl,by lia,ha,λ_ _ h=>h⟩
   ·intro p hp M' s
    simp only[sCm,Y0d,Y0W,Y0A,Y0B,Y0L,Y0P]
    walk_at "s"
    exact⟨p.1,p.2,rfl,(h4 p hp).keep s,λM2 s2=>⟨rfl,s2⟩⟩
   repeat (first|walk_at "s"|simp only[hd])
   exact q M' s
  rcases h1 with rfl|⟨a,rfl,ha⟩
  ·walk_at "s"
   simp only[decide_true,Y25,Y3c,if_true,reduceCtorEq,ne_eq,not_false_eq_true,true_and]
   exact go
  ·repeat (first|walk_at "s"|simp only[ha])
   simp only[decide_true,Y25,Y3c,if_true,reduceCtorEq,ne_eq,not_false_eq_true,true_and]
   exact go
theorem ok_frozen(T:Txt K mg t):∀n:Nat,FnOk P w K mg base CX0 (n+8) t.f_frozen t.d_frozen ["value"] (liSp K (Z0D n))
 |0=>by
  refine T.q_frozen.F.okM sc_frozen (Z0M (Φ:=[("frozen",spNone)]) (Z0N T) (Z0g T) rfl (fMc ⟨@monNone,(fun _ h=>nomatch h)⟩) (fMc ⟨⟨_,_,_,fn_none,T.q_frozen.m,T.q_frozen.F.kp,T.q_frozen.b⟩,(fun _ h=>nomatch h)⟩):Fts P w K mg base 7 G_frozen [("frozen",spNone)]) ir_frozen ck_frozen (fun vs M Q h=>?_) (fun vs M Q h=>?_)
  ·obtain⟨v,v',rfl,_⟩:=h;rfl
  obtain⟨v,v',rfl,⟨l,rfl⟩,q⟩:=h
  show wSs _ _ _ [some v'] M
  delta ir_frozen ifrozen_0
  rcases l with⟨i,rfl⟩|⟨z,rfl⟩
  ·walk_at "s"
   simp only[decide_false,Y2n,Y0m,if_false,reduceCtorEq,ne_eq,not_false_eq_true,true_and]
   delta ifrozen_2
   walk_at "s"
   exact q M (SameM.refl _)
  ·walk_at "s"
   simp only[decide_false,Y2n,Y0m,if_false,reduceCtorEq,ne_eq,not_false_eq_true,true_and]
   delta ifrozen_2
   walk_at "s"
   exact q M (SameM.refl _)
 |n+1=>by
  have ih:=ok_frozen T n
  refine T.q_frozen.F.okM sc_frozen (Z0M (Φ:=[("frozen",(Z0D n))]) (Z0N T) (Z0g T) rfl (fMc ⟨(Z26 _),(fun _ h=>nomatch h)⟩) (fMc ⟨⟨_,_,_,ih,T.q_frozen.m,T.q_frozen.F.kp,T.q_frozen.b⟩,(fun _ h=>nomatch h)⟩):Fts P w K mg base (n+8) G_frozen [("frozen",(Z0D n))]) ir_frozen ck_frozen (fun vs M Q h=>?_) (fun vs M Q h=>?_)
  ·obtain⟨v,v',rfl,_⟩:=h;rfl
  exact frozen_body (mkMon (fMc ⟨Z26 n,(λ_ h=>nomatch h)⟩)) h
structure Isl where
 name:Str
 prs:List (Str×Int)
 stps:List Stp
structure Fer where
 name:Str
 giver:Str
 taker:Str
 k:Nat
 st:Nat
structure Wld where
 w:Nat
 isl:List Isl
 fer:List Fer
noncomputable def prV(p:Str×Int):MV:=.tup [.str p.1,.int p.2]
noncomputable def Fer.mv(f:Fer):MV:=.tup [.str f.name,.str f.giver,.str f.taker,.int f.k,.int f.st]
noncomputable def Isl.mv(I:Isl):MV:=.tup [.str I.name,.tup (I.prs.map prV),.tup (I.stps.map Stp.mv)]
noncomputable def Wld.mv(W:Wld):MV:=.tup [.int W.w,.tup (W.isl.map Isl.mv),.tup (W.fer.map Fer.mv)]
noncomputable def Isl.vars(I:Isl):List Str:=I.prs.map (·.1)
noncomputable def Wld.fns(W:Wld):List Str:=W.fer.map (·.name)
noncomputable def Wld.ins(W:Wld):List Str:=W.isl.map (·.name)
noncomputable def TmIn(ns:List Str)(T:Tm):Prop:=T.depth≤8/\T.size≤30/\∀x∈T.reads,x∈ns
noncomputable def StpIn(fs:List Str)(ns:List Str)(n:Nat):Stp->Prop
 |.take f x=>f∈fs/\x∈ns
 |.give f T=>f∈fs/\TmIn ns T
 |.put x T=>x∈ns/\TmIn ns T
 |.jump T i=>TmIn ns T/\0≤i/\i≤(n:Int)
structure IslOk (w:Nat) (fs:List Str) (I:Isl):Prop where
 nv:I.prs.length≤6
 ns:I.stps.length≤12
 nd:I.vars.Nodup
 gd:∀x∈I.vars,Z1Z x
 wd:∀p∈I.prs,0≤p.2/\p.2<2^w
 st:∀s∈I.stps,StpIn fs I.vars I.stps.length s
structure FerOk (is:List Str) (f:Fer):Prop where
 g:f.giver∈is
 t:f.taker∈is
 ne:f.giver≠f.taker
 k3:f.k≤3
 s1:1≤f.st
 s3:f.st≤3
noncomputable def EndOk(F:List Fer)(z:Str):Stp->Prop
 |.take f _=>∀x∈F,x.name=f->x.taker=z
 |.give f _=>∀x∈F,x.name=f->x.giver=z
 |_=>True
structure Wld.Good (W:Wld):Prop where
 w1:1≤W.w
 w2:W.w≤64
 i5:W.isl.length≤5
 f6:W.fer.length≤6
 fg:∀z∈W.fns,Z1Z z
 ig:∀z∈W.ins,Z1Z z
 nd:(W.fns++W.ins).Nodup
 io:∀I∈W.isl,IslOk W.w W.fns I
 fo:∀f∈W.fer,FerOk W.ins f
 en:∀I∈W.isl,∀s∈I.stps,EndOk W.fer I.name s
noncomputable def IslIn(M:MH)(I:Isl)(y:MV):Prop:=∃a b,y=.tup [.str I.name,.ref a,.ref b]/\M a=some (.lst (I.prs.map prV))/\M b=some (.lst (I.stps.map Stp.mv))
theorem IslIn.keep{M M':MH}(s:SameM M M'){I:Isl}{y:MV}(h:IslIn M I y):IslIn M' I y:=by
 obtain⟨a,b,e,h1,h2⟩:=h
 exact⟨a,b,e,s _ _ h1,s _ _ h2⟩
noncomputable def IslsIn(M:MH)(Is:List Isl)(ys:List MV):Prop:=ys.length=Is.length/\∀(i:Nat) (I:Isl) (y:MV),Is[i]?=some I->ys[i]?=some y->IslIn M I y
theorem IslsIn.keep{M M':MH}(s:SameM M M'){Is:List Isl}{ys:List MV}(h:IslsIn M Is ys):IslsIn M' Is ys:=⟨h.1,λi z y a b=>(h.2 i z y a b).keep s⟩
theorem IslsIn.mem{M:MH}{Is:List Isl}{ys:List MV}(h:IslsIn M Is ys){y:MV}(hy:y∈ys):∃I∈Is,IslIn M I y:=by
 obtain⟨i,hi,rfl⟩:=Y10 hy
 have hi2:i<Is.length:=by rw[<- h.1];exact hi
 exact⟨Is[i],Y0u hi2,h.2 i _ _ (Y02 hi2) (Y02 hi)⟩
theorem IslsIn.fst{M:MH}{Is:List Isl}{ys:List MV}(h:IslsIn M Is ys){f:MV->MV}(hf:∀z r,f (.tup (.str z::r))=.str z):ys.map f=(Is.map (·.name)).map MV.str:=by
 apply List.ext_getElem?
 intro i
 rw[Y0b,Y0b,Y0b]
 by_cases hi:i<ys.length
 ·have hi2:i<Is.length:=by rw[<- h.1];exact hi
  obtain⟨a,b,e,_⟩:=h.2 i _ _ (Y02 hi2) (Y02 hi)
  rw[Y02 hi2,Y02 hi,e]
  show some (f _)=_
  rw[hf];rfl
 ·have hi2:¬i<Is.length:=by rw[<- h.1];exact hi
  rw[Y1t (by lia),Y1t (by lia)];rfl
noncomputable abbrev Z1v:SpM:=λvs M Q=>∃i:Int,vs=[.int i]/\Q (.bl true) M
theorem mon_sp_is_whole:MonW Z1v:=by walk_at "m"
theorem ok_is_whole(T:Txt K mg t):FnOk P w K mg base CX0 1 t.f_is_whole t.d_is_whole ["value"] (liSp K Z1v):=by
 refine T.q_is_whole.F.okM sc_is_whole (Z0M (Φ:=[]) (Z0N T) (Z0g T) rfl (λ_ h=>nomatch h) (λ_ h=>nomatch h):Fts P w K mg base 0 G_is_whole []) ir_is_whole ck_is_whole (λvs M Q h=>?_) (λvs M Q h=>?_)
 ·obtain⟨i,rfl,_⟩:=h;rfl
 obtain⟨i,rfl,q⟩:=h
 show wSs _ _ _ [some (.int i)] M
 delta ir_is_whole iis_whole_0
 walk_at "s"
 simpa using q
noncomputable abbrev Z27:SpM:=λvs M Q=>∃i:Int,vs=[.int i]/\1≤i/\i≤64/\Q (.bl true) M
theorem mon_sp_is_width:MonW Z27:=by walk_at "m"
theorem ok_is_width(T:Txt K mg t):FnOk P w K mg base CX0 2 t.f_is_width t.d_is_width ["number"] (liSp K Z27):=by
 refine T.q_is_width.F.okM sc_is_width (Z0M (Φ:=[("is_whole",Z1v)]) (Z0N T) (Z0g T) rfl (fMc ⟨mon_sp_is_whole,(fun _ h=>nomatch h)⟩) (fMc ⟨⟨_,_,_,(FnOk.mono (ok_is_whole T) (by decide)),T.q_is_whole.m,T.q_is_whole.F.kp,T.q_is_whole.b⟩,(fun _ h=>nomatch h)⟩):Fts P w K mg base 1 G_is_width [("is_whole",Z1v)]) ir_is_width ck_is_width (fun vs M Q h=>?_) (fun vs M Q h=>?_)
 ·obtain⟨i,rfl,_⟩:=h;rfl
 obtain⟨i,rfl,h1,h2,q⟩:=h
 show wSs _ _ _ [some (.int i)] M
 delta ir_is_width iis_width_0
 walk_at "s"
 refine⟨i,rfl,?_⟩
 walk_at "s"
 rw[if_pos h1,decide_eq_true h2]
 exact q
noncomputable abbrev sp_fits:SpM:=λvs M Q=>∃(k:Nat) (i:Int),vs=[.int k,.int i]/\k≤64/\0≤i/\i<2^k/\Q (.bl true) M
theorem mon_sp_fits:MonW sp_fits:=by walk_at "m"
theorem ok_fits(T:Txt K mg t):FnOk P w K mg base CX0 2 t.f_fits t.d_fits ["width","number"] (liSp K sp_fits):=by
 refine T.q_fits.F.okM sc_fits (Z0M (Φ:=[("is_whole",Z1v),("two_to",sp_two_to)]) (Z0N T) (Z0g T) rfl (fMc ⟨mon_sp_is_whole,(fMc ⟨mon_sp_two_to,(fun _ h=>nomatch h)⟩)⟩) (fMc ⟨⟨_,_,_,(FnOk.mono (ok_is_whole T) (by decide)),T.q_is_whole.m,T.q_is_whole.F.kp,T.q_is_whole.b⟩,(fMc ⟨⟨_,_,_,(FnOk.mono (ok_two_to T) (by decide)),T.q_two_to.m,T.q_two_to.F.kp,T.q_two_to.b⟩,(fun _ h=>nomatch h)⟩)⟩):Fts P w K mg base 1 G_fits [("is_whole",Z1v),("two_to",sp_two_to)]) ir_fits ck_fits (fun vs M Q h=>?_) (fun vs M Q h=>?_)
 ·obtain⟨k,i,rfl,_⟩:=h;rfl
 obtain⟨k,i,rfl,h1,h2,h3,q⟩:=h
 show wSs _ _ _ [some (.int k),some (.int i)] M
 delta ir_fits ifits_0
 walk_at "s"
 refine⟨i,rfl,?_⟩
 walk_at "s"
 rw[if_pos h2]
 refine⟨k,rfl,h1,?_⟩
 walk_at "s"
 rw[decide_eq_true h3]
 exact q
noncomputable abbrev Ans(o:Option Str)(M:MH)(v:MV)(Q:QM)(X:Str->MH->Prop):Prop:=(∀M',SameM M M'->o=none->Q v M')/\∀M' c,SameM M M'->o=some c->X c M'
theorem Ans.mon{o:Option Str}{M:MH}{v:MV}{Q Q':QM}{X X':Str->MH->Prop}(hq:∀v M,Q v M->Q' v M)(hx:∀c M,X c M->X' c M)(h:Ans o M v Q X):Ans o M v Q' X':=⟨λM' s e=>hq _ _ (h.1 M' s e),λM' c s e=>hx _ _ (h.2 M' c s e)⟩
theorem find_none{α:Type}{g:α->Option Str}:∀{xs:List α},(∀x∈xs,g x=none)->xs.findSome? g=none
 |[],_=>rfl
 |x::xs,h=>by
  rw[Y1Z,h x (Y0l ..)]
  exact find_none λy hy=>h y (Y0c _ hy)
theorem find_at{α:Type}{g:α->Option Str}{c:Str}:∀{xs:List α} {j:Nat} {x:α},xs[j]?=some x->g x=some c->(∀i y,i<j->xs[i]?=some y->g y=none)->xs.findSome? g=some c
 |[],j,x,h,_,_=>by simp at h
 |y::xs,0,x,h,e,_=>by
  obtain rfl:y=x:=by simpa using h
  rw[Y1Z,e]
 |y::xs,j+1,x,h,e,k=>by
  rw[Y1Z,k 0 y (Nat.succ_pos _) rfl]
  exact find_at (j:=j) (by simpa using h) e λi z hi hz=>k (i+1) z (by lia) (by simpa using hz)
theorem find_one{α:Type}{g:α->Option Str}{o:Option Str}:∀{xs:List α},(∀y∈xs,g y=none\/g y=o)->(∃x∈xs,g x=o)->xs.findSome? g=o
 |[],_,h=>by obtain⟨x,hx,_⟩:=h;cases hx
 |a::xs,h,hx=>by
  rw[Y1Z]
  cases ea:g a with
  |some b=>
   rcases h a (Y0l ..)with z|z
   ·rw[ea]at z;cases z
   ·exact ea.symm.trans z
  |none=>
   obtain⟨x,hx,e⟩:=hx
   rcases Y05.mp hx with rfl|hm
   ·obtain rfl:o=none:=e.symm.trans ea
    exact find_none λy hy=>(h y (Y0c _ hy)).elim id id
   ·exact find_one (λy hy=>h y (Y0c _ hy)) ⟨x,hm,e⟩
noncomputable def Z09(ns:List Str)(U:Tm):Option Str:=if 30<U.size\/8<U.depth then some ("TooMany":Str)else if∀x∈U.reads,x∈ns then none else some ("Unknown":Str)
noncomputable def Z0a(fs ns:List Str)(n:Nat):Stp->Option Str
 |.take f x=>if f∈fs/\x∈ns then none else some ("Unknown":Str)
 |.give f U=>if f∈fs then Z09 ns U else some ("Unknown":Str)
 |.put x U=>if x∈ns then Z09 ns U else some ("Unknown":Str)
 |.jump U i=>match Z09 ns U with
  |some c=>some c
  |none=>if 0≤i/\i≤(n:Int)then none else some ("NoStep":Str)
theorem tm_in{ns:List Str}{U:Tm}(h:Z09 ns U=none):TmIn ns U:=by
 unfold Z09 at h
 by_cases c:30<U.size\/8<U.depth
 ·rw[if_pos c]at h;cases h
 ·rw[if_neg c]at h
  by_cases d:∀x∈U.reads,x∈ns
  ·exact⟨by lia,by lia,d⟩
  ·rw[if_neg d]at h;cases h
theorem in_tm{ns:List Str}{U:Tm}(h:TmIn ns U):Z09 ns U=none:=by
 obtain⟨a,b,c⟩:=h
 unfold Z09
 rw[if_neg (by lia),if_pos c]
theorem stp_in{fs ns:List Str}{n:Nat}{S:Stp}(h:Z0a fs ns n S=none):StpIn fs ns n S:=by
 cases S with
 |take f x=>
  unfold Z0a at h
  by_cases c:f∈fs/\x∈ns
  ·exact c
  ·simp only[if_neg c]at h;cases h
 |give f U=>
  unfold Z0a at h
  by_cases c:f∈fs
  ·simp only[if_pos c]at h;exact⟨c,tm_in h⟩
  ·simp only[if_neg c]at h;cases h
 |put x U=>
  unfold Z0a at h
  by_cases c:x∈ns
  ·simp only[if_pos c]at h;exact⟨c,tm_in h⟩
  ·simp only[if_neg c]at h;cases h
 |jump U i=>
  unfold Z0a at h
  cases e:Z09 ns U with
  |some c=>simp only[e]at h;cases h
  |none=>
   simp only[e]at h
   by_cases c:0≤i/\i≤(n:Int)
   ·exact⟨tm_in e,c⟩
   ·rw[if_neg c]at h;cases h
theorem in_stp{fs ns:List Str}{n:Nat}{S:Stp}(h:StpIn fs ns n S):Z0a fs ns n S=none:=by
 cases S with
 |take f x=>exact if_pos h
 |give f U=>exact(if_pos h.1).trans (in_tm h.2)
 |put x U=>exact(if_pos h.1).trans (in_tm h.2)
 |jump U i=>
  unfold Z0a
  simp only[in_tm h.1]
  exact if_pos h.2
noncomputable def TmPre(ns:List Str)(U:Tm):Prop:=U.depth≤12/\∀x∈U.reads,x∉ns->ShortT x
noncomputable def StpPre(fs ns:List Str):Stp->Prop
 |.take f x=>(f∉fs->ShortT f)/\(x∉ns->ShortT x)
 |.give f U=>(f∉fs->ShortT f)/\TmPre ns U
 |.put x U=>(x∉ns->ShortT x)/\TmPre ns U
 |.jump U _=>TmPre ns U
noncomputable abbrev Z0l:SpX:=fun vs M Q X=>∃(z:Str) (e:Addr) (zs:List Str),vs=[.str z,.ref e]/\M e=some (.lst (zs.map MV.str))/\(z∈zs->Q .non M)/\(z∉zs->ShortT z/\X "Unknown" M)
theorem Z1Q:MonX Z0l:=by
 rintro vs M Q Q' X X' hq hx ⟨z,e,zs,a,b,c,d⟩
 exact⟨z,e,zs,a,b,λh=>hq _ _ (c h),λh=>⟨(d h).1,hx _ _ (d h).2⟩⟩
theorem Z1w(T:Txt K mg t):FnOk P w K mg base (CX1 P w) 1 t.f_refuse_unknown t.d_refuse_unknown ["name","known"] (liSpX K Z0l):=by
 refine T.q_refuse_unknown.F.okX (G:=H_refuse_unknown) sc_refuse_unknown (Z0M (Φ:=[]) (Z0N T) (Z0g T) rfl (λ_ h=>nomatch h) (λ_ h=>nomatch h):Fts P w K mg base 0 G_refuse_unknown []) (mkFtX (Ψ:=[]) rfl (λ_ h=>nomatch h) (λ_ h=>nomatch h):FtX P w K mg base 0 [] []) T.ex Z1A ck_refuse_unknown (λvs M Q X h=>?_) (λvs M Q X h=>?_)
 ·obtain⟨z,a,zs,rfl,_⟩:=h;rfl
 obtain⟨z,a,zs,rfl,h1,q1,q2⟩:=h
 show wXs _ _ _ _ _ [some (.str z),some (.ref a)] M
 delta Z1A irefuse_unknown_0
 walk_at "s"
 refine .inl ⟨_,h1,rfl,flat_strs zs,?_⟩
 rw[inV_str]
 by_cases h2:z∈zs
 ·rw[decide_eq_true h2]
  walk_at "s"
  exact q1 h2
 ·rw[decide_eq_false h2]
  walk_at "s"
  delta irefuse_unknown_1
  walk_at "s"
  exact q2 h2
noncomputable abbrev Z0L:SpM:=λvs M Q=>∃(z:Str) (e:Addr) (zs:List Str),vs=[.str z,.ref e]/\M e=some (.lst (zs.map MV.str))/\z∈zs/\Q .non M
theorem mon_sp0_refuse_unknown:MonW Z0L:=by walk_at "m"
theorem ok0_refuse_unknown(T:Txt K mg t):FnOk P w K mg base CX0 1 t.f_refuse_unknown t.d_refuse_unknown ["name","known"] (liSp K Z0L):=
 plain_of (Z1w T) λvs M Q X ⟨z,e,zs,a,b,c,q⟩=>⟨z,e,zs,a,b,λ_=>q,λh=>absurd c h⟩
theorem not_taken{α:Type} [DecidableEq α] {zs:List α}(nd:zs.Nodup){j:Nat}{z:α}(hz:zs[j]?=some z):z∉zs.take j:=λhm=>by
 obtain⟨hj,rfl⟩:=Y07.mp hz
 obtain⟨k,hk,e1⟩:=Y10 hm
 have hk2:k<j:=by rw[Y0p]at hk;lia
 rw[List.getElem_take]at e1
 have:=(List.getElem_inj nd).mp e1
 lia
theorem take_map{α β:Type}{f:α->β}{zs:List α}{j:Nat}{z:α}(hz:zs[j]?=some z):(zs.take j).map f++[f z]=(zs.take (j+1)).map f:=by
 rw[Y1d,hz,Y0Z];rfl
noncomputable abbrev Z0h:SpM:=λvs M Q=>∃(f:Addr) (F:List Fer),vs=[.ref f]/\M f=some (.lst (F.map Fer.mv))/\F.length≤6/\(F.map (·.name)).Nodup/\(∀x∈F,Z1Z x.name)/\∀M',SameM M M'->Q .non M'
theorem Z11:MonW Z0h:=by walk_at "m"
theorem ok_refuse_ferry_names(T:Txt K mg t):FnOk P w K mg base CX0 3 t.f_refuse_ferry_names t.d_refuse_ferry_names ["ferries"] (liSp K Z0h):=by
 refine T.q_refuse_ferry_names.F.okM sc_refuse_ferry_names (Z0M (Φ:=[("refuse_name",Z0k)]) (Z0N T) (Z0g T) rfl (fMc ⟨Z1l,(fun _ h=>nomatch h)⟩) (fMc ⟨⟨_,_,_,(FnOk.mono (ok_refuse_name T) (by decide)),T.q_refuse_name.m,T.q_refuse_name.F.kp,T.q_refuse_name.b⟩,(fun _ h=>nomatch h)⟩):Fts P w K mg base 2 Z25 [("refuse_name",Z0k)]) Z0R ck_refuse_ferry_names (fun vs M Q h=>?_) (fun vs M Q h=>?_)
 ·obtain⟨f,F,rfl,_⟩:=h;rfl
 obtain⟨f,F,rfl,hf,h6,nd,hg,q⟩:=h
 show wSs _ _ _ [some (.ref f),none,none] M
 delta Z0R Z1V
 walk_at "s"
 intro p hp
 have s1:=SameM.new hp (.lst [])
 have hf1:=s1 _ _ hf
 have hp1:updM M p (.lst []) p=some (.lst []):=Z01
 have old:∀a o,M a=some o->a≠p:=λa o h=>neM h hp
 generalize updM M p _=M1 at*
 delta Z1U
 repeat (first|walk_at "s"|simp only[hf1])
 obtain⟨J,hJ⟩:∃J:Nat->Sm->MH->Prop,∀j σ M',J j σ M'↔SameM M M'/\M' p=some (.lst (((F.map (·.name)).take j).map MV.str))/\∃v,σ=[some (.ref f),some (.ref p),v]:=⟨_,λ_ _ _=>Y2j⟩
 refine⟨J,(hJ _ _ _).mpr ⟨s1,by simpa using hp1,_,rfl⟩,λj σ M' h=>((hJ _ _ _).mp h).1 _ _ hf,?_,?_⟩
 ·rintro j y σ M' hy h
  obtain⟨s2,hp2,v,rfl⟩:=(hJ _ _ _).mp h
  obtain⟨hj,rfl⟩:=Z18 hy
  have hj:j<F.length:=hj
  have hz:(F.map (·.name))[j]?=some F[j].name:=by rw[Y0b,Y02 hj];rfl
  delta Z1T
  repeat (first|walk_at "s"|simp only[Fer.mv])
  refine⟨F[j].name,p,(F.map (·.name)).take j,rfl,hp2,hg _ (Y0u hj),not_taken nd hz,λM3 s3=>?_⟩
  have hp3:=s3 _ _ hp2
  walk_at "s"
  delta Z1S
  repeat (first|walk_at "s"|simp only[Fer.mv,hp3,Y03,Y0p])
  refine⟨⟨_,rfl⟩,by lia,(hJ _ _ _).mpr ⟨λa o h=>by rw[Z0m (old a o h)];exact s3 _ _ (s2 _ _ h),?_,_,rfl⟩⟩
  rw[Z01,take_map hz]
 ·rintro σ M' h
  obtain⟨s2,_⟩:=(hJ _ _ _).mp h
  exact q _ s2
noncomputable abbrev Z0o:SpM:=λvs M Q=>∃(k:Nat) (f:Addr) (ps:List (Str×Int)),vs=[.int k,.ref f]/\M f=some (.lst (ps.map prV))/\k≤64/\ps.length≤6/\(ps.map (·.1)).Nodup/\(∀x∈ps,Z1Z x.1/\0≤x.2/\x.2<2^k)/\∀M',SameM M M'->Q .non M'
theorem Z1k:MonW Z0o:=by walk_at "m"
theorem ok_refuse_variables(T:Txt K mg t):FnOk P w K mg base CX0 3 t.f_refuse_variables t.d_refuse_variables ["width","pairs"] (liSp K Z0o):=by
 refine T.q_refuse_variables.F.okM sc_refuse_variables (Z0M (Φ:=[("fits",sp_fits),("refuse_name",Z0k)]) (Z0N T) (Z0g T) rfl (fMc ⟨mon_sp_fits,(fMc ⟨Z1l,(fun _ h=>nomatch h)⟩)⟩) (fMc ⟨⟨_,_,_,(FnOk.mono (ok_fits T) (by decide)),T.q_fits.m,T.q_fits.F.kp,T.q_fits.b⟩,(fMc ⟨⟨_,_,_,(FnOk.mono (ok_refuse_name T) (by decide)),T.q_refuse_name.m,T.q_refuse_name.F.kp,T.q_refuse_name.b⟩,(fun _ h=>nomatch h)⟩)⟩):Fts P w K mg base 2 G_refuse_variables [("fits",sp_fits),("refuse_name",Z0k)]) Z1b ck_refuse_variables (fun vs M Q h=>?_) (fun vs M Q h=>?_)
 ·obtain⟨k,f,F,rfl,_⟩:=h;rfl
 obtain⟨k,f,F,rfl,hf,hk,h6,nd,hg,q⟩:=h
 show wSs _ _ _ [some (.int k),some (.ref f),none,none,none] M
 delta Z1b irefuse_variables_0
 walk_at "s"
 intro p hp
 have s1:=SameM.new hp (.lst [])
 have hf1:=s1 _ _ hf
 have hp1:updM M p (.lst []) p=some (.lst []):=Z01
 have old:∀a o,M a=some o->a≠p:=λa o h=>neM h hp
 generalize updM M p _=M1 at*
 delta irefuse_variables_1
 repeat (first|walk_at "s"|simp only[hf1])
 obtain⟨J,hJ⟩:∃J:Nat->Sm->MH->Prop,∀j σ M',J j σ M'↔SameM M M'/\M' p=some (.lst (((F.map (·.1)).take j).map MV.str))/\∃v v',σ=[some (.int k),some (.ref f),some (.ref p),v,v']:=⟨_,λ_ _ _=>Y2j⟩
 refine⟨J,(hJ _ _ _).mpr ⟨s1,by simpa using hp1,_,_,rfl⟩,λj σ M' h=>((hJ _ _ _).mp h).1 _ _ hf,?_,?_⟩
 ·rintro j y σ M' hy h
  obtain⟨s2,hp2,v,v',rfl⟩:=(hJ _ _ _).mp h
  obtain⟨hj,rfl⟩:=Z18 hy
  have hj:j<F.length:=hj
  have hz:(F.map (·.1))[j]?=some F[j].1:=by rw[Y0b,Y02 hj];rfl
  obtain⟨g1,g2,g3⟩:=hg _ (Y0u hj)
  delta irefuse_variables_2
  repeat (first|walk_at "s"|simp only[prV])
  delta irefuse_variables_3
  walk_at "s"
  refine⟨F[j].1,p,(F.map (·.1)).take j,rfl,hp2,g1,not_taken nd hz,λM3 s3=>?_⟩
  have hp3:=s3 _ _ hp2
  walk_at "s"
  delta irefuse_variables_4
  repeat (first|walk_at "s"|simp only[hp3,Y03,Y0p])
  refine⟨⟨_,rfl⟩,by lia,?_⟩
  delta irefuse_variables_5
  repeat (first|walk_at "s"|simp only[prV])
  refine⟨k,F[j].2,rfl,hk,g2,g3,?_⟩
  walk_at "s"
  refine(hJ _ _ _).mpr ⟨λa o h=>by rw[Z0m (old a o h)];exact s3 _ _ (s2 _ _ h),?_,_,_,rfl⟩
  rw[Z01,take_map hz]
 ·rintro σ M' h
  obtain⟨s2,_⟩:=(hJ _ _ _).mp h
  exact q _ s2
noncomputable abbrev Z1G:SpX:=λvs M Q X=>∃(U:Tm) (e:Addr) (ns:List Str),vs=[U.mv,.ref e]/\M e=some (.lst (ns.map MV.str))/\TmPre ns U/\Ans (Z09 ns U) M .non Q X
theorem mon_sp_refuse_term:MonX Z1G:=by
 rintro vs M Q Q' X X' hq hx ⟨U,e,ns,a,b,c,d⟩
 exact⟨U,e,ns,a,b,c,d.mon hq hx⟩
theorem ok_refuse_term(T:Txt K mg t):FnOk P w K mg base (CX1 P w) 51 t.f_refuse_term t.d_refuse_term ["T","known"] (liSpX K Z1G):=by
 refine T.q_refuse_term.F.okX (G:=H_refuse_term) sc_refuse_term (Z0M (Φ:=[("size_of",(Z1u 12)),("vars_in",sp_vars_in)]) (Z0N T) (Z0g T) rfl (fMc ⟨(mon_sp_size_of _),(fMc ⟨mon_sp_vars_in,(fun _ h=>nomatch h)⟩)⟩) (fMc ⟨⟨_,_,_,FnOk.mono (ok_size_of T 12) (by decide),T.q_size_of.m,T.q_size_of.F.kp,T.q_size_of.b⟩,(fMc ⟨⟨_,_,_,FnOk.mono (ok_vars_in T) (by decide),T.q_vars_in.m,T.q_vars_in.F.kp,T.q_vars_in.b⟩,(fun _ h=>nomatch h)⟩)⟩):Fts P w K mg base 50 G_refuse_term [("size_of",(Z1u 12)),("vars_in",sp_vars_in)]) (mkFtX (Ψ:=[("refuse_unknown",Z0l)]) rfl (fMc ⟨Z1Q,(fun _ h=>nomatch h)⟩) (fMc ⟨⟨_,_,_,(FnOk.mono (Z1w T) (by decide)),T.q_refuse_unknown.m,T.q_refuse_unknown.F.kp,T.q_refuse_unknown.b⟩,(fun _ h=>nomatch h)⟩):FtX P w K mg base 50 ["refuse_unknown"] [("refuse_unknown",Z0l)]) T.ex ir_refuse_term ck_refuse_term (fun vs M Q X h=>?_) (fun vs M Q X h=>?_)
 ·obtain⟨U,a,ns,rfl,_⟩:=h;rfl
 obtain⟨U,a,ns,rfl,ha,⟨hd,hr⟩,q1,q2⟩:=h
 show wXs _ _ _ _ _ [some U.mv,some (.ref a),none,none] M
 delta ir_refuse_term irefuse_term_0
 walk_at "s"
 refine⟨U,rfl,hd,λM1 s1=>?_⟩
 walk_at "s"
 delta irefuse_term_1
 walk_at "s"
 have big:30<U.size\/8<U.depth->Z09 ns U=some ("TooMany":Str):=fun c=>if_pos c
 refine Z13 (λc=>?_) (λc=>Z13 (λd=>?_) (λd=>?_))
 ·delta irefuse_term_2
  walk_at "s"
  exact q2 _ _ s1 (big (.inl (by lia)))
 ·delta irefuse_term_2
  walk_at "s"
  exact q2 _ _ s1 (big (.inr (by lia)))
 have small:¬(30<U.size\/8<U.depth):=by lia
 have rl:=U.reads_len
 delta irefuse_term_3
 walk_at "s"
 refine⟨U,U.reads,rfl,by lia,by lia,λx hx=>hx,by lia,λp M2 ys s2 hp hp2 nd hm _=>?_⟩
 have s12:=s1.trans s2
 repeat (first|walk_at "s"|simp only[hp2])
 obtain⟨J,hJ⟩:∃J:Nat->Sm->MH->Prop,∀j σ M',J j σ M'↔M'=M2/\(∀i y,i<j->ys[i]?=some y->y∈ns)/\∃v v',σ=[some U.mv,some (.ref a),v,v']:=⟨_,λ_ _ _=>Y2j⟩
 refine⟨trivial,J,(hJ _ _ _).mpr ⟨rfl,λi y z=>by lia,_,_,rfl⟩,λj σ M' h=>by rw[((hJ _ _ _).mp h).1];exact hp2,?_,?_⟩
 ·rintro j y σ M' hy h
  obtain⟨rfl,hs,v,v',rfl⟩:=(hJ _ _ _).mp h
  obtain⟨hj,rfl⟩:=Z18 (show(ys.map MV.str)[j]?=some y from hy)
  have hrd:=(hm _).mp (Y0u hj)
  delta irefuse_term_4
  walk_at "s"
  refine⟨ys[j],a,ns,rfl,s12 _ _ ha,λhin=>(hJ _ _ _).mpr ⟨rfl,λi y hi hy2=>?_,_,_,rfl⟩,λhin=>⟨hr _ hrd hin,q2 _ _ s12 ?_⟩⟩
  ·rcases Y26.mp hi with l|l
   ·exact hs i y l hy2
   ·subst l
    rw[Y02 hj]at hy2
    exact Y0w hy2▸hin
  ·unfold Z09
   rw[if_neg small,if_neg λz=>hin (z _ hrd)]
 ·rintro σ M' h
  obtain⟨rfl,hs,_⟩:=(hJ _ _ _).mp h
  refine q1 _ s12 (in_tm ⟨by lia,by lia,λx hx=>?_⟩)
  obtain⟨i,hi,rfl⟩:=Y10 ((hm x).mpr hx)
  exact hs i _ (by show i<(ys.map MV.str).length;rw[Y03];exact hi) (Y02 hi)
theorem st_take{f x:Str}:(Stp.take f x).mv=.tup [.str "take",.str f,.str x]:=rfl
theorem st_give{f:Str}{U:Tm}:(Stp.give f U).mv=.tup [.str "give",.str f,U.mv]:=rfl
theorem st_put{f:Str}{U:Tm}:(Stp.put f U).mv=.tup [.str "put",.str f,U.mv]:=rfl
theorem st_jump{i:Int}{U:Tm}:(Stp.jump U i).mv=.tup [.str "jump",U.mv,.int i]:=rfl
noncomputable abbrev Z1H:SpX:=λvs M Q X=>∃(S:Stp) (a b:Addr) (ns fs:List Str) (n:Nat),vs=[S.mv,.ref a,.int n,.ref b]/\M a=some (.lst (ns.map MV.str))/\M b=some (.lst (fs.map MV.str))/\StpPre fs ns S/\Ans (Z0a fs ns n S) M .non Q X
theorem mon_sp_refuse_step:MonX Z1H:=by
 rintro vs M Q Q' X X' hq hx ⟨S,a,b,ns,fs,n,e,h1,h2,h3,h4⟩
 exact⟨S,a,b,ns,fs,n,e,h1,h2,h3,h4.mon hq hx⟩
theorem ok_refuse_step(T:Txt K mg t):FnOk P w K mg base (CX1 P w) 52 t.f_refuse_step t.d_refuse_step ["step","known","count","ferry_names"] (liSpX K Z1H):=by
 refine T.q_refuse_step.F.okX (G:=H_refuse_step) sc_refuse_step (Z0M (Φ:=[]) (Z0N T) (Z0g T) rfl (fun _ h=>nomatch h) (fun _ h=>nomatch h):Fts P w K mg base 51 G_refuse_step []) (mkFtX (Ψ:=[("refuse_term",Z1G),("refuse_unknown",Z0l)]) rfl (fMc ⟨mon_sp_refuse_term,(fMc ⟨Z1Q,(fun _ h=>nomatch h)⟩)⟩) (fMc ⟨⟨_,_,_,(FnOk.mono (ok_refuse_term T) (by decide)),T.q_refuse_term.m,T.q_refuse_term.F.kp,T.q_refuse_term.b⟩,(fMc ⟨⟨_,_,_,(FnOk.mono (Z1w T) (by decide)),T.q_refuse_unknown.m,T.q_refuse_unknown.F.kp,T.q_refuse_unknown.b⟩,(fun _ h=>nomatch h)⟩)⟩):FtX P w K mg base 51 ["refuse_term","refuse_unknown"] [("refuse_term",Z1G),("refuse_unknown",Z0l)]) T.ex ir_refuse_step ck_refuse_step (fun vs M Q X h=>?_) (fun vs M Q X h=>?_)
 ·obtain⟨S,a,b,ns,fs,n,rfl,_⟩:=h;rfl
 obtain⟨S,a,b,ns,fs,n,rfl,ha,hb,hS,q1,q2⟩:=h
 show wXs _ _ _ _ _ [some S.mv,some (.ref a),some (.int n),some (.ref b)] M
 delta ir_refuse_step irefuse_step_0
 cases S with
 |take f x=>
  obtain⟨h1,h2⟩:=hS
  repeat (first|walk_at "s"|simp only[st_take])
  delta irefuse_step_1
  walk_at "s"
  refine⟨f,b,fs,rfl,hb,λc1=>?_,λc1=>⟨h1 c1,q2 _ _ (SameM.refl _) (if_neg λz=>c1 z.1)⟩⟩
  delta irefuse_step_2
  walk_at "s"
  exact⟨x,a,ns,rfl,ha,λc2=>q1 _ (SameM.refl _) (if_pos ⟨c1,c2⟩),λc2=>⟨h2 c2,q2 _ _ (SameM.refl _) (if_neg λz=>c2 z.2)⟩⟩
 |give f U=>
  obtain⟨h1,h2⟩:=hS
  repeat (first|walk_at "s"|simp only[st_give])
  delta Z1J
  walk_at "s"
  delta irefuse_step_4
  walk_at "s"
  refine⟨f,b,fs,rfl,hb,λc1=>?_,λc1=>⟨h1 c1,q2 _ _ (SameM.refl _) (if_neg c1)⟩⟩
  delta irefuse_step_5
  walk_at "s"
  exact⟨U,a,ns,rfl,ha,h2,λM1 s1 e=>q1 _ s1 ((if_pos c1).trans e),λM1 c s1 e=>q2 _ _ s1 ((if_pos c1).trans e)⟩
 |put f U=>
  obtain⟨h1,h2⟩:=hS
  repeat (first|walk_at "s"|simp only[st_put])
  delta Z1J
  walk_at "s"
  delta irefuse_step_6
  walk_at "s"
  delta irefuse_step_7
  walk_at "s"
  refine⟨f,a,ns,rfl,ha,λc1=>?_,λc1=>⟨h1 c1,q2 _ _ (SameM.refl _) (if_neg c1)⟩⟩
  delta irefuse_step_8
  walk_at "s"
  exact⟨U,a,ns,rfl,ha,h2,λM1 s1 e=>q1 _ s1 ((if_pos c1).trans e),λM1 c s1 e=>q2 _ _ s1 ((if_pos c1).trans e)⟩
 |jump U i=>
  have e1:∀c,Z09 ns U=some c->Z0a fs ns n (.jump U i)=some c:=λc e=>by unfold Z0a;simp only[e]
  have e2:Z09 ns U=none->Z0a fs ns n (.jump U i)=if 0≤i/\i≤(n:Int)then none else some ("NoStep":Str):=fun e=>by unfold Z0a;simp only[e]
  repeat (first|walk_at "s"|simp only[st_jump])
  delta Z1J
  walk_at "s"
  delta irefuse_step_6
  walk_at "s"
  delta irefuse_step_9
  walk_at "s"
  refine⟨U,a,ns,rfl,ha,hS,λM1 s1 e=>?_,λM1 c s1 e=>q2 _ _ s1 (e1 c e)⟩
  delta irefuse_step_10
  walk_at "s"
  refine Z13 (λc1=>Z13 (λc2=>?_) (λc2=>?_)) (λc1=>?_)
  ·delta irefuse_step_11
   walk_at "s"
   exact q2 _ _ s1 ((e2 e).trans (if_neg λz=>c2 z.2))
  ·exact q1 _ s1 ((e2 e).trans (if_pos ⟨c1,Classical.not_not.mp c2⟩))
  ·delta irefuse_step_11
   walk_at "s"
   exact q2 _ _ s1 ((e2 e).trans (if_neg λz=>c1 z.1))
structure IslPre (w:Nat) (fs:List Str) (I:Isl):Prop where
 nv:I.prs.length≤6
 ns:I.stps.length≤12
 nd:I.vars.Nodup
 gd:∀x∈I.vars,Z1Z x
 wd:∀p∈I.prs,0≤p.2/\p.2<2^w
 st:∀s∈I.stps,StpPre fs I.vars s
noncomputable def Z1I(fs:List Str)(I:Isl):Option Str:=I.stps.findSome? (Z0a fs I.vars I.stps.length)
theorem all_of_find{α:Type}{g:α->Option Str}{xs:List α}(h:xs.findSome? g=none):∀x∈xs,g x=none:=List.findSome?_eq_none_iff.mp h
theorem isl_ok{w:Nat}{fs:List Str}{I:Isl}(h:IslPre w fs I)(e:Z1I fs I=none):IslOk w fs I:=⟨h.nv,h.ns,h.nd,h.gd,h.wd,λs hs=>stp_in (all_of_find e s hs)⟩
noncomputable abbrev Z17:SpX:=λvs M Q X=>∃(k:Nat) (I:Isl) (y:MV) (b:Addr) (fs:List Str),vs=[.int k,y,.ref b]/\k≤64/\IslIn M I y/\M b=some (.lst (fs.map MV.str))/\IslPre k fs I/\Ans (Z1I fs I) M .non Q X
theorem mon_sp_refuse_island:MonX Z17:=by
 rintro vs M Q Q' X X' hq hx ⟨S,a,b,ns,fs,e,h1,h2,h3,h4,h5⟩
 exact⟨S,a,b,ns,fs,e,h1,h2,h3,h4,h5.mon hq hx⟩
theorem ok_refuse_island(T:Txt K mg t):FnOk P w K mg base (CX1 P w) 53 t.f_refuse_island t.d_refuse_island ["width","island","ferry_names"] (liSpX K Z17):=by
 refine T.q_refuse_island.F.okX (G:=H_refuse_island) sc_refuse_island (Z0M (Φ:=[("refuse_variables",Z0o)]) (Z0N T) (Z0g T) rfl (fMc ⟨Z1k,(fun _ h=>nomatch h)⟩) (fMc ⟨⟨_,_,_,(FnOk.mono (ok_refuse_variables T) (by decide)),T.q_refuse_variables.m,T.q_refuse_variables.F.kp,T.q_refuse_variables.b⟩,(fun _ h=>nomatch h)⟩):Fts P w K mg base 52 G_refuse_island [("refuse_variables",Z0o)]) (mkFtX (Ψ:=[("refuse_step",Z1H)]) rfl (fMc ⟨mon_sp_refuse_step,(fun _ h=>nomatch h)⟩) (fMc ⟨⟨_,_,_,(FnOk.mono (ok_refuse_step T) (by decide)),T.q_refuse_step.m,T.q_refuse_step.F.kp,T.q_refuse_step.b⟩,(fun _ h=>nomatch h)⟩):FtX P w K mg base 52 ["refuse_step"] [("refuse_step",Z1H)]) T.ex Z1Y ck_refuse_island (fun vs M Q X h=>?_) (fun vs M Q X h=>?_)
 ·obtain⟨k,I,y,b,fs,rfl,_⟩:=h;rfl
 obtain⟨k,I,y,fa,fs,rfl,hk,⟨a,b,rfl,ha,hb⟩,hfa,ok,q1,q2⟩:=h
 show wXs _ _ _ _ _ [some (.int k),some (.tup [.str I.name,.ref a,.ref b]),some (.ref fa),none,none] M
 have l1:=ok.nv
 have l2:=ok.ns
 delta Z1Y irefuse_island_0
 repeat (first|walk_at "s"|simp only[ha,Y03])
 refine Z13 (λz=>by lia) (λ_=>?_)
 delta irefuse_island_2
 repeat (first|walk_at "s"|simp only[hb,Y03])
 refine Z13 (λz=>by lia) (λ_=>?_)
 delta irefuse_island_4
 walk_at "s"
 refine⟨k,a,I.prs,rfl,ha,hk,l1,ok.nd,λx hx=>⟨ok.gd _ (Y0E.mpr ⟨x,hx,rfl⟩),ok.wd _ hx⟩,λM1 s1=>?_⟩
 walk_at "s"
 have ha1:=s1 _ _ ha
 delta irefuse_island_5
 walk_at "s"
 refine Z14 I.prs prV (fun p=>.str p.1) ?_ ?_ (mkMon (Φ:=[("refuse_variables",Z0o)]) (fMc ⟨Z1k,(fun _ h=>nomatch h)⟩)) fun D hD=>?_
 ·repeat (first|walk_at "s"|simp only[ha1])
  exact⟨rfl,by lia,ha1⟩
 ·intro p hp M' s
  simp only[sCm,Y0d,Y0W,Y0A,Y0B,Y0L,Y0P]
  repeat (first|walk_at "s"|simp only[prV])
  try exact⟨rfl,rfl⟩
 have eV:(I.prs.map λp=>MV.str p.1)=I.vars.map MV.str:=by unfold Isl.vars;rw[Y12];rfl
 rw[eV]
 have s2:=s1.trans (SameM.new hD (.lst (I.vars.map MV.str)))
 have hD2:updM M1 D (.lst (I.vars.map MV.str)) D=some (.lst (I.vars.map MV.str)):=Z01
 generalize updM M1 D _=M2 at*
 have hb2:=s2 _ _ hb
 delta irefuse_island_6
 repeat (first|walk_at "s"|simp only[hb2])
 obtain⟨J,hJ⟩:∃J:Nat->Sm->MH->Prop,∀j σ M',J j σ M'↔SameM M2 M'/\(∀i s,i<j->I.stps[i]?=some s->Z0a fs I.vars I.stps.length s=none)/\∃v,σ=[some (.int k),some (.tup [.str I.name,.ref a,.ref b]),some (.ref fa),some (.ref D),v]:=⟨_,λ_ _ _=>Y2j⟩
 refine⟨trivial,J,(hJ _ _ _).mpr ⟨SameM.refl _,λi s z=>by lia,_,rfl⟩,λj σ M' h=>((hJ _ _ _).mp h).1 _ _ hb2,?_,?_⟩
 ·rintro j y σ M' hy h
  obtain⟨s3,hs,v,rfl⟩:=(hJ _ _ _).mp h
  obtain⟨hj,rfl⟩:=Z18 (show(I.stps.map Stp.mv)[j]?=some y from hy)
  have hj:j<I.stps.length:=hj
  have hb3:=s3 _ _ hb2
  delta irefuse_island_7
  repeat (first|walk_at "s"|simp only[hb3,Y03])
  refine⟨I.stps[j],D,fa,I.vars,fs,I.stps.length,rfl,s3 _ _ hD2,s3 _ _ (s2 _ _ hfa),ok.st _ (Y0u hj),λM4 s4 e=>(hJ _ _ _).mpr ⟨s3.trans s4,λi s hi hy2=>?_,_,rfl⟩,λM4 c s4 e=>q2 _ _ (s2.trans (s3.trans s4)) (find_at (Y02 hj) e hs)⟩
  rcases Y26.mp hi with l|l
  ·exact hs i s l hy2
  ·subst l
   rw[Y02 hj]at hy2
   exact Y0w hy2▸e
 ·rintro σ M' h
  obtain⟨s3,hs,_⟩:=(hJ _ _ _).mp h
  refine q1 _ (s2.trans s3) (find_none λs hm=>?_)
  obtain⟨i,hi,rfl⟩:=Y10 hm
  exact hs i _ (by show i<(I.stps.map Stp.mv).length;rw[Y03];exact hi) (Y02 hi)
noncomputable abbrev Z0S:SpX:=λvs M Q X=>∃(k:Nat) (p b:Addr) (Is:List Isl) (ys:List MV) (fs:List Str),vs=[.int k,.ref p,.ref b]/\k≤64/\M p=some (.lst ys)/\IslsIn M Is ys/\Is.length≤5/\fs.length≤6/\M b=some (.lst (fs.map MV.str))/\(fs++Is.map (·.name)).Nodup/\(∀I∈Is,Z1Z I.name)/\(∀I∈Is,IslPre k fs I)/\Ans (Is.findSome? (Z1I fs)) M .non Q X
theorem mon_sp_refuse_islands:MonX Z0S:=by
 rintro vs M Q Q' X X' hq hx ⟨k,p,b,Is,ys,fs,h1,h2,h3,h4,h5,h6,h7,h8,h9,h10,h11⟩
 exact⟨k,p,b,Is,ys,fs,h1,h2,h3,h4,h5,h6,h7,h8,h9,h10,h11.mon hq hx⟩
theorem ok_refuse_islands(T:Txt K mg t):FnOk P w K mg base (CX1 P w) 54 t.f_refuse_islands t.d_refuse_islands ["width","islands","ferry_names"] (liSpX K Z0S):=by
 refine T.q_refuse_islands.F.okX (G:=H_refuse_islands) sc_refuse_islands (Z0M (Φ:=[("refuse_name",Z0k)]) (Z0N T) (Z0g T) rfl (fMc ⟨Z1l,(fun _ h=>nomatch h)⟩) (fMc ⟨⟨_,_,_,(FnOk.mono (ok_refuse_name T) (by decide)),T.q_refuse_name.m,T.q_refuse_name.F.kp,T.q_refuse_name.b⟩,(fun _ h=>nomatch h)⟩):Fts P w K mg base 53 G_refuse_islands [("refuse_name",Z0k)]) (mkFtX (Ψ:=[("refuse_island",Z17)]) rfl (fMc ⟨mon_sp_refuse_island,(fun _ h=>nomatch h)⟩) (fMc ⟨⟨_,_,_,(FnOk.mono (ok_refuse_island T) (by decide)),T.q_refuse_island.m,T.q_refuse_island.F.kp,T.q_refuse_island.b⟩,(fun _ h=>nomatch h)⟩):FtX P w K mg base 53 ["refuse_island"] [("refuse_island",Z17)]) T.ex Z1B ck_refuse_islands (fun vs M Q X h=>?_) (fun vs M Q X h=>?_)
 ·obtain⟨k,p,b,Is,ys,fs,rfl,_⟩:=h;rfl
 obtain⟨k,p,f,Is,ys,fs,rfl,hk,hp,hI,h5,hf6,hf,nd,hg,ok,q1,q2⟩:=h
 show wXs _ _ _ _ _ [some (.int k),some (.ref p),some (.ref f),none,none] M
 delta Z1B irefuse_islands_0
 repeat (first|walk_at "s"|simp only[hf])
 intro e he
 have s1:=SameM.new he (.lst (fs.map MV.str))
 have he1:updM M e (.lst (fs.map MV.str)) e=some (.lst (fs.map MV.str)):=Z01
 have hp1:=s1 _ _ hp
 have old:∀a o,M a=some o->a≠e:=λa o h=>neM h he
 generalize updM M e _=M1 at*
 delta irefuse_islands_1
 repeat (first|walk_at "s"|simp only[hp1])
 obtain⟨J,hJ⟩:∃J:Nat->Sm->MH->Prop,∀j σ M',J j σ M'↔SameM M M'/\M' e=some (.lst ((fs++(Is.map (·.name)).take j).map MV.str))/\(∀i I,i<j->Is[i]?=some I->Z1I fs I=none)/\∃v,σ=[some (.int k),some (.ref p),some (.ref f),some (.ref e),v]:=⟨_,λ_ _ _=>Y2j⟩
 refine⟨trivial,J,(hJ _ _ _).mpr ⟨s1,by simpa using he1,λi I z=>by lia,_,rfl⟩,λj σ M' h=>((hJ _ _ _).mp h).1 _ _ hp,?_,?_⟩
 ·rintro j y σ M' hy h
  obtain⟨s2,he2,hs,v,rfl⟩:=(hJ _ _ _).mp h
  have hy:ys[j]?=some y:=hy
  have hj:j<Is.length:=by rw[<- hI.1];exact(Y07.mp hy).1
  have hi:Is[j]?=some Is[j]:=Y02 hj
  have hz:(Is.map (·.name))[j]?=some Is[j].name:=by rw[Y0b,hi];rfl
  have hm:=Y0u hj
  obtain⟨a,b,rfl,_⟩:=(hI.keep s2).2 j Is[j] y hi hy
  have nin:Is[j].name∉fs++(Is.map (·.name)).take j:=by
   rw[Y1S]at nd
   intro z
   rcases Y0z.mp z with z|z
   ·exact nd.2.2 _ z _ (Y0E.mpr ⟨_,hm,rfl⟩) rfl
   ·exact not_taken nd.2.1 hz z
  delta irefuse_islands_2
  walk_at "s"
  refine⟨Is[j].name,e,fs++(Is.map (·.name)).take j,rfl,he2,hg _ hm,nin,λM3 s3=>?_⟩
  have he3:=s3 _ _ he2
  walk_at "s"
  delta irefuse_islands_3
  repeat (first|walk_at "s"|simp only[he3,Y03,Y0o,Y0p])
  refine⟨⟨_,rfl⟩,by lia,?_⟩
  have s4:SameM M (updM M3 e (.lst ((fs++(Is.map (·.name)).take j).map MV.str++[.str Is[j].name]))):=λa o h=>by rw[Z0m (old a o h)];exact s3 _ _ (s2 _ _ h)
  have he4:updM M3 e (.lst ((fs++(Is.map (·.name)).take j).map MV.str++[.str Is[j].name])) e=some (.lst ((fs++(Is.map (·.name)).take (j+1)).map MV.str)):=by
   rw[Z01,Y0Z,Y0Z,Y1n,take_map hz]
  generalize updM M3 e _=M4 at*
  delta irefuse_islands_4
  walk_at "s"
  refine⟨k,Is[j],_,f,fs,rfl,hk,(hI.keep s4).2 j _ _ hi hy,s4 _ _ hf,ok _ hm,λM5 s5 e=>(hJ _ _ _).mpr ⟨s4.trans s5,s5 _ _ he4,λi I hi' hy2=>?_,_,rfl⟩,λM5 c s5 e=>q2 _ _ (s4.trans s5) (find_at hi e hs)⟩
  rcases Y26.mp hi' with l|l
  ·exact hs i I l hy2
  ·subst l
   rw[hi]at hy2
   exact Y0w hy2▸e
 ·rintro σ M' h
  obtain⟨s2,_,hs,_⟩:=(hJ _ _ _).mp h
  refine q1 _ s2 (find_none λI hm=>?_)
  obtain⟨i,hi,rfl⟩:=Y10 hm
  exact hs i _ (by show i<ys.length;rw[hI.1];exact hi) (Y02 hi)
noncomputable abbrev Z0O:SpM:=λvs M Q=>∃(x:Fer) (e:Addr) (zs:List Str),vs=[x.mv,.ref e]/\M e=some (.lst (zs.map MV.str))/\FerOk zs x/\Q .non M
theorem mon_sp_refuse_ferry:MonW Z0O:=by walk_at "m"
theorem ok_refuse_ferry(T:Txt K mg t):FnOk P w K mg base CX0 2 t.f_refuse_ferry t.d_refuse_ferry ["ferry","island_names"] (liSp K Z0O):=by
 refine T.q_refuse_ferry.F.okM sc_refuse_ferry (Z0M (Φ:=[("refuse_unknown",Z0L)]) (Z0N T) (Z0g T) rfl (fMc ⟨mon_sp0_refuse_unknown,(fun _ h=>nomatch h)⟩) (fMc ⟨⟨_,_,_,(FnOk.mono (ok0_refuse_unknown T) (by decide)),T.q_refuse_unknown.m,T.q_refuse_unknown.F.kp,T.q_refuse_unknown.b⟩,(fun _ h=>nomatch h)⟩):Fts P w K mg base 1 G_refuse_ferry [("refuse_unknown",Z0L)]) ir_refuse_ferry ck_refuse_ferry (fun vs M Q h=>?_) (fun vs M Q h=>?_)
 ·obtain⟨x,a,zs,rfl,_⟩:=h;rfl
 obtain⟨x,a,zs,rfl,ha,ok,q⟩:=h
 show wSs _ _ _ [some (.tup [.str x.name,.str x.giver,.str x.taker,.int x.k,.int x.st]),some (.ref a)] M
 have k3:=ok.k3
 have t1:=ok.s1
 have t3:=ok.s3
 delta ir_refuse_ferry irefuse_ferry_0
 walk_at "s"
 refine⟨_,a,zs,rfl,ha,ok.g,?_⟩
 walk_at "s"
 delta irefuse_ferry_1
 walk_at "s"
 refine⟨_,a,zs,rfl,ha,ok.t,?_⟩
 walk_at "s"
 delta irefuse_ferry_2
 walk_at "s"
 rw[if_neg ok.ne]
 delta irefuse_ferry_4
 walk_at "s"
 rw[if_pos (by lia:(0:Int)≤(x.k:Int))]
 rw[if_neg (by lia:¬¬(x.k:Int)≤3)]
 delta irefuse_ferry_6
 walk_at "s"
 rw[if_pos (by lia:(1:Int)≤(x.st:Int))]
 rw[if_neg (by lia:¬¬(x.st:Int)≤3)]
 exact q
theorem putAll_val{F:List Fer}{g:Fer->Str}:∀{c:List (Key×MV)},(F.map (·.name)).Nodup->(∀x∈F,valM c (Y1r x.name)=none)->∀x∈F,valM ((F.map λy=>((Y1r y.name:Key),MV.str (g y))).foldl (λc z=>putM c z.1 z.2) c) (Y1r x.name)=some (.str (g x)):=by
 have stay:∀(F:List Fer) (c:List (Key×MV)) (z:Str),(∀y∈F,y.name≠z)->valM ((F.map λy=>((Y1r y.name:Key),MV.str (g y))).foldl (λc z=>putM c z.1 z.2) c) (Y1r z)=valM c (Y1r z):=by
  intro F
  induction F with
  |nil=>intro c z _;rfl
  |cons y r ih=>
   intro c z h
   rw[Y0d,Y2c,ih _ _ (λy hy=>h y (Y0c _ hy)),valM_putM,if_neg (λe=>h y (Y0l ..) (Y3P e).symm)]
 induction F with
 |nil=>intro c _ _ x hx;cases hx
 |cons y r ih=>
  intro c nd h x hx
  rw[Y0d,Y19]at nd
  rw[Y0d,Y2c]
  rcases Y05.mp hx with rfl|hx
  ·rw[stay _ _ _ (λz hz e=>nd.1 (Y0E.mpr ⟨z,hz,e⟩)),valM_putM,if_pos rfl]
  ·refine ih nd.2 (λz hz=>?_) x hx
   rw[valM_putM,if_neg (λe=>nd.1 (Y0E.mpr ⟨z,hz,Y3P e⟩))]
   exact h z (Y0c _ hz)
noncomputable def dirK(F:List Fer)(g:Fer->Str):List (Key×MV):=putAllM (F.map λy=>((Y1r y.name:Key),MV.str (g y)))
theorem dirK_val{F:List Fer}{g:Fer->Str}(nd:(F.map (·.name)).Nodup){x:Fer}(hx:x∈F):valM (dirK F g) (Y1r x.name)=some (.str (g x)):=putAll_val nd (λ_ _=>rfl) x hx
noncomputable abbrev Z0n:SpM:=λvs M Q=>∃(z:Str) (S:Stp) (a b:Addr) (F:List Fer),vs=[.str z,S.mv,.ref a,.ref b]/\M a=some (.dic (dirK F (·.giver)))/\M b=some (.dic (dirK F (·.taker)))/\(F.map (·.name)).Nodup/\EndOk F z S/\(∀f,(∃x,S=.take f x)\/(∃U,S=.give f U)->f∈F.map (·.name))/\Q .non M
theorem Z1j:MonW Z0n:=by walk_at "m"
theorem ok_refuse_wrong_end(T:Txt K mg t):FnOk P w K mg base CX0 1 t.f_refuse_wrong_end t.d_refuse_wrong_end ["name","step","givers","takers"] (liSp K Z0n):=by
 refine T.q_refuse_wrong_end.F.okM sc_refuse_wrong_end (Z0M (Φ:=[]) (Z0N T) (Z0g T) rfl (λ_ h=>nomatch h) (λ_ h=>nomatch h):Fts P w K mg base 0 G_refuse_wrong_end []) Z1a ck_refuse_wrong_end (λvs M Q h=>?_) (λvs M Q h=>?_)
 ·obtain⟨z,S,a,b,F,rfl,_⟩:=h;rfl
 obtain⟨z,S,a,b,F,rfl,ha,hb,nd,hE,hF,q⟩:=h
 show wSs _ _ _ [some (.str z),some S.mv,some (.ref a),some (.ref b)] M
 delta Z1a irefuse_wrong_end_0
 cases S with
 |take f x=>
  obtain⟨y,hy,rfl⟩:=Y0E.mp (hF f (.inl ⟨x,rfl⟩))
  have v:=dirK_val (g:=(·.taker)) nd hy
  have e:=hE y hy rfl
  repeat (first|walk_at "s"|simp only[st_take,hb,v,e])
  delta Z0r
  repeat (first|walk_at "s"|simp only[st_take])
  exact q
 |give f U=>
  obtain⟨y,hy,rfl⟩:=Y0E.mp (hF f (.inr ⟨U,rfl⟩))
  have v:=dirK_val (g:=(·.giver)) nd hy
  have e:=hE y hy rfl
  repeat (first|walk_at "s"|simp only[st_give])
  delta Z0r
  repeat (first|walk_at "s"|simp only[st_give,ha,v,e])
  exact q
 |put f U=>
  repeat (first|walk_at "s"|simp only[st_put])
  delta Z0r
  repeat (first|walk_at "s"|simp only[st_put])
  exact q
 |jump U i=>
  repeat (first|walk_at "s"|simp only[st_jump])
  delta Z0r
  repeat (first|walk_at "s"|simp only[st_jump])
  exact q
theorem names_of_step{fs ns:List Str}{n:Nat}{S:Stp}(h:StpIn fs ns n S):∀f,(∃x,S=.take f x)\/(∃U,S=.give f U)->f∈fs:=by
 rintro f (⟨x,rfl⟩|⟨U,rfl⟩)
 ·exact h.1
 ·exact h.1
noncomputable abbrev Z0i:SpM:=λvs M Q=>∃(p f:Addr) (ys:List MV) (Is:List Isl) (F:List Fer),vs=[.ref p,.ref f]/\M p=some (.lst ys)/\IslsIn M Is ys/\Is.length≤5/\M f=some (.lst (F.map Fer.mv))/\F.length≤6/\(F.map (·.name)).Nodup/\
 (∀I∈Is,I.stps.length≤12/\∀s∈I.stps,EndOk F I.name s/\∃ns n,StpIn (F.map (·.name)) ns n s)/\∀M',SameM M M'->Q .non M'
theorem Z1d:MonW Z0i:=by walk_at "m"
theorem dir_pairs(F:List Fer)(g:Fer->Str):(F.map λx=>MV.tup [.str x.name,.str (g x)])=(F.map λy=>((Y1r y.name:Key),MV.str (g y))).map prM:=by rw[Y12];rfl
theorem ok_refuse_wrong_ends(T:Txt K mg t):FnOk P w K mg base CX0 2 t.f_refuse_wrong_ends t.d_refuse_wrong_ends ["islands","ferries"] (liSp K Z0i):=by
 refine T.q_refuse_wrong_ends.F.okM sc_refuse_wrong_ends (Z0M (Φ:=[("refuse_wrong_end",Z0n)]) (Z0N T) (Z0g T) rfl (fMc ⟨Z1j,(fun _ h=>nomatch h)⟩) (fMc ⟨⟨_,_,_,(FnOk.mono (ok_refuse_wrong_end T) (by decide)),T.q_refuse_wrong_end.m,T.q_refuse_wrong_end.F.kp,T.q_refuse_wrong_end.b⟩,(fun _ h=>nomatch h)⟩):Fts P w K mg base 1 G_refuse_wrong_ends [("refuse_wrong_end",Z0n)]) Z0W ck_refuse_wrong_ends (fun vs M Q h=>?_) (fun vs M Q h=>?_)
 ·obtain⟨p,f,ys,Is,F,rfl,_⟩:=h;rfl
 obtain⟨p,f,ys,Is,F,rfl,hp,hI,h5,hf,h6,nd,hE,q⟩:=h
 show wSs _ _ _ [some (.ref p),some (.ref f),none,none,none,none] M
 have hΦ:=(mkMon (Φ:=[("refuse_wrong_end",Z0n)]) (fMc ⟨Z1j,(fun _ h=>nomatch h)⟩))
 delta Z0W Z24
 walk_at "s"
 refine Z14 F Fer.mv (λx=>.tup [.str x.name,.str x.giver]) ?_ ?_ hΦ λD hD=>?_
 ·repeat (first|walk_at "s"|simp only[hf])
  exact⟨rfl,by lia,hf⟩
 ·intro x hx M' s
  simp only[sCm,Y0d,Y0W,Y0A,Y0B,Y0L,Y0P]
  repeat (first|walk_at "s"|simp only[Fer.mv])
  try exact⟨rfl,rfl⟩
 rw[dir_pairs F (·.giver)]
 have s1:=SameM.new hD (.lst ((F.map λy=>((Y1r y.name:Key),MV.str y.giver)).map prM))
 have d1:updM M D (.lst ((F.map λy=>((Y1r y.name:Key),MV.str y.giver)).map prM)) D=some (.lst ((F.map λy=>((Y1r y.name:Key),MV.str y.giver)).map prM)):=Z01
 generalize updM M D _=M1 at*
 walk_at "s"
 refine⟨_,d1,λa ha=>?_⟩
 have s2:=s1.trans (SameM.new ha (.dic (dirK F (·.giver))))
 have ha2:updM M1 a (.dic (dirK F (·.giver))) a=some (.dic (dirK F (·.giver))):=Z01
 change wSs _ _ _ _ (updM M1 a (.dic (dirK F (·.giver))))
 generalize updM M1 a _=M2 at*
 have hf2:=s2 _ _ hf
 delta Z23
 walk_at "s"
 refine Z14 F Fer.mv (λx=>.tup [.str x.name,.str x.taker]) ?_ ?_ hΦ λD2 hD2=>?_
 ·repeat (first|walk_at "s"|simp only[hf2])
  exact⟨rfl,by lia,hf2⟩
 ·intro x hx M' s
  simp only[sCm,Y0d,Y0W,Y0A,Y0B,Y0L,Y0P]
  repeat (first|walk_at "s"|simp only[Fer.mv])
  try exact⟨rfl,rfl⟩
 rw[dir_pairs F (·.taker)]
 have s3:=SameM.new hD2 (.lst ((F.map λy=>((Y1r y.name:Key),MV.str y.taker)).map prM))
 have d3:updM M2 D2 (.lst ((F.map λy=>((Y1r y.name:Key),MV.str y.taker)).map prM)) D2=some (.lst ((F.map λy=>((Y1r y.name:Key),MV.str y.taker)).map prM)):=Z01
 generalize updM M2 D2 _=M3 at*
 walk_at "s"
 refine⟨_,d3,λb hb=>?_⟩
 have s4:=s3.trans (SameM.new hb (.dic (dirK F (·.taker))))
 have hb4:updM M3 b (.dic (dirK F (·.taker))) b=some (.dic (dirK F (·.taker))):=Z01
 change wSs _ _ _ _ (updM M3 b (.dic (dirK F (·.taker))))
 generalize updM M3 b _=M4 at*
 have ha4:=s4 _ _ ha2
 have s5:=s2.trans s4
 have hp4:=s5 _ _ hp
 have hI4:=hI.keep s5
 delta Z22
 repeat (first|walk_at "s"|simp only[hp4])
 obtain⟨J,hJ⟩:∃J:Nat->Sm->MH->Prop,∀j σ M',J j σ M'↔M'=M4/\∃v v',σ=[some (.ref p),some (.ref f),some (.ref a),some (.ref b),v,v']:=⟨_,λ_ _ _=>Y2j⟩
 refine⟨J,(hJ _ _ _).mpr ⟨rfl,_,_,rfl⟩,λj σ M' h=>by rw[((hJ _ _ _).mp h).1];exact hp4,?_,?_⟩
 ·rintro j y σ M' hy h
  obtain⟨rfl,v,v',rfl⟩:=(hJ _ _ _).mp h
  obtain⟨I,hm,c,d,rfl,hc,hd⟩:=hI4.mem (Y0C hy)
  obtain⟨l12,hS⟩:=hE I hm
  delta Z21
  repeat (first|walk_at "s"|simp only[hd])
  obtain⟨J2,hJ2⟩:∃J2:Nat->Sm->MH->Prop,∀j σ M,J2 j σ M↔M=M'/\∃v',σ=[some (.ref p),some (.ref f),some (.ref a),some (.ref b),some (.tup [.str I.name,.ref c,.ref d]),v']:=⟨_,λ_ _ _=>Y2j⟩
  refine⟨J2,(hJ2 _ _ _).mpr ⟨rfl,_,rfl⟩,λj σ M h=>by rw[((hJ2 _ _ _).mp h).1];exact hd,?_,?_⟩
  ·rintro i x σ M'' hx h2
   obtain⟨rfl,v',rfl⟩:=(hJ2 _ _ _).mp h2
   obtain⟨hi,rfl⟩:=Z18 hx
   have hi:i<I.stps.length:=hi
   obtain⟨e1,ns,n,e2⟩:=hS _ (Y0u hi)
   delta Z20
   walk_at "s"
   refine⟨I.name,I.stps[i],a,b,F,rfl,ha4,hb4,nd,e1,names_of_step e2,?_⟩
   walk_at "s"
   exact(hJ2 _ _ _).mpr ⟨rfl,_,rfl⟩
  ·rintro σ M'' h2
   obtain⟨rfl,v',rfl⟩:=(hJ2 _ _ _).mp h2
   try walk_at "s"
   exact(hJ _ _ _).mpr ⟨rfl,_,_,rfl⟩
 ·rintro σ M' h
  obtain⟨rfl,_⟩:=(hJ _ _ _).mp h
  exact q _ s5
theorem FroD.up{M:MH}:∀{n:Nat} {v v':MV},FroD n M v v'->FroD (n+1) M v v'
 |0,_,_,h=>.inl h
 |n+1,v,v',h=>by
  rcases h with h|⟨ps,h1,h2,h3,h4⟩
  ·exact .inl h
  ·exact .inr ⟨ps,h1,h2,h3,λp hp=>(h4 p hp).up⟩
theorem FroD.to{M:MH}{n m:Nat}{v v':MV}(h:FroD n M v v')(l:n≤m):FroD m M v v':=by
 obtain⟨d,rfl⟩:∃d,m=n+d:=⟨m - n,by lia⟩
 clear l
 induction d with
 |zero=>exact h
 |succ d ih=>exact ih.up
theorem fro_str{M:MH}{z:Str}:FroD 0 M (.str z) (.str z):=⟨.inr ⟨z,rfl⟩,rfl⟩
theorem fro_int{M:MH}{i:Int}:FroD 0 M (.int i) (.int i):=⟨.inl ⟨i,rfl⟩,rfl⟩
theorem fro_tup{M:MH}{n:Nat}{xs:List MV}(l:xs.length≤1000)(h:∀x∈xs,FroD n M x x):FroD (n+1) M (.tup xs) (.tup xs):=by
 have e1:(xs.map λx=>(x,x)).map (·.1)=xs:=by rw[Y12];exact Y3o xs
 have e2:(xs.map λx=>(x,x)).map (·.2)=xs:=by rw[Y12];exact Y3o xs
 refine .inr ⟨xs.map λx=>(x,x),.inl (by rw[e1]),by rw[e2],by rw[Y03];exact l,λp hp=>?_⟩
 obtain⟨x,hx,rfl⟩:=Y0E.mp hp
 exact h x hx
theorem fro_lst{M:MH}{n:Nat}{a:Addr}{xs:List MV}(e:M a=some (.lst xs))(l:xs.length≤1000)(h:∀x∈xs,FroD n M x x):FroD (n+1) M (.ref a) (.tup xs):=by
 have e1:(xs.map λx=>(x,x)).map (·.1)=xs:=by rw[Y12];exact Y3o xs
 have e2:(xs.map λx=>(x,x)).map (·.2)=xs:=by rw[Y12];exact Y3o xs
 refine .inr ⟨xs.map λx=>(x,x),.inr ⟨a,rfl,by rw[e1];exact e⟩,by rw[e2],by rw[Y03];exact l,λp hp=>?_⟩
 obtain⟨x,hx,rfl⟩:=Y0E.mp hp
 exact h x hx
theorem tm_fro{M:MH}:∀U:Tm,FroD U.depth M U.mv U.mv
 |.num n=>fro_tup (xs:=[.str "num",.int n]) (by simp) (by
   intro x hx
   simp only[Y05,Y0e,or_false]at hx
   rcases hx with rfl|rfl
   ·exact fro_str
   ·exact fro_int)
 |.var z=>fro_tup (xs:=[.str "var",.str z]) (by simp) (by
   intro x hx
   simp only[Y05,Y0e,or_false]at hx
   rcases hx with rfl|rfl
   ·exact fro_str
   ·exact fro_str)
 |.two f a b=>by
  have ha:=tm_fro (M:=M) a
  have hb:=tm_fro (M:=M) b
  show FroD (1+max a.depth b.depth) M (.tup [.str f.str,a.mv,b.mv]) (.tup [.str f.str,a.mv,b.mv])
  rw[Nat.add_comm]
  refine fro_tup (by simp) λx hx=>?_
  simp only[Y05,Y0e,or_false]at hx
  rcases hx with rfl|rfl|rfl
  ·exact fro_str.to (Y1x _)
  ·exact ha.to (by lia)
  ·exact hb.to (by lia)
 |.pick c a b=>by
  have hc:=tm_fro (M:=M) c
  have ha:=tm_fro (M:=M) a
  have hb:=tm_fro (M:=M) b
  show FroD (1+max c.depth (max a.depth b.depth)) M (.tup [.str "pick",c.mv,a.mv,b.mv]) (.tup [.str "pick",c.mv,a.mv,b.mv])
  rw[Nat.add_comm]
  refine fro_tup (by simp) λx hx=>?_
  simp only[Y05,Y0e,or_false]at hx
  rcases hx with rfl|rfl|rfl|rfl
  ·exact fro_str.to (Y1x _)
  ·exact hc.to (by lia)
  ·exact ha.to (by lia)
  ·exact hb.to (by lia)
theorem stp_fro{M:MH}{fs ns:List Str}{n:Nat}{S:Stp}(h:StpIn fs ns n S):FroD 9 M S.mv S.mv:=by
 cases S with
 |take f x=>
  refine fro_tup (xs:=[.str "take",.str f,.str x]) (by simp) fun v hv=>?_
  simp only[Y05,Y0e,or_false]at hv
  rcases hv with rfl|rfl|rfl<;>exact fro_str.to (by decide)
 |give f U=>
  refine fro_tup (xs:=[.str "give",.str f,U.mv]) (by simp) fun v hv=>?_
  simp only[Y05,Y0e,or_false]at hv
  rcases hv with rfl|rfl|rfl
  ·exact fro_str.to (by decide)
  ·exact fro_str.to (by decide)
  ·exact(tm_fro U).to h.2.1
 |put f U=>
  refine fro_tup (xs:=[.str "put",.str f,U.mv]) (by simp) fun v hv=>?_
  simp only[Y05,Y0e,or_false]at hv
  rcases hv with rfl|rfl|rfl
  ·exact fro_str.to (by decide)
  ·exact fro_str.to (by decide)
  ·exact(tm_fro U).to h.2.1
 |jump U i=>
  refine fro_tup (xs:=[.str "jump",U.mv,.int i]) (by simp) fun v hv=>?_
  simp only[Y05,Y0e,or_false]at hv
  rcases hv with rfl|rfl|rfl
  ·exact fro_str.to (by decide)
  ·exact(tm_fro U).to h.1.1
  ·exact fro_int.to (by decide)
theorem isl_fro{M:MH}{k:Nat}{fs:List Str}{I:Isl}{y:MV}(ok:IslOk k fs I)(h:IslIn M I y):FroD 11 M y I.mv:=by
 obtain⟨a,b,rfl,ha,hb⟩:=h
 have l1:=ok.nv
 have l2:=ok.ns
 refine .inr ⟨[(.str I.name,.str I.name),(.ref a,.tup (I.prs.map prV)),(.ref b,.tup (I.stps.map Stp.mv))],.inl rfl,rfl,by simp,λp hp=>?_⟩
 simp only[Y05,Y0e,or_false]at hp
 rcases hp with rfl|rfl|rfl
 ·exact fro_str.to (by decide)
 ·refine fro_lst ha (by rw[Y03];lia) λx hx=>?_
  obtain⟨q,_,rfl⟩:=Y0E.mp hx
  refine(fro_tup (n:=0) (xs:=[.str q.1,.int q.2]) (by simp) λv hv=>?_).to (by decide)
  simp only[Y05,Y0e,or_false]at hv
  rcases hv with rfl|rfl
  ·exact fro_str
  ·exact fro_int
 ·refine fro_lst hb (by rw[Y03];lia) λx hx=>?_
  obtain⟨S,hS,rfl⟩:=Y0E.mp hx
  exact stp_fro (ok.st S hS)
theorem fer_fro{M:MH}(f:Fer):FroD 1 M f.mv f.mv:=by
 refine fro_tup (xs:=[.str f.name,.str f.giver,.str f.taker,.int f.k,.int f.st]) (by simp) λv hv=>?_
 simp only[Y05,Y0e,or_false]at hv
 rcases hv with rfl|rfl|rfl|rfl|rfl
 ·exact fro_str
 ·exact fro_str
 ·exact fro_str
 ·exact fro_int
 ·exact fro_int
theorem isls_fro{M:MH}{k:Nat}{fs:List Str}{Is:List Isl}{ys:List MV}{p:Addr}(hp:M p=some (.lst ys))(h:IslsIn M Is ys)(l:Is.length≤5)(ok:∀I∈Is,IslOk k fs I):FroD 12 M (.ref p) (.tup (Is.map Isl.mv)):=by
 have hl:=h.1
 have e1:(ys.zip (Is.map Isl.mv)).map (·.1)=ys:=List.map_fst_zip (by rw[Y03];lia)
 have e2:(ys.zip (Is.map Isl.mv)).map (·.2)=Is.map Isl.mv:=Y31 (by rw[Y03];lia)
 refine .inr ⟨ys.zip (Is.map Isl.mv),.inr ⟨p,rfl,by rw[e1];exact hp⟩,by rw[e2],by rw[Y1D,Y03];lia,λq hq=>?_⟩
 obtain⟨i,hi,rfl⟩:=Y10 hq
 rw[Y1D,Y03]at hi
 have hi1:i<ys.length:=by lia
 have hi2:i<Is.length:=by lia
 rw[Y32,List.getElem_map]
 exact isl_fro (ok _ (Y0u hi2)) (h.2 i _ _ (Y02 hi2) (Y02 hi1))
noncomputable def fstM:MV->MV
 |.tup (x::_)=>x
 |v=>v
structure Wld.Pre (W:Wld):Prop where
 w1:1≤W.w
 w2:W.w≤64
 i5:W.isl.length≤5
 f6:W.fer.length≤6
 fg:∀z∈W.fns,Z1Z z
 ig:∀z∈W.ins,Z1Z z
 nd:(W.fns++W.ins).Nodup
 io:∀I∈W.isl,IslPre W.w W.fns I
 fo:∀f∈W.fer,FerOk W.ins f
 en:∀I∈W.isl,∀s∈I.stps,EndOk W.fer I.name s
noncomputable def Wld.fault(W:Wld):Option Str:=W.isl.findSome? (Z1I W.fns)
theorem Wld.Pre.good{W:Wld}(p:W.Pre)(e:W.fault=none):W.Good:=⟨p.w1,p.w2,p.i5,p.f6,p.fg,p.ig,p.nd,λI hI=>isl_ok (p.io I hI) (all_of_find e I hI),p.fo,p.en⟩
noncomputable abbrev sp_made:SpX:=λvs M Q X=>∃(p f:Addr) (ys:List MV) (W:Wld),vs=[.int W.w,.ref p,.ref f]/\M p=some (.lst ys)/\IslsIn M W.isl ys/\M f=some (.lst (W.fer.map Fer.mv))/\W.Pre/\Ans W.fault M W.mv Q X
theorem mon_sp_made:MonX sp_made:=by
 rintro vs M Q Q' X X' hq hx ⟨p,f,ys,W,h1,h2,h3,h4,h5,h6⟩
 exact⟨p,f,ys,W,h1,h2,h3,h4,h5,h6.mon hq hx⟩
theorem ok_made(T:Txt K mg t):FnOk P w K mg base (CX1 P w) 56 t.f_made t.d_made ["width","islands","ferries"] (liSpX K sp_made):=by
 refine T.q_made.F.okX (G:=H_made) sc_made (Z0M (Φ:=[("frozen",(Z0D 13)),("is_width",Z27),("refuse_ferry",Z0O),("refuse_ferry_names",Z0h),("refuse_wrong_ends",Z0i)]) (Z0N T) (Z0g T) rfl (fMc ⟨(Z26 _),(fMc ⟨mon_sp_is_width,(fMc ⟨mon_sp_refuse_ferry,(fMc ⟨Z11,(fMc ⟨Z1d,(fun _ h=>nomatch h)⟩)⟩)⟩)⟩)⟩) (fMc ⟨⟨_,_,_,FnOk.mono (ok_frozen T 13) (by decide),T.q_frozen.m,T.q_frozen.F.kp,T.q_frozen.b⟩,(fMc ⟨⟨_,_,_,FnOk.mono (ok_is_width T) (by decide),T.q_is_width.m,T.q_is_width.F.kp,T.q_is_width.b⟩,(fMc ⟨⟨_,_,_,FnOk.mono (ok_refuse_ferry T) (by decide),T.q_refuse_ferry.m,T.q_refuse_ferry.F.kp,T.q_refuse_ferry.b⟩,(fMc ⟨⟨_,_,_,FnOk.mono (ok_refuse_ferry_names T) (by decide),T.q_refuse_ferry_names.m,T.q_refuse_ferry_names.F.kp,T.q_refuse_ferry_names.b⟩,(fMc ⟨⟨_,_,_,FnOk.mono (ok_refuse_wrong_ends T) (by decide),T.q_refuse_wrong_ends.m,T.q_refuse_wrong_ends.F.kp,T.q_refuse_wrong_ends.b⟩,(fun _ h=>nomatch h)⟩)⟩)⟩)⟩)⟩):Fts P w K mg base 55 G_made [("frozen",(Z0D 13)),("is_width",Z27),("refuse_ferry",Z0O),("refuse_ferry_names",Z0h),("refuse_wrong_ends",Z0i)]) (mkFtX (Ψ:=[("refuse_islands",Z0S)]) rfl (fMc ⟨mon_sp_refuse_islands,(fun _ h=>nomatch h)⟩) (fMc ⟨⟨_,_,_,(FnOk.mono (ok_refuse_islands T) (by decide)),T.q_refuse_islands.m,T.q_refuse_islands.F.kp,T.q_refuse_islands.b⟩,(fun _ h=>nomatch h)⟩):FtX P w K mg base 55 ["refuse_islands"] [("refuse_islands",Z0S)]) T.ex ir_made ck_made (fun vs M Q X h=>?_) (fun vs M Q X h=>?_)
 ·obtain⟨p,f,ys,W,rfl,_⟩:=h;rfl
 obtain⟨p,f,ys,W,rfl,hp,hI,hf,B,q1,q2⟩:=h
 have hΦ:=mkMon (Φ:=[("frozen",Z0D 13),("is_width",Z27),("refuse_ferry",Z0O),("refuse_ferry_names",Z0h),("refuse_wrong_ends",Z0i)]) (fMc ⟨Z26 13,fMc ⟨mon_sp_is_width,fMc ⟨mon_sp_refuse_ferry,fMc ⟨Z11,fMc ⟨Z1d,fun _ h=>nomatch h⟩⟩⟩⟩⟩)
 show wXs _ _ _ _ _ [some (.int W.w),some (.ref p),some (.ref f),none,none] M
 have w1:=B.w1
 have w2:=B.w2
 have i5:=B.i5
 have f6:=B.f6
 have hl:=hI.1
 have nd:=Y1S.mp B.nd
 delta ir_made imade_0
 walk_at "s"
 refine⟨W.w,rfl,by lia,by lia,?_⟩
 walk_at "s"
 delta imade_2
 repeat (first|walk_at "s"|simp only[hp])
 refine Z13 (λz=>by lia) (λ_=>?_)
 delta imade_4
 repeat (first|walk_at "s"|simp only[hf,Y03])
 refine Z13 (λz=>by lia) (λ_=>?_)
 delta imade_6
 walk_at "s"
 refine⟨f,W.fer,rfl,hf,f6,nd.1,λx hx=>B.fg _ (Y0E.mpr ⟨x,hx,rfl⟩),λM1 s1=>?_⟩
 walk_at "s"
 have hf1:=s1 _ _ hf
 delta imade_7
 walk_at "s"
 refine Z14 W.fer Fer.mv (λx=>.str x.name) ?_ ?_ hΦ λD hD=>?_
 ·repeat (first|walk_at "s"|simp only[hf1])
  exact⟨rfl,by lia,hf1⟩
 ·intro x hx M' s
  simp only[sCm,Y0d,Y0W,Y0A,Y0B,Y0L,Y0P]
  repeat (first|walk_at "s"|simp only[Fer.mv])
  try exact⟨rfl,rfl⟩
 have eF:(W.fer.map λx=>MV.str x.name)=W.fns.map MV.str:=by unfold Wld.fns;rw[Y12];rfl
 rw[eF]
 have s2:=s1.trans (SameM.new hD (.lst (W.fns.map MV.str)))
 have hD2:updM M1 D (.lst (W.fns.map MV.str)) D=some (.lst (W.fns.map MV.str)):=Z01
 generalize updM M1 D _=M2 at*
 try walk_at "s"
 refine⟨W.w,p,D,W.isl,ys,W.fns,rfl,w2,s2 _ _ hp,hI.keep s2,i5,by unfold Wld.fns;rw[Y03];exact f6,hD2,B.nd,λI hi=>B.ig _ (Y0E.mpr ⟨I,hi,rfl⟩),B.io,λM3 s3 e=>?_,λM3 c s3 e=>q2 _ _ (s2.trans s3) e⟩
 have G:=B.good e
 have s4:=s2.trans s3
 have hp3:=s4 _ _ hp
 have hf3:=s4 _ _ hf
 have hI3:=hI.keep s4
 walk_at "s"
 delta imade_8
 walk_at "s"
 refine Z14 ys (λy=>y) fstM ?_ ?_ hΦ λD hD=>?_
 ·repeat (first|walk_at "s"|simp only[hp3])
  exact⟨by simp[Src.items],by lia,hp3⟩
 ·intro y hy M' s
  obtain⟨I,_,a,b,rfl,_⟩:=hI3.mem hy
  simp only[sCm,Y0d,Y0W,Y0A,Y0B,Y0L,Y0P]
  walk_at "s"
  rfl
 have eI:ys.map fstM=W.ins.map MV.str:=hI.fst λz r=>rfl
 rw[eI]
 have s5:=s4.trans (SameM.new hD (.lst (W.ins.map MV.str)))
 have hD5:updM M3 D (.lst (W.ins.map MV.str)) D=some (.lst (W.ins.map MV.str)):=Z01
 generalize updM M3 D _=M5 at*
 have hf5:=s5 _ _ hf
 delta imade_9
 repeat (first|walk_at "s"|simp only[hf5])
 obtain⟨J,hJ⟩:∃J:Nat->Sm->MH->Prop,∀j σ M',J j σ M'↔M'=M5/\∃v,σ=[some (.int W.w),some (.ref p),some (.ref f),some (.ref D),v]:=⟨_,λ_ _ _=>Y2j⟩
 refine⟨J,(hJ _ _ _).mpr ⟨rfl,_,rfl⟩,λj σ M' h=>by rw[((hJ _ _ _).mp h).1];exact hf5,?_,?_⟩
 ·rintro j y σ M' hy h
  obtain⟨rfl,v,rfl⟩:=(hJ _ _ _).mp h
  obtain⟨hj,rfl⟩:=Z18 (show(W.fer.map Fer.mv)[j]?=some y from hy)
  have hj:j<W.fer.length:=hj
  delta imade_10
  walk_at "s"
  refine⟨W.fer[j],D,W.ins,rfl,hD5,G.fo _ (Y0u hj),?_⟩
  walk_at "s"
  exact(hJ _ _ _).mpr ⟨rfl,_,rfl⟩
 ·rintro σ M' h
  obtain⟨rfl,v,rfl⟩:=(hJ _ _ _).mp h
  delta imade_11
  walk_at "s"
  refine⟨p,f,ys,W.isl,W.fer,rfl,s5 _ _ hp,hI.keep s5,i5,hf5,f6,nd.1,λI hi=>⟨(G.io I hi).ns,λS hS=>⟨G.en I hi S hS,_,_,(G.io I hi).st S hS⟩⟩,λM6 s6=>?_⟩
  have s7:=s5.trans s6
  walk_at "s"
  delta imade_12
  walk_at "s"
  refine⟨_,W.mv,rfl,?_,λM' s'=>q1 M' (s7.trans s') e⟩
  refine .inr ⟨[(.int W.w,.int W.w),(.ref p,.tup (W.isl.map Isl.mv)),(.ref f,.tup (W.fer.map Fer.mv))],.inl rfl,rfl,by simp,λz hz=>?_⟩
  simp only[Y05,Y0e,or_false]at hz
  rcases hz with rfl|rfl|rfl
  ·exact fro_int.to (by decide)
  ·exact isls_fro (s7 _ _ hp) (hI.keep s7) i5 G.io
  ·refine(fro_lst (n:=1) (s7 _ _ hf) (by rw[Y03];lia) λx hx=>?_).to (by decide)
   obtain⟨y,_,rfl⟩:=Y0E.mp hx
   exact fer_fro y
noncomputable def SrcFrom(S:Src)(M M1:MH):Prop:=(S.okF M1/\M1=M)\/∃a o kvs,S=.dic a o kvs/\M a=some (.dic kvs)/\M1=updM M a (.fdic o kvs)
theorem SrcFrom.free{S:Src}{M M1:MH}(h:SrcFrom S M M1){p:Addr}(hp:M1 p=none):M p=none:=by
 rcases h with⟨_,rfl⟩|⟨a,o,kvs,_,h1,rfl⟩
 ·exact hp
 ·by_cases e:p=a
  ·subst e;rw[Z01]at hp;cases hp
  ·rwa [Z0m e]at hp
theorem SrcFrom.ok{S:Src}{M M1 M2:MH}(h:SrcFrom S M M1)(s:SameM M1 M2):S.ok M2:=by
 rcases h with⟨h1,rfl⟩|⟨a,o,kvs,rfl,h1,rfl⟩
 ·cases S with
  |tup _=>trivial
  |rng _ _=>trivial
  |rst _ _ _=>trivial
  |dic _ _ _=>exact h1.elim
  |str _=>trivial
  |lst a zs=>exact s _ _ h1
 ·exact s _ _ Z01
theorem SrcFrom.thaw{S:Src}{M M1 M2:MH}(h:SrcFrom S M M1)(s:SameM M1 M2):SameM M (S.thaw M2)/\∀a,M1 a=none->(S.thaw M2) a=M2 a:=by
 rcases h with⟨h1,rfl⟩|⟨a,o,kvs,rfl,h1,rfl⟩
 ·rw[thaw_F h1];exact⟨s,λ_ _=>rfl⟩
 ·refine⟨λb u e=>?_,λb hb=>?_⟩
  ·show updM M2 a (.dic kvs) b=_
   by_cases z:b=a
   ·subst z;rw[Z01];rw[h1]at e;exact e
   ·rw[Z0m z];exact s _ _ (by rw[Z0m z];exact e)
  ·show updM M2 a (.dic kvs) b=_
   refine Z0m λz=>?_
   subst z;rw[Z01]at hb;cases hb
theorem comp_new{Φ:List (Str×SpM)}{own:List Str}{fr:List Nat}{src:ISr}{tg:ITg}{elt:IE}{σ:Sm}{M:MH}{Q:QM}{α:Type}(xs:List α)(f:α->MV)(C:α->MV->List Addr->MH->Prop)(Pm:MH->Prop)
  (hC:∀x y N M2 M3,(∀a∈N,M3 a=M2 a)->C x y N M2->C x y N M3)
  (hs:wSr Φ src σ M λS M1=>S.items=xs.map f/\xs.length<sizeLine/\SrcFrom S M M1/\Pm M1)
  (ht:∀x∈xs,∀M1 M',Pm M1->SameM M1 M'->wTg tg (f x) (sCm own fr σ) λσ2=>wE Φ elt σ2 M' λy M2=>SameM M' M2/\∃N:List Addr,N.Nodup/\(∀a∈N,M' a=none/\∃o,M2 a=some o)/\C x y N M2)
  (hΦ:∀(j:Nat) f sp,Φ[j]?=some (f,sp)->MonW sp)
  (q:∀D (ys:List MV) (Ns:List (List Addr)) M',M D=none->SameM M M'->ys.length=xs.length->Ns.length=xs.length->Ns.flatten.Nodup->D∉Ns.flatten->(∀a∈Ns.flatten,M a=none)->
   (∀(j:Nat) x y N,xs[j]?=some x->ys[j]?=some y->Ns[j]?=some N->C x y N M')->M' D=some (.lst ys)->Q (.ref D) M'):wE Φ (.comp own fr src tg .none elt) σ M Q:=by
 rw[e_comp]
 refine mon_sr hΦ src (λS M1 ⟨h1,h2,h3,h4⟩=>?_) hs
 have hl:S.len=xs.length:=by rw[<- S.items_len,h1,Y03]
 refine⟨by rw[hl];exact h2,λD hD=>⟨λi ys M2=>SameM M1 M2/\M2 D=some (.lst ys)/\ys.length=i/\∃Ns:List (List Addr),Ns.length=i/\Ns.flatten.Nodup/\D∉Ns.flatten/\(∀a∈Ns.flatten,M1 a=none/\∃o,M2 a=some o)/\(∀(j:Nat) x y N,xs[j]?=some x->ys[j]?=some y->Ns[j]?=some N->C x y N M2),⟨SameM.new hD _,Z01,rfl,[],rfl,by simp,by simp,by simp,by simp⟩,?_,?_,?_⟩⟩
 ·rintro i ys M2 ⟨s2,d2,e,_⟩
  exact⟨d2,by lia,h3.ok s2⟩
 ·rintro i x ys M2 hx ⟨s2,d2,e,Ns,n1,n2,n3,n4,n5⟩
  rw[h1]at hx
  obtain⟨hi,rfl⟩:=Z18 hx
  refine mon_tg tg (λσ2 h=>?_) (ht xs[i] (Y0u hi) M1 M2 h4 s2)
  rw[wI,if_pos rfl]
  refine Z04 hΦ elt (λy M3 ⟨s3,N,m1,m2,m3⟩=>?_) h
  have dN:D∉N:=λz=>by have:=(m2 _ z).1;rw[d2]at this;cases this
  have keep:∀a,a≠D->updM M3 D (.lst (ys++[y])) a=M3 a:=λa z=>Z0m z
  have fl:(Ns++[N]).flatten=Ns.flatten++N:=by simp
  refine⟨s3 _ _ d2,λa o z=>by rw[Z0m (neM z hD)];exact s3 _ _ (s2 _ _ z),Z01,by simp[e],Ns++[N],by simp[n1],?_,?_,?_,?_⟩
  ·rw[fl,Y1S]
   refine⟨n2,m1,λa ha b hb z=>?_⟩
   subst z
   obtain⟨_,o,ho⟩:=n4 _ ha
   rw[(m2 _ hb).1]at ho;cases ho
  ·rw[fl,Y0z]
   exact λz=>z.elim n3 dN
  ·rw[fl]
   intro a ha
   have aD:a≠D:=λz=>by
    subst z
    rcases Y0z.mp ha with ha|ha
    ·exact n3 ha
    ·exact dN ha
   rw[keep a aD]
   rcases Y0z.mp ha with ha|ha
   ·obtain⟨z1,o,z2⟩:=n4 _ ha
    exact⟨z1,o,s3 _ _ z2⟩
   ·exact⟨s2.free (m2 _ ha).1,(m2 _ ha).2⟩
  ·intro j x' y' N' hxj hy hN
   by_cases hj:j<i
   ·rw[Y0s (by lia)]at hy hN
    refine hC _ _ _ M2 _ (λa ha=>?_) (n5 j x' y' N' hxj hy hN)
    have hm:a∈Ns.flatten:=List.mem_flatten.mpr ⟨N',Y0C hN,ha⟩
    rw[keep a λz=>n3 (z▸hm)]
    obtain⟨_,o,z2⟩:=n4 _ hm
    rw[z2];exact s3 _ _ z2
   ·have hj:j=i:=by
     have:=(Y07.mp hy).1
     simp at this
     lia
    subst hj
    rw[Y0v (by lia),e,Nat.sub_self]at hy
    rw[Y0v (by lia),n1,Nat.sub_self]at hN
    rw[Y02 hi]at hxj
    simp at hxj hy hN
    subst hxj hy hN
    exact hC _ _ _ M3 _ (λa ha=>keep a λz=>dN (z▸ha)) m3
 ·rintro ys M2 ⟨s2,d2,e,Ns,n1,n2,n3,n4,n5⟩
  obtain⟨t1,t2⟩:=h3.thaw s2
  refine q D ys Ns _ (h3.free hD) t1 (by lia) (by lia) n2 n3 (λa ha=>h3.free (n4 a ha).1) (λj x y N a b c=>?_) (by rw[t2 _ hD];exact d2)
  exact hC _ _ _ M2 _ (λz hz=>t2 _ (n4 z (List.mem_flatten.mpr ⟨N,Y0C c,hz⟩)).1) (n5 j x y N a b c)
theorem mem_zip_at{α β:Type}{xs:List α}{ys:List β}{p:α×β}(h:p∈xs.zip ys):∃i:Nat,xs[i]?=some p.1/\ys[i]?=some p.2:=by
 obtain⟨i,hi,rfl⟩:=Y10 h
 rw[Y1D]at hi
 refine⟨i,?_,?_⟩<;>rw[Y32,Y02]
theorem zip_at{α β:Type}{xs:List α}{ys:List β}{i:Nat}{x:α}{y:β}(h1:xs[i]?=some x) (h2:ys[i]?=some y):(xs.zip ys)[i]?=some (x,y):=by
 rw[Y2N];exact⟨h1,h2⟩
noncomputable abbrev sp__law_made:SpX:=λvs M Q X=>∃(W:Wld) (pi pf:Addr) (ys:List MV),vs=[.tup [.int W.w,.ref pi,.ref pf]]/\W.Pre/\M pi=some (.lst ys)/\IslsIn M W.isl ys/\M pf=some (.lst (W.fer.map Fer.mv))/\Ans W.fault M W.mv Q X
theorem mon_sp__law_made:MonX sp__law_made:=by
 rintro vs M Q Q' X X' hq hx ⟨W,pi,pf,ys,h1,h2,h3,h4,h5,h6⟩
 exact⟨W,pi,pf,ys,h1,h2,h3,h4,h5,h6.mon hq hx⟩
theorem ok__law_made(T:Txt K mg t):FnOk P w K mg base (CX1 P w) 57 t.f__law_made t.d__law_made ["parts"] (liSpX K sp__law_made):=by
 refine T.q__law_made.F.okX (G:=H__law_made) sc__law_made (Z0M (Φ:=[]) (Z0N T) (Z0g T) rfl (fun _ h=>nomatch h) (fun _ h=>nomatch h):Fts P w K mg base 56 G__law_made []) (mkFtX (Ψ:=[("made",sp_made)]) rfl (fMc ⟨mon_sp_made,(fun _ h=>nomatch h)⟩) (fMc ⟨⟨_,_,_,(FnOk.mono (ok_made T) (by decide)),T.q_made.m,T.q_made.F.kp,T.q_made.b⟩,(fun _ h=>nomatch h)⟩):FtX P w K mg base 56 ["made"] [("made",sp_made)]) T.ex ir__law_made ck__law_made (fun vs M Q X h=>?_) (fun vs M Q X h=>?_)
 ·obtain⟨_,_,_,_,rfl,_⟩:=h;rfl
 obtain⟨W,pi,pf,ys,rfl,G,hpi,hIs,hpf,q1,q2⟩:=h
 show wXs _ _ _ _ _ [some (.tup [.int W.w,.ref pi,.ref pf]),none] M
 have i5:=G.i5
 have hyl:=hIs.1
 have hΦ:=(mkMon (Φ:=[]) (λ_ h=>nomatch h))
 delta ir__law_made i_law_made_0
 walk_at "s"
 refine comp_new (W.isl.zip ys) (·.2) (λx y N M2=>∃a b,N=[a,b]/\y=.tup [.str x.1.name,.ref a,.ref b]/\M2 a=some (.lst (x.1.prs.map prV))/\M2 b=some (.lst (x.1.stps.map Stp.mv))) (λM1=>M1=M) ?_ ?_ ?_ hΦ λD zs Ns M1 hD s1 l1 l2 nd1 dn1 fr1 at1 hd1=>?_
 ·rintro x y N M2 M3 hk ⟨a,b,rfl,e1,e2,e3⟩
  exact⟨a,b,rfl,e1,by rw[hk a (by simp)];exact e2,by rw[hk b (by simp)];exact e3⟩
 ·repeat (first|walk_at "s"|simp only[hpi])
  exact⟨show ys=(W.isl.zip ys).map (·.2)from(Y31 (by lia)).symm,by rw[Y1D];lia,.inl ⟨hpi,rfl⟩⟩
 ·rintro⟨I,y⟩ hx M1 M' rfl s
  obtain⟨i,e1,e2⟩:=mem_zip_at hx
  obtain⟨a,b,rfl,h1,h2⟩:=hIs.2 i I y e1 e2
  have h1':=s _ _ h1
  have h2':=s _ _ h2
  simp only[sCm,Y0d,Y0W,Y0A,Y0B,Y0L,Y0P]
  repeat (first|walk_at "s"|simp only[h1'])
  intro p hp
  have sp:=SameM.new hp (.lst (I.prs.map prV))
  have hpp:updM M' p (.lst (I.prs.map prV)) p=some (.lst (I.prs.map prV)):=Z01
  have hb2:=sp _ _ h2'
  repeat (first|walk_at "s"|simp only[hb2])
  intro p' hp'
  have sp':=SameM.new hp' (.lst (I.stps.map Stp.mv))
  refine⟨sp.trans sp',[p,p'],by simp[neM hpp hp'],?_,p,p',rfl,rfl,sp' _ _ hpp,Z01⟩
  intro x hx
  simp only[Y05,Y0e,or_false]at hx
  rcases hx with rfl|rfl
  ·exact⟨hp,_,sp' _ _ hpp⟩
  ·exact⟨sp.free hp',_,Z01⟩
 delta i_law_made_1
 walk_at "s"
 have hpf1:=s1 _ _ hpf
 repeat (first|walk_at "s"|simp only[hpf1])
 intro p2 hp2
 have s2:=SameM.new hp2 (.lst (W.fer.map Fer.mv))
 have h2:updM M1 p2 (.lst (W.fer.map Fer.mv)) p2=some (.lst (W.fer.map Fer.mv)):=Z01
 generalize updM M1 p2 _=M2 at*
 refine⟨D,p2,zs,W,rfl,s2 _ _ hd1,⟨by rw[l1,Y1D];lia,λi I y hI hy=>?_⟩,h2,G,λM3 s3 e=>q1 _ ((s1.trans s2).trans s3) e,λM3 c s3 e=>q2 _ _ ((s1.trans s2).trans s3) e⟩
 have hi:i<ys.length:=by rw[hyl];exact(Y07.mp hI).1
 have hN:i<Ns.length:=by rw[l2,Y1D];lia
 obtain⟨a,b,_,e,h1,h2⟩:=at1 i (I,ys[i]) y _ (zip_at hI (Y02 hi)) hy (Y02 hN)
 exact⟨a,b,e,s2 _ _ h1,s2 _ _ h2⟩
noncomputable abbrev Z0u:SpM:=λvs M Q=>∃(ns:List Int) (k:Nat),vs=[.frl (ns.map .int),.int k]/\k≤1000/\∀v:Int,Q (.int v) M
theorem Z0I:MonW Z0u:=by walk_at "m"
theorem ok__law_cell(T:Txt K mg t):FnOk P w K mg base CX0 1 t.f__law_cell t.d__law_cell ["script","k"] (liSp K Z0u):=by
 refine T.q__law_cell.F.okM sc__law_cell (Z0M (Φ:=[]) (Z0N T) (Z0g T) rfl (λ_ h=>nomatch h) (λ_ h=>nomatch h):Fts P w K mg base 0 G__law_cell []) ir__law_cell ck__law_cell (λvs M Q h=>?_) (λvs M Q h=>?_)
 ·obtain⟨_,_,rfl,_⟩:=h;rfl
 obtain⟨ns,k,rfl,hk1,q⟩:=h
 show wSs _ _ _ [some (.frl (ns.map .int)),some (.int k)] M
 delta ir__law_cell i_law_cell_0
 walk_at "s"
 rw[Y03]
 refine Z13 (λc=>?_) (λc=>?_)
 ·delta i_law_cell_1
  walk_at "s"
  have hk:k<ns.length:=by omega
  refine⟨.int ns[k],Z0X (by rw[Y0b,Y02 hk];rfl),?_⟩
  walk_at "s"
  exact q _
 ·delta i_law_cell_2
  walk_at "s"
  exact⟨.inl ⟨by omega,by omega⟩,q _⟩
noncomputable def Z12(n s:Int):Int:=(n*69621+s*16807+1013)%2147483647*((n*69621+s*16807+1013)%2147483647)%2147483629
noncomputable abbrev Z07:SpM:=λvs M Q=>∃n s:Int,vs=[.int n,.int s]/\Q (.int (Z12 n s)) M
theorem Z0b:MonW Z07:=by walk_at "m"
theorem ok__law_mix(T:Txt K mg t):FnOk P w K mg base CX0 1 t.f__law_mix t.d__law_mix ["number","salt"] (liSp K Z07):=by
 refine T.q__law_mix.F.okM sc__law_mix (Z0M (Φ:=[]) (Z0N T) (Z0g T) rfl (λ_ h=>nomatch h) (λ_ h=>nomatch h):Fts P w K mg base 0 G__law_mix []) ir__law_mix ck__law_mix (λvs M Q h=>?_) (λvs M Q h=>?_)
 ·obtain⟨n,s,rfl,_⟩:=h;rfl
 obtain⟨n,s,rfl,q⟩:=h
 show wSs _ _ _ [some (.int n),some (.int s),none] M
 delta ir__law_mix i_law_mix_0
 walk_at "s"
 delta i_law_mix_1
 walk_at "s"
 refine⟨.inl ⟨by omega,by omega⟩,?_⟩
 exact q
noncomputable def lawFar(n:Int):Int:=(Z12 n 7*2147483629+Z12 n 8)*8+n%8
noncomputable def lawWordW(n:Int)(w:Nat):Int:=(if n/8%4=0\/n/8%4=1 then lawFar n else if n/8%4=2 then 0 else 2^w - 1)%2^w
theorem lawWordW_in(n:Int)(w:Nat):0≤lawWordW n w/\lawWordW n w<2^w:=mod_in _ _
noncomputable abbrev Z1c:SpM:=λvs M Q=>∃(n:Int) (w:Nat),vs=[.int n,.int w]/\w≤64/\∀M',SameM M M'->Q (.int (lawWordW n w)) M'
theorem Z1X:MonW Z1c:=by walk_at "m"
theorem ok__law_word(T:Txt K mg t):FnOk P w K mg base CX0 2 t.f__law_word t.d__law_word ["number","width"] (liSp K Z1c):=by
 refine T.q__law_word.F.okM sc__law_word (Z0M (Φ:=[("_law_mix",Z07)]) (Z0N T) (Z0g T) rfl (fMc ⟨Z0b,(fun _ h=>nomatch h)⟩) (fMc ⟨⟨_,_,_,(FnOk.mono (ok__law_mix T) (by decide)),T.q__law_mix.m,T.q__law_mix.F.kp,T.q__law_mix.b⟩,(fun _ h=>nomatch h)⟩):Fts P w K mg base 1 G__law_word [("_law_mix",Z07)]) ir__law_word ck__law_word (fun vs M Q h=>?_) (fun vs M Q h=>?_)
 ·obtain⟨_,_,rfl,_⟩:=h;rfl
 obtain⟨n,w,rfl,hw,q⟩:=h
 show wSs _ _ _ [some (.int n),some (.int w),none] M
 delta ir__law_word i_law_word_0
 walk_at "s"
 refine⟨n,7,rfl,?_⟩
 walk_at "s"
 refine⟨n,8,rfl,?_⟩
 walk_at "s"
 delta i_law_word_1
 walk_at "s"
 have ew:(1:Int)*2^((w:Nat):Int).toNat=2^w:=by rw[Y1A,Int.one_mul]
 rw[ew]
 refine⟨⟨by omega,by omega⟩,λp hp=>?_⟩
 have s:=λo=>q _ (SameM.new hp o)
 have pp:=pow_pos' w
 have dm:∀(v:Int) (M':MH),Q (.int (v%2^w)) M'->wBin Operator.Mod (.int v) (.int (2^w)) M' Q:=λv M' h=>by
  rw[q_mod]
  exact⟨pp,h⟩
 rcases(show n/8%4=0\/n/8%4=1\/n/8%4=2\/n/8%4=3 by omega)with e|e|e|e<;>simp only[lawWordW,lawFar,e]at s<;>rw[e]
 ·exact⟨_,at0,⟨by omega,by omega⟩,dm _ _ (s _)⟩
 ·exact⟨_,at1,⟨by omega,by omega⟩,dm _ _ (s _)⟩
 ·exact⟨_,at2,⟨by omega,by omega⟩,dm _ _ (s _)⟩
 ·exact⟨_,at3,⟨by omega,by omega⟩,dm _ _ (s _)⟩
noncomputable def alph:Str:="abcdefghijklmnopqrstuvwxyz"
theorem alph_len':alph.length≤16777216:=by decide+kernel
theorem alph_is:alph.cps.toList=(Y0I 26).map (97+·):=by decide+kernel
theorem alph_at{i:Int}(h0:0≤i)(h1:i<26):atI alph.cps.toList i=some (97+i.toNat):=by
 have hk:i.toNat<26:=by omega
 have:=Z0X (xs:=alph.cps.toList) (j:=i.toNat) (v:=97+i.toNat) (by rw[alph_is,Y0b,List.getElem?_range hk];rfl)
 rwa [Y1I h0]at this
theorem one_len(c:Nat):(⟨#[c]⟩:Str).length=1:=rfl
theorem app_len(a b:Str):(a++b).length=a.length+b.length:=by
 show(a.cps++b.cps).size=_
 rw[Array.size_append]
 rfl
theorem cps_app(a b:Str):(a++b).cps.toList=a.cps.toList++b.cps.toList:=by
 show(a.cps++b.cps).toList=_
 rw[Y20]
theorem fold_one(c:Nat):∀(k:Nat) (acc:Array Nat),((Y1J k #[c]).foldl (·++·) acc).toList=acc.toList++Y1J k c
 |0,acc=>by simp
 |k+1,acc=>by
  rw[List.replicate_succ,Y2c,fold_one c k,Y20,Y1n,List.replicate_succ];rfl
theorem mul_one(c:Nat)(i:Int):(Txt.mul (⟨#[c]⟩:Str) i).cps.toList=Y1J i.toNat c:=by
 unfold Txt.mul
 by_cases h:i<1
 ·rw[if_pos h]
  have:i.toNat=0:=by omega
  rw[this];rfl
 rw[if_neg h]
 by_cases h2:(i==1||(⟨#[c]⟩:Str).length==0)=true
 ·rw[if_pos h2]
  rcases(Y3h _ _).mp h2 with e|e
  ·have:i=1:=by simpa using e
   subst this;rfl
  ·have:(⟨#[c]⟩:Str).length=0:=by simpa using e
   cases this
 ·rw[if_neg h2]
  show((Y1J i.toNat #[c]).foldl (·++·) #[]).toList=_
  rw[fold_one];rfl
theorem el_len(z:Str):z.length=z.cps.toList.length:=Y0g.symm
noncomputable def one(c:Nat):Str:=⟨#[c]⟩
theorem glue_fold:∀(cs:List Nat) (acc:Array Nat),((cs.map one).foldl (fun acc p=>acc++(Y0t "").cps++p.cps) acc).toList=acc.toList++cs
 |[],acc=>by simp
 |c::cs,acc=>by
  rw[Y0d,Y2c,glue_fold cs]
  have:(acc++(Y0t "").cps++(one c).cps).toList=acc.toList++[c]:=by
   rw[Y20,Y20,show(Y0t "").cps.toList=[]from by decide+kernel,Y1e];rfl
  rw[this,Y1n];rfl
theorem glued_one(cs:List Nat):(Y11 (Y0t "") (cs.map one)).cps.toList=cs:=by
 cases cs with
 |nil=>decide+kernel
 |cons c cs=>
  show(((cs.map one)).foldl (fun acc p=>acc++(Y0t "").cps++p.cps) (one c).cps).toList=_
  rw[glue_fold];rfl
theorem glue_len:∀(cs:List Nat) (a:Nat),(cs.map one).foldl (fun n z=>n+z.length+(Y0t "").length) a=a+cs.length
 |[],a=>rfl
 |c::cs,a=>by
  rw[Y0d,Y2c,glue_len cs]
  have:(one c).length=1:=rfl
  have h2:(Y0t "").length=0:=by decide+kernel
  rw[this,h2,Y0q];omega
theorem cutS_upto(z:Str)(k:Nat):(cutS z none (some (k:Int))).cps.toList=z.cps.toList.take k:=by
 unfold cutS
 simp only[HT.sIx_none,HT.sIx_nat]
 rw[Y3y,Nat.sub_zero]
 show List.take (min k z.cps.toList.length) _=_
 by_cases h:k≤z.cps.toList.length
 ·rw[Y3n h]
 ·rw[Y30 (by omega),Y13 (Y09 _),Y13 (by omega)]
theorem cutS_from(z:Str)(k:Nat):(cutS z (some (k:Int)) none).cps.toList=z.cps.toList.drop k:=by
 unfold cutS
 simp only[HT.sIx_none,HT.sIx_nat]
 show List.take _ (List.drop (min k _) _)=_
 by_cases h:k≤z.cps.toList.length
 ·rw[Y3n h,Y13 (by rw[Y0T];exact Y09 _)]
 ·rw[Y30 (by omega),Y1L (Y09 _),Y1L (by omega)]
  simp
theorem steps_at{i:Int}(h0:0≤i)(h1:i<8):∃st:Int,atI [MV.int 1,.int 3,.int 5,.int 7,.int 9,.int 11,.int 15,.int 17] i=some (.int st)/\(st=1\/st=3\/st=5\/st=7\/st=9\/st=11\/st=15\/st=17):=by
 rcases(show i=0\/i=1\/i=2\/i=3\/i=4\/i=5\/i=6\/i=7 by omega)with rfl|rfl|rfl|rfl|rfl|rfl|rfl|rfl
 ·exact⟨1,Z0X (j:=0) rfl,by omega⟩
 ·exact⟨3,Z0X (j:=1) rfl,by omega⟩
 ·exact⟨5,Z0X (j:=2) rfl,by omega⟩
 ·exact⟨7,Z0X (j:=3) rfl,by omega⟩
 ·exact⟨9,Z0X (j:=4) rfl,by omega⟩
 ·exact⟨11,Z0X (j:=5) rfl,by omega⟩
 ·exact⟨15,Z0X (j:=6) rfl,by omega⟩
 ·exact⟨17,Z0X (j:=7) rfl,by omega⟩
theorem sign_inj{f st:Int}(hs:st=1\/st=3\/st=5\/st=7\/st=9\/st=11\/st=15\/st=17){k k':Nat}(h:k<17)(h':k'<17)(e:(f+k*st)%26=(f+k'*st)%26):k=k':=by
 rcases hs with rfl|rfl|rfl|rfl|rfl|rfl|rfl|rfl<;>omega
noncomputable def nmA(b:Bool)(cs:List Nat)(at':Nat)(f st:Int)(k:Nat):List Nat:=if b then cs.take at'++(97+((f+k*st)%26).toNat)::cs.drop (at'+1)else Y1J (k%4) (97+f.toNat)++[97+((f+k*st)%26).toNat]
theorem nmA_inj{b:Bool}{cs:List Nat}{at':Nat}{f st:Int}(hs:st=1\/st=3\/st=5\/st=7\/st=9\/st=11\/st=15\/st=17){k k':Nat}(h:k<17)(h':k'<17)(e:nmA b cs at' f st k=nmA b cs at' f st k'):k=k':=by
 have key:97+((f+k*st)%26).toNat=97+((f+k'*st)%26).toNat:=by
  unfold nmA at e
  cases b with
  |true=>
   rw[if_pos rfl,if_pos rfl]at e
   exact(List.cons.inj (List.append_cancel_left e)).1
  |false=>
   rw[if_neg (by simp),if_neg (by simp)]at e
   have:=congrArg List.getLast? e
   simpa using this
 have a:=Y0F (f+k*st) (show(26:Int)≠0 by decide)
 have a':=Y0F (f+k'*st) (show(26:Int)≠0 by decide)
 exact sign_inj (f:=f) hs h h' (by omega)
theorem nmA_good{b:Bool}{cs:List Nat}{at':Nat}{f st:Int}{k:Nat}(hcs:cs.length≤8)(hat:at'<cs.length)(hc:∀c∈cs,97≤c/\c≤122)(hf:0≤f/\f<26){z:Str}(hz:z.cps.toList=nmA b cs at' f st k):Z1Z z:=by
 have a:=Y0F (f+k*st) (show(26:Int)≠0 by decide)
 have a2:=Y0y (f+k*st) (show(0:Int)<26 by decide)
 unfold nmA at hz
 cases b with
 |true=>
  rw[if_pos rfl]at hz
  refine⟨?_,?_,λc hcm=>?_⟩
  ·rw[el_len,hz,Y0o,Y0q];omega
  ·rw[el_len,hz,Y0o,Y0q,Y0p,Y0T];omega
  ·rw[hz]at hcm
   rcases Y0z.mp hcm with hm|hm
   ·exact hc c (List.mem_of_mem_take hm)
   ·rcases Y05.mp hm with rfl|hm
    ·omega
    ·exact hc c (List.mem_of_mem_drop hm)
 |false=>
  rw[if_neg (by simp)]at hz
  refine⟨?_,?_,λc hcm=>?_⟩
  ·rw[el_len,hz,Y0o,Y1s];omega
  ·rw[el_len,hz,Y0o,Y1s,Y2k];omega
  ·rw[hz]at hcm
   rcases Y0z.mp hcm with hm|hm
   ·rw[List.eq_of_mem_replicate hm];omega
   ·rw[Y0O]at hm;omega
theorem snoc_at{α:Type}{xs:List α}{x y:α}{j:Nat}(h:(xs++[x])[j]?=some y):(j<xs.length/\xs[j]?=some y)\/(j=xs.length/\y=x):=by
 by_cases l:j<xs.length
 ·rw[Y0s l]at h
  exact .inl ⟨l,h⟩
 ·rw[Y0v (by omega)]at h
  cases e:j - xs.length with
  |zero=>rw[e]at h;exact .inr ⟨by omega,(Y0w h).symm⟩
  |succ m=>rw[e]at h;simp at h
noncomputable abbrev Z0U:SpM:=λvs M Q=>∃(n:Int) (m:Nat),vs=[.int n,.int m]/\m≤17/\∀(p:Addr) (zs:List Str) M',SameM M M'->M p=none->M' p=some (.lst (zs.map MV.str))->zs.length=m->zs.Nodup->(∀z∈zs,Z1Z z)->Q (.ref p) M'
theorem Z1z:MonW Z0U:=by walk_at "m"
theorem ok__law_names(T:Txt K mg t):FnOk P w K mg base CX0 2 t.f__law_names t.d__law_names ["number","many"] (liSp K Z0U):=by
 refine T.q__law_names.F.okM sc__law_names (Z0M (Φ:=[("_law_mix",Z07)]) (Z0N T) (Z0g T) rfl (fMc ⟨Z0b,(fun _ h=>nomatch h)⟩) (fMc ⟨⟨_,_,_,(FnOk.mono (ok__law_mix T) (by decide)),T.q__law_mix.m,T.q__law_mix.F.kp,T.q__law_mix.b⟩,(fun _ h=>nomatch h)⟩):Fts P w K mg base 1 G__law_names [("_law_mix",Z07)]) ir__law_names ck__law_names (fun vs M Q h=>?_) (fun vs M Q h=>?_)
 ·obtain⟨_,_,rfl,_⟩:=h;rfl
 obtain⟨n,m,rfl,hm,q⟩:=h
 show wSs _ _ _ [some (.int n),some (.int m),none,none,none,none,none,none,none,none,none] M
 have hΦ:=(mkMon (Φ:=[("_law_mix",Z07)]) (fMc ⟨Z0b,(fun _ h=>nomatch h)⟩))
 have al:=alph_len'
 delta ir__law_names i_law_names_0
 walk_at "s"
 delta i_law_names_1
 walk_at "s"
 delta i_law_names_2
 walk_at "s"
 intro p0 hp0
 obtain⟨st,hst1,hst⟩:=steps_at (i:=n/26%8) (by omega) (by omega)
 refine⟨_,hst1,?_⟩
 have s0:=SameM.new hp0 (.lst [.int 1,.int 3,.int 5,.int 7,.int 9,.int 11,.int 15,.int 17])
 generalize updM M p0 _=M0 at*
 delta i_law_names_3
 walk_at "s"
 delta i_law_names_4
 walk_at "s"
 obtain⟨sz,hsz,hsz1,hsz2⟩:∃sz:Nat,1+n/208%8=(sz:Int)/\1≤sz/\sz≤8:=⟨(1+n/208%8).toNat,by omega,by omega,by omega⟩
 rw[hsz]
 refine⟨by omega,?_⟩
 have am0:0≤n/1664%(sz:Int):=Y0F _ (by omega)
 have am1:n/1664%(sz:Int)<(sz:Int):=Y0y _ (by omega)
 obtain⟨a,ha⟩:∃a:Nat,n/1664%(sz:Int)=(a:Int):=⟨_,(Y1I am0).symm⟩
 rw[ha]at am1 ⊢
 have f0:0≤n%26:=Y0F _ (by decide)
 have f1:n%26<26:=Y0y _ (by decide)
 delta i_law_names_5
 walk_at "s"
 obtain⟨cs,hcs⟩:∃cs:List Nat,(Y0I sz).map (λi:Nat=>97+(Z12 n (20+(0+(i:Nat)))%26).toNat)=cs:=⟨_,rfl⟩
 have cl:cs.length=sz:=by rw[<- hcs,Y03,Y1c]
 have cin:∀c∈cs,97≤c/\c≤122:=λc hc=>by
  rw[<- hcs]at hc
  obtain⟨i,_,rfl⟩:=Y0E.mp hc
  have:=Y0F (Z12 n (20+(0+(i:Nat)))) (show(26:Int)≠0 by decide)
  have:=Y0y (Z12 n (20+(0+(i:Nat)))) (show(0:Int)<26 by decide)
  omega
 refine Z14 (Y0I sz) (λi=>.int (0+(i:Nat))) (λi=>.str (one (97+(Z12 n (20+(0+(i:Nat)))%26).toNat))) ?_ ?_ hΦ λD hD=>?_
 ·walk_at "s"
  refine⟨by omega,by omega,rfl,by rw[Y1c];omega,trivial⟩
 ·intro i hi M' s
  have e0:=Y0F (Z12 n (20+(0+(i:Nat)))) (show(26:Int)≠0 by decide)
  have e1:=Y0y (Z12 n (20+(0+(i:Nat)))) (show(0:Int)<26 by decide)
  simp only[sCm,Y0d,Y0W,Y0A,Y0B,Y0L,Y0P]
  walk_at "s"
  refine⟨n,20+(0+(i:Nat)),rfl,?_⟩
  walk_at "s"
  exact⟨al,_,alph_at e0 e1,rfl⟩
 have hl1:(Y0I sz).map (λi:Nat=>MV.str (one (97+(Z12 n (20+(0+(i:Nat)))%26).toNat)))=(cs.map one).map MV.str:=by
  rw[<- hcs,Y12,Y12];rfl
 rw[hl1]
 have s1:=SameM.new hD (.lst ((cs.map one).map MV.str))
 have hd1:updM M0 D (.lst ((cs.map one).map MV.str)) D=some (.lst ((cs.map one).map MV.str)):=Z01
 generalize updM M0 D _=M1 at*
 walk_at "s"
 have gl:=glued_one cs
 have gll:(Y11 (Y0t "") (cs.map one)).length=cs.length:=by rw[el_len,gl]
 refine⟨_,hd1,?_,by rw[gll];omega,?_⟩
 ·rw[List.foldl_toArray' _ _ _ rfl]
  exact Y0M (Y24 (glue_len cs 0)) (by omega)
 generalize Y11 (Y0t "") (cs.map one)=sm at*
 delta i_law_names_6
 walk_at "s"
 intro p hp
 have s2:=SameM.new hp (.lst [])
 have hd2:updM M1 p (.lst []) p=some (.lst []):=Z01
 generalize updM M1 p _=M2 at*
 delta i_law_names_7
 walk_at "s"
 obtain⟨J,hJ⟩:∃J:Nat->Sm->MH->Prop,∀j σ M',J j σ M'↔∃v9 v10,SameM M1 M'/\(∃zs:List Str,M' p=some (.lst (zs.map MV.str))/\zs.length=j/\∀(i:Nat) z,zs[i]?=some z->z.cps.toList=nmA (decide (n/13312%2=0)) cs a (n%26) st i)/\
  σ=[some (.int n),some (.int m),some (.str alph),some (.int (n%26)),some (.int st),some (.int sz),some (.int a),some (.str sm),some (.ref p),v9,v10]:=⟨_,λ_ _ _=>Y2j⟩
 refine⟨by omega,by omega,J,(hJ 0 _ _).mpr ⟨_,_,s2,⟨[],hd2,rfl,λi z h=>by simp at h⟩,rfl⟩,λj σ M' h=>trivial,?_,?_⟩
 ·rintro k u σ M' hu h
  obtain⟨v9,v10,s,⟨zs,hd,zl,zv⟩,rfl⟩:=(hJ _ _ _).mp h
  obtain⟨hk,rfl⟩:=rng_item hu
  have g0:=Y0F (n%26+(0+(k:Nat))*st) (show(26:Int)≠0 by decide)
  have g1:=Y0y (n%26+(0+(k:Nat))*st) (show(0:Int)<26 by decide)
  have done:∀z:Str,z.cps.toList=nmA (decide (n/13312%2=0)) cs a (n%26) st k->∀v9 v10,J (k+1) [some (.int n),some (.int m),some (.str alph),some (.int (n%26)),some (.int st),some (.int sz),some (.int a),some (.str sm),some (.ref p),v9,v10] (updM M' p (.lst (zs.map MV.str++[.str z]))):=λz hz v9 v10=>by
   refine(hJ _ _ _).mpr ⟨_,_,s.upd hp _,⟨zs++[z],by rw[Z01,Y0Z];rfl,by rw[Y0o,zl];rfl,λi y hy=>?_⟩,rfl⟩
   rcases snoc_at hy with⟨_,hy⟩|⟨rfl,rfl⟩
   ·exact zv i y hy
   ·rw[zl];exact hz
  delta i_law_names_8
  walk_at "s"
  refine⟨?_,al,_,alph_at g0 g1,?_⟩
  ·exact .inl ⟨by omega,by omega⟩
  have ek:((0:Int)+(k:Nat))=(k:Nat):=by omega
  rw[ek]at g0 g1 ⊢
  delta i_law_names_9
  walk_at "s"
  by_cases hb:n/13312%2=0
  ·rw[if_pos hb];delta i_law_names_10
   repeat (first|walk_at "s"|simp only[hd])
   have e1:((a:Int)+1)=((a+1:Nat):Int):=by omega
   rw[e1]
   have l1:(cutS sm none (some (a:Int))).length≤8:=by rw[el_len,cutS_upto,gl,Y0p];omega
   have l2:(cutS sm (some ((a+1:Nat):Int)) none).length≤8:=by rw[el_len,cutS_from,gl,Y0T];omega
   refine⟨⟨_,rfl⟩,by omega,by rw[one_len];omega,by omega,by rw[app_len,one_len];omega,by rw[Y03];omega,?_⟩
   refine done _ ?_ _ _
   rw[cps_app,cps_app,cutS_upto,cutS_from,gl]
   unfold nmA
   rw[decide_eq_true hb,if_pos rfl,Y1n];rfl
  ·rw[if_neg hb];delta i_law_names_11
   repeat (first|walk_at "s"|simp only[hd])
   have l1:(Txt.mul ⟨#[97+(n%26).toNat]⟩ ((k:Int)%4)).length≤8:=by rw[el_len,mul_one,Y2k];omega
   refine⟨⟨_,rfl⟩,al,_,alph_at f0 f1,by rw[one_len];omega,by omega,by omega,by rw[one_len];omega,by rw[Y03];omega,?_⟩
   refine done _ ?_ _ _
   rw[cps_app,mul_one]
   unfold nmA
   rw[decide_eq_false hb,if_neg (by simp)]
   have e4:((k:Int)%4).toNat=k%4:=by omega
   rw[e4]
 ·rintro σ M' h
  obtain⟨v9,v10,s,⟨zs,hd,zl,zv⟩,rfl⟩:=(hJ _ _ _).mp h
  delta i_law_names_12
  walk_at "s"
  have zl:zs.length=m:=zl.trans (Y1A m)
  refine q p zs M' ((s0.trans s1).trans s) ((s0.trans s1).free hp) hd zl ?_ λz hz=>?_
  ·refine List.pairwise_iff_getElem.mpr λi j hi hj hij e=>?_
   have e1:=zv i _ (Y02 hi)
   have e2:=zv j _ (Y02 hj)
   rw[e]at e1
   have:=nmA_inj hst (by omega) (by omega) (e1.symm.trans e2)
   omega
  ·obtain⟨i,hi,rfl⟩:=Y10 hz
   exact nmA_good (by omega) (by omega) cin ⟨f0,f1⟩ (zv i _ (Y02 hi))
theorem comp_rel{Φ:List (Str×SpM)}{own:List Str}{fr:List Nat}{src:ISr}{tg:ITg}{elt:IE}{σ:Sm}{M:MH}{Q:QM}{α:Type}(xs:List α)(f:α->MV)(R:α->MV->Prop)
  (hs:wSr Φ src σ M λS M1=>S.items=xs.map f/\xs.length<sizeLine/\S.okF M1/\SameM M M1)
  (ht:∀x∈xs,∀M',SameM M M'->wTg tg (f x) (sCm own fr σ) λσ2=>wE Φ elt σ2 M' λy M2=>R x y/\SameM M' M2)
  (hΦ:∀(j:Nat) f sp,Φ[j]?=some (f,sp)->MonW sp)
  (q:∀D M' ys,M D=none->SameM M M'->ys.length=xs.length->(∀(i:Nat) x y,xs[i]?=some x->ys[i]?=some y->R x y)->M' D=some (.lst ys)->Q (.ref D) M'):wE Φ (.comp own fr src tg .none elt) σ M Q:=by
 rw[e_comp]
 refine mon_sr hΦ src (λS M1 ⟨h1,h2,h3,h4⟩=>?_) hs
 have hl:S.len=xs.length:=by rw[<- S.items_len,h1,Y03]
 refine⟨by rw[hl];exact h2,λD hD=>⟨λi ys M2=>SameM M1 M2/\M2 D=some (.lst ys)/\ys.length=i/\∀(j:Nat) x y,xs[j]?=some x->ys[j]?=some y->R x y,⟨SameM.new hD _,Z01,rfl,λj x y _ h=>by simp at h⟩,?_,?_,?_⟩⟩
 ·rintro i ys M2 ⟨s2,d2,e,_⟩
  refine⟨d2,by lia,?_⟩
  cases S with
  |dic _ _ _=>exact h3.elim
  |lst a zs=>exact s2 _ _ h3
  |_=>trivial
 ·rintro i x ys M2 hx ⟨s2,d2,e,hr⟩
  rw[h1]at hx
  obtain⟨hi,rfl⟩:=Z18 hx
  refine mon_tg tg (λσ2 h=>?_) (ht xs[i] (Y0u hi) M2 (h4.trans s2))
  rw[wI,if_pos rfl]
  refine Z04 hΦ elt (λy M3 ⟨r,s3⟩=>?_) h
  refine⟨s3 _ _ d2,(s2.trans s3).upd hD _,Z01,by rw[Y0o,e];rfl,λj x' y' hx' hy'=>?_⟩
  rcases snoc_at hy' with⟨_,hy'⟩|⟨rfl,rfl⟩
  ·exact hr j x' y' hx' hy'
  ·rw[e,Y02 hi]at hx';cases hx';exact r
 ·rintro ys M2 ⟨s2,d2,e,hr⟩
  rw[thaw_F h3]
  exact q D M2 ys (h4.free hD) (h4.trans s2) (by lia) hr d2
theorem rel_list{α:Type}{P:Stp->Prop}:∀{xs:List α} {ys:List MV},ys.length=xs.length->(∀(i:Nat) x y,xs[i]?=some x->ys[i]?=some y->∃S:Stp,y=S.mv/\P S)->∃ss:List Stp,ys=ss.map Stp.mv/\ss.length=xs.length/\∀S∈ss,P S
 |[],[],_,_=>⟨[],rfl,rfl,λ_ h=>nomatch h⟩
 |[],_::_,h,_=>by cases h
 |_::_,[],h,_=>by cases h
 |x::xs,y::ys,h,r=>by
  obtain⟨S,rfl,hS⟩:=r 0 x y rfl rfl
  obtain⟨ss,rfl,l,hs⟩:=rel_list (xs:=xs) (ys:=ys) (by simpa using h) λi x y a b=>r (i+1) x y (by simpa using a) (by simpa using b)
  refine⟨S::ss,rfl,by rw[Y0q,Y0q,l],λS' h'=>?_⟩
  rcases Y05.mp h' with rfl|h'
  ·exact hS
  ·exact hs S' h'
theorem short_of{z:Str}(h:Z1Z z):ShortT z:=⟨Y0M h.2.1 (by decide),λc hc=>Y2E (h.2.2 c hc).2 (by decide)⟩
theorem short_nil:ShortT "":=⟨by decide+kernel,fun c hc=>by rw[show(("":Str)).cps.toList=[] by decide+kernel]at hc;cases hc⟩
theorem nil_bad:¬Z1Z "":=fun h=>absurd h.1 (by decide+kernel)
noncomputable abbrev Z1e:SpM:=λvs M Q=>∃(z:Str) (e:Addr) (zs:List Str),vs=[.str z,.ref e]/\M e=some (.lst (zs.map MV.str))/\Z1Z z/\(∀y∈zs,Z1Z y)/\∀r:Str,r∉zs->ShortT r->Q (.str r) M
theorem mon_sp__law_fresh:MonW Z1e:=by walk_at "m"
theorem ok__law_fresh(T:Txt K mg t):FnOk P w K mg base CX0 1 t.f__law_fresh t.d__law_fresh ["stem","known"] (liSp K Z1e):=by
 refine T.q__law_fresh.F.okM sc__law_fresh (Z0M (Φ:=[]) (Z0N T) (Z0g T) rfl (λ_ h=>nomatch h) (λ_ h=>nomatch h):Fts P w K mg base 0 G__law_fresh []) ir__law_fresh ck__law_fresh (λvs M Q h=>?_) (λvs M Q h=>?_)
 ·obtain⟨_,_,_,rfl,_⟩:=h;rfl
 obtain⟨z,a,zs,rfl,ha,gz,gs,q⟩:=h
 show wSs _ _ _ [some (.str z),some (.ref a),none] M
 have e7:(cutS z none (some 7)).cps.toList=z.cps.toList.take 7:=cutS_upto z 7
 have l7:(cutS z none (some 7)).length≤7:=by rw[el_len,e7,Y0p];omega
 have lz:=gz.2.1
 delta ir__law_fresh i_law_fresh_0
 walk_at "s"
 obtain⟨J,hJ⟩:∃J:Nat->Sm->MH->Prop,∀j σ M',J j σ M'↔M'=M/\∃v,σ=[some (.str z),some (.ref a),v]:=⟨_,λ_ _ _=>Y2j⟩
 refine⟨J,(hJ _ _ _).mpr ⟨rfl,_,rfl⟩,λj σ M' h=>trivial,?_,?_⟩
 ·rintro j y σ M' hy h
  obtain⟨rfl,v,rfl⟩:=(hJ _ _ _).mp h
  obtain⟨hj,rfl⟩:=Z18 (f:=λc=>MV.str ⟨#[c]⟩) (xs:=alph.cps.toList) hy
  have hc:alph.cps.toList[j]≤122:=by
   have all:∀c∈alph.cps.toList,c≤122:=by
    rw[alph_is]
    intro c hc
    obtain⟨i,hi,rfl⟩:=Y0E.mp hc
    have:=Y3r.mp hi
    omega
   exact all _ (Y0u hj)
  generalize alph.cps.toList[j]=c at*
  have sh:ShortT (cutS z none (some 7)++⟨#[c]⟩):=by
   refine⟨by rw[app_len,one_len];omega,λx hx=>?_⟩
   rw[cps_app,e7]at hx
   rcases Y0z.mp hx with hx|hx
   ·exact(short_of gz).cps x (List.mem_of_mem_take hx)
   ·obtain rfl:x=c:=by simpa using hx
    exact Y2E hc (by decide)
  delta i_law_fresh_1
  walk_at "s"
  refine⟨by omega,by rw[one_len];omega,?_⟩
  refine .inl ⟨_,ha,rfl,flat_strs zs,?_⟩
  rw[inV_str]
  by_cases hin:cutS z none (some 7)++⟨#[c]⟩∈zs
  ·rw[decide_eq_true hin]
   walk_at "s"
   exact(hJ _ _ _).mpr ⟨rfl,_,rfl⟩
  ·rw[decide_eq_false hin]
   walk_at "s"
   delta i_law_fresh_2
   walk_at "s"
   exact⟨by omega,by rw[one_len];omega,q _ hin sh⟩
 ·rintro σ M' h
  obtain⟨rfl,v,rfl⟩:=(hJ _ _ _).mp h
  delta i_law_fresh_3
  walk_at "s"
  exact q _ (λh=>nil_bad (gs _ h)) short_nil
noncomputable def brd:Nat->Int->Tm->Tm
 |0,_,U=>U
 |n+1,m,U=>if m<2 then U else if m%2=0 then .pick U (.num (-7)) (brd n (m - 3) U)else .two .times (brd n ((m - 1)/2 - 1+(m - 1)/2%2) U) (brd n (m - 1 - ((m - 1)/2 - 1+(m - 1)/2%2)) U)
theorem brd_size{U:Tm}(hU:U.size=1):∀(n:Nat) (m:Int),1≤m->m≤n->(m%2=1\/4≤m)->(((brd n m U).size:Nat):Int)=m
 |0,m,h1,h2,_=>by omega
 |n+1,m,h1,h2,h3=>by
  unfold brd
  by_cases c:m<2
  ·rw[if_pos c,hU];omega
  rw[if_neg c]
  by_cases d:m%2=0
  ·rw[if_pos d]
   have:=brd_size hU n (m - 3) (by omega) (by omega) (by omega)
   simp only[Tm.size,hU];omega
  ·rw[if_neg d]
   have a:=brd_size hU n ((m - 1)/2 - 1+(m - 1)/2%2) (by omega) (by omega) (by omega)
   have b:=brd_size hU n (m - 1 - ((m - 1)/2 - 1+(m - 1)/2%2)) (by omega) (by omega) (by omega)
   simp only[Tm.size];omega
theorem brd_depth{U:Tm}(hU:U.depth=1):∀(n:Nat) (m:Int) (D:Nat),1≤m->m%2=1->m<2^D->(brd n m U).depth≤D
 |_,m,0,h1,_,h3=>by simp at h3;omega
 |0,m,D+1,_,_,_=>by unfold brd;omega
 |n+1,m,D+1,h1,h2,h3=>by
  unfold brd
  by_cases c:m<2
  ·rw[if_pos c];omega
  rw[if_neg c,if_neg (by omega)]
  rw[Int.pow_succ]at h3
  obtain⟨E,rfl⟩:∃E,D=E+1:=by
   cases D with
   |zero=>simp at h3;omega
   |succ E=>exact⟨E,rfl⟩
  have p:=pow_pos' E
  have e:(2:Int)^(E+1)=2^E*2:=Int.pow_succ ..
  have a:=brd_depth hU n ((m - 1)/2 - 1+(m - 1)/2%2) (E+1) (by omega) (by omega) (by omega)
  have b:=brd_depth hU n (m - 1 - ((m - 1)/2 - 1+(m - 1)/2%2)) (E+1) (by omega) (by omega) (by omega)
  simp only[Tm.depth];omega
theorem brd_even{U:Tm}{n:Nat}{m:Int}(h:2≤m)(e:m%2=0):brd (n+1) m U=.pick U (.num (-7)) (brd n (m - 3) U):=by
 rw[brd,if_neg (by omega),if_pos e]
theorem brd_reads{x:Str}:∀(n:Nat) (m:Int),(∀y∈(brd n m (.var x)).reads,y=x)/\x∈(brd n m (.var x)).reads
 |0,m=>⟨λy hy=>by simpa [brd,Tm.reads]using hy,by simp[brd,Tm.reads]⟩
 |n+1,m=>by
  unfold brd
  by_cases c:m<2
  ·rw[if_pos c];exact⟨λy hy=>by simpa [Tm.reads]using hy,by simp[Tm.reads]⟩
  rw[if_neg c]
  by_cases d:m%2=0
  ·rw[if_pos d]
   refine⟨λy hy=>?_,by simp[Tm.reads]⟩
   simp only[Tm.reads,Y0z,Y0O,Y0e,false_or]at hy
   exact hy.elim id ((brd_reads n _).1 y)
  ·rw[if_neg d]
   refine⟨λy hy=>?_,by simp only[Tm.reads,Y0z];exact .inl (brd_reads n _).2⟩
   simp only[Tm.reads,Y0z]at hy
   exact hy.elim ((brd_reads n _).1 y) ((brd_reads n _).1 y)
noncomputable abbrev Z0v(n:Nat):SpM:=λvs M Q=>∃(m:Int) (U:Tm),vs=[.int m,U.mv]/\1≤m/\m≤n/\(m%2=1\/4≤m)/\Q (brd n m U).mv M
theorem mon_sp__law_broad(n:Nat):MonW (Z0v n):=by walk_at "m"
theorem ok__law_broad(T:Txt K mg t):∀n:Nat,FnOk P w K mg base CX0 (n+1) t.f__law_broad t.d__law_broad ["many","leaf"] (liSp K (Z0v n))
 |0=>by
  have no:∀vs M Q,¬Z0v 0 vs M Q:=λvs M Q h=>by
   obtain⟨m,U,_,h1,h2,_⟩:=h
   omega
  exact⟨λvs H Q E ⟨ms,M,r,rh,h⟩=>absurd h (no _ _ _),λA outer s H args us vs Q E _ _ _ _ ⟨ms,M,r,rh,h⟩=>absurd h (no _ _ _)⟩
 |n+1=>by
  have ih:=ok__law_broad T n
  refine T.q__law_broad.F.okM sc__law_broad (Z0M (Φ:=[("_law_broad",(Z0v n))]) (Z0N T) (Z0g T) rfl (fMc ⟨(mon_sp__law_broad _),(fun _ h=>nomatch h)⟩) (fMc ⟨⟨_,_,_,ih,T.q__law_broad.m,T.q__law_broad.F.kp,T.q__law_broad.b⟩,(fun _ h=>nomatch h)⟩):Fts P w K mg base (n+1) G__law_broad [("_law_broad",(Z0v n))]) ir__law_broad ck__law_broad (fun vs M Q h=>?_) (fun vs M Q h=>?_)
  ·obtain⟨_,_,rfl,_⟩:=h;rfl
  obtain⟨m,U,rfl,h1,h2,h3,q⟩:=h
  show wSs _ _ _ [some (.int m),some U.mv,none] M
  delta ir__law_broad i_law_broad_0
  walk_at "s"
  unfold brd at q
  refine Z13 (λc=>?_) (λc=>?_)
  ·rw[if_pos c]at q
   delta i_law_broad_1
   walk_at "s"
   exact q
  rw[if_neg c]at q
  delta i_law_broad_2
  walk_at "s"
  refine Z13 (λd=>?_) (λd=>?_)
  ·rw[if_pos d]at q
   delta i_law_broad_3
   walk_at "s"
   exact⟨m - 3,U,rfl,by omega,by omega,by omega,q⟩
  ·rw[if_neg d]at q
   delta i_law_broad_4
   walk_at "s"
   delta i_law_broad_5
   walk_at "s"
   delta i_law_broad_6
   walk_at "s"
   refine⟨_,U,rfl,by omega,by omega,by omega,?_⟩
   exact⟨_,U,rfl,by omega,by omega,by omega,q⟩
noncomputable def dep:Nat->Tm->Tm
 |0,U=>U
 |k+1,U=>if(k:Int)%2=0 then .two .less (dep k U) (.num k)else .two .plus (.num k) (dep k U)
theorem dep_is{U:Tm}:∀k:Nat,(dep k U).depth=U.depth+k/\(dep k U).size=U.size+2*k/\(dep k U).reads=U.reads
 |0=>⟨rfl,rfl,rfl⟩
 |k+1=>by
  obtain⟨a,b,c⟩:=dep_is (U:=U) k
  have:=U.depth_pos
  unfold dep
  by_cases d:(k:Int)%2=0
  ·rw[if_pos d];simp only[Tm.depth,Tm.size,Tm.reads,a,b,c,Y1e];refine⟨by omega,by omega,trivial⟩
  ·rw[if_neg d];simp only[Tm.depth,Tm.size,Tm.reads,a,b,c,Y0P];refine⟨by omega,by omega,trivial⟩
noncomputable abbrev Z1K:SpM:=λvs M Q=>∃(m:Nat) (U:Tm),vs=[.int m,U.mv]/\1≤m/\m≤20/\Q (dep (m - 1) U).mv M
theorem mon_sp__law_deep:MonW Z1K:=by walk_at "m"
theorem ok__law_deep(T:Txt K mg t):FnOk P w K mg base CX0 1 t.f__law_deep t.d__law_deep ["many","leaf"] (liSp K Z1K):=by
 refine T.q__law_deep.F.okM sc__law_deep (Z0M (Φ:=[]) (Z0N T) (Z0g T) rfl (λ_ h=>nomatch h) (λ_ h=>nomatch h):Fts P w K mg base 0 G__law_deep []) ir__law_deep ck__law_deep (λvs M Q h=>?_) (λvs M Q h=>?_)
 ·obtain⟨_,_,rfl,_⟩:=h;rfl
 obtain⟨m,U,rfl,h1,h2,q⟩:=h
 show wSs _ _ _ [some (.int m),some U.mv,none,none] M
 delta ir__law_deep i_law_deep_0
 walk_at "s"
 delta i_law_deep_1
 walk_at "s"
 obtain⟨J,hJ⟩:∃J:Nat->Sm->MH->Prop,∀j σ M',J j σ M'↔M'=M/\∃v,σ=[some (.int m),some U.mv,some (dep j U).mv,v]:=⟨_,λ_ _ _=>Y2j⟩
 refine⟨by omega,by omega,J,(hJ _ _ _).mpr ⟨rfl,_,rfl⟩,λj σ M' h=>trivial,?_,?_⟩
 ·rintro j y σ M' hy h
  obtain⟨rfl,v,rfl⟩:=(hJ _ _ _).mp h
  obtain⟨hj,rfl⟩:=rng_item hy
  have ek:((0:Int)+(j:Nat))=(j:Nat):=by omega
  rw[ek];delta i_law_deep_2
  walk_at "s"
  have e:dep (j+1) U=if(j:Int)%2=0 then .two .less (dep j U) (.num j)else .two .plus (.num j) (dep j U):=rfl
  refine Z13 (λc=>?_) (λc=>?_)
  ·delta i_law_deep_3
   walk_at "s"
   rw[if_pos c]at e
   exact(hJ _ _ _).mpr ⟨rfl,_,by rw[e];rfl⟩
  ·delta i_law_deep_4
   walk_at "s"
   rw[if_neg c]at e
   exact(hJ _ _ _).mpr ⟨rfl,_,by rw[e];rfl⟩
 ·rintro σ M' h
  obtain⟨rfl,v,rfl⟩:=(hJ _ _ _).mp h
  delta i_law_deep_5
  walk_at "s"
  have e:(Src.rng 0 ((m:Int) - 1).toNat).len=m - 1:=by show((m:Int) - 1).toNat=_;omega
  rw[e]
  exact q
theorem atI_in{zs:List Str}{i:Int}(h0:0≤i)(h1:i<zs.length):∃z∈zs,atI (zs.map MV.str) i=some (.str z):=by
 have hk:i.toNat<zs.length:=by lia
 refine⟨zs[i.toNat],Y0u hk,?_⟩
 have:=Z0X (xs:=zs.map MV.str) (j:=i.toNat) (v:=.str zs[i.toNat]) (by rw[Y0b,Y02 hk];rfl)
 rwa [Y1I h0]at this
noncomputable def fltS:Option Str->Str
 |none=>""
 |some c=>c
theorem tm_big{ns:List Str}{U:Tm}(h:30<U.size\/8<U.depth):Z09 ns U=some ("TooMany":Str):=if_pos h
theorem tm_small{ns:List Str}{x:Str}{U:Tm}(h1:U.size≤30)(h2:U.depth≤8)(h3:∀y∈U.reads,y=x)(h4:x∈U.reads):Z09 ns U=if x∈ns then none else some ("Unknown":Str):=by
 unfold Z09
 rw[if_neg (by omega)]
 by_cases c:x∈ns
 ·rw[if_pos c,if_pos λy hy=>h3 y hy▸c]
 ·rw[if_neg c,if_neg λz=>c (z x h4)]
noncomputable abbrev Z0A:SpM:=λvs M Q=>∃(n:Int) (e:Addr) (own:List Str) (st:Str),vs=[.int n,.ref e,.str st]/\M e=some (.lst (own.map MV.str))/\own.length=3/\st∉own/\
 ∀U:Tm,U.depth≤12->(∀y∈U.reads,y∈own\/y=st)->Q (.tup [U.mv,.str (fltS (Z09 own U))]) M
theorem mon_sp__law_hard_term:MonW Z0A:=by walk_at "m"
theorem ok__law_hard_term(T:Txt K mg t):FnOk P w K mg base CX0 40 t.f__law_hard_term t.d__law_hard_term ["number","own","stranger"] (liSp K Z0A):=by
 refine T.q__law_hard_term.F.okM sc__law_hard_term (Z0M (Φ:=[("_law_broad",(Z0v 33)),("_law_deep",Z1K)]) (Z0N T) (Z0g T) rfl (fMc ⟨(mon_sp__law_broad _),(fMc ⟨mon_sp__law_deep,(fun _ h=>nomatch h)⟩)⟩) (fMc ⟨⟨_,_,_,FnOk.mono (ok__law_broad T 33) (by decide),T.q__law_broad.m,T.q__law_broad.F.kp,T.q__law_broad.b⟩,(fMc ⟨⟨_,_,_,FnOk.mono (ok__law_deep T) (by decide),T.q__law_deep.m,T.q__law_deep.F.kp,T.q__law_deep.b⟩,(fun _ h=>nomatch h)⟩)⟩):Fts P w K mg base 39 G__law_hard_term [("_law_broad",(Z0v 33)),("_law_deep",Z1K)]) Z1C ck__law_hard_term (fun vs M Q h=>?_) (fun vs M Q h=>?_)
 ·obtain⟨_,_,_,_,rfl,_⟩:=h;rfl
 obtain⟨n,a,own,st,rfl,ha,ol,hst,q⟩:=h
 show wSs _ _ _ [some (.int n),some (.ref a),some (.str st),none,none,none,none,none] M
 generalize hN:(33:Nat)=N
 obtain⟨N',hN'⟩:∃N',N=N'+1:=⟨N - 1,by omega⟩
 have rest:∀x f:Str,x∈own\/x=st->fltS (if x∈own then none else some ("Unknown":Str))=f->wSs [("_law_broad",Z0v N),("_law_deep",Z1K)] Z1E {nx:=fun _ M'=>Q .non M',rt:=Q} [some (.int n),some (.ref a),some (.str st),some (.tup [.str "var",.str x]),some (.str f),none,none,none] M:=by
  intro x f hx hf
  delta Z1E
  walk_at "s"
  delta i_law_hard_term_6
  walk_at "s"
  delta i_law_hard_term_7
  walk_at "s"
  refine Z13 (λc0=>?_) (λc0=>?_)
  ·delta i_law_hard_term_8
   walk_at "s"
   have:=q (.var x) (by simp[Tm.depth]) (λy hy=>by simp only[Tm.reads,Y0O]at hy;exact hy▸hx)
   rw[tm_small (x:=x) (by simp[Tm.size]) (by simp[Tm.depth]) (λy hy=>by simpa [Tm.reads]using hy) (by simp[Tm.reads]),hf]at this
   exact this
  delta i_law_hard_term_9
  walk_at "s"
  refine Z13 (λc1=>?_) (λc1=>?_)
  ·delta i_law_hard_term_10
   walk_at "s"
   have m0:=Y0F (n/72) (show(5:Int)≠0 by decide)
   have m1:=Y0y (n/72) (show(0:Int)<5 by decide)
   obtain⟨m,hm⟩:∃m,29+n/72%5=m:=⟨_,rfl⟩
   rw[hm]
   have sz:=brd_size (U:=.var x) rfl N m (by omega) (by omega) (by omega)
   have dp:(brd N m (.var x)).depth≤7:=by
    have p6:(2:Int)^6=64:=by decide
    have p5:(2:Int)^5=32:=by decide
    by_cases o:m%2=1
    ·exact Y0M (brd_depth (U:=.var x) rfl N m 6 (by omega) o (by rw[p6];omega)) (by decide)
    ·have d:=brd_depth (U:=.var x) rfl N' (m - 3) 5 (by omega) (by omega) (by rw[p5];omega)
     have e:brd N m (.var x)=.pick (.var x) (.num (-7)) (brd N' (m - 3) (.var x)):=hN'▸brd_even (by omega) (by omega)
     rw[e]
     simp only[Tm.depth];omega
   have rd:=brd_reads (x:=x) N m
   have fin:=q (brd N m (.var x)) (by omega) (λy hy=>(rd.1 y hy).symm▸hx)
   delta i_law_hard_term_11
   walk_at "s"
   refine Z13 (λc2=>?_) (λc2=>?_)
   ·delta i_law_hard_term_12
    walk_at "s"
    delta Z1o
    walk_at "s"
    refine⟨m,.var x,rfl,by omega,by omega,by omega,?_⟩
    rw[tm_big (.inl (by omega))]at fin
    exact fin
   ·delta Z1o
    walk_at "s"
    refine⟨m,.var x,rfl,by omega,by omega,by omega,?_⟩
    rw[tm_small (x:=x) (by omega) (by omega) rd.1 rd.2,hf]at fin
    exact fin
  ·have m0:=Y0F (n/72) (show(4:Int)≠0 by decide)
   have m1:=Y0y (n/72) (show(0:Int)<4 by decide)
   obtain⟨m,hm⟩:∃m:Nat,7+n/72%4=(m:Int):=⟨(7+n/72%4).toNat,by omega⟩
   obtain⟨d1,d2,d3⟩:=dep_is (U:=.var x) (m - 1)
   have d1:(dep (m - 1) (.var x)).depth=m:=by rw[d1];simp only[Tm.depth];omega
   have d2:(dep (m - 1) (.var x)).size≤30:=by rw[d2];simp only[Tm.size];omega
   have d3:(dep (m - 1) (.var x)).reads=[x]:=d3
   have fin:=q (dep (m - 1) (.var x)) (by omega) (λy hy=>by rw[d3,Y0O]at hy;exact hy▸hx)
   delta i_law_hard_term_14
   walk_at "s"
   rw[hm]
   refine Z13 (λc2=>?_) (λc2=>?_)
   ·delta i_law_hard_term_15
    walk_at "s"
    delta Z1n
    walk_at "s"
    rw[hm]
    refine⟨m,.var x,rfl,by omega,by omega,?_⟩
    rw[tm_big (.inr (by omega))]at fin
    exact fin
   ·delta Z1n
    walk_at "s"
    rw[hm]
    refine⟨m,.var x,rfl,by omega,by omega,?_⟩
    rw[tm_small (x:=x) d2 (by omega) (λy hy=>by rw[d3]at hy;simpa using hy) (by rw[d3];simp),hf]at fin
    exact fin
 delta Z1C i_law_hard_term_0
 repeat (first|walk_at "s"|simp only[ha])
 rw[Y03,ol]
 have e0:=Y0F n (show((3:Nat):Int)≠0 by decide)
 have e1:=Y0y n (show(0:Int)<((3:Nat):Int) by decide)
 obtain⟨x,hx,ax⟩:=atI_in (zs:=own) e0 (by rw[ol];exact e1)
 refine⟨by decide,_,ax,?_⟩
 delta i_law_hard_term_1
 walk_at "s"
 delta i_law_hard_term_2
 walk_at "s"
 refine Z13 (λc=>?_) (λc=>?_)
 ·delta i_law_hard_term_3
  simp only[s_cons,s_set,e_tup,es_cons,es_nil,e_str,e_var,List.getElem?_cons_zero,List.getElem?_cons_succ,v_s]
  refine⟨by rw[szl];exact(by decide:2≤16777216),?_⟩
  delta i_law_hard_term_4
  simp only[s_cons,s_set,s_nil,e_str,List.set_cons_zero,List.set_cons_succ]
  exact rest st _ (.inr rfl) (by rw[if_neg hst];rfl)
 ·exact rest x _ (.inl hx) (by rw[if_pos hx];rfl)
theorem at_last{a b c:MV}:atI [a,b,c] (-1)=some c:=by unfold atI ixN;simp
noncomputable def EndF(l0 l1:Str):Stp->Prop
 |.take f _=>f=l1\/f∉ [l0,l1]
 |.give f _=>f=l0\/f∉ [l0,l1]
 |_=>True
theorem flt_jump{fs ns:List Str}{n:Nat}{U:Tm}{i:Int}:fltS (Z0a fs ns n (.jump U i))=if Z09 ns U=none/\¬(0≤i/\i≤(n:Int))then("NoStep":Str)else fltS (Z09 ns U):=by
 unfold Z0a
 cases e:Z09 ns U with
 |some c=>simp only[e,reduceCtorEq,false_and,if_false]
 |none=>
  by_cases c:0≤i/\i≤(n:Int)
  ·simp only[e,c,if_true,not_true_eq_false,and_false,if_false,and_self]
  ·simp only[e,c,if_false,not_false_eq_true,and_self,if_true,fltS]
theorem flt_nil{ns:List Str}{U:Tm}:fltS (Z09 ns U)=""↔Z09 ns U=none:=by
 unfold Z09
 by_cases c:30<U.size\/8<U.depth
 ·rw[if_pos c];exact⟨λz=>absurd z (by decide+kernel),λz=>nomatch z⟩
 ·rw[if_neg c]
  by_cases d:∀x∈U.reads,x∈ns
  ·rw[if_pos d];exact⟨λ_=>rfl,λ_=>rfl⟩
  ·rw[if_neg d];exact⟨λz=>absurd z (by decide+kernel),λz=>nomatch z⟩
noncomputable abbrev Z0B:SpM:=λvs M Q=>∃(n:Int) (pl po:Addr) (l0 l1 x0 x1 x2:Str) (m:Nat),vs=[.int n,.ref pl,.ref po,.int m]/\M pl=some (.lst [.str l0,.str l1])/\M po=some (.lst [.str x0,.str x1,.str x2])/\(∀z∈ [l0,l1],Z1Z z)/\(∀z∈ [x0,x1,x2],Z1Z z)/\
 ∀S M',SameM M M'->StpPre [l0,l1] [x0,x1,x2] S->EndF l0 l1 S->Q (.tup [S.mv,.str (fltS (Z0a [l0,l1] [x0,x1,x2] m S))]) M'
theorem Z1R:MonW Z0B:=by walk_at "m"
theorem ok__law_hard_step(T:Txt K mg t):FnOk P w K mg base CX0 41 t.f__law_hard_step t.d__law_hard_step ["number","lanes","own","many"] (liSp K Z0B):=by
 refine T.q__law_hard_step.F.okM sc__law_hard_step (Z0M (Φ:=[("_law_fresh",Z1e),("_law_hard_term",Z0A),("_law_mix",Z07)]) (Z0N T) (Z0g T) rfl (fMc ⟨mon_sp__law_fresh,(fMc ⟨mon_sp__law_hard_term,(fMc ⟨Z0b,(fun _ h=>nomatch h)⟩)⟩)⟩) (fMc ⟨⟨_,_,_,(FnOk.mono (ok__law_fresh T) (by decide)),T.q__law_fresh.m,T.q__law_fresh.F.kp,T.q__law_fresh.b⟩,(fMc ⟨⟨_,_,_,(FnOk.mono (ok__law_hard_term T) (by decide)),T.q__law_hard_term.m,T.q__law_hard_term.F.kp,T.q__law_hard_term.b⟩,(fMc ⟨⟨_,_,_,(FnOk.mono (ok__law_mix T) (by decide)),T.q__law_mix.m,T.q__law_mix.F.kp,T.q__law_mix.b⟩,(fun _ h=>nomatch h)⟩)⟩)⟩):Fts P w K mg base 40 G__law_hard_step [("_law_fresh",Z1e),("_law_hard_term",Z0A),("_law_mix",Z07)]) Z1D ck__law_hard_step (fun vs M Q h=>?_) (fun vs M Q h=>?_)
 ·obtain⟨_,_,_,_,_,_,_,_,_,rfl,_⟩:=h;rfl
 obtain⟨n,pl,po,l0,l1,x0,x1,x2,m,rfl,hl,ho,gl,go,q⟩:=h
 show wSs _ _ _ [some (.int n),some (.ref pl),some (.ref po),some (.int m),none,none,none,none,none,none,none] M
 delta Z1D i_law_hard_step_0
 walk_at "s"
 refine⟨n,1,rfl,?_⟩
 generalize Z12 n 1=n1
 repeat (first|walk_at "s"|simp only[ho])
 refine⟨x0,po,[x0,x1,x2],rfl,ho,go _ (by simp),go,λst hst sst=>?_⟩
 walk_at "s"
 refine⟨n1,po,[x0,x1,x2],st,rfl,ho,rfl,hst,λU ud ur=>?_⟩
 walk_at "s"
 have up:TmPre [x0,x1,x2] U:=⟨ud,λy hy hn=>(ur y hy).elim (λz=>absurd z hn) λz=>z▸sst⟩
 delta i_law_hard_step_1
 repeat (first|walk_at "s"|simp only[hl])
 refine⟨l0,pl,[l0,l1],rfl,hl,gl _ (by simp),gl,λno hno sno=>?_⟩
 delta i_law_hard_step_2
 walk_at "s"
 delta i_law_hard_step_3
 walk_at "s"
 refine⟨n,2,rfl,?_⟩
 generalize Z12 n 2=n2
 walk_at "s"
 delta i_law_hard_step_4
 walk_at "s"
 delta i_law_hard_step_5
 walk_at "s"
 have la:n/8%2=0\/n/8%2=1:=by omega
 have va:n2%2=0\/n2%2=1:=by omega
 refine Z13 (λc0=>?_) (λc0=>?_)
 · -- a take
  have go9:∀f x:Str,(f=l1\/f∉ [l0,l1]/\ShortT f)->(x=x2\/x∉ [x0,x1,x2]/\ShortT x)->∀M',SameM M M'->Q (.tup [.tup [.str "take",.str f,.str x],.str (fltS (if f∈ [l0,l1]/\x∈ [x0,x1,x2]then none else some ("Unknown":Str)))]) M':=by
   intro f x hf hx M' s
   refine q (.take f x) M' s ⟨λh=>?_,λh=>?_⟩ ?_
   ·rcases hf with rfl|hf
    ·exact absurd (by simp) h
    ·exact hf.2
   ·rcases hx with rfl|hx
    ·exact absurd (by simp) h
    ·exact hx.2
   ·exact hf.imp id And.left
  delta i_law_hard_step_6
  walk_at "s"
  rcases la with e1|e1<;>rcases va with e2|e2<;>rw[e1,e2]
  ·refine Z13 (λc=>absurd c (by decide)) (λ_=>?_)
   delta i_law_hard_step_8
   walk_at "s"
   delta Z0C
   repeat (first|walk_at "s"|simp only[hl])
   intro p1 h1
   have s1:=SameM.new h1 (.lst [.str l1,.str no])
   generalize updM M p1 _=M1 at*
   have ho1:=s1 _ _ ho
   repeat (first|walk_at "s"|simp only[ho1,at_last])
   refine⟨x0,po,[x0,x1,x2],rfl,ho1,go _ (by simp),go,λfr hfr sfr=>?_⟩
   try walk_at "s"
   intro p2 h2
   have:=go9 l1 x2 (.inl rfl) (.inl rfl) _ (s1.trans (SameM.new h2 (.lst [.str x2,.str fr])))
   rw[if_pos (by simp)]at this
   exact this
  ·refine Z13 (λ_=>?_) (λc=>absurd (by decide) c)
   delta Z0V
   walk_at "s"
   delta Z0C
   repeat (first|walk_at "s"|simp only[hl])
   intro p1 h1
   have s1:=SameM.new h1 (.lst [.str l1,.str no])
   generalize updM M p1 _=M1 at*
   have ho1:=s1 _ _ ho
   repeat (first|walk_at "s"|simp only[ho1,at_last])
   refine⟨x0,po,[x0,x1,x2],rfl,ho1,go _ (by simp),go,λfr hfr sfr=>?_⟩
   try walk_at "s"
   intro p2 h2
   have:=go9 l1 fr (.inl rfl) (.inr ⟨hfr,sfr⟩) _ (s1.trans (SameM.new h2 (.lst [.str x2,.str fr])))
   rw[if_neg λz=>hfr z.2]at this
   exact this
  ·refine Z13 (λ_=>?_) (λc=>absurd (by decide) c)
   delta Z0V
   walk_at "s"
   delta Z0C
   repeat (first|walk_at "s"|simp only[hl])
   intro p1 h1
   have s1:=SameM.new h1 (.lst [.str l1,.str no])
   generalize updM M p1 _=M1 at*
   have ho1:=s1 _ _ ho
   repeat (first|walk_at "s"|simp only[ho1,at_last])
   refine⟨x0,po,[x0,x1,x2],rfl,ho1,go _ (by simp),go,λfr hfr sfr=>?_⟩
   try walk_at "s"
   intro p2 h2
   have:=go9 no x2 (.inr ⟨hno,sno⟩) (.inl rfl) _ (s1.trans (SameM.new h2 (.lst [.str x2,.str fr])))
   rw[if_neg λz=>hno z.1]at this
   exact this
  ·refine Z13 (λ_=>?_) (λc=>absurd (by decide) c)
   delta Z0V
   walk_at "s"
   delta Z0C
   repeat (first|walk_at "s"|simp only[hl])
   intro p1 h1
   have s1:=SameM.new h1 (.lst [.str l1,.str no])
   generalize updM M p1 _=M1 at*
   have ho1:=s1 _ _ ho
   repeat (first|walk_at "s"|simp only[ho1,at_last])
   refine⟨x0,po,[x0,x1,x2],rfl,ho1,go _ (by simp),go,λfr hfr sfr=>?_⟩
   try walk_at "s"
   intro p2 h2
   have:=go9 no fr (.inr ⟨hno,sno⟩) (.inr ⟨hfr,sfr⟩) _ (s1.trans (SameM.new h2 (.lst [.str x2,.str fr])))
   rw[if_neg λz=>hno z.1]at this
   exact this
 delta i_law_hard_step_10
 walk_at "s"
 refine Z13 (λc1=>?_) (λc1=>?_)
 · -- a give
  have gv:∀f:Str,(f=l0\/f∉ [l0,l1]/\ShortT f)->∀M',SameM M M'->Q (.tup [.tup [.str "give",.str f,U.mv],.str (fltS (if f∈ [l0,l1]then Z09 [x0,x1,x2] U else some ("Unknown":Str)))]) M':=by
   intro f hf M' s
   refine q (.give f U) M' s ⟨λh=>?_,up⟩ (hf.imp id And.left)
   rcases hf with rfl|hf
   ·exact absurd (by simp) h
   ·exact hf.2
  delta i_law_hard_step_11
  walk_at "s"
  rcases la with e1|e1<;>rw[e1]
  ·refine Z13 (λc=>absurd c (by decide)) (λ_=>?_)
   delta Z1s
   repeat (first|walk_at "s"|simp only[hl])
   intro p1 h1
   have:=gv l0 (.inl rfl) _ (SameM.new h1 (.lst [.str l0,.str no]))
   rw[if_pos (by simp)]at this
   exact this
  ·refine Z13 (λ_=>?_) (λc=>absurd rfl c)
   delta i_law_hard_step_12
   walk_at "s"
   delta Z1s
   repeat (first|walk_at "s"|simp only[hl])
   intro p1 h1
   have:=gv no (.inr ⟨hno,sno⟩) _ (SameM.new h1 (.lst [.str l0,.str no]))
   rw[if_neg hno]at this
   exact this
 delta i_law_hard_step_14
 walk_at "s"
 refine Z13 (λc2=>?_) (λc2=>?_)
 · -- a put
  have pt:∀x:Str,(x=x2\/x∉ [x0,x1,x2]/\ShortT x)->∀M',SameM M M'->Q (.tup [.tup [.str "put",.str x,U.mv],.str (fltS (if x∈ [x0,x1,x2]then Z09 [x0,x1,x2] U else some ("Unknown":Str)))]) M':=by
   intro x hx M' s
   refine q (.put x U) M' s ⟨λh=>?_,up⟩ trivial
   rcases hx with rfl|hx
   ·exact absurd (by simp) h
   ·exact hx.2
  delta i_law_hard_step_15
  walk_at "s"
  rcases va with e2|e2<;>rw[e2]
  ·refine Z13 (λc=>absurd c (by decide)) (λ_=>?_)
   delta Z1r
   repeat (first|walk_at "s"|simp only[ho,at_last])
   refine⟨x0,po,[x0,x1,x2],rfl,ho,go _ (by simp),go,λfr hfr sfr=>?_⟩
   try walk_at "s"
   intro p1 h1
   have:=pt x2 (.inl rfl) _ (SameM.new h1 (.lst [.str x2,.str fr]))
   rw[if_pos (by simp)]at this
   exact this
  ·refine Z13 (λ_=>?_) (λc=>absurd rfl c)
   delta i_law_hard_step_16
   walk_at "s"
   delta Z1r
   repeat (first|walk_at "s"|simp only[ho,at_last])
   refine⟨x0,po,[x0,x1,x2],rfl,ho,go _ (by simp),go,λfr hfr sfr=>?_⟩
   try walk_at "s"
   intro p1 h1
   have:=pt fr (.inr ⟨hfr,sfr⟩) _ (SameM.new h1 (.lst [.str x2,.str fr]))
   rw[if_neg hfr]at this
   exact this
 have jmp:∀(i:Int) M',SameM M M'->wSs ([("_law_fresh",Z1e),("_law_hard_term",Z0A),("_law_mix",Z07)]:List (Str×SpM)) Z1q {nx:=fun _ M'=>Q .non M',rt:=Q} [some (.int n),some (.ref pl),some (.ref po),some (.int m),some U.mv,some (.str (fltS (Z09 [x0,x1,x2] U))),some (.str no),some (.int (n/8%2)),some (.int (n2%2)),some (.int (n%4)),some (.int i)] M':=by
  intro i M' s
  have fin:=q (.jump U i) M' s up trivial
  rw[flt_jump]at fin
  delta Z1q
  walk_at "s"
  refine Z13 (λc=>?_) (λc=>?_)
  ·have c:=flt_nil.mp c
   refine Z13 (λd=>?_) (λd=>Z13 (λd2=>?_) (λd2=>?_))
   ·delta Z1p
    walk_at "s"
    delta Z0y
    walk_at "s"
    rw[if_pos ⟨c,by omega⟩]at fin
    exact fin
   ·delta Z1p
    walk_at "s"
    delta Z0y
    walk_at "s"
    rw[if_pos ⟨c,by omega⟩]at fin
    exact fin
   ·delta Z0y
    walk_at "s"
    rw[if_neg λz=>z.2 (by omega)]at fin
    exact fin
  ·delta Z0y
   walk_at "s"
   rw[if_neg λz=>c (flt_nil.mpr z.1)]at fin
   exact fin
 delta i_law_hard_step_18
 walk_at "s"
 delta i_law_hard_step_19
 walk_at "s"
 refine Z13 (λc3=>?_) (λc3=>jmp _ _ (SameM.refl _))
 delta i_law_hard_step_20
 walk_at "s"
 refine⟨n,3,rfl,?_⟩
 walk_at "s"
 refine⟨n,3,rfl,?_⟩
 walk_at "s"
 intro p1 h1
 rcases la with e1|e1
 ·refine⟨_,by rw[e1];exact at0,?_⟩
  exact jmp _ _ (SameM.new h1 _)
 ·refine⟨_,by rw[e1];exact at1,?_⟩
  exact jmp _ _ (SameM.new h1 _)
theorem good_at{a b c:MV}{i:Int}(h0:0≤i)(h1:i<3):∃v,atI [a,b,c] i=some v/\(v=a\/v=b\/v=c):=by
 rcases(show i=0\/i=1\/i=2 by omega)with rfl|rfl|rfl
 ·exact⟨_,at0,.inl rfl⟩
 ·exact⟨_,at1,.inr (.inl rfl)⟩
 ·exact⟨_,at2,.inr (.inr rfl)⟩
noncomputable abbrev Z0T:SpM:=λvs M Q=>∃(ns:List Int) (pl po:Addr) (l0 l1 x0 x1 x2:Str),vs=[.frl (ns.map .int),.ref pl,.ref po]/\M pl=some (.lst [.str l0,.str l1])/\M po=some (.lst [.str x0,.str x1,.str x2])/\(∀z∈ [l0,l1],Z1Z z)/\(∀z∈ [x0,x1,x2],Z1Z z)/\
 ∀(p:Addr) (a b:List Stp) (S:Stp) M',SameM M M'->M p=none->M' p=some (.lst ((a++S::b).map Stp.mv))->(a++S::b).length≤12->(∀s∈a++b,∀k,StpIn [l0,l1] [x0,x1,x2] k s/\EndF l0 l1 s)->StpPre [l0,l1] [x0,x1,x2] S->EndF l0 l1 S->
  Q (.tup [.ref p,.str (fltS (Z0a [l0,l1] [x0,x1,x2] (a++S::b).length S))]) M'
theorem Z1y:MonW Z0T:=by walk_at "m"
theorem ok__law_steps(T:Txt K mg t):FnOk P w K mg base CX0 42 t.f__law_steps t.d__law_steps ["script","lanes","own"] (liSp K Z0T):=by
 refine T.q__law_steps.F.okM sc__law_steps (Z0M (Φ:=[("_law_cell",Z0u),("_law_hard_step",Z0B),("_law_mix",Z07)]) (Z0N T) (Z0g T) rfl (fMc ⟨Z0I,(fMc ⟨Z1R,(fMc ⟨Z0b,(fun _ h=>nomatch h)⟩)⟩)⟩) (fMc ⟨⟨_,_,_,(FnOk.mono (ok__law_cell T) (by decide)),T.q__law_cell.m,T.q__law_cell.F.kp,T.q__law_cell.b⟩,(fMc ⟨⟨_,_,_,(FnOk.mono (ok__law_hard_step T) (by decide)),T.q__law_hard_step.m,T.q__law_hard_step.F.kp,T.q__law_hard_step.b⟩,(fMc ⟨⟨_,_,_,(FnOk.mono (ok__law_mix T) (by decide)),T.q__law_mix.m,T.q__law_mix.F.kp,T.q__law_mix.b⟩,(fun _ h=>nomatch h)⟩)⟩)⟩):Fts P w K mg base 41 G__law_steps [("_law_cell",Z0u),("_law_hard_step",Z0B),("_law_mix",Z07)]) ir__law_steps ck__law_steps (fun vs M Q h=>?_) (fun vs M Q h=>?_)
 ·obtain⟨_,_,_,_,_,_,_,_,rfl,_⟩:=h;rfl
 obtain⟨ns,pl,po,l0,l1,x0,x1,x2,rfl,hl,ho,gl,go,q⟩:=h
 show wSs _ _ _ [some (.frl (ns.map .int)),some (.ref pl),some (.ref po),none,none,none,none,none,none] M
 have hΦ:=(mkMon (Φ:=[("_law_cell",Z0u),("_law_hard_step",Z0B),("_law_mix",Z07)]) (fMc ⟨Z0I,(fMc ⟨Z1R,(fMc ⟨Z0b,(fun _ h=>nomatch h)⟩)⟩)⟩))
 delta ir__law_steps i_law_steps_0
 walk_at "s"
 refine⟨ns,3,rfl,by decide,λv0=>?_⟩
 walk_at "s"
 refine⟨v0,4,rfl,?_⟩
 generalize Z12 v0 4=n
 delta i_law_steps_1
 repeat (first|walk_at "s"|simp only[hl,ho])
 intro pg hpg
 have s1:=SameM.new hpg (.lst [.tup [.str "take",.str l1,.str x0],.tup [.str "give",.str l0,.tup [.str "var",.str x1]],.tup [.str "jump",.tup [.str "var",.str x0],.int 0]])
 have hg:updM M pg (.lst [.tup [.str "take",.str l1,.str x0],.tup [.str "give",.str l0,.tup [.str "var",.str x1]],.tup [.str "jump",.tup [.str "var",.str x0],.int 0]]) pg=some (.lst [(Stp.take l1 x0).mv,(Stp.give l0 (.var x1)).mv,(Stp.jump (.var x0) 0).mv]):=Z01
 generalize updM M pg _=M1 at*
 delta i_law_steps_2
 walk_at "s"
 have m0:=Y0F n (show(12:Int)≠0 by decide)
 have m1:=Y0y n (show(0:Int)<12 by decide)
 refine comp_rel (Y0I (n%12).toNat) (λk=>.int (0+(k:Nat))) (λ_ y=>∃s:Stp,y=s.mv/\∀k,StpIn [l0,l1] [x0,x1,x2] k s/\EndF l0 l1 s) ?_ ?_ hΦ λps M2 ys hps s2 yl yr hps2=>?_
 ·walk_at "s"
  exact⟨by omega,by omega,rfl,by rw[Y1c];omega,trivial,SameM.refl _⟩
 ·intro k hk M' s
  simp only[sCm,Y0d,Y0W,Y0A,Y0B,Y0L,Y0P]
  walk_at "s"
  refine⟨n,_,rfl,?_⟩
  generalize Z12 n (0+(k:Nat))=r
  have hg':=s _ _ hg
  repeat (first|walk_at "s"|simp only[hg'])
  obtain⟨v,hv,hc⟩:=good_at (a:=(Stp.take l1 x0).mv) (b:=(Stp.give l0 (.var x1)).mv) (c:=(Stp.jump (.var x0) 0).mv) (i:=r/8%3) (Y0F _ (by decide)) (Y0y _ (by decide))
  refine⟨v,hv,?_,SameM.refl _⟩
  have vin:∀x,x∈ [x0,x1,x2]->TmIn [x0,x1,x2] (.var x):=λx hx=>⟨by simp[Tm.depth],by simp[Tm.size],λy hy=>by simp only[Tm.reads,Y0O]at hy;exact hy▸hx⟩
  rcases hc with rfl|rfl|rfl
  ·exact⟨_,rfl,λk=>⟨⟨by simp,by simp⟩,.inl rfl⟩⟩
  ·exact⟨_,rfl,λk=>⟨⟨by simp,vin _ (by simp)⟩,.inl rfl⟩⟩
  ·exact⟨_,rfl,λk=>⟨⟨vin _ (by simp),by decide,by omega⟩,trivial⟩⟩
 obtain⟨ss,rfl,sl,sp⟩:=rel_list yl yr
 have sl:ss.length≤11:=by rw[sl,Y1c];omega
 delta i_law_steps_3
 repeat (first|walk_at "s"|simp only[hps2])
 rw[Y03]
 have a0:=Y0F (n/12) (show((ss.length:Int)+1)≠0 by omega)
 have a1:=Y0y (n/12) (show(0:Int)<(ss.length:Int)+1 by omega)
 obtain⟨k,hk⟩:∃k:Nat,n/12%((ss.length:Int)+1)=(k:Int):=⟨_,(Y1I a0).symm⟩
 rw[hk]at a1 ⊢
 refine⟨by omega,?_⟩
 delta i_law_steps_4
 walk_at "s"
 refine⟨ns,4,rfl,by decide,λv1=>?_⟩
 walk_at "s"
 refine⟨v1,5,rfl,?_⟩
 repeat (first|walk_at "s"|simp only[hps2])
 rw[Y03]
 have s12:=s1.trans s2
 have em:(ss.length:Int)+1=((ss.length+1:Nat):Int):=by omega
 rw[em]
 refine⟨_,pl,po,l0,l1,x0,x1,x2,ss.length+1,rfl,s12 _ _ hl,s12 _ _ ho,gl,go,λS M3 s3 hS eS=>?_⟩
 walk_at "s"
 have hps3:=s3 _ _ hps2
 delta i_law_steps_5
 repeat (first|walk_at "s"|simp only[hps3])
 intro p1 h1
 have e1:cutM (ss.map Stp.mv) none (some (k:Int))=(ss.take k).map Stp.mv:=by rw[cutM_upto0,List.map_take]
 have e2:cutM (ss.map Stp.mv) (some (k:Int)) none=(ss.drop k).map Stp.mv:=by rw[cutM_from0,List.map_drop]
 rw[e1]
 have t1:=SameM.new h1 (.lst ((ss.take k).map Stp.mv))
 have d1:updM M3 p1 (.lst ((ss.take k).map Stp.mv)) p1=some (.lst ((ss.take k).map Stp.mv)):=Z01
 generalize updM M3 p1 _=M4 at*
 intro p2 h2
 have t2:=SameM.new h2 (.lst [S.mv])
 have d2:updM M4 p2 (.lst [S.mv]) p2=some (.lst [S.mv]):=Z01
 have d1:=t2 _ _ d1
 have hps4:=t2 _ _ (t1 _ _ hps3)
 generalize updM M4 p2 _=M5 at*
 refine⟨_,d1,by rw[Y03,Y0p];omega,λp3 h3=>?_⟩
 have t3:=SameM.new h3 (.lst ((ss.take k).map Stp.mv++[S.mv]))
 have d3:updM M5 p3 (.lst ((ss.take k).map Stp.mv++[S.mv])) p3=some (.lst ((ss.take k).map Stp.mv++[S.mv])):=Z01
 have hps5:=t3 _ _ hps4
 generalize updM M5 p3 _=M6 at*
 repeat (first|walk_at "s"|simp only[hps5])
 intro p4 h4
 rw[e2]
 have t4:=SameM.new h4 (.lst ((ss.drop k).map Stp.mv))
 have d4:updM M6 p4 (.lst ((ss.drop k).map Stp.mv)) p4=some (.lst ((ss.drop k).map Stp.mv)):=Z01
 have d3:=t4 _ _ d3
 generalize updM M6 p4 _=M7 at*
 refine⟨_,d3,by simp only[Y0o,Y03,Y0p,Y0T,Y0q,Y2w];omega,λp5 h5=>?_⟩
 have ss1:=s12.trans (s3.trans (t1.trans (t2.trans (t3.trans t4))))
 have el:(ss.take k++S::ss.drop k).length=ss.length+1:=by simp only[Y0o,Y0q,Y0p,Y0T];omega
 have fin:=q p5 (ss.take k) (ss.drop k) S _ (ss1.trans (SameM.new h5 (.lst ((ss.take k).map Stp.mv++[S.mv]++(ss.drop k).map Stp.mv)))) (ss1.free h5) (by rw[Z01,Y0Z,Y0d,Y1n];rfl) (by rw[el];omega) (λs hs=>sp s (by rw[Y2q]at hs;exact hs)) hS eS
 rw[el]at fin
 exact fin
noncomputable def sorts23:List Str:=["NoName","Twice","NoWidth","NoWord","TooMany","Unknown","NoFerry","NoStep"]
theorem tm_class{ns:List Str}{U:Tm}{c:Str}(h:Z09 ns U=some c):c="TooMany"\/c="Unknown"\/c="NoStep":=by
 unfold Z09 at h
 by_cases a:30<U.size\/8<U.depth
 ·rw[if_pos a]at h;exact .inl (Y0w h).symm
 ·rw[if_neg a]at h
  by_cases d:∀x∈U.reads,x∈ns
  ·rw[if_pos d]at h;cases h
  ·rw[if_neg d]at h;exact .inr (.inl (Y0w h).symm)
theorem stp_class{fs ns:List Str}{n:Nat}{S:Stp}{c:Str}(h:Z0a fs ns n S=some c):c="TooMany"\/c="Unknown"\/c="NoStep":=by
 have un:some ("Unknown":Str)=some c->c="TooMany"\/c="Unknown"\/c="NoStep":=fun h=>.inr (.inl (Y0w h).symm)
 cases S with
 |take f x=>
  have h:(if f∈fs/\x∈ns then none else some ("Unknown":Str))=some c:=h
  by_cases a:f∈fs/\x∈ns
  ·rw[if_pos a]at h;cases h
  ·rw[if_neg a]at h;exact un h
 |give f U=>
  have h:(if f∈fs then Z09 ns U else some ("Unknown":Str))=some c:=h
  by_cases a:f∈fs
  ·rw[if_pos a]at h;exact tm_class h
  ·rw[if_neg a]at h;exact un h
 |put x U=>
  have h:(if x∈ns then Z09 ns U else some ("Unknown":Str))=some c:=h
  by_cases a:x∈ns
  ·rw[if_pos a]at h;exact tm_class h
  ·rw[if_neg a]at h;exact un h
 |jump U i=>
  unfold Z0a at h
  cases e:Z09 ns U with
  |some c'=>simp only[e]at h;cases h;exact tm_class e
  |none=>
   simp only[e]at h
   by_cases a:0≤i/\i≤(n:Int)
   ·rw[if_pos a]at h;cases h
   ·rw[if_neg a]at h;exact .inr (.inr (Y0w h).symm)
theorem Wld.fault_class{W:Wld}{c:Str}(h:W.fault=some c):c="TooMany"\/c="Unknown"\/c="NoStep":=by
 obtain⟨I,_,hI⟩:=Y2d h
 obtain⟨S,_,hS⟩:=Y2d hI
 exact stp_class hS
noncomputable def kin23(c:Str):List MV:=.bl true::sorts23.map λz=>.bl (decide (z=c))
noncomputable abbrev Z0J:SpM:=λvs M Q=>∃(W:Wld) (pi pf:Addr) (ys:List MV),vs=[.tup [.int W.w,.ref pi,.ref pf]]/\W.Pre/\M pi=some (.lst ys)/\IslsIn M W.isl ys/\M pf=some (.lst (W.fer.map Fer.mv))/\
 (∀k M',SameM M M'->W.fault=none->M' k=some (.lst [])->Q (.tup [W.mv,.ref k]) M')/\(∀k c M',SameM M M'->W.fault=some c->M' k=some (.lst (kin23 c))->Q (.tup [.non,.ref k]) M')
theorem Z1m:MonW Z0J:=by walk_at "m"
theorem ok__law_answer(T:Txt K mg t):FnOk P w K mg base CX0 58 t.f__law_answer t.d__law_answer ["parts"] (liSp K Z0J):=by
 refine T.q__law_answer.F.okT (G:=H__law_answer) sc__law_answer (Z0M (Φ:=[]) (Z0N T) (Z0g T) rfl (fun _ h=>nomatch h) (fun _ h=>nomatch h):Fts P w K mg base 57 G__law_answer []) (mkFtX (Ψ:=[("_law_made",sp__law_made)]) rfl (fMc ⟨mon_sp__law_made,(fun _ h=>nomatch h)⟩) (fMc ⟨⟨_,_,_,(FnOk.mono (ok__law_made T) (by decide)),T.q__law_made.m,T.q__law_made.F.kp,T.q__law_made.b⟩,(fun _ h=>nomatch h)⟩):FtX P w K mg base 57 ["_law_made"] [("_law_made",sp__law_made)]) T.ex (by decide+kernel) ir__law_answer ck__law_answer (fun vs M Q h=>?_) (fun vs M Q h=>?_)
 ·obtain⟨_,_,_,_,rfl,_⟩:=h;rfl
 obtain⟨W,pi,pf,ys,rfl,B,hpi,hI,hpf,q1,q2⟩:=h
 show wTs _ _ _ _ _ [some (.tup [.int W.w,.ref pi,.ref pf]),none,none,none] M
 delta ir__law_answer
 walk_at "s"
 intro k hk
 have s0:=SameM.new hk (.lst [])
 have e0:updM M k (.lst []) k=some (.lst []):=Z01
 generalize updM M k _=M1 at*
 refine⟨W,pi,pf,ys,rfl,B,s0 _ _ hpi,hI.keep s0,s0 _ _ hpf,λM2 s2 e=>?_,λM2 c s2 e=>?_⟩
 ·try walk_at "s"
  exact q1 _ _ (s0.trans s2) e (s2 _ _ e0)
 ·have ec:∀p' M3,M3 p'=some (.lst (kin23 c))->SameM M M3->Q (.tup [.non,.ref p']) M3:=λp' M3 h s=>q2 p' c M3 s e h
  rcases W.fault_class e with rfl|rfl|rfl
  all_goals
   refine⟨by decide+kernel,λp' hp'=>?_⟩
   refine ec p' _ ?_ ((s0.trans s2).trans (SameM.new hp' _))
   rw[Z01]
   simp[strEq,kin23,sorts23]
structure IslsNew (M0 M:MH) (Is:List Isl) (ys:List MV):Prop where
 len:ys.length=Is.length
 at_:∀(i:Nat) (I:Isl) (y:MV),Is[i]?=some I->ys[i]?=some y->∃a b,y=.tup [.str I.name,.ref a,.ref b]/\M0 a=none/\M0 b=none/\M a=some (.lst (I.prs.map prV))/\M b=some (.lst (I.stps.map Stp.mv))
theorem IslsNew.inn{M0 M:MH}{Is:List Isl}{ys:List MV}(h:IslsNew M0 M Is ys):IslsIn M Is ys:=⟨h.len,λi I y a b=>by
 obtain⟨c,d,e,_,_,h1,h2⟩:=h.at_ i I y a b
 exact⟨c,d,e,h1,h2⟩⟩
theorem IslsNew.keep{M0 M M':MH}{Is:List Isl}{ys:List MV}(h:IslsNew M0 M Is ys)(s:∀a o,M a=some o->M0 a=none->M' a=some o):IslsNew M0 M' Is ys:=⟨h.len,λi I y a b=>by
 obtain⟨c,d,e,n1,n2,h1,h2⟩:=h.at_ i I y a b
 exact⟨c,d,e,n1,n2,s _ _ h1 n1,s _ _ h2 n2⟩⟩
theorem get_snoc{α:Type}{v y:α}{xs:List α}{i:Nat}(h:(xs++[v])[i]?=some y):xs[i]?=some y\/(i=xs.length/\y=v):=by
 rw[List.getElem?_append]at h
 split at h
 ·exact .inl h
 ·rename_i e
  obtain⟨d,hd⟩:∃d,i - xs.length=d:=⟨_,rfl⟩
  rw[hd]at h
  cases d with
  |zero=>simp at h;exact .inr ⟨by lia,h.symm⟩
  |succ d=>simp at h
theorem IslsNew.add{M0 M:MH}{Is:List Isl}{ys:List MV}(h:IslsNew M0 M Is ys){I:Isl}{a b:Addr}(n1:M0 a=none)(n2:M0 b=none)(h1:M a=some (.lst (I.prs.map prV)))(h2:M b=some (.lst (I.stps.map Stp.mv))):IslsNew M0 M (Is++[I]) (ys++[.tup [.str I.name,.ref a,.ref b]]):=by
 refine⟨by simp[h.len],λi J y hJ hy=>?_⟩
 have l:=h.len
 rcases get_snoc hJ with hJ'|⟨e1,rfl⟩<;>rcases get_snoc hy with hy'|⟨e2,rfl⟩
 ·exact h.at_ i J y hJ' hy'
 ·have:=(Y07.mp hJ').1;lia
 ·have:=(Y07.mp hy').1;lia
 ·exact⟨a,b,rfl,n1,n2,h1,h2⟩
theorem IslsIn.app{M:MH}{A B:List Isl}{u v:List MV}(h:IslsIn M A u)(g:IslsIn M B v):IslsIn M (A++B) (u++v):=by
 refine⟨by rw[Y0o,Y0o,h.1,g.1],λi I y hI hy=>?_⟩
 by_cases l:i<A.length
 ·rw[Y0s l]at hI
  rw[Y0s (by rw[h.1];exact l)]at hy
  exact h.2 i I y hI hy
 ·rw[Y0v (by omega)]at hI
  rw[Y0v (by rw[h.1];omega),h.1]at hy
  exact g.2 _ I y hI hy
theorem IslsIn.drop{M:MH}{A:List Isl}{u:List MV}(h:IslsIn M A u)(k:Nat):IslsIn M (A.drop k) (u.drop k):=by
 refine⟨by rw[Y0T,Y0T,h.1],λi I y hI hy=>?_⟩
 rw[List.getElem?_drop]at hI hy
 exact h.2 _ I y hI hy
theorem IslsIn.take{M:MH}{A:List Isl}{u:List MV}(h:IslsIn M A u)(k:Nat):IslsIn M (A.take k) (u.take k):=by
 refine⟨by rw[Y0p,Y0p,h.1],λi I y hI hy=>?_⟩
 have hi:i<k:=by
  have:=(Y07.mp hI).1
  rw[Y0p]at this;omega
 rw[Y2P hi]at hI hy
 exact h.2 _ I y hI hy
theorem tm_pre{ns:List Str}{U:Tm}(h:TmIn ns U):TmPre ns U:=⟨Y0M h.1 (by decide),λx hx hn=>absurd (h.2.2 x hx) hn⟩
theorem stp_pre{fs ns:List Str}{n:Nat}{S:Stp}(h:StpIn fs ns n S):StpPre fs ns S:=by
 cases S with
 |take f x=>exact⟨λz=>absurd h.1 z,λz=>absurd h.2 z⟩
 |give f U=>exact⟨λz=>absurd h.1 z,tm_pre h.2⟩
 |put x U=>exact⟨λz=>absurd h.1 z,tm_pre h.2⟩
 |jump U i=>exact tm_pre h.1
theorem end_of{z0 z1 z4 z5:Str}{k k' s s':Nat}(ne:z4≠z5){S:Stp}(h:EndF z4 z5 S):EndOk [⟨z4,z0,z1,k,s⟩,⟨z5,z1,z0,k',s'⟩] z0 S:=by
 cases S with
 |take f x=>
  intro y hy e
  simp only[Y05,Y0e,or_false]at hy
  rcases hy with rfl|rfl
  ·subst e
   rcases h with h|h
   ·exact absurd h ne
   ·exact absurd (by simp) h
  ·rfl
 |give f U=>
  intro y hy e
  simp only[Y05,Y0e,or_false]at hy
  rcases hy with rfl|rfl
  ·rfl
  ·subst e
   rcases h with h|h
   ·exact absurd h ne.symm
   ·exact absurd (by simp) h
 |put x U=>trivial
 |jump U i=>trivial
structure Drawn (wd:Nat) (z0 z1 z4 z5 z6 z7 z8:Str) (ls:List Str) (S:Stp) (stps:List Stp) (Is:List Isl):Prop where
 nd:(z0::z1::ls++[z4,z5]).Nodup
 vn:[z6,z7,z8].Nodup
 go:∀z∈z0::z1::ls++[z4,z5],Z1Z z
 gv:∀z∈ [z6,z7,z8],Z1Z z
 w1:1≤wd
 w2:wd≤64
 l2:ls.length≤2
 nm:(Is.map (·.name)).Perm (z0::z1::ls)
 i0:∃I∈Is,I.stps=stps/\I.vars=[z6,z7,z8]
 is:∀I∈Is,(I.name=z0/\I.stps=stps/\I.vars=[z6,z7,z8]/\∀p∈I.prs,0≤p.2/\p.2<2^wd)\/(I.prs=[]/\I.stps=[])\/(I.prs=[(z6,0)]/\I.stps=[.put z6 (.num 5),.jump (.num 1) 2])
 sl:stps.length≤12
 si:S∈stps
 sp:StpPre [z4,z5] [z6,z7,z8] S
 se:EndF z4 z5 S
 so:∀s∈stps,s=S\/∀k,StpIn [z4,z5] [z6,z7,z8] k s/\EndF z4 z5 s
theorem num_in{ns:List Str}{n:Int}:TmIn ns (.num n):=⟨by simp[Tm.depth],by simp[Tm.size],λx hx=>by simp[Tm.reads]at hx⟩
theorem two_in{fs:List Str}{z6:Str}:∀s∈([.put z6 (.num 5),.jump (.num 1) 2]:List Stp),StpIn fs [z6] 2 s:=by
 intro s hs
 simp only[Y05,Y0e,or_false]at hs
 rcases hs with rfl|rfl
 ·exact⟨by simp,num_in⟩
 ·exact⟨num_in,by decide,by decide⟩
noncomputable def drawnW(wd:Nat)(Is:List Isl)(z0 z1 z4 z5:Str):Wld:=⟨wd,Is,[⟨z4,z0,z1,1,2⟩,⟨z5,z1,z0,3,1⟩]⟩
section
variable{wd:Nat}{z0 z1 z4 z5 z6 z7 z8:Str}{ls:List Str}{S:Stp}{stps:List Stp}{Is:List Isl}
theorem Drawn.pre(h:Drawn wd z0 z1 z4 z5 z6 z7 z8 ls S stps Is):(drawnW wd Is z0 z1 z4 z5).Pre:=by
 have n2:=(Y1S.mp h.nd)
 have ne:z4≠z5:=by have:=n2.2.1;simp at this;exact this
 have n01:z0≠z1:=by have:=n2.1;simp only[Y19,Y05,not_or]at this;exact this.1.1
 have len:=h.nm.length_eq
 rw[Y03,Y0q,Y0q]at len
 have l2:=h.l2
 have in0:z0∈Is.map (·.name):=h.nm.mem_iff.mpr (by simp)
 have in1:z1∈Is.map (·.name):=h.nm.mem_iff.mpr (by simp)
 refine⟨h.w1,h.w2,by show Is.length≤5;omega,(by decide:2≤6),λz hz=>h.go z (Y0z.mpr (.inr hz)),λz hz=>h.go z (Y0z.mpr (.inl (h.nm.mem_iff.mp hz))),?_,λI hI=>?_,λf hf=>?_,λI hI s hs=>?_⟩
 ·show([z4,z5]++Is.map (·.name)).Nodup
  refine((List.Perm.append_left _ h.nm).trans List.perm_append_comm).nodup_iff.mpr h.nd
 ·show IslPre wd [z4,z5] I
  rcases h.is I hI with⟨_,e1,e2,e3⟩|⟨e1,e2⟩|⟨e1,e2⟩
  ·refine⟨?_,by rw[e1];exact h.sl,by rw[e2];exact h.vn,by rw[e2];exact h.gv,e3,λs hs=>?_⟩
   ·have:I.vars.length=3:=by rw[e2];rfl
    unfold Isl.vars at this
    rw[Y03]at this
    omega
   ·rw[e1]at hs
    rw[e2]
    rcases h.so s hs with rfl|z
    ·exact h.sp
    ·exact stp_pre (z 0).1
  ·have ev:I.vars=[]:=by unfold Isl.vars;rw[e1];rfl
   refine⟨by rw[e1];decide,by rw[e2];decide,by rw[ev];exact .nil,λx hx=>?_,λp hp=>?_,λs hs=>?_⟩
   ·rw[ev]at hx;cases hx
   ·rw[e1]at hp;cases hp
   ·rw[e2]at hs;cases hs
  ·have ev:I.vars=[z6]:=by unfold Isl.vars;rw[e1];rfl
   refine⟨by rw[e1];exact(by decide:1≤6),by rw[e2];exact(by decide:2≤12),by rw[ev];simp,λx hx=>?_,λp hp=>?_,λs hs=>?_⟩
   ·rw[ev,Y0O]at hx;exact h.gv x (by simp[hx])
   ·rw[e1,Y0O]at hp;subst hp;exact⟨Int.le_refl 0,pow_pos' _⟩
   ·rw[e2]at hs
    rw[ev]
    exact stp_pre (two_in s hs)
 ·show FerOk (Is.map (·.name)) f
  have hf:f∈([⟨z4,z0,z1,1,2⟩,⟨z5,z1,z0,3,1⟩]:List Fer):=hf
  simp only[Y05,Y0e,or_false]at hf
  rcases hf with rfl|rfl
  ·exact⟨in0,in1,n01,(by decide:1≤3),(by decide:1≤2),(by decide:2≤3)⟩
  ·exact⟨in1,in0,n01.symm,(by decide:3≤3),(by decide:1≤1),(by decide:1≤3)⟩
 ·rcases h.is I hI with⟨e0,e1,_,_⟩|⟨_,e2⟩|⟨_,e2⟩
  ·rw[e1]at hs
   rw[e0]
   rcases h.so s hs with rfl|z
   ·exact end_of ne h.se
   ·exact end_of ne (z 0).2
  ·rw[e2]at hs;cases hs
  ·rw[e2]at hs
   simp only[Y05,Y0e,or_false]at hs
   rcases hs with rfl|rfl<;>trivial
theorem Drawn.fault(h:Drawn wd z0 z1 z4 z5 z6 z7 z8 ls S stps Is):(drawnW wd Is z0 z1 z4 z5).fault=Z0a [z4,z5] [z6,z7,z8] stps.length S:=by
 have one:∀I,I.stps=stps->I.vars=[z6,z7,z8]->Z1I [z4,z5] I=Z0a [z4,z5] [z6,z7,z8] stps.length S:=λI e1 e2=>by
  unfold Z1I
  rw[e1,e2]
  refine find_one (λs hs=>?_) ⟨S,h.si,rfl⟩
  rcases h.so s hs with rfl|z
  ·exact .inr rfl
  ·exact .inl (in_stp (z _).1)
 show Is.findSome? (Z1I [z4,z5])=_
 refine find_one (λI hI=>?_) ?_
 ·rcases h.is I hI with⟨_,e1,e2,_⟩|⟨e1,e2⟩|⟨e1,e2⟩
  ·exact .inr (one I e1 e2)
  ·refine .inl ?_
   unfold Z1I
   rw[e2];rfl
  ·refine .inl ?_
   have ev:I.vars=[z6]:=by unfold Isl.vars;rw[e1];rfl
   unfold Z1I
   rw[e2,ev]
   exact find_none λs hs=>in_stp (two_in s hs)
 ·obtain⟨I,hI,e1,e2⟩:=h.i0
  exact⟨I,hI,one I e1 e2⟩
end
noncomputable def deep:Nat->MV->Bool
 |0,x=>flatM x
 |n+1,.tup xs=>xs.all (deep n)
 |_+1,x=>flatM x
theorem deep_flat{x:MV}(n:Nat)(h:flatM x=true):deep n x=true:=by
 cases n with
 |zero=>exact h
 |succ n=>cases x<;>first|exact h|cases h
theorem alike_deep{M:MH}:∀(n:Nat) (x:MV),deep n x=true->Alike M n x x
 |0,x,h=>⟨h,rfl⟩
 |n+1,x,h=>by
  cases x with
  |tup xs=>
   have h:xs.all (deep n)=true:=h
   refine Alike.tup rfl λi u v e e'=>?_
   rw[e]at e'
   cases e'
   exact alike_deep n u (Y1g.mp h u (Y0C e))
  |_=>exact .flat (n+1) h
theorem deep_tm:∀(T:Tm) (n:Nat),T.depth≤n->deep n T.mv=true
 |.num k,n,h=>by
  cases n with
  |zero=>simp[Tm.depth]at h
  |succ n=>show [MV.str _,.int k].all (deep n)=true;simp[deep_flat n (x:=.str "num") rfl,deep_flat n (x:=.int k) rfl]
 |.var x,n,h=>by
  cases n with
  |zero=>simp[Tm.depth]at h
  |succ n=>show [MV.str _,.str x].all (deep n)=true;simp[deep_flat n (x:=.str "var") rfl,deep_flat n (x:=.str x) rfl]
 |.two f a b,n,h=>by
  cases n with
  |zero=>simp[Tm.depth]at h
  |succ n=>
   simp only[Tm.depth]at h
   show [MV.str _,a.mv,b.mv].all (deep n)=true
   simp only[Y1a,Y2I,Y2t,Y06]
   exact⟨deep_flat n rfl,deep_tm a n (by omega),deep_tm b n (by omega)⟩
 |.pick c a b,n,h=>by
  cases n with
  |zero=>simp[Tm.depth]at h
  |succ n=>
   simp only[Tm.depth]at h
   show [MV.str _,c.mv,a.mv,b.mv].all (deep n)=true
   simp only[Y1a,Y2I,Y2t,Y06]
   exact⟨deep_flat n rfl,deep_tm c n (by omega),deep_tm a n (by omega),deep_tm b n (by omega)⟩
theorem deep_stp{fs ns:List Str}{k:Nat}{s:Stp}(h:StpIn fs ns k s):deep 9 s.mv=true:=by
 cases s with
 |take f x=>rfl
 |give f T=>show([MV.str _,.str f,T.mv].all (deep 8))=true;simp only[Y1a,Y2I,Y2t,Y06];exact⟨rfl,rfl,deep_tm T 8 h.2.1⟩
 |put x T=>show([MV.str _,.str x,T.mv].all (deep 8))=true;simp only[Y1a,Y2I,Y2t,Y06];exact⟨rfl,rfl,deep_tm T 8 h.2.1⟩
 |jump T i=>show([MV.str _,T.mv,.int i].all (deep 8))=true;simp only[Y1a,Y2I,Y2t,Y06];exact⟨rfl,deep_tm T 8 h.1.1,rfl⟩
theorem all_map{α:Type}{f:α->MV}{p:MV->Bool}{xs:List α}(h:∀x∈xs,p (f x)=true):(xs.map f).all p=true:=by
 rw[Y1g]
 intro y hy
 obtain⟨x,hx,rfl⟩:=Y0E.mp hy
 exact h x hx
theorem ok_law(T:Txt K mg t):FnOk P w K mg base CX0 60 t.f_law t.d_law ["script"] (liSp K spLawM):=by
 refine T.q_law.F.okM sc_law (Z0M (Φ:=[("_law_answer",Z0J),("_law_cell",Z0u),("_law_mix",Z07),("_law_names",Z0U),("_law_steps",Z0T),("_law_word",Z1c)]) (Z0N T) (Z0g T) rfl (fMc ⟨Z1m,(fMc ⟨Z0I,(fMc ⟨Z0b,(fMc ⟨Z1z,(fMc ⟨Z1y,(fMc ⟨Z1X,(fun _ h=>nomatch h)⟩)⟩)⟩)⟩)⟩)⟩) (fMc ⟨⟨_,_,_,(FnOk.mono (ok__law_answer T) (by decide)),T.q__law_answer.m,T.q__law_answer.F.kp,T.q__law_answer.b⟩,(fMc ⟨⟨_,_,_,(FnOk.mono (ok__law_cell T) (by decide)),T.q__law_cell.m,T.q__law_cell.F.kp,T.q__law_cell.b⟩,(fMc ⟨⟨_,_,_,(FnOk.mono (ok__law_mix T) (by decide)),T.q__law_mix.m,T.q__law_mix.F.kp,T.q__law_mix.b⟩,(fMc ⟨⟨_,_,_,(FnOk.mono (ok__law_names T) (by decide)),T.q__law_names.m,T.q__law_names.F.kp,T.q__law_names.b⟩,(fMc ⟨⟨_,_,_,(FnOk.mono (ok__law_steps T) (by decide)),T.q__law_steps.m,T.q__law_steps.F.kp,T.q__law_steps.b⟩,(fMc ⟨⟨_,_,_,(FnOk.mono (ok__law_word T) (by decide)),T.q__law_word.m,T.q__law_word.F.kp,T.q__law_word.b⟩,(fun _ h=>nomatch h)⟩)⟩)⟩)⟩)⟩)⟩):Fts P w K mg base 59 G_law [("_law_answer",Z0J),("_law_cell",Z0u),("_law_mix",Z07),("_law_names",Z0U),("_law_steps",Z0T),("_law_word",Z1c)]) ir_law ck_law (fun vs M Q h=>?_) (fun vs M Q h=>?_)
 ·obtain⟨ns,rfl,_⟩:=h;rfl
 obtain⟨ns,rfl,h63,q⟩:=h
 have hΦ:=(mkMon (Φ:=[("_law_answer",Z0J),("_law_cell",Z0u),("_law_mix",Z07),("_law_names",Z0U),("_law_steps",Z0T),("_law_word",Z1c)]) (fMc ⟨Z1m,(fMc ⟨Z0I,(fMc ⟨Z0b,(fMc ⟨Z1z,(fMc ⟨Z1y,(fMc ⟨Z1X,(fun _ h=>nomatch h)⟩)⟩)⟩)⟩)⟩)⟩))
 show wSs _ _ _ [some (.frl (ns.map .int)),none,none,none,none,none,none,none,none,none,none,none,none,none,none,none] M
 have hΦ:=(mkMon (Φ:=[("_law_answer",Z0J),("_law_cell",Z0u),("_law_mix",Z07),("_law_names",Z0U),("_law_steps",Z0T),("_law_word",Z1c)]) (fMc ⟨Z1m,(fMc ⟨Z0I,(fMc ⟨Z0b,(fMc ⟨Z1z,(fMc ⟨Z1y,(fMc ⟨Z1X,(fun _ h=>nomatch h)⟩)⟩)⟩)⟩)⟩)⟩))
 delta ir_law ilaw_0
 walk_at "s"
 refine⟨ns,0,rfl,by decide,λv0=>?_⟩
 walk_at "s"
 refine⟨v0,1,rfl,?_⟩
 walk_at "s"
 refine⟨_,9,rfl,by decide,λpn zs M1 s1 hpn hn zl znd zg=>?_⟩
 obtain⟨z0,z1,z2,z3,z4,z5,z6,z7,z8,rfl⟩:∃z0 z1 z2 z3 z4 z5 z6 z7 z8,zs=[z0,z1,z2,z3,z4,z5,z6,z7,z8]:=by
  match zs,zl with
  |[z0,z1,z2,z3,z4,z5,z6,z7,z8],_=>exact⟨_,_,_,_,_,_,_,_,_,rfl⟩
 have hn:M1 pn=some (.lst [.str z0,.str z1,.str z2,.str z3,.str z4,.str z5,.str z6,.str z7,.str z8]):=hn
 delta ilaw_1
 walk_at "s"
 refine⟨ns,1,rfl,by decide,λv1=>?_⟩
 walk_at "s"
 refine⟨v1,2,rfl,?_⟩
 walk_at "s"
 have w0:=Y0F (Z12 v1 2) (show(64:Int)≠0 by decide)
 have w1:=Y0y (Z12 v1 2) (show(0:Int)<64 by decide)
 obtain⟨wd,hwd⟩:∃wd:Nat,1+Z12 v1 2%64=(wd:Int):=⟨(1+Z12 v1 2%64).toNat,by omega⟩
 rw[hwd]
 have wd1:1≤wd:=by omega
 have wd2:wd≤64:=by omega
 clear w0 w1 hwd
 delta ilaw_2
 repeat (first|walk_at "s"|simp only[hn])
 intro po hpo
 have eo:cutM [MV.str z0,.str z1,.str z2,.str z3,.str z4,.str z5,.str z6,.str z7,.str z8] (some 6) none=[.str z6,.str z7,.str z8]:=cutM_from0 _ 6
 rw[eo]
 have s2:=s1.trans (SameM.new hpo (.lst [.str z6,.str z7,.str z8]))
 have ho:updM M1 po (.lst [.str z6,.str z7,.str z8]) po=some (.lst [.str z6,.str z7,.str z8]):=Z01
 have hn2:=SameM.new hpo (.lst [.str z6,.str z7,.str z8]) _ _ hn
 generalize updM M1 po _=M2 at*
 delta ilaw_3
 repeat (first|walk_at "s"|simp only[hn2])
 intro pl hpl
 have el:cutM [MV.str z0,.str z1,.str z2,.str z3,.str z4,.str z5,.str z6,.str z7,.str z8] (some 4) (some 6)=[.str z4,.str z5]:=by
  unfold cutM
  rw[show(some (4:Int))=some ((4:Nat):Int)from rfl,show(some (6:Int))=some ((6:Nat):Int)from rfl,HT.sIx_nat,HT.sIx_nat]
  rfl
 rw[el]
 have s3:=SameM.new hpl (.lst [.str z4,.str z5])
 have hl:updM M2 pl (.lst [.str z4,.str z5]) pl=some (.lst [.str z4,.str z5]):=Z01
 have ho3:=s3 _ _ ho
 have hn3:=s3 _ _ hn2
 generalize updM M2 pl _=M3 at*
 have g45:∀z∈ [z4,z5],Z1Z z:=λz hz=>zg z (by simp only[Y05,Y0e,or_false]at hz ⊢;rcases hz with rfl|rfl<;>simp)
 have g678:∀z∈ [z6,z7,z8],Z1Z z:=λz hz=>zg z (by simp only[Y05,Y0e,or_false]at hz ⊢;rcases hz with rfl|rfl|rfl<;>simp)
 refine⟨ns,pl,po,z4,z5,z6,z7,z8,rfl,hl,ho3,g45,g678,λpst sa sb S M4 s4 hpst hst stl sok spre send=>?_⟩
 walk_at "s"
 have ho4:=s4 _ _ ho3
 have hn4:=s4 _ _ hn3
 obtain⟨stps,hstps⟩:∃stps,sa++S::sb=stps:=⟨_,rfl⟩
 have hall:∀s∈stps,s=S\/∀k,StpIn [z4,z5] [z6,z7,z8] k s/\EndF z4 z5 s:=λs hs=>by
  rw[<- hstps]at hs
  rcases Y0z.mp hs with h|h
  ·exact .inr (sok s (Y0z.mpr (.inl h)))
  ·rcases Y05.mp h with h|h
   ·exact .inl h
   ·exact .inr (sok s (Y0z.mpr (.inr h)))
 have hSin:S∈stps:=by rw[<- hstps];simp
 rw[hstps]at hst stl ⊢
 obtain⟨o,hof⟩:∃o,Z0a [z4,z5] [z6,z7,z8] stps.length S=o:=⟨_,rfl⟩
 rw[hof]
 delta ilaw_4
 walk_at "s"
 refine⟨ns,2,rfl,by decide,λv2=>?_⟩
 walk_at "s"
 refine⟨v2,3,rfl,?_⟩
 generalize Z12 v2 3=mo
 delta ilaw_5
 walk_at "s"
 refine comp_same [z6,z7,z8] MV.str (λz=>prV (z,lawWordW (Z12 mo 7) wd)) ?_ ?_ hΦ λpp M5 hpp s5 hp5=>?_
 ·repeat (first|walk_at "s"|simp only[ho4])
  exact⟨rfl,ho4,SameM.refl _⟩
 ·intro z hz M' s
  simp only[sCm,Y0d,Y0W,Y0A,Y0B,Y0L,Y0P]
  walk_at "s"
  refine⟨mo,7,rfl,?_⟩
  walk_at "s"
  exact⟨_,wd,rfl,wd2,λM8 s8=>⟨rfl,s8⟩⟩
 obtain⟨wv,hwv,wvin⟩:∃wv,lawWordW (Z12 mo 7) wd=wv/\0≤wv/\wv<2^wd:=⟨_,rfl,lawWordW_in _ _⟩
 rw[hwv]at hp5
 have hp5:M5 pp=some (.lst ([(z6,wv),(z7,wv),(z8,wv)].map prV)):=hp5
 obtain⟨I0,hI0⟩:∃I0:Isl,I0=⟨z0,[(z6,wv),(z7,wv),(z8,wv)],stps⟩:=⟨_,rfl⟩
 obtain⟨I1,hI1⟩:∃I1:Isl,I1=⟨z1,[],[]⟩:=⟨_,rfl⟩
 obtain⟨mkI,hmk⟩:∃mkI:Str->Isl,∀z,mkI z=⟨z,[(z6,0)],[.put z6 (.num 5),.jump (.num 1) 2]⟩:=⟨_,λ_=>rfl⟩
 have hst5:=s5 _ _ hst
 have ho5:=s5 _ _ ho4
 have hn5:=s5 _ _ hn4
 delta ilaw_6
 repeat (first|walk_at "s"|simp only[hn5])
 intro p1 h1
 have t1:=SameM.new h1 (.lst [])
 have d1:updM M5 p1 (.lst []) p1=some (.lst []):=Z01
 generalize updM M5 p1 _=M6 at*
 intro p2 h2
 have t2:=SameM.new h2 (.lst [])
 have d2:updM M6 p2 (.lst []) p2=some (.lst []):=Z01
 have d1:=t2 _ _ d1
 have t12:=t1.trans t2
 have hst6:=t12 _ _ hst5
 have ho6:=t12 _ _ ho5
 have hn6:=t12 _ _ hn5
 have hp6:=t12 _ _ hp5
 generalize updM M6 p2 _=M7 at*
 intro pi hpi
 have t3:=SameM.new hpi (.lst [.tup [.str z0,.ref pp,.ref pst],.tup [.str z1,.ref p1,.ref p2]])
 have hi7:updM M7 pi (.lst [.tup [.str z0,.ref pp,.ref pst],.tup [.str z1,.ref p1,.ref p2]]) pi=some (.lst [.tup [.str z0,.ref pp,.ref pst],.tup [.str z1,.ref p1,.ref p2]]):=Z01
 generalize updM M7 pi _=M8 at*
 obtain⟨Mf,hMf⟩:∃Mf:MH,∀a,Mf a=none↔a≠pi:=⟨λa=>if a=pi then some (.lst [])else none,λa=>by
  by_cases e:a=pi
  ·simp[e]
  ·simp[e]⟩
 have off:∀a o,M7 a=some o->Mf a=none:=λa o h=>(hMf a).mpr (neM h hpi)
 have hI8:IslsNew Mf M8 [I0,I1] [.tup [.str z0,.ref pp,.ref pst],.tup [.str z1,.ref p1,.ref p2]]:=by
  refine⟨rfl,λi I y hI hy=>?_⟩
  match i with
  |0=>cases hI;cases hy;subst hI0;exact⟨pp,pst,rfl,off _ _ hp6,off _ _ hst6,t3 _ _ hp6,t3 _ _ hst6⟩
  |1=>cases hI;cases hy;subst hI1;exact⟨p1,p2,rfl,off _ _ d1,off _ _ d2,t3 _ _ d1,t3 _ _ d2⟩
  |i+2=>cases hI
 have ho8:=t3 _ _ ho6
 have hn8:=t3 _ _ hn6
 have sall:=((s2.trans (s3.trans (s4.trans s5))).trans t12).trans t3
 have d0:=Y0F mo (show(3:Int)≠0 by decide)
 have d3:=Y0y mo (show(0:Int)<3 by decide)
 obtain⟨ls,hls,ls2,lsub⟩:∃ls:List Str,cutM [MV.str z0,.str z1,.str z2,.str z3,.str z4,.str z5,.str z6,.str z7,.str z8] (some 2) (some (2+mo%3))=ls.map MV.str/\ls.length≤2/\ls.Sublist [z2,z3]:=by
  rcases(show 2+mo%3=((2:Nat):Int)\/2+mo%3=((3:Nat):Int)\/2+mo%3=((4:Nat):Int) by omega)with e|e|e<;>rw[e,show(some (2:Int))=some ((2:Nat):Int)from rfl]<;>unfold cutM<;>rw[HT.sIx_nat,HT.sIx_nat]
  ·exact⟨[],rfl,by decide,by simp⟩
  ·exact⟨[z2],rfl,by simp,by simp⟩
  ·exact⟨[z2,z3],rfl,by simp,by simp⟩
 delta ilaw_7
 repeat (first|walk_at "s"|simp only[hn8])
 intro pc hpc
 rw[hls]
 have t4:=SameM.new hpc (.lst (ls.map MV.str))
 have hc9:updM M8 pc (.lst (ls.map MV.str)) pc=some (.lst (ls.map MV.str)):=Z01
 have ho9:=t4 _ _ ho8
 have hi9:=t4 _ _ hi7
 have hI9:=hI8.keep λa o h _=>t4 a o h
 have npc:pc≠pi:=(neM hi7 hpc).symm
 have npo:po≠pi:=neM ho6 hpi
 have npn:pn≠pi:=neM hn6 hpi
 generalize updM M8 pc _=M9 at*
 repeat (first|walk_at "s"|simp only[hc9])
 obtain⟨J,hJ⟩:∃J:Nat->Sm->MH->Prop,∀j σ M',J j σ M'↔∃(ys:List MV) (v:Option MV),M' pi=some (.lst ys)/\M' pc=some (.lst (ls.map MV.str))/\M' po=some (.lst [.str z6,.str z7,.str z8])/\M' pn=some (.lst [.str z0,.str z1,.str z2,.str z3,.str z4,.str z5,.str z6,.str z7,.str z8])/\IslsNew Mf M' ([I0,I1]++(ls.take j).map mkI) ys/\
  σ=[some (.frl (ns.map MV.int)),some (.ref pn),some (.int wd),some (.ref po),some (.ref pst),some (.str (fltS o)),some (.int mo),some (.ref pp),some (.ref pi),v,none,none,none,none,none,none]:=⟨_,λ_ _ _=>Y2j⟩
 refine⟨J,(hJ _ _ _).mpr ⟨_,_,hi9,hc9,ho9,t4 _ _ hn8,by simpa using hI9,rfl⟩,λj σ M' h=>?_,?_,?_⟩
 ·obtain⟨_,_,_,h,_⟩:=(hJ _ _ _).mp h
  exact h
 ·rintro j y σ M' hy h
  obtain⟨ys,v,hpi',hpc',hpo',hpn',hI',rfl⟩:=(hJ _ _ _).mp h
  obtain⟨hj,rfl⟩:=Z18 (show(ls.map MV.str)[j]?=some y from hy)
  have hyl:=hI'.len
  delta ilaw_8
  repeat (first|walk_at "s"|simp only[hpi',hpo'])
  refine⟨⟨_,rfl⟩,λq1 h1=>?_⟩
  have u1:=SameM.new h1 (.lst [.tup [.str z6,.int 0]])
  have b1:updM M' q1 (.lst [.tup [.str z6,.int 0]]) q1=some (.lst ([(z6,(0:Int))].map prV)):=Z01
  generalize updM M' q1 _=N1 at*
  repeat (first|walk_at "s"|simp only[u1 _ _ hpo'])
  intro q2 h2
  have u2:=SameM.new h2 (.lst [.tup [.str "put",.str z6,.tup [.str "num",.int 5]],.tup [.str "jump",.tup [.str "num",.int 1],.int 2]])
  have b2:updM N1 q2 (.lst [.tup [.str "put",.str z6,.tup [.str "num",.int 5]],.tup [.str "jump",.tup [.str "num",.int 1],.int 2]]) q2=some (.lst ([Stp.put z6 (.num 5),.jump (.num 1) 2].map Stp.mv)):=Z01
  generalize updM N1 q2 _=N2 at*
  have u12:=u1.trans u2
  have b1:=u2 _ _ b1
  have i2:=u12 _ _ hpi'
  have n1:q1≠pi:=(neM hpi' h1).symm
  have n2:q2≠pi:=(neM (u1 _ _ hpi') h2).symm
  repeat (first|walk_at "s"|simp only[i2])
  rw[Y0o,Y03,Y0p]at hyl
  have eI:[I0,I1]++(ls.take (j+1)).map mkI=([I0,I1]++(ls.take j).map mkI)++[mkI ls[j]]:=by
   rw[Y1d,Y02 hj,Y0Z,Y1n];rfl
  refine⟨by simp only[Y0q,Y2w]at hyl;omega,(hJ _ _ _).mpr ⟨_,_,Z01,by rw[Z0m npc];exact u12 _ _ hpc',by rw[Z0m npo];exact u12 _ _ hpo',by rw[Z0m npn];exact u12 _ _ hpn',?_,rfl⟩⟩
  rw[eI]
  have k2:IslsNew Mf (updM N2 pi (.lst (ys++[.tup [.str ls[j],.ref q1,.ref q2]]))) ([I0,I1]++(ls.take j).map mkI) ys:=hI'.keep λa o h hn=>by
   rw[Z0m ((hMf a).mp hn)];exact u12 _ _ h
  have k3:=k2.add (I:=mkI ls[j]) (a:=q1) (b:=q2) ((hMf _).mpr n1) ((hMf _).mpr n2) (by rw[Z0m n1,hmk];exact b1) (by rw[Z0m n2,hmk];exact b2)
  rw[hmk]at k3 ⊢
  exact k3
 ·rintro σ M' h
  obtain⟨ys,v,hpi',hpc',hpo',hpn',hI',rfl⟩:=(hJ _ _ _).mp h
  have e:ls.take (Src.lst pc (ls.map MV.str)).len=ls:=by simp[Src.len]
  rw[e]at hI'
  obtain⟨Is,hIs⟩:∃Is,[I0,I1]++ls.map mkI=Is:=⟨_,rfl⟩
  rw[hIs]at hI'
  have hin:=hI'.inn
  have il:2≤Is.length/\Is.length≤4:=by rw[<- hIs,Y0o,Y03];simp only[Y0q,Y2w];omega
  have yl:=hI'.len
  delta ilaw_9
  repeat (first|walk_at "s"|simp only[hpi'])
  have a0:=Y0F (mo/3) (show(ys.length:Int)≠0 by omega)
  have a1:=Y0y (mo/3) (show(0:Int)<(ys.length:Int) by omega)
  obtain⟨k,hk⟩:∃k:Nat,mo/3%(ys.length:Int)=(k:Int):=⟨_,(Y1I a0).symm⟩
  rw[hk]at a1 ⊢
  refine⟨by omega,?_⟩
  delta ilaw_10
  repeat (first|walk_at "s"|simp only[hpi'])
  intro q1 h1
  rw[cutM_from0]
  have u1:=SameM.new h1 (.lst (ys.drop k))
  have b1:updM M' q1 (.lst (ys.drop k)) q1=some (.lst (ys.drop k)):=Z01
  have i1:=u1 _ _ hpi'
  generalize updM M' q1 _=N1 at*
  repeat (first|walk_at "s"|simp only[i1])
  intro q2 h2
  rw[cutM_upto0]
  have u2:=SameM.new h2 (.lst (ys.take k))
  have b2:updM N1 q2 (.lst (ys.take k)) q2=some (.lst (ys.take k)):=Z01
  have b1:=u2 _ _ b1
  generalize updM N1 q2 _=N2 at*
  refine⟨_,b1,by simp only[Y0T,Y0p];omega,λq3 h3=>?_⟩
  have u3:=SameM.new h3 (.lst (ys.drop k++ys.take k))
  have b3:updM N2 q3 (.lst (ys.drop k++ys.take k)) q3=some (.lst (ys.drop k++ys.take k)):=Z01
  have hin3:=((hin.drop k).app (hin.take k)).keep (u1.trans (u2.trans u3))
  have hn11:=u3 _ _ (u2 _ _ (u1 _ _ hpn'))
  generalize updM N2 q3 _=N3 at*
  generalize hys:ys.drop k++ys.take k=ys' at*
  have perm:(Is.drop k++Is.take k).Perm Is:=List.perm_append_comm.trans (.of_eq (Y2q ..))
  have dr:Drawn wd z0 z1 z4 z5 z6 z7 z8 ls S stps (Is.drop k++Is.take k):=by
   have sub:(z0::z1::ls++[z4,z5]).Sublist [z0,z1,z2,z3,z4,z5,z6,z7,z8]:=by
    show((z0::z1::ls)++[z4,z5]).Sublist ([z0,z1,z2,z3]++[z4,z5,z6,z7,z8])
    exact((lsub.cons_cons z1).cons_cons z0).append (by simp)
   have cas:∀I∈Is,I=I0\/I=I1\/∃z,I=mkI z:=λI hI=>by
    rw[<- hIs]at hI
    simp only[Y0z,Y05,Y0e,or_false,Y0E]at hI
    rcases hI with(h|h)|⟨z,_,h⟩
    ·exact .inl h
    ·exact .inr (.inl h)
    ·exact .inr (.inr ⟨z,h.symm⟩)
   refine⟨znd.sublist sub,znd.sublist (List.drop_sublist 6 [z0,z1,z2,z3,z4,z5,z6,z7,z8]),λz hz=>zg z (sub.mem hz),g678,wd1,wd2,ls2,?_,⟨I0,perm.mem_iff.mpr (by rw[<- hIs];simp),by rw[hI0],by rw[hI0];rfl⟩,λI hI=>?_,stl,hSin,spre,send,hall⟩
   ·refine(perm.map _).trans ?_
    rw[<- hIs,Y0Z,Y12]
    have:ls.map ((·.name)∘ mkI)=ls:=by
     conv=>rhs;rw[<- List.map_id ls]
     exact List.map_congr_left λz _=>by show(mkI z).name=z;rw[hmk]
    rw[this,hI0,hI1]
    exact .refl _
   ·rcases cas I (perm.mem_iff.mp hI)with rfl|rfl|⟨z,rfl⟩
    ·subst hI0
     refine .inl ⟨rfl,rfl,rfl,λp hp=>?_⟩
     simp only[Y05,Y0e,or_false]at hp
     rcases hp with rfl|rfl|rfl<;>exact wvin
    ·subst hI1
     exact .inr (.inl ⟨rfl,rfl⟩)
    ·rw[hmk]
     exact .inr (.inr ⟨rfl,rfl⟩)
  have pre:=dr.pre
  have flt:=dr.fault
  rw[hof]at flt
  obtain⟨W,hW⟩:∃W,drawnW wd (Is.drop k++Is.take k) z0 z1 z4 z5=W:=⟨_,rfl⟩
  have eW:W.isl=Is.drop k++Is.take k:=by rw[<- hW];rfl
  have ew:W.w=wd:=by rw[<- hW];rfl
  have eF:[MV.tup [.str z4,.str z0,.str z1,.int 1,.int 2],.tup [.str z5,.str z1,.str z0,.int 3,.int 1]]=W.fer.map Fer.mv:=by rw[<- hW];rfl
  rw[hW]at pre flt
  rw[<- eW]at hin3
  clear dr hW
  delta ilaw_11
  repeat (first|walk_at "s"|simp only[hn11])
  refine⟨_,Z0X (j:=5) rfl,?_⟩
  rw[eF]
  intro pf hpf
  have u4:=SameM.new hpf (.lst (W.fer.map Fer.mv))
  have hf4:updM N3 pf (.lst (W.fer.map Fer.mv)) pf=some (.lst (W.fer.map Fer.mv)):=Z01
  have b4:=u4 _ _ b3
  have hin4:=hin3.keep u4
  generalize updM N3 pf _=N4 at*
  rw[ilaw_12,<- ew]
  walk_at "s"
  have i5:=pre.i5
  refine⟨W,q3,pf,ys',rfl,pre,b4,hin4,hf4,λkk N5 s5 e5 hk5=>?_,λkk c N5 s5 e5 hk5=>?_⟩
  ·have G:=pre.good e5
   obtain rfl:o=none:=flt.symm.trans e5
   walk_at "s"
   delta ilaw_13
   repeat (first|walk_at "s"|simp only[fltS])
   have b5:=s5 _ _ b4
   have hI:=hin4.keep s5
   have z1':(W.isl.zip ys').map (λx=>x.2)=ys':=Y31 (Y24 hI.1)
   have z2':(W.isl.zip ys').map (λx=>MV.tup (x.1.stps.map Stp.mv))=W.isl.map (λI=>MV.tup (I.stps.map Stp.mv)):=by
    have:(W.isl.zip ys').map (λx=>x.1)=W.isl:=List.map_fst_zip (Y24 hI.1.symm)
    conv=>rhs;rw[<- this,Y12]
    rfl
   have zl:(W.isl.zip ys').length=W.isl.length:=by rw[Y1D,hI.1,Nat.min_self]
   have zi:∀x∈W.isl.zip ys',∃a b,x.2=.tup [.str x.1.name,.ref a,.ref b]/\N5 b=some (.lst (x.1.stps.map Stp.mv)):=by
    intro x hx
    obtain⟨k,hk,rfl⟩:=Y10 hx
    rw[Y32]
    have h1:k<W.isl.length:=by rw[<- zl];exact hk
    have h2:k<ys'.length:=by rw[hI.1];exact h1
    obtain⟨a,b,e,_,h⟩:=hI.2 k _ _ (Y02 h1) (Y02 h2)
    exact⟨a,b,e,h⟩
   delta ilaw_14
   walk_at "s"
   refine Z14 (W.isl.zip ys') (λx=>x.2) (λx=>.tup (x.1.stps.map Stp.mv)) ?_ ?_ hΦ λpd hpd=>?_
   ·repeat (first|walk_at "s"|simp only[b5])
    exact⟨z1'.symm,by rw[zl];omega,b5⟩
   ·intro x hx M' s
    obtain⟨a,b,e,hb⟩:=zi x hx
    have hb:=s _ _ hb
    rw[e]
    simp only[sCm,Y0d,Y0W,Y0A,Y0B,Y0L,Y0P]
    repeat (first|walk_at "s"|simp only[hb])
    try rfl
   rw[z2']
   have s6:=SameM.new hpd (.lst (W.isl.map (λI=>MV.tup (I.stps.map Stp.mv))))
   have hd6:updM N5 pd (.lst (W.isl.map (λI=>MV.tup (I.stps.map Stp.mv)))) pd=some (.lst (W.isl.map (λI=>MV.tup (I.stps.map Stp.mv)))):=Z01
   have hk6:=s6 _ _ hk5
   generalize updM N5 pd _=N6 at*
   delta ilaw_15
   walk_at "s"
   intro pe hpe
   have s7:=SameM.new hpe (.lst [])
   have e7:updM N6 pe (.lst []) pe=some (.lst []):=Z01
   have hk7:=s7 _ _ hk6
   have hd7:=s7 _ _ hd6
   generalize updM N6 pe _=N7 at*
   refine eq_nil hk7 e7 ?_
   simp only[List.isEmpty_nil]
   repeat (first|walk_at "s"|simp only[Wld.mv])
   refine Z14 W.isl Isl.mv (λI=>.tup (I.stps.map Stp.mv)) ?_ ?_ hΦ λpw hpw=>?_
   ·walk_at "s"
    exact⟨rfl,by omega,trivial⟩
   ·intro I hI M' s
    simp only[sCm,Y0d,Y0W,Y0A,Y0B,Y0L,Y0P]
    repeat (first|walk_at "s"|simp only[Isl.mv])
    try exact⟨rfl,rfl⟩
   have s8:=SameM.new hpw (.lst (W.isl.map (λI=>MV.tup (I.stps.map Stp.mv))))
   have hw8:updM N7 pw (.lst (W.isl.map (λI=>MV.tup (I.stps.map Stp.mv)))) pw=some (.lst (W.isl.map (λI=>MV.tup (I.stps.map Stp.mv)))):=Z01
   have hd8:=s8 _ _ hd7
   generalize updM N7 pw _=N8 at*
   try walk_at "s"
   refine eq_alike rfl (Alike.lst (n:=10) (.inr ⟨_,rfl,hw8⟩) (.inr ⟨_,rfl,hd8⟩) rfl λi u v e e'=>?_) (by decide) ?_
   ·rw[e]at e'
    cases e'
    obtain⟨I,hI,rfl⟩:=Y0E.mp (Y0C e)
    exact alike_deep 10 _ (all_map λs hs=>deep_stp ((G.io I hI).st s hs))
   try walk_at "s"
   exact q _
  ·obtain rfl:o=some c:=flt.symm.trans e5
   walk_at "s"
   delta ilaw_13
   have nc:¬fltS (some c)="":=by
    rcases W.fault_class e5 with rfl|rfl|rfl<;>decide+kernel
   repeat (first|walk_at "s"|simp only[nc])
   delta ilaw_16
   walk_at "s"
   intro ps hps
   have s6:=SameM.new hps (.lst (sorts23.map MV.str))
   have hs6:updM N5 ps (.lst (sorts23.map MV.str)) ps=some (.lst (sorts23.map MV.str)):=Z01
   have hk6:=s6 _ _ hk5
   change wSs _ _ _ _ (updM N5 ps (.lst (sorts23.map MV.str)))
   generalize updM N5 ps _=N6 at*
   delta ilaw_17
   walk_at "s"
   intro pt hpt
   have s7:=SameM.new hpt (.lst [.bl true])
   have e7:updM N6 pt (.lst [.bl true]) pt=some (.lst [.bl true]):=Z01
   have hk7:=s7 _ _ hk6
   have hs7:=s7 _ _ hs6
   generalize updM N6 pt _=N7 at*
   refine Z14 sorts23 MV.str (λz=>.bl (decide (z=c))) ?_ ?_ hΦ λpw hpw=>?_
   ·repeat (first|walk_at "s"|simp only[hs7])
    exact⟨rfl,by decide,hs7⟩
   ·intro z hz M' s
    simp only[sCm,Y0d,Y0W,Y0A,Y0B,Y0L,Y0P]
    repeat (first|walk_at "s"|simp only[fltS])
    try rfl
   have s8:=SameM.new hpw (.lst (sorts23.map λz=>MV.bl (decide (z=c))))
   have hw8:updM N7 pw (.lst (sorts23.map λz=>MV.bl (decide (z=c)))) pw=some (.lst (sorts23.map λz=>MV.bl (decide (z=c)))):=Z01
   have hk8:=s8 _ _ hk7
   have e8:=s8 _ _ e7
   generalize updM N7 pw _=N8 at*
   repeat (first|walk_at "s"|simp only[e8,hw8])
   refine⟨by rw[Y03];decide,λpu hpu=>?_⟩
   have s9:=SameM.new hpu (.lst ([.bl true]++sorts23.map λz=>MV.bl (decide (z=c))))
   have hu9:updM N8 pu (.lst ([.bl true]++sorts23.map λz=>MV.bl (decide (z=c)))) pu=some (.lst (kin23 c)):=Z01
   have hk9:=s9 _ _ hk8
   generalize updM N8 pu _=N9 at*
   have fl:∀v∈kin23 c,flatM v=true:=λv hv=>by
    rcases Y05.mp hv with rfl|hv
    ·rfl
    ·obtain⟨z,_,rfl⟩:=Y0E.mp hv;rfl
   try walk_at "s"
   refine eq_alike rfl (Alike.lstFlat 0 (.inr ⟨_,rfl,hk9⟩) (.inr ⟨_,rfl,hu9⟩) fl) (by decide) ?_
   try walk_at "s"
   exact q _
end
theorem all_mk{l:Y3d}{w:World}{K:Y00}{h:Heap}{mg:Str->Option Value}{fa:Addr}(X:K.In h)(G:h.Ns mainGlobals mg)(hfa:mg "law"=some (.ref fa))
  {f1 f2 f3 f4 f5 f6 f7 f8 f9 f10 f11 f12 f13 f14 f15 f16 f17 f18 f19 f20 f21 f22 f23 f24 f25 f26 f27 f28 f29 f30 f31 f32 f33 f34 f35:Addr} {d1 d2 d3 d4 d5 d6 d7 d8 d9 d10 d11 d12 d13 d14 d15 d16 d17 d18 d19 d20 d21 d22 d23 d24 d25 d26 d27 d28 d29 d30 d31 d32 d33 d34 d35:FuncData}
  {tk1:Tok}
  {tk2:Tok}
  {tk3:Tok}
  {tk4:Tok}
  {tk5:Tok}
  {tk6:Tok}
  {tk7:Tok}
  {tk8:Tok}
  {tk9:Tok}
  {tk10:Tok}
  (h1:Fn1 K "is_whole" s_is_whole f1 d1)
  (h2:Fn1 K "is_width" s_is_width f2 d2)
  (h3:Fn1 K "two_to" s_two_to f3 d3)
  (h4:Fn1 K "fits" s_fits f4 d4)
  (h5:Fn1 K "parts_within" Z0Z f5 d5)
  (h6:Fn1 K "size_of" s_size_of f6 d6)
  (h7:Fn1 K "names_read" Z1L f7 d7)
  (h8:Fn1 K "vars_in" s_vars_in f8 d8)
  (h9:Fn1 K "is_name" s_is_name f9 d9)
  (h10:Fn1 K "refuse_name" Z1h f10 d10)
  (h11:Fn1 K "refuse_unknown" Z0E f11 d11)
  (h12:Fn1 K "refuse_ferry_names" Z0j f12 d12)
  (h13:Fn1 K "refuse_variables" Z0x f13 d13)
  (h14:Fn1 K "refuse_term" Z1f f14 d14)
  (h15:Fn1 K "refuse_step" Z1g f15 d15)
  (h16:Fn1 K "refuse_island" Z0P f16 d16)
  (h17:Fn1 K "refuse_islands" Z0F f17 d17)
  (h18:Fn1 K "refuse_ferry" Z0Y f18 d18)
  (h19:Fn1 K "refuse_wrong_end" Z0w f19 d19)
  (h20:Fn1 K "refuse_wrong_ends" Z0q f20 d20)
  (h21:Fn1 K "frozen" s_frozen f21 d21)
  (h22:Fn1 K "made" s_made f22 d22)
  (h23:Fn1 K "_law_cell" s__law_cell f23 d23)
  (h24:Fn1 K "_law_mix" s__law_mix f24 d24)
  (h25:Fn1 K "_law_names" Z1N f25 d25)
  (h26:Fn1 K "_law_word" s__law_word f26 d26)
  (h27:Fn1 K "_law_made" s__law_made f27 d27)
  (h28:Fn1 K "_law_fresh" Z1O f28 d28)
  (h29:Fn1 K "_law_broad" Z1P f29 d29)
  (h30:Fn1 K "_law_deep" s__law_deep f30 d30)
  (h31:Fn1 K "_law_hard_term" Z0G f31 d31)
  (h32:Fn1 K "_law_hard_step" Z0H f32 d32)
  (h33:Fn1 K "_law_steps" Z1M f33 d33)
  (h34:Fn1 K "_law_answer" Z1i f34 d34)
  (h35:Fn1 K "law" s_law f35 d35)
  (z1:Y0j K mainGlobals "ValueError"=some none)
  (z2:Y0j K mainGlobals "all"=some none)
  (z3:Y0j K mainGlobals "bool"=some none)
  (z4:Y0j K mainGlobals "dict"=some none)
  (z5:Y0j K mainGlobals "int"=some none)
  (z6:Y0j K mainGlobals "isinstance"=some none)
  (z7:Y0j K mainGlobals "len"=some none)
  (z8:Y0j K mainGlobals "list"=some none)
  (z9:Y0j K mainGlobals "max"=some none)
  (z10:Y0j K mainGlobals "range"=some none)
  (z11:Y0j K mainGlobals "set"=some none)
  (z12:Y0j K mainGlobals "sorted"=some none)
  (z13:Y0j K mainGlobals "tuple"=some none)
  (g1:Y0j K mainGlobals "MOST_WIDTH"=some (some (.int 64 tk1)))
  (g2:Y0j K mainGlobals "MOST_LETTERS"=some (some (.int 8 tk2)))
  (g3:Y0j K mainGlobals "MOST_ISLANDS"=some (some (.int 5 tk3)))
  (g4:Y0j K mainGlobals "MOST_FERRIES"=some (some (.int 6 tk4)))
  (g5:Y0j K mainGlobals "MOST_VARS"=some (some (.int 6 tk5)))
  (g6:Y0j K mainGlobals "MOST_STEPS"=some (some (.int 12 tk6)))
  (g7:Y0j K mainGlobals "MOST_PARTS"=some (some (.int 30 tk7)))
  (g8:Y0j K mainGlobals "MOST_DEPTH"=some (some (.int 8 tk8)))
  (g9:Y0j K mainGlobals "MOST_K"=some (some (.int 3 tk9)))
  (g10:Y0j K mainGlobals "MOST_STAGES"=some (some (.int 3 tk10)))
  (xx:exsB K XB XC=true):
  ∃fd:FuncData,(∀(s:Shared) (v:Value),BindsTo s fd ⟨[v],[]⟩ [("script",v)])/\∀base:Heap,K.In base->base.Ns mainGlobals mg->FnOk l.prog w K mg base CX0 60 fa fd ["script"] (spLawV K):=by
 have e:=hfa.symm.trans (Y0S X G h35.a)
 cases e
 have T:Txt K mg ⟨f1,d1,f2,d2,f3,d3,f4,d4,f5,d5,f6,d6,f7,d7,f8,d8,f9,d9,f10,d10,f11,d11,f12,d12,f13,d13,f14,d14,f15,d15,f16,d16,f17,d17,f18,d18,f19,d19,f20,d20,f21,d21,f22,d22,f23,d23,f24,d24,f25,d25,f26,d26,f27,d27,f28,d28,f29,d29,f30,d30,f31,d31,f32,d32,f33,d33,f34,d34,fa,d35⟩:={
  q_is_whole:=h1.t X G λ_ _ _ _ _ _=>us1 (λ_=>rfl)
  q_is_width:=h2.t X G λ_ _ _ _ _ _=>us1 (λ_=>rfl)
  q_two_to:=h3.t X G λ_ _ _ _ _ _=>us1 (λ_=>rfl)
  q_fits:=h4.t X G λ_ _ _ _ _ _=>us2 (λ_ _=>rfl)
  q_parts_within:=h5.t X G λ_ _ _ _ _ _=>us1 (λ_=>rfl)
  q_size_of:=h6.t X G λ_ _ _ _ _ _=>us1 (λ_=>rfl)
  q_names_read:=h7.t X G λ_ _ _ _ _ _=>us1 (λ_=>rfl)
  q_vars_in:=h8.t X G λ_ _ _ _ _ _=>us1 (λ_=>rfl)
  q_is_name:=h9.t X G λ_ _ _ _ _ _=>us1 (λ_=>rfl)
  q_refuse_name:=h10.t X G λ_ _ _ _ _ _=>us2 (λ_ _=>rfl)
  q_refuse_unknown:=h11.t X G λ_ _ _ _ _ _=>us2 (λ_ _=>rfl)
  q_refuse_ferry_names:=h12.t X G λ_ _ _ _ _ _=>us1 (λ_=>rfl)
  q_refuse_variables:=h13.t X G λ_ _ _ _ _ _=>us2 (λ_ _=>rfl)
  q_refuse_term:=h14.t X G λ_ _ _ _ _ _=>us2 (λ_ _=>rfl)
  q_refuse_step:=h15.t X G λ_ _ _ _ _ _=>us4 (λ_ _ _ _=>rfl)
  q_refuse_island:=h16.t X G λ_ _ _ _ _ _=>us3 (λ_ _ _=>rfl)
  q_refuse_islands:=h17.t X G λ_ _ _ _ _ _=>us3 (λ_ _ _=>rfl)
  q_refuse_ferry:=h18.t X G λ_ _ _ _ _ _=>us2 (λ_ _=>rfl)
  q_refuse_wrong_end:=h19.t X G λ_ _ _ _ _ _=>us4 (λ_ _ _ _=>rfl)
  q_refuse_wrong_ends:=h20.t X G λ_ _ _ _ _ _=>us2 (λ_ _=>rfl)
  q_frozen:=h21.t X G λ_ _ _ _ _ _=>us1 (λ_=>rfl)
  q_made:=h22.t X G λ_ _ _ _ _ _=>us3 (λ_ _ _=>rfl)
  q__law_cell:=h23.t X G λ_ _ _ _ _ _=>us2 (λ_ _=>rfl)
  q__law_mix:=h24.t X G λ_ _ _ _ _ _=>us2 (λ_ _=>rfl)
  q__law_names:=h25.t X G λ_ _ _ _ _ _=>us2 (λ_ _=>rfl)
  q__law_word:=h26.t X G λ_ _ _ _ _ _=>us2 (λ_ _=>rfl)
  q__law_made:=h27.t X G λ_ _ _ _ _ _=>us1 (λ_=>rfl)
  q__law_fresh:=h28.t X G λ_ _ _ _ _ _=>us2 (λ_ _=>rfl)
  q__law_broad:=h29.t X G λ_ _ _ _ _ _=>us2 (λ_ _=>rfl)
  q__law_deep:=h30.t X G λ_ _ _ _ _ _=>us2 (λ_ _=>rfl)
  q__law_hard_term:=h31.t X G λ_ _ _ _ _ _=>us3 (λ_ _ _=>rfl)
  q__law_hard_step:=h32.t X G λ_ _ _ _ _ _=>us4 (λ_ _ _ _=>rfl)
  q__law_steps:=h33.t X G λ_ _ _ _ _ _=>us3 (λ_ _ _=>rfl)
  q__law_answer:=h34.t X G λ_ _ _ _ _ _=>us1 (λ_=>rfl)
  q_law:=h35.t X G λ_ _ _ _ _ _=>us1 (λ_=>rfl)
  z_ValueError:=Y0G X G z1
  z_all:=Y0G X G z2
  z_bool:=Y0G X G z3
  z_dict:=Y0G X G z4
  z_int:=Y0G X G z5
  z_isinstance:=Y0G X G z6
  z_len:=Y0G X G z7
  z_list:=Y0G X G z8
  z_max:=Y0G X G z9
  z_range:=Y0G X G z10
  z_set:=Y0G X G z11
  z_sorted:=Y0G X G z12
  z_tuple:=Y0G X G z13
  c_MOST_WIDTH:=⟨_,Y0S X G g1⟩
  c_MOST_LETTERS:=⟨_,Y0S X G g2⟩
  c_MOST_ISLANDS:=⟨_,Y0S X G g3⟩
  c_MOST_FERRIES:=⟨_,Y0S X G g4⟩
  c_MOST_VARS:=⟨_,Y0S X G g5⟩
  c_MOST_STEPS:=⟨_,Y0S X G g6⟩
  c_MOST_PARTS:=⟨_,Y0S X G g7⟩
  c_MOST_DEPTH:=⟨_,Y0S X G g8⟩
  c_MOST_K:=⟨_,Y0S X G g9⟩
  c_MOST_STAGES:=⟨_,Y0S X G g10⟩
  ex:=exs_of xx z1 X G
 }
 exact⟨d35,h35.bt λ_ _ _ _ _ _ _=>rfl,λbase _ _=>law_imp (FnOk.mono (ok_law T) (by decide))⟩
theorem walk{l:Y3d}{q:Program}{loose:List Str}{XP:(Str->Option Value)->Heap->Prop}{YP:World->Heap->Prop}{d:DefRec}{K:Params->Y00}(hn:l.most=some 63)(hdf:d.params.defaults=[])
  (hY:∀(w:World) (h:Heap),YP w h->(K w.params).In h)
  (F:∀(w:World) (mg:Str->Option Value) (fa:Addr) (h:Heap),(K w.params).In h->h.Ns mainGlobals mg->mg d.name=some (.ref fa)->
   ∃fd:FuncData,(∀(s:Shared) (u:Value),BindsTo s fd ⟨[u],[]⟩ [("script",u)])/\∀base:Heap,(K w.params).In base->base.Ns mainGlobals mg->FnOk l.prog w (K w.params) mg base CX0 60 fa fd ["script"] (spLawV (K w.params))):
  PySem.W.WalkO q loose XP YP l.row.toRowW d [] (λf vs=>PySem.call f vs):=
 L2.walk_of (n:=63) (k:=60) (x:="script") (CX:=fun _=>CX0) (sp:=fun w=>spLawV (K w.params)) hn (by decide) hdf ⟨rfl,by decide,by decide⟩ hY F (fun _ H a ns hl hO hS=>⟨a,ns,rfl,frl_of hO hS,hl,fun _=>rfl⟩) fun _ _ _ _ _ z=>z
end My
namespace PySem.W.Fast
theorem tw11463118789029892447:True:=trivial
theorem tw7698546205207287262:True:=trivial
theorem tw17653348193877829455:True:=trivial
theorem tw13569177352883319714:True:=trivial
theorem tw5639357149943617143:True:=trivial
theorem tw13548379050476955190:True:=trivial
theorem tw10211714287616794073:True:=trivial
theorem tw5961197051147526215:True:=trivial
theorem tw1226589527535357209:True:=trivial
theorem tw3319978553584171779:True:=trivial
theorem tw14398769032738589540:True:=trivial
theorem tw10220785976404586410:True:=trivial
theorem tw1056144938788129702:True:=trivial
theorem tw14156633537412908454:True:=trivial
theorem tw12537859105319330722:True:=trivial
theorem tw11804755871039865632:True:=trivial
theorem tw8804257213089598526:True:=trivial
theorem tw7817090495689432260:True:=trivial
theorem tw4001181963676309506:True:=trivial
theorem tw17880992408152926619:True:=trivial
theorem tw1286700397368861187:True:=trivial
theorem tw1841310035210325195:True:=trivial
theorem tw13515690357570858849:True:=trivial
theorem tw12919198144109063251:True:=trivial
theorem tw12809757834699020135:True:=trivial
theorem tw16087865373970651880:True:=trivial
theorem tw15377034801457923241:True:=trivial
theorem tw6281233300249894617:True:=trivial
theorem tw12726544910435384894:True:=trivial
theorem tw17755624004561471844:True:=trivial
theorem tw7478307334737159876:True:=trivial
theorem tw1173222553031930808:True:=trivial
theorem tw8639201246076764289:True:=trivial
theorem tw7042559038296760010:True:=trivial
theorem tw17480525536854534279:True:=trivial
theorem tw9758380317832873079:True:=trivial
theorem tw10578311423400025902:True:=trivial
theorem tw1538643628229522290:True:=trivial
theorem tw6988919991417011556:True:=trivial
theorem tw17135815058729084926:True:=trivial
theorem tw9773376808691930721:True:=trivial
theorem tw2145032049819156885:True:=trivial
theorem tw13482419688730149120:True:=trivial
theorem tw4740330248880625939:True:=trivial
theorem tw6036765254628941081:True:=trivial
theorem tw3256274504253388088:True:=trivial
theorem tw16933515252744131890:True:=trivial
theorem tw14124828086653078211:True:=trivial
theorem tw580734813206669685:True:=trivial
theorem tw2321665131409502393:True:=trivial
theorem tw5451583025399724495:True:=trivial
theorem tw16470095639043690047:True:=trivial
theorem tw13550665192115644717:True:=trivial
theorem tw1780423775355551265:True:=trivial
theorem tw620525868335652363:True:=trivial
theorem tw10997899969092840753:True:=trivial
theorem tw17088530178557288952:True:=trivial
theorem tw11633958816822797519:True:=trivial
theorem tw8216615344033386064:True:=trivial
theorem tw6029119349501062756:True:=trivial
theorem tw13150684918671715721:True:=trivial
theorem tw1549255838217731467:True:=trivial
theorem tw1150409658967433567:True:=trivial
theorem tw2484349654696963247:True:=trivial
theorem tw10362112814910210238:True:=trivial
theorem tw7080155775011440080:True:=trivial
theorem tw15659249622330593253:True:=trivial
theorem tw14097939753280378474:True:=trivial
theorem tw11041411720109372669:True:=trivial
theorem tw868804271320310833:True:=trivial
theorem tw13403729292856737957:True:=trivial
theorem tw7531986569524024981:True:=trivial
theorem tw14166611095860500999:True:=trivial
theorem tw15893136885396504489:True:=trivial
theorem tw8527076327975668895:True:=trivial
theorem tw2290844790204958499:True:=trivial
theorem tw15215211809749766673:True:=trivial
theorem tw18200260859723191311:True:=trivial
theorem tw15051632679570180657:True:=trivial
theorem tw15333391233752056122:True:=trivial
theorem tw8539164055312830088:True:=trivial
theorem tw13576538952962182982:True:=trivial
theorem tw11242632587229641162:True:=trivial
theorem tw10452545089500144328:True:=trivial
theorem tw6857108906015534408:True:=trivial
theorem tw12326323784499108692:True:=trivial
theorem tw4110311111627839921:True:=trivial
theorem tw9108565881584287700:True:=trivial
theorem tw3905762983198011390:True:=trivial
theorem tw11208380665637332503:True:=trivial
theorem tw1990923902030922289:True:=trivial
theorem tw18130135394425305744:True:=trivial
theorem tw251045121860814393:True:=trivial
theorem tw2644326740182303547:True:=trivial
theorem tw10526546344187051808:True:=trivial
theorem tw16042706376808851505:True:=trivial
theorem tw16609058704288603168:True:=trivial
theorem tw15367802181999201202:True:=trivial
theorem tw17612544466624498352:True:=trivial
theorem tw4723177600646504816:True:=trivial
theorem tw9533200793003330904:True:=trivial
theorem tw7623674996724868631:True:=trivial
theorem tw422346580758763410:True:=trivial
theorem tw9852149570980958706:True:=trivial
theorem tw9006755934712584214:True:=trivial
theorem tw13881186875053720459:True:=trivial
theorem tw15397249331852600632:True:=trivial
theorem tw122989832114606708:True:=trivial
theorem tw8964246993583438129:True:=trivial
theorem tw546302253994266613:True:=trivial
theorem tw15502497652898967493:True:=trivial
theorem tw9067981139528777193:True:=trivial
theorem tw803377046008658026:True:=trivial
theorem tw18037705881298666214:True:=trivial
theorem tw3985173995129518900:True:=trivial
theorem tw3135589426103299171:True:=trivial
theorem tw2217834710235022154:True:=trivial
theorem tw16404100779391709557:True:=trivial
theorem tw16709859801158791638:True:=trivial
theorem tw17499665606414837923:True:=trivial
theorem tw8877632169285437695:True:=trivial
theorem tw3862571227793918246:True:=trivial
theorem tw4874630476130759350:True:=trivial
theorem tw16322926707962144627:True:=trivial
theorem tw1440674402993222776:True:=trivial
theorem tw16129414609019401776:True:=trivial
theorem tw3993606733234484441:True:=trivial
theorem tw4943850684804662891:True:=trivial
theorem tw2442759648483450265:True:=trivial
theorem tw6113126018690288207:True:=trivial
theorem tw14466969940143232952:True:=trivial
theorem tw5140904302591719706:True:=trivial
theorem tw14104003897466192861:True:=trivial
theorem tw15355245428907755902:True:=trivial
theorem tw7460845958293534200:True:=trivial
theorem tw16285599071339496319:True:=trivial
theorem tw10998689270936078442:True:=trivial
theorem tw6496062821193440996:True:=trivial
theorem tw5883462282436524000:True:=trivial
theorem tw5425022358090635331:True:=trivial
theorem tw2788190715547563368:True:=trivial
theorem tw13740774131584860823:True:=trivial
theorem tw6473879654650210246:True:=trivial
theorem tw2078758870061966448:True:=trivial
theorem tw11353238338957533765:True:=trivial
theorem tw12621730121555698558:True:=trivial
theorem tw7493317446270804211:True:=trivial
theorem tw8921512075458194910:True:=trivial
theorem tw6911396499556889034:True:=trivial
theorem tw4390556537946962352:True:=trivial
theorem tw1748469985666683449:True:=trivial
theorem tw938189165648955777:True:=trivial
theorem tw13931045616582102221:True:=trivial
theorem tw16615691073012146240:True:=trivial
theorem tw5166005725248851981:True:=trivial
theorem tw9163418233833079984:True:=trivial
theorem tw7169348590430977125:True:=trivial
theorem tw8147717628121058753:True:=trivial
theorem tw10122678300670854280:True:=trivial
theorem tw12263678969295315038:True:=trivial
theorem tw14269032946845998530:True:=trivial
theorem tw4084157602134445573:True:=trivial
theorem tw7360328253344007501:True:=trivial
theorem tw1425732919299919010:True:=trivial
theorem tw5061879466576984287:True:=trivial
theorem tw11409367146818751901:True:=trivial
theorem tw3173806405908562946:True:=trivial
theorem tw11598150483824626622:True:=trivial
theorem tw9528297885536304870:True:=trivial
theorem tw4121811210310662453:True:=trivial
theorem tw11723308359651510865:True:=trivial
theorem tw10058482512524497469:True:=trivial
theorem tw12959565098708752572:True:=trivial
theorem tw13220953683479855740:True:=trivial
theorem tw16368535886862187068:True:=trivial
theorem tw14647570459589139502:True:=trivial
theorem tw6393006539312203809:True:=trivial
theorem tw17343446077928452921:True:=trivial
theorem tw1916500772700243361:True:=trivial
theorem tw18181344901439381124:True:=trivial
theorem tw6656446083755372392:True:=trivial
theorem tw1747416420526328841:True:=trivial
theorem tw6007083283170910736:True:=trivial
theorem tw3443887085213082113:True:=trivial
theorem tw1017754434875703562:True:=trivial
theorem tw14696718430318476209:True:=trivial
theorem tw8662011735415093106:True:=trivial
theorem tw3746679769541647563:True:=trivial
theorem tw18182713296813692220:True:=trivial
theorem tw13567504532355493614:True:=trivial
theorem tw12593355875208933415:True:=trivial
theorem tw3570545370405954702:True:=trivial
theorem tw6426989288062776742:True:=trivial
theorem tw13426135349283045672:True:=trivial
theorem tw17924305707608370204:True:=trivial
theorem tw664684391772523237:True:=trivial
theorem tw7371046884557393541:True:=trivial
theorem tw10920577215994098619:True:=trivial
theorem tw7820984954892668609:True:=trivial
theorem tw4594450776321258700:True:=trivial
theorem tw15918007849423759939:True:=trivial
theorem tw10345632298872185486:True:=trivial
theorem tw4124281420917666490:True:=trivial
theorem tw496137889573311122:True:=trivial
theorem tw3991769235106696922:True:=trivial
theorem tw274961866039397827:True:=trivial
theorem tw15550169116760107396:True:=trivial
theorem tw6830193273067161535:True:=trivial
theorem tw6704404003253717744:True:=trivial
theorem tw8550349144834627453:True:=trivial
theorem tw12631478840755054498:True:=trivial
theorem tw16680019448491331902:True:=trivial
theorem tw15702332960062484069:True:=trivial
theorem tw16394144558164375529:True:=trivial
theorem tw2345883655944490085:True:=trivial
theorem tw5912300818237731349:True:=trivial
theorem tw4363318852161101079:True:=trivial
theorem tw316677238620691499:True:=trivial
theorem tw62356755794824978:True:=trivial
theorem tw2840959002244105351:True:=trivial
theorem tw16751632388286067710:True:=trivial
theorem tw15594359739438383270:True:=trivial
theorem tw14817110316552696142:True:=trivial
theorem tw10456512386355004870:True:=trivial
theorem tw17669365542785396377:True:=trivial
theorem tw16861095081585978408:True:=trivial
theorem tw12341552318032408044:True:=trivial
theorem tw8500723183876433022:True:=trivial
theorem tw9409352705536171199:True:=trivial
theorem tw13492895205161742653:True:=trivial
theorem tw4123942565920231461:True:=trivial
theorem tw14731208221264571474:True:=trivial
theorem tw16696512538588806568:True:=trivial
theorem tw17170852981585522918:True:=trivial
theorem tw1992754635878948528:True:=trivial
theorem tw6346156826075269795:True:=trivial
theorem tw2314772325490910517:True:=trivial
theorem tw3668545499216683148:True:=trivial
theorem tw4650344372218904932:True:=trivial
theorem tw7299444352848298692:True:=trivial
theorem tw14284824884107525605:True:=trivial
theorem tw4662036501574649773:True:=trivial
theorem tw2748481995171251541:True:=trivial
theorem tw11400284887581203519:True:=trivial
theorem tw15084713312698975542:True:=trivial
theorem tw14827546613990281548:True:=trivial
theorem tw14794815142221394556:True:=trivial
theorem tw4677855112483539657:True:=trivial
theorem tw2580409193531172742:True:=trivial
theorem tw10977566067336078036:True:=trivial
theorem tw17136632891197248280:True:=trivial
theorem tw10956164211800866345:True:=trivial
theorem tw15935426613322313135:True:=trivial
theorem tw14056767324220649691:True:=trivial
theorem tw13002792796245948372:True:=trivial
theorem tw11411899310375646707:True:=trivial
theorem tw1655723792876404093:True:=trivial
theorem tw14043126460945357897:True:=trivial
theorem tw16067705485472942373:True:=trivial
theorem tw15562644162651560484:True:=trivial
theorem tw17045152227723756338:True:=trivial
theorem tw12052082514792980771:True:=trivial
theorem tw7786964691063334829:True:=trivial
theorem tw15368455270872624349:True:=trivial
theorem tw846506636288389822:True:=trivial
theorem tw15802633299486388510:True:=trivial
theorem tw16062331173686035466:True:=trivial
theorem tw808358187730895203:True:=trivial
theorem tw1734349484190709374:True:=trivial
theorem tw4164114765489173256:True:=trivial
theorem tw7665758337346951164:True:=trivial
theorem tw12172067551507070814:True:=trivial
theorem tw13631151925041856309:True:=trivial
theorem tw17728514779910804176:True:=trivial
theorem tw13723695072180533898:True:=trivial
theorem tw12568084789761872867:True:=trivial
theorem tw1937280484014798546:True:=trivial
theorem tw15108287859482947506:True:=trivial
theorem tw2124028528976922256:True:=trivial
theorem tw14209869239075903457:True:=trivial
theorem tw13910686262199677028:True:=trivial
theorem tw3294907629225026975:True:=trivial
theorem tw17144174892185739856:True:=trivial
theorem tw16118618445431015569:True:=trivial
theorem tw1038319567000872765:True:=trivial
theorem tw5533608668073757255:True:=trivial
theorem tw2246271569956375587:True:=trivial
theorem tw2122789792827152974:True:=trivial
theorem tw7401813977497499070:True:=trivial
theorem tw16576832457808846991:True:=trivial
theorem tw6994474852357936723:True:=trivial
theorem tw3624776116728124305:True:=trivial
theorem tw1101009136026248432:True:=trivial
theorem tw7435340312763382490:True:=trivial
theorem tw7251212917130128076:True:=trivial
theorem tw18306027245747593427:True:=trivial
theorem tw1559116103784415438:True:=trivial
theorem tw16559807335179993618:True:=trivial
theorem tw10309643927499819753:True:=trivial
theorem tw15762915456425822517:True:=trivial
theorem tw3740004814260618475:True:=trivial
theorem tw8895596863173708676:True:=trivial
theorem tw15738761596485500319:True:=trivial
theorem tw10286743771042064251:True:=trivial
theorem tw3158860853346417952:True:=trivial
theorem tw14974061116709245604:True:=trivial
theorem tw5988911216694123766:True:=trivial
theorem tw3794212407815738393:True:=trivial
theorem tw4097793021048359406:True:=trivial
theorem tw15855838184162170590:True:=trivial
theorem tw8063371590391652900:True:=trivial
theorem tw9477701650082760400:True:=trivial
theorem tw2970343756667343043:True:=trivial
theorem tw8668162530113127088:True:=trivial
theorem tw7356896342249233124:True:=trivial
theorem tw2933564076732673518:True:=trivial
theorem tw396275633836963256:True:=trivial
theorem tw6071768082942957416:True:=trivial
theorem tw1709026916363513616:True:=trivial
theorem tw6531787678185130735:True:=trivial
theorem tw14510328257892570550:True:=trivial
theorem tw6909890594583309733:True:=trivial
theorem tw9218692518753492030:True:=trivial
theorem tw12012472883105727161:True:=trivial
theorem tw4030617626801977072:True:=trivial
theorem tw16660771236993111785:True:=trivial
theorem tw11848633874329795845:True:=trivial
theorem tw10791609154543791185:True:=trivial
theorem tw11058528255219492038:True:=trivial
theorem tw12732097492913732206:True:=trivial
theorem tw7764616605084402824:True:=trivial
theorem tw9775460875860269952:True:=trivial
theorem tw11749312455175747209:True:=trivial
theorem tw13001052504865814733:True:=trivial
theorem tw14803665013672937768:True:=trivial
theorem tw7365930687735999830:True:=trivial
theorem tw16496960079184456809:True:=trivial
theorem tw12879381336891546435:True:=trivial
theorem tw17758632890504429562:True:=trivial
theorem tw14780841978864004459:True:=trivial
theorem tw3449774263730261217:True:=trivial
theorem tw17350609262321599157:True:=trivial
theorem tw14684991506119768014:True:=trivial
theorem tw15382216015131025632:True:=trivial
theorem tw2896199970934005882:True:=trivial
theorem tw10599743792861338247:True:=trivial
theorem tw3417558002596273239:True:=trivial
end PySem.W.Fast
open PySem PySem.W PyProof.Rows
local macro_rules | `(tactic| walk_at "q_fn") => `(tactic| (refine' ⟨?a, L2.fun_mk ?l ?c ?k⟩; (case a => k_is); (case l => k_is); (case c => k_is); (case k => k_is)))
set_option maxRecDepth 100000 in
set_option maxHeartbeats 0 in
theorem PySem.Challenge.cw_bellferry_k23_steps_refused_holds : PySem.Challenge.rw_bellferry_k23_steps_refused.Holds := by
 w_on;o_law;k_head;(case hw=>w_witness2)
 k_fill
 refine My.walk (l:=PySem.Challenge.rw_bellferry_k23_steps_refused) rfl rfl (λw h Y=>PySem.W.kIn_of Y) ?F
 case F=>
  intro w mg fa h KX G hmg
  refine' My.all_mk KX G hmg ?h1 ?h2 ?h3 ?h4 ?h5 ?h6 ?h7 ?h8 ?h9 ?h10 ?h11 ?h12 ?h13 ?h14 ?h15 ?h16 ?h17 ?h18 ?h19 ?h20 ?h21 ?h22 ?h23 ?h24 ?h25 ?h26 ?h27 ?h28 ?h29 ?h30 ?h31 ?h32 ?h33 ?h34 ?h35 ?z1 ?z2 ?z3 ?z4 ?z5 ?z6 ?z7 ?z8 ?z9 ?z10 ?z11 ?z12 ?z13 ?g1 ?g2 ?g3 ?g4 ?g5 ?g6 ?g7 ?g8 ?g9 ?g10 ?xx
  (case h1=>walk_at "q_fn")
  (case h2=>walk_at "q_fn")
  (case h3=>walk_at "q_fn")
  (case h4=>walk_at "q_fn")
  (case h5=>walk_at "q_fn")
  (case h6=>walk_at "q_fn")
  (case h7=>walk_at "q_fn")
  (case h8=>walk_at "q_fn")
  (case h9=>walk_at "q_fn")
  (case h10=>walk_at "q_fn")
  (case h11=>walk_at "q_fn")
  (case h12=>walk_at "q_fn")
  (case h13=>walk_at "q_fn")
  (case h14=>walk_at "q_fn")
  (case h15=>walk_at "q_fn")
  (case h16=>walk_at "q_fn")
  (case h17=>walk_at "q_fn")
  (case h18=>walk_at "q_fn")
  (case h19=>walk_at "q_fn")
  (case h20=>walk_at "q_fn")
  (case h21=>walk_at "q_fn")
  (case h22=>walk_at "q_fn")
  (case h23=>walk_at "q_fn")
  (case h24=>walk_at "q_fn")
  (case h25=>walk_at "q_fn")
  (case h26=>walk_at "q_fn")
  (case h27=>walk_at "q_fn")
  (case h28=>walk_at "q_fn")
  (case h29=>walk_at "q_fn")
  (case h30=>walk_at "q_fn")
  (case h31=>walk_at "q_fn")
  (case h32=>walk_at "q_fn")
  (case h33=>walk_at "q_fn")
  (case h34=>walk_at "q_fn")
  (case h35=>walk_at "q_fn")
  (case z1=>k_is)
  (case z2=>k_is)
  (case z3=>k_is)
  (case z4=>k_is)
  (case z5=>k_is)
  (case z6=>k_is)
  (case z7=>k_is)
  (case z8=>k_is)
  (case z9=>k_is)
  (case z10=>k_is)
  (case z11=>k_is)
  (case z12=>k_is)
  (case z13=>k_is)
  (case g1=>k_is)
  (case g2=>k_is)
  (case g3=>k_is)
  (case g4=>k_is)
  (case g5=>k_is)
  (case g6=>k_is)
  (case g7=>k_is)
  (case g8=>k_is)
  (case g9=>k_is)
  (case g10=>k_is)
  (case xx=>kernel_rfl)
#print axioms PySem.Challenge.cw_bellferry_k23_steps_refused_holds
