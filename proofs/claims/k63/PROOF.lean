import PyProof.Rows.All
import Wide.All
import OpenK.AllK
import Wide.FinOn
import Lean
import PyProof.EqAt
import PyProof.EqKinds
import PyProof.TupleCall
import PySem.Challenge.RW_bellferry_k63_bounds_told
import PyProof.Rows.SetFrom
import PyProof.FactsAll.set_1
import PyProof.CollectWalk
import PyProof.Rows.SortStr
import PyProof.IsiH_list
import PyProof.ConsumeWalk
import PyProof.StrWalks
import PyProof.IsiH_tuple
import PyProof.SliceStr2
import PyProof.ListRange
import PyProof.Rows.Range3
import PyProof.Rows.CallKwBuiltin
import PyProof.WalkInts
import PyProof.FString5
set_option Elab.async false
set_option linter.all false
set_option maxRecDepth 100000
set_option maxHeartbeats 8000000
set_option genSizeOf false
set_option genSizeOfSpec false
noncomputable section
set_option bootstrap.genMatcherCode false
set_option compiler.extract_closed false
open List renaming getElem?_eq_getElem→Y00, length_map→Y01, getElem?_eq_some_iff→Y05, getElem?_map→Y06, mem_of_getElem?→Y08, mem_cons→Y0f, size_toArray→Y0g, map_cons→Y0h, getD_eq_getElem?_getD→Y0j, replicate→Y0l, mem_cons_of_mem→Y0n, getElem_mem→Y0p, mem_map→Y0r, getD_cons_succ→Y0s, getD_cons_zero→Y0t, not_mem_nil→Y0u, mem_cons_self→Y0v, getElem_of_mem→Y0x, nil_append→Y0y, mem_singleton→Y0z, map_append→Y0A, cons_append→Y0B, length_append→Y0D, getElem?_append_right→Y0E, map_map→Y0G, length_take→Y0J, map_nil→Y0N, getElem?_append_left→Y0P, mem_append→Y0Q, length_replicate→Y0R, take_add_one→Y0S, range→Y0U, length_cons→Y0X, mem_append_right→Y0Y, nodup_cons→Y11, replicate_succ→Y13, lookup_cons→Y1b, nodup_append→Y1d, getElem?_eq_none→Y1e, length_zip→Y1h, take_length→Y1i, eraseIdx_eq_take_drop_succ→Y1m, getElem?_eq_none_iff→Y1n, mem_range→Y1o, mem_or_eq_of_mem_set→Y1p, eq_nil_of_length_eq_zero→Y1s, any_cons→Y1t, length_eq_zero_iff→Y1u, take_of_length_le→Y1z, length_set→Y1K, flatten_cons→Y1L, foldl_cons→Y1M, foldl_append→Y1P, eq_of_mem_replicate→Y1Q, find?_cons→Y1Z, all_cons→Y24, append_assoc→Y25, getElem?_set→Y27, getElem?_zip_eq_some→Y2a, length_drop→Y2b, append_nil→Y2i, length_range→Y2q, getElem?_inj→Y2r, map_set→Y2v, filterMap_cons→Y2y, length_pos_iff→Y2D, length_eraseIdx_of_lt→Y2H, foldl→Y2Q, ext_getElem?→Y2X, pairwise_map→Y2Z, idxOf_lt_length_iff→Y30, length→Y31, getElem?_replicate→Y32, getElem_inj→Y37, map_fst_zip→Y3a, getElem_map→Y3b, getElem?_set_self→Y3c, drop_eq_nil_of_le→Y3j, mem_filter→Y3k, of_mem_zip→Y3n, map_id'→Y3B, nodup_nil→Y3J, getD→Y3Q
open PySem.W renaming Frag→Y02, fnOf→Y04, nsIn→Y07, keepIn→Y0a, mg_of→Y0c, codeIn→Y0d, mg_none_of→Y0V, kia_one→Y19, kia_tup→Y1a, emptyDict→Y1j, instObj→Y1G, findIn→Y1T, kitOne→Y1U, kitx_list→Y2n, kitx_dict→Y2o, kitAny→Y2N, methodObj→Y2O, cellsFrom_some→Y3d, OpenLaw→Y3q, lookIn→Y3F
open PySem.Heap renaming get?_push_of_some→Y03, get?_push_size→Y0e, lt_size→Y0i, get?_update_other→Y0T, get?_update_self→Y12, size_push→Y1f, SameBut→Y1Y, ExtBut→Y3K
open Bool renaming false_ne_true→Y09, false_eq_true→Y0C, and_eq_true→Y0H, or_self→Y2u, not_true→Y2x, eq_iff_iff→Y2z, not_false→Y2M, true_or→Y3o, or_eq_true→Y3r, or_true→Y3w, false_and→Y3E, and_false→Y3G
open Nat renaming le_refl→Y0b, ne_of_lt→Y0m, lt_of_lt_of_le→Y0L, le_trans→Y0M, zero_le→Y17, lt_succ_of_lt→Y1v, le_succ→Y1D, lt_irrefl→Y22, ne_of_gt→Y2e, lt_trans→Y2g, le_of_eq→Y2I, succ_le_succ→Y38, le_of_lt→Y3l, not_lt_zero→Y3s
open Array renaming length_toList→Y0k, getElem?_eq_getElem→Y14, getElem?_eq_none→Y2m, getElem?_toList→Y3t
open PySem.Value renaming none→Y0o, ref→Y0q, type→Y0w, str→Y0F, bool→Y15, int→Y3M
open PySem.Around renaming under_plainId→Y0I, under→Y3Y
open Option.some renaming inj→Y0K, injEq→Y2p
open Sum renaming inr→Y0O, inl→Y3S
open PySem.NameKind renaming free→Y0W, cell→Y2j
open PySem.Str renaming ofString→Y0Z, empty→Y3m, length→Y3T
open PyProof.Rows renaming callWith_type1→Y10, slot_tuple_getitem→Y1I, callWith_builtin1→Y2s
open PySem.Heap.SameBut renaming update→Y16
open Int renaming emod_lt_of_pos→Y18, emod_nonneg→Y1r, toNat_of_nonneg→Y1x, toNat_natCast→Y1H
open False renaming elim→Y1c
open PySem.Builtin.Range renaming rangeSize→Y1g, small→Y3L
open True renaming intro→Y1k
open PySem.Builtin.Tuple renaming tupleCompareSizes→Y1l, tupleExact→Y1J, tupleTooMany→Y2G
open PySem.AutoSeq1 renaming wpAny_loadPart'→Y1q, sub_tuple_tuple→Y2S, sub_list_list→Y3g, idx_int→Y3i
open PySem renaming mem_of_lookup→Y1w
open PySem.Builtin.Str renaming strSliceIndices→Y1y
open Iff renaming rfl→Y1A
open PySem.F renaming plain_max_loop→Y1B, slot_tuple_getattribute→Y1F, slot_list_getattribute→Y1O, slot_tuple_mul→Y1W, called_set→Y21, slot_dict_keyiterator_iter→Y2h, args_tuple_add_2→Y2P, args_tuple_mul_2→Y2T, entry_tuple_add→Y33, slot_dict_clear→Y34, slot_tuple_rmul→Y35, entry_tuple_mul→Y36, entry_max_loop→Y39, slot_tuple_add→Y3e, sub_dict_dict→Y3u, slot_int_rmul→Y3v, slot_list_pop→Y3x, type_list_pop→Y3y, slot_dict_get→Y3z, type_dict_get→Y3A, slot_dict_eq→Y3C, slot_dict_ne→Y3D, slot_list_eq→Y3H, slot_list_ne→Y3I
open PySem.Builtin.Slice renaming slicePlaces→Y1C, sliceAdjust→Y28, sliceApplied→Y2F
open PySem.Builtin.Dict renaming dictSlotArgs→Y1E, updateFrom→Y1S, selfAndRest→Y2Y, samePairs→Y3h
open PySem.Builtin.List renaming listTooLong→Y1N, listExtendWith→Y2B, listSameRef→Y2W
open PySem.Data renaming fields→Y1R, seq→Y26
open PySem.SetTable renaming grown→Y1V, below→Y2L
open PySem.Calls renaming spliced_cons→Y1X, spliced_nil→Y23, Name_function_global→Y2E, callWith_builtin→Y3f
open PySem.SeqAt renaming shaped→Y20
open PySem.Manifest renaming find?→Y29
open Sum.inr renaming inj→Y2c
open Ne renaming symm→Y2d
open PySem.Obj renaming mapSeq→Y2f, data_mapFields→Y2k, isFreed_of_fields→Y2t, cls_mapFields→Y2U, mapFields→Y3P
open Option renaming map_eq_some_iff→Y2l, toList_some→Y2J, isSome_map→Y2R
open PySem.Shared renaming TypeIs→Y2w
open ForInStep renaming yield→Y2A
open PySem.Builtin.Builtins renaming bindParams→Y2C
open Nat.succ renaming inj→Y2K
open PySem.Builtin.Frozenset renaming sizeOf→Y2V
open PySem.Heap.DictOf renaming new→Y3p
open PySem.SeqAt.EqAt renaming int_str→Y3N, str_int→Y3O
open PySem.ScopeKind renaming function→Y3R
open PySem.Walks renaming list→Y3U
open PySem.SetTable.below renaming go→Y3V
open Char renaming toNat→Y3W
open List.Pairwise renaming imp→Y3X
open PySem.IsRange renaming new→Y3Z
namespace L2
open PySem PySem.Spec PyProof.Rows
theorem fMc{α:Type _}{p:α->Prop}{a:α}{l:List α}(h:p a/\∀x∈l,p x):∀x∈a::l,p x:=List.forall_mem_cons.2 h
abbrev Key:=Sum Int Str
def Zfw:Key->Value->Bool
 |.inl k,v=>Value.isInt k v
 |.inr x,v=>Value.isStrOf x v
def keyH(w:World):Key->Int
 |.inl k=>hashInt k
 |.inr x=>hashStr w x
theorem Z13:∀{k:Key} {v:Value},Zfw k v=true->(∃i t,k=Y3S i/\v=Y3M i t)\/(∃x t,k=Y0O x/\v=Y0F x t)
 |.inl i,v,h=>by
  obtain⟨t,e⟩:=Value.isInt_shape (k:=i) (v:=v) h
  exact .inl ⟨i,t,rfl,e⟩
 |.inr x,v,h=>by
  obtain⟨t,e⟩:=Value.isStrOf_shape (x:=x) (v:=v) h
  exact .inr ⟨x,t,rfl,e⟩
theorem ZgZ(i:Int)(t:Tok):Zfw (.inl i) (.int i t)=true:=by simp[Zfw,Value.isInt]
theorem ZgY(x:Str)(t:Tok):Zfw (.inr x) (.str x t)=true:=by simp[Zfw,Value.isStrOf]
theorem Zo4(a b:Int):decide ((Y3S a:Key)=Y3S b)=(a==b):=by
 by_cases e:a=b
 ·subst e;simp
 ·have h:¬(Y3S a:Key)=Y3S b:=λq=>e (Sum.inl.inj q)
  rw[decide_eq_false h]
  exact(beq_eq_false_iff_ne.mpr e).symm
theorem Zo1(a b:Str):decide ((Y0O a:Key)=Y0O b)=decide (a=b):=by
 by_cases e:a=b
 ·subst e;simp
 ·have h:¬(Y0O a:Key)=Y0O b:=λq=>e (Y2c q)
  rw[decide_eq_false h,decide_eq_false e]
theorem Zo3(a:Int)(b:Str):decide ((Y3S a:Key)=Y0O b)=false:=decide_eq_false (λq=>nomatch q)
theorem Zo2(a:Str)(b:Int):decide ((Y0O a:Key)=Y3S b)=false:=decide_eq_false (λq=>nomatch q)
def Z19(prog:Program)(w:World):PySem.KeyKind prog w Key where
 is:=Zfw
 hash:=keyH w
 inj:=λv a b ha hb=>by
  rcases Z13 ha with⟨i,t,rfl,rfl⟩|⟨x,t,rfl,rfl⟩
  ·rcases Z13 hb with⟨j,u,rfl,e⟩|⟨y,u,rfl,e⟩
   ·injection e with e1 _;rw[e1]
   ·exact nomatch e
  ·rcases Z13 hb with⟨j,u,rfl,e⟩|⟨y,u,rfl,e⟩
   ·exact nomatch e
   ·injection e with e1 _;rw[e1]
 byValue:=λk v h=>by
  rcases Z13 h with⟨i,t,rfl,rfl⟩|⟨x,t,rfl,rfl⟩<;>rfl
 pyHash:=λhv h=>by
  rcases Z13 hv with⟨i,t,rfl,rfl⟩|⟨x,t,rfl,rfl⟩
  ·exact wpAny_pyHash_int h
  ·exact wpAny_pyHash_str h
 eqBool:=λhu hv h=>by
  rcases Z13 hu with⟨i,t,rfl,rfl⟩|⟨x,t,rfl,rfl⟩
  ·rcases Z13 hv with⟨j,u,rfl,rfl⟩|⟨y,u,rfl,rfl⟩
   ·rw[Zo4]at h;exact wpAny_eqBool_int h
   ·rw[Zo3]at h;exact Y3N i t y u _ _ _ _ h
  ·rcases Z13 hv with⟨j,u,rfl,rfl⟩|⟨y,u,rfl,rfl⟩
   ·rw[Zo2]at h;exact Y3O x t j u _ _ _ _ h
   ·rw[Zo1]at h;exact wpAny_eqBool_str h
 «strs»:=λk x t v h=>by
  rcases Z13 h with⟨i,u,rfl,e⟩|⟨y,u,rfl,e⟩
  ·exact nomatch e
  ·injection e with e1 _
   subst e1
   cases v<;>rfl
theorem ZdD(prog:Program)(w:World)(i:Int)(t:Tok):(Z19 prog w).is (.inl i) (.int i t)=true:=ZgZ i t
theorem ZdC(prog:Program)(w:World)(x:Str)(t:Tok):(Z19 prog w).is (.inr x) (.str x t)=true:=ZgY x t
end L2
namespace L2
open PySem PySem.Spec PyProof.Rows
inductive V where
 |non|bl (b:Bool)|int (i:Int)|str (x:Str)|byt (b:Array UInt8)|flt (b:UInt64)|ref (a:Addr)|ty (n:String)
  deriving DecidableEq
def RelV:V->Value->Prop
 |.non,u=>u=Y0o
 |.bl b,u=>u=Y15 b
 |.int i,u=>∃t,u=Y3M i t
 |.str x,u=>∃t,u=Y0F x t
 |.byt b,u=>∃t,u=Value.bytes b t
 |.flt b,u=>∃t,u=Value.float b t
 |.ref a,u=>u=Y0q a
 |.ty n,u=>u=Y0w n
abbrev Vals:List V->List Value->Prop:=Paired RelV
theorem Vals.length{xs:List V}{us:List Value}(r:Vals xs us):xs.length=us.length:=Paired.length r
theorem Vals.get:∀{xs:List V} {us:List Value} {i:Nat} {x:V},Vals xs us->xs[i]?=some x->∃u,us[i]?=some u/\RelV x u
 |_,_,_,_,.nil,e=>by simp at e
 |_,_,0,_,.cons r _,e=>by simp at e;subst e;exact⟨_,rfl,r⟩
 |_,_,i+1,x,.cons _ t,e=>by
  obtain⟨u,h1,h2⟩:=Vals.get (i:=i) (x:=x) t (by simpa using e)
  exact⟨u,by simpa using h1,h2⟩
theorem Vals.set{x:V}{u:Value}(r:RelV x u):∀{xs:List V} {us:List Value} (i:Nat),Vals xs us->Vals (xs.set i x) (us.set i u)
 |_,_,_,.nil=>.nil
 |_,_,0,.cons _ t=>.cons r t
 |_,_,i+1,.cons q t=>.cons q (Vals.set r i t)
theorem Vals.append:∀{xs ys:List V} {us ws:List Value},Vals xs us->Vals ys ws->Vals (xs++ys) (us++ws)
 |_,_,_,_,.nil,s=>s
 |_,_,_,_,.cons r t,s=>.cons r (Vals.append t s)
theorem Vals.take:∀{xs:List V} {us:List Value} (n:Nat),Vals xs us->Vals (xs.take n) (us.take n)
 |_,_,0,_=>.nil
 |_,_,_+1,.nil=>.nil
 |_,_,n+1,.cons r t=>.cons r (Vals.take n t)
theorem Vals.drop:∀{xs:List V} {us:List Value} (n:Nat),Vals xs us->Vals (xs.drop n) (us.drop n)
 |_,_,0,r=>r
 |_,_,_+1,.nil=>.nil
 |_,_,n+1,.cons _ t=>Vals.drop n t
theorem Vals.none_of:∀{xs:List V} {us:List Value} {i:Nat},Vals xs us->xs[i]?=none->us[i]?=none:=fun{xs us i} r e=>by
 have h1:=r.length
 have h2:xs.length≤i:=Y1n.mp e
 exact Y1n.mpr (by lia)
def RelO:Option V->Option Value->Prop
 |some v,some u=>RelV v u
 |none,none=>True
 |_,_=>False
def KV{κ:Type}:List (κ×V)->List (κ×Value)->Prop:=Paired fun(p:κ×V) (q:κ×Value)=>p.1=q.1/\RelV p.2 q.2
def kV:Key->V
 |.inl i=>.int i
 |.inr x=>.str x
inductive HO where
 |lst (xs:List V)
 |tup (xs:List V)
 |dK (kvs:List (Key×V))|dT (kvs:List (List Key×V))
 |set (S:Int->Bool) (n:Nat)
 |ins (C dx:Addr) (fs:List (Str×V))
 |own (x:Addr)
 |xd (fs:List (Str×V))
 |met (f x:Addr)
 |rng (lo hi:Int)
 |frz (o:Obj) (u:HO)
 |tbl (ps:Array Value)
 |ext (φ:Heap->Prop)
abbrev Hp:=Addr->Option HO
def upd(H:Hp)(a:Addr)(o:HO):Hp:=λb=>if b=a then some o else H b
theorem Z1G{H:Hp}{a:Addr}{o:HO}:upd H a o a=some o:=by unfold upd;rw[if_pos rfl]
theorem Z0y{H:Hp}{a b:Addr}{o:HO}(h:b≠a):upd H a o b=H b:=by unfold upd;rw[if_neg h]
theorem ZnR{H:Hp}{a b:Addr}{o u:HO}(h:H a=some o)(h':H b=some u)(d:o≠u):a≠b:=by
 intro e;subst e;rw[h]at h';exact d (Y0K h')
theorem Z2b{H:Hp}{a b:Addr}{o:HO}(h:H a=some o)(h':H b=none):a≠b:=by
 intro e;subst e;rw[h]at h';cases h'
section
variable(P:Program)(w:World)
def ObjOk(H:Hp)(h:Heap)(a:Addr):HO->Prop
 |.lst xs=>xs.length≤sizeLine/\∃(its:List Value) (n:Nat),Vals xs its/\h.get? a=some {cls:=.type "list",data:=.seq its.toArray n}
 |.tup xs=>xs.length≤sizeLine/\∃its:List Value,Vals xs its/\IsTup h a its.toArray/\∃o,h.get? a=some o/\o.dict=none
 |.dK kvs=>kvs.length≤sizeLine/\(a==sysModules)=false/\∃vs,KV kvs vs/\h.DictOf (Z19 P w) a vs
 |.dT kvs=>kvs.length≤sizeLine/\(a==sysModules)=false/\∃xs:List (List Key×Addr×Value),
   Paired (fun(p:List Key×V) (q:List Key×Addr×Value)=>p.1=q.1/\H q.2.1=some (.tup (p.1.map kV))/\RelV p.2 q.2.2) kvs xs/\
   ∃o es ep,h.get? a=some o/\o.ExactDict/\o.data=.dict es ep/\es.toList=xs.map (entryOfKey (tupleKind (Z19 P w)))/\(xs.map (·.1)).Nodup
 |.set S n=>h.SetOf (intKind P w) a S n
 |.ins C dx fs=>H dx=some (.own a)/\fs.length≤1000/\dx≠a/\h.get? a=some (Y1G C dx)/\
   ∃mA,h.Ns1 dx mA/\(∀f,RelO (fs.lookup f) (mA f))/\PySem.Within mA (fs.map (·.1))
 |.own _=>∃o,h.get? a=some o
 |.xd fs=>∃mA,h.Ns1 a mA/\∀f,RelO (fs.lookup f) (mA f)
 |.rng lo hi=>∃t u v,h.get? a=some {cls:=.type "range",data:=.fields #[.int lo t,.int hi u,.int 1 v]}
 |.frz o u=>h.get? a=some o/\ObjOk H h a u
 |.tbl ps=>h.get? a=some {cls:=.none,data:=.fields ps}
 |.met f x=>h.get? a=some (Y2O (.ref f) (.ref x))
 |.ext φ=>φ h/\(∃o,h.get? a=some o)/\∀h1 h2:Heap,φ h1->(∀o,h1.get? a=some o->h2.get? a=some o)->φ h2
def HOk(H:Hp)(h:Heap):Prop:=∀a o,H a=some o->ObjOk P w H h a o
end
section
variable{P:Program}{w:World}{H H':Hp}{h h':Heap}{a:Addr}{o:HO}
theorem ObjOk.lt(x:ObjOk P w H h a o):a<h.objs.size:=by
 cases o with
 |lst xs=>obtain⟨_,_,_,_,e⟩:=x;exact Y0i e
 |tup xs=>obtain⟨_,_,_,p⟩:=x;exact p.1.lt
 |dK kvs=>obtain⟨_,_,_,_,o,_,_,e,_⟩:=x;exact Y0i e
 |dT kvs=>obtain⟨_,_,_,_,o,_,_,e,_⟩:=x;exact Y0i e
 |set S n=>obtain⟨o,_,_,_,e,_⟩:=x;exact Y0i e
 |ins C dx fs=>obtain⟨_,_,_,e,_⟩:=x;exact Y0i e
 |own y=>obtain⟨_,e⟩:=x;exact Y0i e
 |xd fs=>obtain⟨_,⟨_,_,_,e,_⟩,_⟩:=x;exact Y0i e
 |rng lo hi=>obtain⟨_,_,_,e⟩:=x;exact Y0i e
 |frz ob u=>obtain⟨e,_⟩:=x;exact Y0i e
 |tbl ps=>exact Y0i (show h.get? a=some _ from x)
 |met f y=>exact Y0i (show h.get? a=some _ from x)
 |ext φ=>obtain⟨_,⟨_,e⟩,_⟩:=x;exact Y0i e
theorem Paired.mapP{α β:Type}{F G:α->β->Prop}:∀{l₁:List α} {l₂:List β},Paired F l₁ l₂->(∀a b,F a b->G a b)->Paired G l₁ l₂
 |_,_,.nil,_=>.nil
 |_,_,.cons r t,f=>.cons (f _ _ r) (Paired.mapP t f)
theorem ObjOk.stay(x:ObjOk P w H h a o)(k:∀b u,(b=a\/H b=some (.own a))->h.get? b=some u->h'.get? b=some u)
  (ho:∀b,H b=some (.own a)->H' b=some (.own a)) (ht:∀b xs,H b=some (.tup xs)->H' b=some (.tup xs)):ObjOk P w H' h' a o:=by
 induction o with
 |lst xs=>obtain⟨z,its,n,r,e⟩:=x;exact⟨z,its,n,r,k _ _ (.inl rfl) e⟩
 |tup xs=>obtain⟨z,its,r,⟨ob,e,c⟩,o2,e2,c2⟩:=x;exact⟨z,its,r,⟨ob,k _ _ (.inl rfl) e,c⟩,o2,k _ _ (.inl rfl) e2,c2⟩
 |dK kvs=>obtain⟨z,y,vs,r,ob,es,ep,e,c⟩:=x;exact⟨z,y,vs,r,ob,es,ep,k _ _ (.inl rfl) e,c⟩
 |dT kvs=>
  obtain⟨z,y,xs,r,ob,es,ep,e,c⟩:=x
  exact⟨z,y,xs,Paired.mapP r λp q z=>⟨z.1,ht _ _ z.2.1,z.2.2⟩,ob,es,ep,k _ _ (.inl rfl) e,c⟩
 |set S n=>obtain⟨ob,es,ep,t,e,c⟩:=x;exact⟨ob,es,ep,t,k _ _ (.inl rfl) e,c⟩
 |ins C dx fs=>
  obtain⟨d,z,ne,e,mA,⟨od,es,ep,e2,c⟩,r⟩:=x
  exact⟨ho _ d,z,ne,k _ _ (.inl rfl) e,mA,⟨od,es,ep,k _ _ (.inr d) e2,c⟩,r⟩
 |own y=>obtain⟨ob,e⟩:=x;exact⟨ob,k _ _ (.inl rfl) e⟩
 |xd fs=>obtain⟨mA,⟨od,es,ep,e,c⟩,r⟩:=x;exact⟨mA,⟨od,es,ep,k _ _ (.inl rfl) e,c⟩,r⟩
 |rng lo hi=>obtain⟨t,u,v,e⟩:=x;exact⟨t,u,v,k _ _ (.inl rfl) e⟩
 |frz ob u ih=>obtain⟨e,q⟩:=x;exact⟨k _ _ (.inl rfl) e,ih q⟩
 |tbl ps=>
  have e:h.get? a=some {cls:=.none,data:=.fields ps}:=x
  show h'.get? a=some {cls:=.none,data:=.fields ps}
  exact k a _ (.inl rfl) e
 |met f y=>
  have e:h.get? a=some (Y2O (.ref f) (.ref y)):=x
  show h'.get? a=some (Y2O (.ref f) (.ref y))
  exact k a _ (.inl rfl) e
 |ext φ=>obtain⟨p,⟨o,e⟩,st⟩:=x;exact⟨st _ _ p λo q=>k _ _ (.inl rfl) q,⟨o,k _ _ (.inl rfl) e⟩,st⟩
theorem HOk.lt(x:HOk P w H h)(e:H a=some o):a<h.objs.size:=(x a o e).lt
theorem HOk.fresh(x:HOk P w H h)(e:h.objs.size≤a):H a=none:=by
 cases q:H a with
 |none=>rfl
 |some u=>exact absurd (Y0L (x.lt q) e) (Y22 _)
theorem HOk.kept(x:HOk P w H h)(k:∀b u,h.get? b=some u->h'.get? b=some u):HOk P w H h':=λa o e=>
 (x a o e).stay (λb u _ q=>k b u q) (λ_ q=>q) λ_ _ q=>q
theorem HOk.laid(x:HOk P w H h)(k:∀b u,h.get? b=some u->h'.get? b=some u)(hp:h.objs.size≤a)(new:ObjOk P w (upd H a o) h' a o):HOk P w (upd H a o) h':=λb u e=>by
 have hn:=x.fresh hp
 by_cases hb:b=a
 ·subst hb;rw[Z1G]at e;cases e;exact new
 ·rw[Z0y hb]at e
  exact(x b u e).stay (λc v _ q=>k c v q) (λc q=>by rw[Z0y (Z2b q hn)];exact q) λc xs q=>by rw[Z0y (Z2b q hn)];exact q
end
def Rd(H:Hp)(a:Addr)(u:HO):Prop:=H a=some u\/∃o,H a=some (.frz o u)
theorem Rd.of{H:Hp}{a:Addr}{u:HO}(h:H a=some u):Rd H a u:=.inl h
theorem Rd.ok{P:Program}{w:World}{H:Hp}{h:Heap}{a:Addr}{u:HO}(r:Rd H a u)(x:HOk P w H h):ObjOk P w H h a u:=by
 rcases r with r|⟨o,r⟩
 ·exact x a u r
 ·obtain⟨_,q⟩:=x a _ r
  exact q
def Mut:Option HO->Prop
 |some (.lst _)=>True
 |some (.dK _)=>True
 |some (.dT _)=>True
 |some (.set _ _)=>True
 |some (.ins _ _ _)=>True
 |some (.ext _)=>True
 |_=>False
section
variable{P:Program}{w:World}{H:Hp}{h h':Heap}{x e:Addr}{o':HO}
theorem HOk.write(ok:HOk P w H h)(mu:Mut (H x))(he:e=x\/H e=some (.own x))(k:∀b u,b≠e->h.get? b=some u->h'.get? b=some u)(heo:∃u,h'.get? e=some u)
  (new:ObjOk P w (upd H x o') h' x o'):HOk P w (upd H x o') h':=λb u q=>by
 have nown:∀c y,H c=some (.own y)->c≠x:=λc y r z=>by subst z;rw[r]at mu;exact mu
 have ntup:∀c xs,H c=some (.tup xs)->c≠x:=λc xs r z=>by subst z;rw[r]at mu;exact mu
 by_cases hb:b=x
 ·subst hb;rw[Z1G]at q;cases q;exact new
 ·rw[Z0y hb]at q
  by_cases hbe:b=e
  ·have q':H b=some (.own x):=by
    rcases he with z|z
    ·exact absurd (hbe.trans z) hb
    ·rw[hbe];exact z
   rw[q]at q';cases q'
   obtain⟨v,hv⟩:=heo
   exact⟨v,by rw[hbe];exact hv⟩
  ·refine(ok b u q).stay (λc v hc r=>k c v ?_ r) (λc r=>by rw[Z0y (nown c b r)];exact r) λc xs r=>by rw[Z0y (ntup c xs r)];exact r
   rcases hc with rfl|hc
   ·exact hbe
   ·rintro rfl
    rcases he with z|z
    ·exact nown c b hc z
    ·rw[hc]at z;cases z;exact hb rfl
end
structure Un (fs ex:List Addr) (H H':Hp) (h h':Heap):Prop where
 keep:∀b o,h.get? b=some o->H b=none->b∉fs->b∉ex->h'.get? b=some o
 slot:∀b o,h.get? b=some o->H b=none->b∈fs->b∉ex->∃sl,h'.get? b=some {o with slots:=sl}
 free:∀b o,h.get? b=some o->H b=none->b∉ex->H' b=none
 there:∀b o,h.get? b=some o->b∉ex->∃o',h'.get? b=some o'
 tups:∀b xs,H b=some (.tup xs)->H' b=some (.tup xs)
 frzs:∀b o u,H b=some (.frz o u)->H' b=some (.frz o u)
 tbls:∀b ps,H b=some (.tbl ps)->∃more,H' b=some (.tbl (ps++more))
section
variable{fs fs' ex ex':List Addr}{H H1 H2:Hp}{h h1 h2 h':Heap}{a x e:Addr}{o:HO}
theorem Un.any(u:Un fs ex H H1 h h1){b:Addr}{ob:Obj}(q:h.get? b=some ob)(n:H b=none)(hx:b∉ex):∃sl,h1.get? b=some {ob with slots:=sl}:=by
 by_cases hb:b∈fs
 ·exact u.slot b ob q n hb hx
 ·exact⟨ob.slots,u.keep b ob q n hb hx⟩
theorem Un.trans(a:Un fs ex H H1 h h1)(b:Un fs ex H1 H2 h1 h2):Un fs ex H H2 h h2 where
 keep:=λc ob q n hc hx=>b.keep c ob (a.keep c ob q n hc hx) (a.free c ob q n hx) hc hx
 slot:=λc ob q n hc hx=>by
  obtain⟨sl,e1⟩:=a.slot c ob q n hc hx
  obtain⟨sl',e2⟩:=b.slot c _ e1 (a.free c ob q n hx) hc hx
  exact⟨sl',e2⟩
 free:=λc ob q n hx=>by
  obtain⟨o',e1⟩:=a.there c ob q hx
  exact b.free c o' e1 (a.free c ob q n hx) hx
 there:=λc ob q hx=>by
  obtain⟨o',e1⟩:=a.there c ob q hx
  exact b.there c o' e1 hx
 tups:=λc xs q=>b.tups c xs (a.tups c xs q)
 frzs:=λc ob xs q=>b.frzs c ob xs (a.frzs c ob xs q)
 tbls:=λc ps q=>by
  obtain⟨m1,e1⟩:=a.tbls c ps q
  obtain⟨m2,e2⟩:=b.tbls c _ e1
  exact⟨m1++m2,by rw[e2,Array.append_assoc]⟩
theorem Un.kept(k:∀b u,h.get? b=some u->h'.get? b=some u):Un fs ex H H h h':=
 ⟨λb ob q _ _ _=>k b ob q,λb ob q _ _ _=>⟨ob.slots,k b ob q⟩,λ_ _ _ n _=>n,λb ob q _=>⟨ob,k b ob q⟩,λ_ _ q=>q,λ_ _ _ q=>q,λ_ ps q=>⟨#[],by rw[q];simp⟩⟩
theorem Un.refl:Un fs ex H H h h:=Un.kept λ_ _ q=>q
theorem Un.laid(k:∀b u,h.get? b=some u->h'.get? b=some u)(hp:h.objs.size≤a)(hn:H a=none):Un fs ex H (upd H a o) h h' where
 keep:=λb u q _ _ _=>k b u q
 slot:=λb u q _ _ _=>⟨u.slots,k b u q⟩
 free:=λb u q n _=>by rw[Z0y (Y0m (Y0L (Y0i q) hp))];exact n
 there:=λb u q _=>⟨u,k b u q⟩
 tups:=λb xs q=>by rw[Z0y (Z2b q hn)];exact q
 frzs:=λb u xs q=>by rw[Z0y (Z2b q hn)];exact q
 tbls:=λb ps q=>⟨#[],by rw[Z0y (Z2b q hn),q];simp⟩
theorem Un.write(mu:Mut (H x))(he:e=x\/H e=some (.own x))(k:∀b u,b≠e->h.get? b=some u->h'.get? b=some u)(heo:∃u,h'.get? e=some u):Un fs ex H (upd H x o) h h':=by
 have hx:∀b,H b=none->b≠x:=λb n z=>by subst z;rw[n]at mu;exact mu
 have hb:∀b,H b=none->b≠e:=λb n z=>by
  subst z
  rcases he with r|r
  ·exact hx b n r
  ·rw[n]at r;cases r
 have hm:∀b u,H b=some u->¬Mut (some u)->b≠x:=λb u q nm z=>by subst z;rw[q]at mu;exact nm mu
 refine⟨λb u q n _ _=>k b u (hb b n) q,λb u q n _ _=>⟨u.slots,k b u (hb b n) q⟩,λb u q n _=>by rw[Z0y (hx b n)];exact n,λb u q _=>?_,
  λb xs q=>by rw[Z0y (hm b _ q λz=>z)];exact q,λb u xs q=>by rw[Z0y (hm b _ q λz=>z)];exact q,λb ps q=>⟨#[],by rw[Z0y (hm b _ q λz=>z),q];simp⟩⟩
 by_cases hbe:b=e
 ·subst hbe;exact heo
 ·exact⟨u,k b u hbe q⟩
theorem Un.mono(u:Un fs ex H H1 h h1)(hs:∀b∈fs,b∈fs')(hx:∀b∈ex,b∈ex'):Un fs' ex' H H1 h h1:=
 ⟨λb ob q n hb he=>u.keep b ob q n (λz=>hb (hs b z)) λz=>he (hx b z),λ_ _ q n _ he=>u.any q n λz=>he (hx _ z),λb ob q n he=>u.free b ob q n λz=>he (hx b z),λb ob q he=>u.there b ob q λz=>he (hx b z),u.tups,u.frzs,u.tbls⟩
end
def trk(h:Heap)(H:Hp):List Addr:=(Y0U h.objs.size).filter λa=>(H a).isSome
def hidT(h:Heap)(H:Hp):Heap:=PySem.W.hideAll h (trk h H)
theorem Zhu(h:Heap)(H:Hp):(hidT h H).objs.size=h.objs.size:=PySem.W.hideAll_size _ _
theorem ZiY{h:Heap}{H:Hp}{b:Addr}{o:Obj}(e:h.get? b=some o)(n:H b=none):(hidT h H).get? b=some o:=
 PySem.W.hideAll_get _ e λhm=>by
  have q:(H b).isSome=true:=(Y3k.mp hm).2
  rw[n]at q;simp at q
theorem Zlc{h:Heap}{H:Hp}{b:Addr}{o:Obj}(e:(hidT h H).get? b=some o):h.get? b=some o/\H b=none:=by
 have e':h.get? b=some o:=PySem.W.of_hideAll (trk h H) e
 refine⟨e',?_⟩
 cases q:H b with
 |none=>rfl
 |some x=>
  have hm:b∈trk h H:=Y3k.mpr ⟨Y1o.mpr (Y0i e'),by simp[q]⟩
  have z:(hidT h H).get? b=none:=PySem.W.hideAll_none (trk h H) hm
  rw[z]at e;cases e
def Zmg(g h:Heap)(L:Addr):List (Addr×Obj):=(Y0U h.objs.size).filterMap λa=>if a=L\/(g.get? a).isSome=true then none else(h.get? a).map λo=>(a,o)
def rest(g h:Heap)(L d:Addr):List (Addr×Obj):=(Zmg g h L).filter λp=>decide (p.1≠d)
end L2
namespace L2
open PySem PySem.Spec PyProof.Rows
structure Mod (K:Y02) (mg:Str->Option Value) (base:Heap):Prop where
 kin:K.In base
 glob:base.Ns mainGlobals mg
 blt:∃mb,base.Ns builtinsNs mb/\∀x:Str,x≠"__name__"->mb x=bootBuiltins x
 nolimit:base.NoLimit
structure Cx where
 prog:Program
 w:World
 K:Y02
 mg:Str->Option Value
 base:Heap
 A:Around
 N:List Str
 s₀:Shared
 H₀:Hp
 env:Env
 outer:List Env
 stack:List Env
 ex:List Addr
 fn:Str->Bool
 calm:Bool
 pn:List (Addr×Obj)
 xe:Value->Shared->Prop
def frs(l:List Env):List Addr:=l.filterMap (·.frame)
abbrev Cx.fs(X:Cx):List Addr:=frs X.outer
def Vis(sc:Scope)(x:Str):Prop:=sc.names.lookup x=some .local\/sc.names.lookup x=some .cell\/sc.names.lookup x=some .free
def Loc(sc:Scope)(x:Str):Prop:=sc.names.lookup x=some .local\/sc.names.lookup x=some .cell
def Look(env:Env)(h:Heap)(m:Str->Option Value)(x:Str)(u:Value):Prop:=
 (env.kindOf x=some .local/\m x=some u)\/((env.kindOf x=some .cell\/env.kindOf x=some .free)/\∃c,env.cells.lookup x=some c/\h.IsCell c (some u))
structure Cx.Ok (X:Cx):Prop where
 mod:Mod X.K X.mg X.base
 kind:X.env.scope.kind=.function
 glob:X.env.globals=mainGlobals
 blt:X.env.builtins=builtinsNs
 above:X.s₀.heap.objs.size≤X.env.locals
 inj:∀x y c,X.env.cells.lookup x=some c->X.env.cells.lookup y=some c->x=y
 has:∀x,(X.env.kindOf x=some .cell\/X.env.kindOf x=some .free)->∃c,X.env.cells.lookup x=some c
 cab:∀x c,X.fn x=true->X.env.cells.lookup x=some c->X.s₀.heap.objs.size≤c
 hd:X.calm=true->X.A.handled=none
 frames:X.A.frames=some X.stack
 stk:X.stack=X.outer\/(X.stack=X.env::X.outer/\X.env.frame=some X.env.locals)
 exf:∀b∈X.ex,b≠X.env.locals/\∀x c,X.env.cells.lookup x=some c->c≠b
 bs:∀b o,X.base.get? b=some o->X.s₀.heap.get? b=some o/\X.H₀ b=none
 bsz:X.base.objs.size≤X.s₀.heap.objs.size
 noex:∀b o,X.base.get? b=some o->b∉X.ex
 exfs:∀b∈X.ex,b∉X.fs
 funs:X.s₀.heap.FunFrames X.base X.outer
 frf:∀b∈X.fs,X.H₀ b=none
structure Inv (X:Cx) (pins:List (Addr×Obj)) (σ:List (Option V)) (H:Hp) (s:Shared):Prop where
 ok:X.Ok
 os:s.os=X.s₀.os
 bare:AllBare s.gens
 base:Un X.fs X.ex X.H₀ H X.s₀.heap s.heap
 loc:∃m,s.heap.Ns X.env.locals m/\∀(i:Nat) (x:Str) (v:V),X.N[i]?=some x->σ[i]?=some (some v)->Vis X.env.scope x->∃u,RelV v u/\Look X.env s.heap m x u
 cell:∀x c,X.env.cells.lookup x=some c->∃v,s.heap.IsCell c v
 free:H X.env.locals=none
 freeC:∀x c,X.env.cells.lookup x=some c->H c=none
 pin:∀p∈X.pn++pins,s.heap.get? p.1=some p.2/\H p.1=none/\p.1≠X.env.locals/\p.1∉X.fs/\∀v,p.2.data≠.cell v
 hok:HOk X.prog X.w H s.heap
 len:σ.length=X.N.length
section
variable{X:Cx}{pins:List (Addr×Obj)}{σ:List (Option V)}{H H':Hp}{s:Shared}{h':Heap}
theorem Cx.Ok.nofr(ok:X.Ok){b:Addr}{o:Obj}(e:X.base.get? b=some o):b∉X.fs:=λhb=>by
 have:=(ok.funs.mem hb).1
 rw[e]at this;cases this
theorem Inv.bs(I:Inv X pins σ H s):∀b o,X.base.get? b=some o->s.heap.get? b=some o/\H b=none:=λb o e=>
 ⟨I.base.keep b o (I.ok.bs b o e).1 (I.ok.bs b o e).2 (I.ok.nofr e) (I.ok.noex b o e),I.base.free b o (I.ok.bs b o e).1 (I.ok.bs b o e).2 (I.ok.noex b o e)⟩
theorem Inv.bk(I:Inv X pins σ H s):∀b o,X.base.get? b=some o->s.heap.get? b=some o:=λb o e=>(I.bs b o e).1
theorem Inv.mod(I:Inv X pins σ H s):Mod X.K X.mg X.base:=I.ok.mod
theorem Inv.kIn(I:Inv X pins σ H s):X.K.In s.heap:=I.ok.mod.kin.keeps I.bk
theorem Inv.nolimit(I:Inv X pins σ H s):s.heap.NoLimit:=I.ok.mod.nolimit.keeps I.bk
theorem Inv.fr(I:Inv X pins σ H s):∃m,Fr X.base X.env.locals s.heap m:=
 let⟨m,hn,_⟩:=I.loc
 ⟨m,hn,I.bk,Y0M I.ok.bsz I.ok.above⟩
theorem Inv.lt(I:Inv X pins σ H s):X.env.locals<s.heap.objs.size:=let⟨_,hn,_⟩:=I.loc;hn.lt
theorem Inv.sz(I:Inv X pins σ H s):X.s₀.heap.objs.size≤s.heap.objs.size:=Y0M I.ok.above (Y3l I.lt)
theorem Inv.nofs(I:Inv X pins σ H s){a:Addr}(h:s.heap.objs.size≤a):a∉X.fs:=λhb=>by
 obtain⟨_,o,ho,_⟩:=I.ok.funs.mem hb
 exact absurd (Y0L (Y0i ho) (Y0M I.sz h)) (Y22 _)
theorem Inv.cne(I:Inv X pins σ H s):∀x c,X.env.cells.lookup x=some c->c≠X.env.locals:=λx c e z=>by
 obtain⟨v,o,ho,hd⟩:=I.cell x c e
 obtain⟨m,⟨o',es,ep,ho',hd',_⟩,_⟩:=I.loc
 rw[z,ho']at ho;cases ho;rw[hd']at hd;cases hd
theorem Inv.funs(I:Inv X pins σ H s):s.heap.FunFrames X.base X.outer:=by
 have all:∀(l:List Env),(∀b∈frs l,b∈X.fs)->X.s₀.heap.FunFrames X.base l->s.heap.FunFrames X.base l:=by
  intro l
  induction l with
  |nil=>intro _ _;trivial
  |cons env r ih=>
   intro hs hl
   obtain⟨hk,⟨L,o,hf,hn,ho,hd⟩,hr⟩:=hl
   have hL:L∈X.fs:=hs L (by unfold frs;rw[Y2y,hf];exact Y0v)
   obtain⟨sl,e⟩:=I.base.slot L o ho (I.ok.frf L hL) hL λz=>I.ok.exfs L z hL
   exact⟨hk,⟨L,_,hf,hn,e,hd⟩,ih (λb hb=>hs b (by unfold frs;rw[Y2y,hf];exact Y0n _ hb)) hr⟩
 exact all X.outer (λ_ hb=>hb) I.ok.funs
theorem Inv.stack(I:Inv X pins σ H s):s.heap.FunFrames X.base X.stack:=by
 rcases I.ok.stk with e|⟨e,hf⟩
 ·rw[e];exact I.funs
 ·rw[e]
  obtain⟨m,hn,_⟩:=I.loc
  refine .cons (by rw[I.ok.kind];decide) hf hn ?_ I.funs
  exact Heap.get?_none_of_le (Y0M I.ok.bsz I.ok.above)
theorem Inv.stkSub(I:Inv X pins σ H s):∀b∈frs X.stack,b∈X.env.locals::X.fs:=λb hb=>by
 rcases I.ok.stk with e|⟨e,hf⟩
 ·rw[e]at hb;exact Y0n _ hb
 ·rw[e]at hb
  unfold frs at hb
  rw[Y2y,hf]at hb
  exact hb
theorem Inv.stkFree(I:Inv X pins σ H s):∀b∈frs X.stack,H b=none:=λb hb=>by
 rcases Y0f.mp (I.stkSub b hb)with e|hb
 ·rw[e];exact I.free
 ·obtain⟨_,o,ho,_⟩:=I.ok.funs.mem hb
  exact I.base.free b o ho (I.ok.frf b hb) λz=>I.ok.exfs b z hb
theorem Inv.step{g':Array GenState}{t':Nat}{d':Drawn}{ch:List Addr}(I:Inv X pins σ H s)
  (hch:∀b∈ch,(b∈X.ex\/X.s₀.heap.objs.size≤b)/\b≠X.env.locals/\(∀x c,X.env.cells.lookup x=some c->c≠b)/\∀p∈X.pn++pins,p.1≠b)
  (keep:∀b o,b≠X.env.locals->b∉X.fs->b∉ch->s.heap.get? b=some o->H b=none->h'.get? b=some o)
  (slot:∀b o,b≠X.env.locals->b∈X.fs->b∉ch->s.heap.get? b=some o->H b=none->∃sl,h'.get? b=some {o with slots:=sl}) (free:∀b o,b∉ch->s.heap.get? b=some o->H b=none->H' b=none)
  (there:∀b o,b∉ch->s.heap.get? b=some o->∃o',h'.get? b=some o')
  (tups:∀b xs,H b=some (.tup xs)->H' b=some (.tup xs)) (frzs:∀b o u,H b=some (.frz o u)->H' b=some (.frz o u)) (tbls:∀b ps,H b=some (.tbl ps)->∃more,H' b=some (.tbl (ps++more)))
  (ns:∀m,s.heap.Ns X.env.locals m->h'.Ns X.env.locals m) (hok:HOk X.prog X.w H' h') (hg:AllBare g'):
  Inv X pins σ H' {s with heap:=h',gens:=g',drawn:=d',toks:=t'}:=by
 have neL:∀b o,X.s₀.heap.get? b=some o->b≠X.env.locals:=λb o e=>Y0m (Y0L (Y0i e) I.ok.above)
 have neC:∀b o,X.s₀.heap.get? b=some o->b∉X.ex->b∉ch:=λb o e hx hb=>by
  rcases(hch b hb).1 with z|z
  ·exact hx z
  ·exact absurd (Y0L (Y0i e) z) (Y22 _)
 have cellK:∀x c,X.env.cells.lookup x=some c->∀v,s.heap.IsCell c v->h'.IsCell c v:=λx c e v ⟨o,ho,hd⟩=>by
  have nch:c∉ch:=λz=>(hch c z).2.2.1 x c e rfl
  by_cases hc:c∈X.fs
  ·obtain⟨sl,q⟩:=slot c o (I.cne x c e) hc nch ho (I.freeC x c e)
   exact⟨_,q,hd⟩
  ·exact⟨o,keep c o (I.cne x c e) hc nch ho (I.freeC x c e),hd⟩
 refine⟨I.ok,I.os,hg,⟨λb o e n hb hx=>?_,λb o e n hb hx=>?_,λb o e n hx=>?_,λb o e hx=>?_,λb xs e=>tups b xs (I.base.tups b xs e),λb o xs e=>frzs b o xs (I.base.frzs b o xs e),λb ps e=>?_⟩,?_,λx c e=>?_,?_,λx c e=>?_,λp hp=>?_,hok,I.len⟩
 ·exact keep b o (neL b o e) hb (neC b o e hx) (I.base.keep b o e n hb hx) (I.base.free b o e n hx)
 ·obtain⟨sl,e1⟩:=I.base.slot b o e n hb hx
  obtain⟨sl',e2⟩:=slot b _ (neL b o e) hb (neC b o e hx) e1 (I.base.free b o e n hx)
  exact⟨sl',e2⟩
 ·obtain⟨o',e1⟩:=I.base.there b o e hx
  exact free b o' (neC b o e hx) e1 (I.base.free b o e n hx)
 ·obtain⟨o',e1⟩:=I.base.there b o e hx
  exact there b o' (neC b o e hx) e1
 ·obtain⟨m1,e1⟩:=I.base.tbls b ps e
  obtain⟨m2,e2⟩:=tbls b _ e1
  exact⟨m1++m2,by rw[e2,Array.append_assoc]⟩
 ·obtain⟨m,hn,hl⟩:=I.loc
  refine⟨m,ns m hn,λi x v e1 e2 e3=>?_⟩
  obtain⟨u,r,l⟩:=hl i x v e1 e2 e3
  refine⟨u,r,?_⟩
  rcases l with l|⟨k,c,e,z⟩
  ·exact .inl l
  ·exact .inr ⟨k,c,e,cellK x c e _ z⟩
 ·obtain⟨v,z⟩:=I.cell x c e
  exact⟨v,cellK x c e v z⟩
 ·obtain⟨m,⟨o,_,_,ho,_⟩,_⟩:=I.loc
  exact free _ o (λz=>(hch _ z).2.1 rfl) ho I.free
 ·obtain⟨v,o,ho,hd⟩:=I.cell x c e
  exact free c o (λz=>(hch c z).2.2.1 x c e rfl) ho (I.freeC x c e)
 ·obtain⟨e,n,ne,nf,d⟩:=I.pin p hp
  have nch:p.1∉ch:=λz=>(hch p.1 z).2.2.2 p hp rfl
  exact⟨keep p.1 p.2 ne nf nch e n,free p.1 p.2 nch e n,ne,nf,d⟩
theorem Inv.un{t':Nat}(I:Inv X pins σ H s)(u:Un X.fs [] H H' s.heap h')(hok:HOk X.prog X.w H' h'):Inv X pins σ H' {s with heap:=h',toks:=t'}:=by
 obtain⟨m,⟨o,es,ep,ho,r⟩,_⟩:=id I.loc
 obtain⟨sl,hL⟩:=u.any ho I.free (by simp)
 exact I.step (g':=s.gens) (d':=s.drawn) (ch:=[]) (λ_ z=>nomatch z) (λb o _ hb _ e n=>u.keep b o e n hb (by simp)) (λb o _ hb _ e n=>u.slot b o e n hb (by simp)) (λb o _ e n=>u.free b o e n (by simp)) (λb o _ e=>u.there b o e (by simp)) u.tups u.frzs u.tbls (λm' hm=>by
  obtain⟨o',es',ep',ho',r'⟩:=hm
  rw[ho]at ho';cases ho'
  exact⟨_,es',ep',hL,r'⟩) hok I.bare
theorem Inv.call{g':Array GenState}{t':Nat}{d':Drawn}{ch:List Addr}(I:Inv X pins σ H s)(u:Un (frs X.stack) ch H H' s.heap h')(hok:HOk X.prog X.w H' h')(hg:AllBare g')
  (hch:∀b∈ch,(b∈X.ex\/X.s₀.heap.objs.size≤b)/\b≠X.env.locals/\(∀x c,X.env.cells.lookup x=some c->c≠b)/\∀p∈X.pn++pins,p.1≠b):
  Inv X pins σ H' {s with heap:=h',gens:=g',drawn:=d',toks:=t'}:=by
 obtain⟨m,⟨o,es,ep,ho,r⟩,_⟩:=id I.loc
 obtain⟨sl,hL⟩:=u.any ho I.free λz=>(hch _ z).2.1 rfl
 exact I.step (ch:=ch) hch (λb o hL hb hc e n=>u.keep b o e n (λz=>(Y0f.mp (I.stkSub b z)).elim hL hb) hc) (λb o _ _ hc e n=>u.any e n hc) (λb o hc e n=>u.free b o e n hc) (λb o hc e=>u.there b o e hc) u.tups u.frzs u.tbls (λm' hm=>by
  obtain⟨o',es',ep',ho',r'⟩:=hm
  rw[ho]at ho';cases ho'
  exact⟨_,es',ep',hL,r'⟩) hok hg
theorem Inv.turned{t':Nat}{it:Addr}(I:Inv X pins σ H s)(k:∀b o,b≠it->s.heap.get? b=some o->h'.get? b=some o)(hn:H it=none)(hL:it≠X.env.locals)
  (h1:it∈X.ex\/X.s₀.heap.objs.size≤it) (h2:∀x c,X.env.cells.lookup x=some c->c≠it) (h3:∀p∈X.pn++pins,p.1≠it):Inv X pins σ H {s with heap:=h',toks:=t'}:=by
 have nit:∀b u,H b=some u->b≠it:=λb u e z=>by rw[z,hn]at e;cases e
 refine I.step (g':=s.gens) (d':=s.drawn) (ch:=[it]) (λb hb=>?_) (λb o _ _ hc e _=>k b o (λz=>hc (by simp[z])) e) (λb o _ _ hc e _=>⟨o.slots,k b o (λz=>hc (by simp[z])) e⟩) (λ_ _ _ _ n=>n)
  (λb o hc e=>⟨o,k b o (λz=>hc (by simp[z])) e⟩) (λ_ _ e=>e) (λ_ _ _ e=>e) (λb ps e=>⟨#[],by rw[e];simp⟩) (λm hm=>?_) (λb u e=>?_) I.bare
 ·have e:b=it:=by simpa using hb
  subst e
  exact⟨h1,hL,h2,h3⟩
 ·obtain⟨o,es,ep,ho,r⟩:=hm
  exact⟨o,es,ep,k _ o (Y2d hL) ho,r⟩
 ·refine(I.hok b u e).stay (λc v hc q=>k c v ?_ q) (λ_ q=>q) λ_ _ q=>q
  rcases hc with z|z
  ·rw[z];exact nit b u e
  ·exact nit c _ z
theorem Inv.tok(I:Inv X pins σ H s)(t:Nat):Inv X pins σ H {s with toks:=t}:=I.un (h':=s.heap) (t':=t) Un.refl I.hok
theorem Inv.kept{t':Nat}(I:Inv X pins σ H s)(k:∀b u,s.heap.get? b=some u->h'.get? b=some u):Inv X pins σ H {s with heap:=h',toks:=t'}:=I.un (Un.kept k) (I.hok.kept k)
theorem Inv.laid{a:Addr}{o:HO}{t':Nat}(I:Inv X pins σ H s)(k:∀b u,s.heap.get? b=some u->h'.get? b=some u)(hp:s.heap.objs.size≤a)(new:ObjOk X.prog X.w (upd H a o) h' a o):
  Inv X pins σ (upd H a o) {s with heap:=h',toks:=t'}:=I.un (Un.laid k hp (I.hok.fresh hp)) (I.hok.laid k hp new)
theorem Inv.write{x e:Addr}{o:HO}{t':Nat}(I:Inv X pins σ H s)(mu:Mut (H x))(he:e=x\/H e=some (.own x))(k:∀b u,b≠e->s.heap.get? b=some u->h'.get? b=some u)(heo:∃u,h'.get? e=some u)
  (new:ObjOk X.prog X.w (upd H x o) h' x o):Inv X pins σ (upd H x o) {s with heap:=h',toks:=t'}:=I.un (Un.write mu he k heo) (I.hok.write mu he k heo new)
theorem Inv.weak{σ':List (Option V)}(I:Inv X pins σ H s)(hl:σ'.length=σ.length)(w:∀(i:Nat) v,σ'[i]?=some (some v)->σ[i]?=some (some v)):Inv X pins σ' H s:=
 ⟨I.ok,I.os,I.bare,I.base,let⟨m,hn,hl'⟩:=I.loc;⟨m,hn,λi x v e1 e2 e3=>hl' i x v e1 (w i v e2) e3⟩,I.cell,I.free,I.freeC,I.pin,I.hok,hl.trans I.len⟩
theorem Inv.pins_of{pins':List (Addr×Obj)}(I:Inv X pins σ H s)(h:∀p∈pins',s.heap.get? p.1=some p.2/\H p.1=none/\p.1≠X.env.locals/\p.1∉X.fs/\∀v,p.2.data≠.cell v):Inv X pins' σ H s:=
 ⟨I.ok,I.os,I.bare,I.base,I.loc,I.cell,I.free,I.freeC,λp hp=>(Y0Q.mp hp).elim (λz=>I.pin p (List.mem_append_left _ z)) (h p),I.hok,I.len⟩
theorem Zev{N:List Str}(hN:N.Nodup){i j:Nat}{x:Str}(a:N[i]?=some x) (b:N[j]?=some x):i=j:=by
 obtain⟨h1,e1⟩:=Y05.mp a
 obtain⟨h2,e2⟩:=Y05.mp b
 exact(Y37 hN).mp (e1.trans e2.symm)
theorem Zc5{M:Model}{A:Around}{E:Value->Shared->Prop}{i:Nat}{x:Str}{v:V}{u:Value}{Q:Unit->Shared->Prop}(I:Inv X pins σ H s)(hN:X.N.Nodup)(hi:X.N[i]?=some x) (hx:Loc X.env.scope x) (r:RelV v u)
  (h:∀s',Inv X pins (σ.set i (some v)) H s'->(∃a,Y1Y a s.heap s'.heap/\(a=X.env.locals\/X.env.cells.lookup x=some a))->Q () s') (hf:X.fn x=true\/X.env.scope.names.lookup x=some .local:=by first|exact .inl rfl|exact .inr rfl|assumption):wpAny M A (storeName X.env x u) Q E s:=by
 obtain⟨m,hn,hl⟩:=id I.loc
 have hcls:(X.env.scope.kind==.class||(X.env.scope.kind==.module&&X.env.locals != X.env.globals))=false:=by rw[I.ok.kind];rfl
 have hiσ:i<σ.length:=by rw[I.len];exact(Y05.mp hi).1
 have cne:=I.cne
 have tracked:∀{a:Addr} {h':Heap},(∃o,s.heap.get? a=some o/\H a=none)->Y1Y a s.heap h'->HOk X.prog X.w H h':=fun{a h'} ha hs b ob e=>by
  obtain⟨_,_,hfree⟩:=ha
  refine(I.hok b ob e).stay (λc w' hc q=>(hs.2 c ?_).trans q) (λ_ q=>q) λ_ _ q=>q
  rintro rfl
  rcases hc with rfl|hc
  ·rw[hfree]at e;cases e
  ·rw[hfree]at hc;cases hc
 rcases hx with hk|hk
 ·refine wpAny_storeName_local hk hn (λh' hn' hs=>?_) hcls
  obtain⟨oL,_,_,hoL,_⟩:=id hn
  refine h _ ⟨I.ok,I.os,I.bare,⟨λb o e n hb hx=>?_,λb o e n hb hx=>?_,I.base.free,λb o e hx=>?_,I.base.tups,I.base.frzs,I.base.tbls⟩,⟨_,hn',λj y v' e1 e2 e3=>?_⟩,λy c e=>?_,I.free,I.freeC,λp hp=>?_,tracked ⟨oL,hoL,I.free⟩ hs,by simpa using I.len⟩ ⟨_,hs,.inl rfl⟩
  ·exact(hs.2 b (Y0m (Y0L (Y0i e) I.ok.above))).trans (I.base.keep b o e n hb hx)
  ·obtain⟨sl,e1⟩:=I.base.slot b o e n hb hx
   exact⟨sl,(hs.2 b (Y0m (Y0L (Y0i e) I.ok.above))).trans e1⟩
  ·obtain⟨o',e1⟩:=I.base.there b o e hx
   exact⟨o',(hs.2 b (Y0m (Y0L (Y0i e) I.ok.above))).trans e1⟩
  ·by_cases hj:j=i
   ·subst hj
    rw[hi]at e1;cases e1
    rw[Y3c hiσ]at e2
    cases e2
    exact⟨u,r,.inl ⟨hk,by simp⟩⟩
   ·rw[List.getElem?_set_ne (Y2d hj)]at e2
    obtain⟨u',r',q⟩:=hl j y v' e1 e2 e3
    refine⟨u',r',?_⟩
    rcases q with⟨k,e⟩|⟨k,c,e,z⟩
    ·refine .inl ⟨k,?_⟩
     have:y≠x:=λe=>hj (Zev hN e1 (e▸hi))
     simp[this,e]
    ·exact .inr ⟨k,c,e,z.sameBut hs (cne y c e)⟩
  ·obtain⟨w',z⟩:=I.cell y c e
   exact⟨w',z.sameBut hs (cne y c e)⟩
  ·obtain⟨e,n,ne,nf,d⟩:=I.pin p hp
   exact⟨(hs.2 p.1 ne).trans e,n,ne,nf,d⟩
 ·have hfn:X.fn x=true:=by
   rcases hf with z|z
   ·exact z
   ·rw[z]at hk;cases hk
  obtain⟨c,hc⟩:=I.ok.has x (.inl hk)
  obtain⟨w',z⟩:=I.cell x c hc
  refine wpAny_storeName_cell I.ok.kind hk hc z (λh' hc' hs=>?_)
  obtain⟨oc,hoc,hocd⟩:=id z
  refine h {s with heap:=h'} ⟨I.ok,I.os,I.bare,⟨λb o e n hb hx=>?_,λb o e n hb hx=>?_,I.base.free,λb o e hx=>?_,I.base.tups,I.base.frzs,I.base.tbls⟩,⟨m,hn.sameBut hs (Y2d (cne x c hc)),λj y v' e1 e2 e3=>?_⟩,λy c' e=>?_,I.free,I.freeC,λp hp=>?_,tracked ⟨oc,hoc,I.freeC x c hc⟩ hs,by simpa using I.len⟩ ⟨c,hs,.inr hc⟩
  ·exact(hs.2 b (Y0m (Y0L (Y0i e) (I.ok.cab x c hfn hc)))).trans (I.base.keep b o e n hb hx)
  ·obtain⟨sl,e1⟩:=I.base.slot b o e n hb hx
   exact⟨sl,(hs.2 b (Y0m (Y0L (Y0i e) (I.ok.cab x c hfn hc)))).trans e1⟩
  ·obtain⟨o',e1⟩:=I.base.there b o e hx
   exact⟨o',(hs.2 b (Y0m (Y0L (Y0i e) (I.ok.cab x c hfn hc)))).trans e1⟩
  ·by_cases hj:j=i
   ·subst hj
    rw[hi]at e1;cases e1
    rw[Y3c hiσ]at e2
    cases e2
    exact⟨u,r,.inr ⟨.inl hk,c,hc,hc'⟩⟩
   ·rw[List.getElem?_set_ne (Y2d hj)]at e2
    obtain⟨u',r',q⟩:=hl j y v' e1 e2 e3
    refine⟨u',r',?_⟩
    rcases q with q|⟨k,c',e,z'⟩
    ·exact .inl q
    ·refine .inr ⟨k,c',e,z'.sameBut hs ?_⟩
     rintro rfl
     exact hj (Zev hN e1 (I.ok.inj _ _ _ e hc▸hi))
  ·by_cases hcc:c'=c
   ·subst hcc;exact⟨_,hc'⟩
   ·obtain⟨w2,z2⟩:=I.cell y c' e
    exact⟨w2,z2.sameBut hs hcc⟩
  ·obtain⟨e,n,ne,nf,d⟩:=I.pin p hp
   refine⟨(hs.2 p.1 ?_).trans e,n,ne,nf,d⟩
   intro q
   rw[q,hoc]at e
   have q':oc=p.2:=Y0K e
   exact d w' (by rw[<- q'];exact hocd)
theorem Zej{M:Model}{A:Around}{E:Value->Shared->Prop}{i:Nat}{x:Str}{v:V}{u:Value}{Q:Unit->Shared->Prop}(I:Inv X pins σ H s)(hN:X.N.Nodup)(hi:X.N[i]?=some x) (hx:Loc X.env.scope x) (r:RelV v u)
  (h:∀s',Inv X pins (σ.set i (some v)) H s'->Q () s') (hf:X.fn x=true\/X.env.scope.names.lookup x=some .local:=by first|exact .inl rfl|exact .inr rfl|assumption):wpAny M A (storeName X.env x u) Q E s:=
 Zc5 I hN hi hx r (λs' I' _=>h s' I') hf
theorem Inv.call'{s':Shared}{ch:List Addr}(I:Inv X pins σ H s)(ho:s'.os=s.os)(u:Un (frs X.stack) ch H H' s.heap s'.heap)(hok:HOk X.prog X.w H' s'.heap)(hg:AllBare s'.gens)
  (hch:∀b∈ch,(b∈X.ex\/X.s₀.heap.objs.size≤b)/\b≠X.env.locals/\(∀x c,X.env.cells.lookup x=some c->c≠b)/\∀p∈X.pn++pins,p.1≠b):Inv X pins σ H' s':=by
 obtain⟨h',g',d',t',o'⟩:=s'
 have e:o'=s.os:=ho
 subst e
 exact I.call (g':=g') (t':=t') (d':=d') u hok hg hch
end
abbrev XK:=Value->Option Addr->Hp->Prop
abbrev St:=List (Option V)
abbrev VK:=V->Hp->Prop
abbrev TE:=St->Hp->VK->Prop
abbrev TT:=St->Hp->(Bool->Hp->Prop)->Prop
abbrev TA:=St->Hp->(List V->Hp->Prop)->Prop
structure Ends where
 nx:St->Hp->Prop
 rt:VK
 bk:St->Hp->Prop:=λ_ _=>False
 ct:St->Hp->Prop:=λ_ _=>False
abbrev TS:=Ends->St->Hp->Prop
def EP(X:Cx)(pins:List (Addr×Obj))(σ:St)(Q:VK)(u:Value)(s':Shared):Prop:=∃v H',Inv X pins σ H' s'/\RelV v u/\Q v H'
def TP(X:Cx)(pins:List (Addr×Obj))(σ:St)(Q:Bool->Hp->Prop)(b:Bool)(s':Shared):Prop:=∃H',Inv X pins σ H' s'/\Q b H'
def AP(X:Cx)(pins:List (Addr×Obj))(σ:St)(Q:List V->Hp->Prop)(us:List Value)(s':Shared):Prop:=∃vs H',Inv X pins σ H' s'/\Vals vs us/\Q vs H'
def SP(X:Cx)(pins:List (Addr×Obj))(D:Ends)(f:Flow)(s':Shared):Prop:=
 match f with
 |.next=>∃σ' H',Inv X pins σ' H' s'/\D.nx σ' H'
 |.brk=>∃σ' H',Inv X pins σ' H' s'/\D.bk σ' H'
 |.cont=>∃σ' H',Inv X pins σ' H' s'/\D.ct σ' H'
 |.ret u=>∃v σ' H',Inv X pins σ' H' s'/\RelV v u/\D.rt v H'
def PE(X:Cx)(e:Expr)(t:TE):Prop:=
 ∀(pins:List (Addr×Obj)) (s:Shared) (σ:St) (H:Hp) (Q:VK),Inv X pins σ H s->t σ H Q->wpAny (model X.prog X.w) X.A (eval e X.env) (EP X pins σ Q) X.xe s
def PT(X:Cx)(e:Expr)(t:TT):Prop:=
 ∀(pins:List (Addr×Obj)) (s:Shared) (σ:St) (H:Hp) (Q:Bool->Hp->Prop),Inv X pins σ H s->t σ H Q->wpAny (model X.prog X.w) X.A (isTrue e X.env (eval e X.env)) (TP X pins σ Q) X.xe s
def PW(X:Cx)(e:Expr)(t:TT):Prop:=
 ∀(whole:Sem Value) (pins:List (Addr×Obj)) (s:Shared) (σ:St) (H:Hp) (Q:Bool->Hp->Prop),Inv X pins σ H s->t σ H Q->wpAny (model X.prog X.w) X.A (isTrue e X.env whole) (TP X pins σ Q) X.xe s
theorem PW.pt{X:Cx}{e:Expr}{t:TT}(h:PW X e t):PT X e t:=h _
def PA(X:Cx)(es:List Expr)(t:TA):Prop:=
 ∀(pos:Pos) (pins:List (Addr×Obj)) (s:Shared) (σ:St) (H:Hp) (Q:List V->Hp->Prop),Inv X pins σ H s->t σ H Q->wpAny (model X.prog X.w) X.A (spliced (backTo pos (starEach es X.env))) (AP X pins σ Q) X.xe s
def PS(X:Cx)(st:Stmt)(t:TS):Prop:=
 ∀(pins:List (Addr×Obj)) (s:Shared) (σ:St) (H:Hp) (D:Ends),Inv X pins σ H s->t D σ H->wpAny (model X.prog X.w) X.A (exec st X.env) (SP X pins D) X.xe s
def PSs(X:Cx)(st:List Stmt)(t:TS):Prop:=
 ∀(pins:List (Addr×Obj)) (s:Shared) (σ:St) (H:Hp) (D:Ends),Inv X pins σ H s->t D σ H->wpAny (model X.prog X.w) X.A (execs st X.env) (SP X pins D) X.xe s
theorem thn{α:Type}{t:Sem α}{Q Q':α->Shared->Prop}{M:Model}{A:Around}{E:Value->Shared->Prop}{s:Shared}(h:wpAny M A t Q E s)(hQ:∀a s,Q a s->Q' a s):wpAny M A t Q' E s:=wpAny_mono h hQ λ_ _ x=>x
end L2
namespace L2
open PySem PySem.Spec PyProof.Rows
section
variable{X:Cx}
theorem bin{a b:Expr}{ta tb:TE}(ha:PE X a ta)(hb:PE X b tb){pins:List (Addr×Obj)}{s:Shared}{σ:St}{H:Hp}{R:V->V->Hp->Prop}(I:Inv X pins σ H s)(h:ta σ H λx H1=>tb σ H1 λy H2=>R x y H2)
  {α:Type} {Q:α->Shared->Prop} {f:Value->Value->Sem α}
  (hf:∀v u s2 x y H2,Inv X pins σ H2 s2->RelV x v->RelV y u->R x y H2->wpAny (model X.prog X.w) X.A (f v u) Q X.xe s2):
  wpAny (model X.prog X.w) X.A (eval a X.env) (λv s₁=>wpAny (model X.prog X.w) X.A (eval b X.env) (λu s₂=>wpAny (model X.prog X.w) X.A (f v u) Q X.xe s₂) X.xe s₁) X.xe s:=by
 refine thn (ha pins s σ H _ I h) λv s1 ⟨x,H1,I1,r1,q1⟩=>?_
 refine thn (hb pins s1 σ H1 _ I1 q1) λu s2 ⟨y,H2,I2,r2,q2⟩=>?_
 exact hf v u s2 x y H2 I2 r1 r2 q2
def tVar(i:Nat):TE:=λσ H Q=>∃v,σ[i]?=some (some v)/\Q v H
def tC(v:V):TE:=λ_ H Q=>Q v H
theorem ZjJ{i:Nat}{x:Str}{pos:Pos}(hN:X.N[i]?=some x) (hv:Vis X.env.scope x) (hd:(x==("__debug__":Str))=false:=by decide) (hcd:(x==("__classdict__":Str))=false:=by decide):PE X (.Name x pos) (tVar i):=by
 intro pins s σ H Q I h
 obtain⟨v,e,h⟩:=h
 obtain⟨m,hn,hl⟩:=I.loc
 obtain⟨u,r,l⟩:=hl i x v hN e hv
 have fin:EP X pins σ Q u s:=⟨v,H,I,r,h⟩
 rcases l with⟨hk,hm⟩|⟨hk,c,hc,hcell⟩
 ·exact wpAny_Name (wpAny_loadName_local I.ok.kind hk hn hm fin) hd
 ·rcases hk with hk|hk
  ·exact wpAny_Name (wpAny_loadName_cell I.ok.kind hk hc hcell fin) hd
  ·exact wpAny_Name (wpAny_loadName_free I.ok.kind hk hc hcell fin hcd) hd
theorem pe_int{i j pos}:PE X (.Constant (.int i) j pos) (tC (.int i)):=λ_ _ _ H _ I h=>wpAny_Constant_int ⟨.int i,H,I.tok _,⟨_,rfl⟩,h⟩
theorem pe_bl{b j pos}:PE X (.Constant (.bool b) j pos) (tC (.bl b)):=λ_ _ _ H _ I h=>Constant_bool ⟨.bl b,H,I,rfl,h⟩
theorem pe_non{j pos}:PE X (.Constant .none j pos) (tC .non):=λ_ _ _ H _ I h=>Constant_none ⟨.non,H,I,rfl,h⟩
theorem pe_str{x j pos}:PE X (.Constant (.str x) j pos) (tC (.str x)):=λ_ _ _ H _ I h=>Calls.Constant_str ⟨.str x,H,I.tok _,⟨_,rfl⟩,h⟩
def Gl(X:Cx)(x:Str):Prop:=X.env.kindOf x=some .globalImplicit
theorem ZgT{E:Value->Shared->Prop}{pins:List (Addr×Obj)}{s:Shared}{σ:St}{H:Hp}{x:Str}{u:Value}{pos:Pos}{Q:Value->Shared->Prop}(I:Inv X pins σ H s)(hg:Gl X x)(hm:X.mg x=some u)(h:Q u s)
  (hd:(x==("__debug__":Str))=false:=by decide):wpAny (model X.prog X.w) X.A (eval (.Name x pos) X.env) Q E s:=
 Y2E I.ok.kind hg (Calls.loadGlobal_global (by rw[I.ok.glob];exact I.mod.glob.keeps I.bk) hm h) hd
theorem Z4o{E:Value->Shared->Prop}{pins:List (Addr×Obj)}{s:Shared}{σ:St}{H:Hp}{x:Str}{u:Value}{pos:Pos}{Q:Value->Shared->Prop}(I:Inv X pins σ H s)(hg:Gl X x)(hm:X.mg x=none)(hv:bootBuiltins x=some u)(h:Q u s)
  (hn:x≠"__name__":=by decide) (hd:(x==("__debug__":Str))=false:=by decide):wpAny (model X.prog X.w) X.A (eval (.Name x pos) X.env) Q E s:=by
 obtain⟨mb,h1,h2⟩:=I.mod.blt
 exact Y2E I.ok.kind hg (Calls.loadGlobal_builtin (by rw[I.ok.glob];exact I.mod.glob.keeps I.bk) hm (by rw[I.ok.blt];exact h1.keeps I.bk) ((h2 x hn).trans hv) h) hd
theorem ZkY{x:Str}{v:V}{u:Value}{pos:Pos}(hg:Gl X x)(hm:X.mg x=some u)(r:RelV v u)(hd:(x==("__debug__":Str))=false:=by decide):PE X (.Name x pos) (tC v):=
 λ_ _ _ H _ I h=>ZgT I hg hm ⟨v,H,I,r,h⟩ hd
theorem Zl1{x:Str}{v:V}{u:Value}{pos:Pos}(hg:Gl X x)(hm:X.mg x=none)(hv:bootBuiltins x=some u)(r:RelV v u)(hn:x≠"__name__":=by decide)(hd:(x==("__debug__":Str))=false:=by decide):PE X (.Name x pos) (tC v):=
 λ_ _ _ H _ I h=>Z4o I hg hm hv ⟨v,H,I,r,h⟩ hn hd
variable{a b:Expr}{ta tb:TE}{pos:Pos}
def tB(t:TE):TT:=λσ H Q=>t σ H λx H1=>∃c,x=.bl c/\Q c H1
theorem Znm{e:Expr}{t:TE}(h:PE X e t)(he:∀whole,isTrue e X.env whole=(do let v<- whole;standAt e.pos;holding [v] (truthy v)):=by intro _;rfl):PT X e (tB t):=by
 intro pins s σ H Q I hw
 refine isTrue_plain (thn (h pins s σ H _ I hw) λv s1 ⟨x,H1,I1,r1,q1⟩=>?_) (he _)
 obtain⟨d,rfl,q⟩:=q1
 cases r1
 exact wpAny_truthy_bool ⟨H1,I1,q⟩
variable{tA tB':TT}{rest:List Expr}
def tAnd(t u:TT):TT:=λσ H Q=>t σ H λc H1=>if c=true then u σ H1 Q else Q false H1
def tOr(t u:TT):TT:=λσ H Q=>t σ H λc H1=>if c=true then Q true H1 else u σ H1 Q
def tNot(t:TT):TT:=λσ H Q=>t σ H λc H1=>Q (!c) H1
theorem pw_and1(ha:PT X a tA):PW X (.BoolOp .And [a] pos) tA:=by
 intro wh pins s σ H Q I h
 refine isTrue_and (thn (ha pins s σ H Q I h) λc s1 e=>?_)
 cases c with
 |true=>exact isTrue_and_nil e
 |false=>exact e
theorem pw_or1(ha:PT X a tA):PW X (.BoolOp .Or [a] pos) tA:=by
 intro wh pins s σ H Q I h
 refine isTrue_or (thn (ha pins s σ H Q I h) λc s1 e=>?_)
 cases c with
 |false=>exact isTrue_or_nil e
 |true=>exact e
theorem pw_and(ha:PT X a tA)(hb:PW X (.BoolOp .And (b::rest) pos) tB'):PW X (.BoolOp .And (a::b::rest) pos) (tAnd tA tB'):=by
 intro wh pins s σ H Q I h
 refine isTrue_and (thn (ha pins s σ H _ I h) λc s1 ⟨H1,I1,q1⟩=>?_)
 cases c with
 |true=>exact hb wh pins s1 σ H1 Q I1 q1
 |false=>exact⟨H1,I1,q1⟩
theorem pw_or(ha:PT X a tA)(hb:PW X (.BoolOp .Or (b::rest) pos) tB'):PW X (.BoolOp .Or (a::b::rest) pos) (tOr tA tB'):=by
 intro wh pins s σ H Q I h
 refine isTrue_or (thn (ha pins s σ H _ I h) λc s1 ⟨H1,I1,q1⟩=>?_)
 cases c with
 |true=>exact⟨H1,I1,q1⟩
 |false=>exact hb wh pins s1 σ H1 Q I1 q1
theorem Znn(ha:PT X a tA):PT X (.UnaryOp .Not a pos) (tNot tA):=by
 intro pins s σ H Q I h
 exact isTrue_not (ha pins s σ H (λc H1=>Q (!c) H1) I h)
def ZoH(ta tb:TE):TE:=λσ H Q=>ta σ H λx H1=>∃c,x=.bl c/\if c=true then tb σ H1 Q else Q (.bl false) H1
def tOrV(ta tb:TE):TE:=λσ H Q=>ta σ H λx H1=>∃c,x=.bl c/\if c=true then Q (.bl true) H1 else tb σ H1 Q
def ZoD(ta:TE):TE:=λσ H Q=>ta σ H λx H1=>∃c,x=.bl c/\Q (.bl (!c)) H1
theorem ZjK{op}{t:TE}(h:PE X a t):PE X (.BoolOp op [a] pos) t:=λpins s σ H Q I hw=>BoolOp_one (h pins s σ H Q I hw)
theorem Znz(ha:PE X a ta)(hb:PE X (.BoolOp .And (b::rest) pos) tb):PE X (.BoolOp .And (a::b::rest) pos) (ZoH ta tb):=by
 intro pins s σ H Q I h
 refine BoolOp_and (thn (ha pins s σ H _ I h) λv s1 ⟨x,H1,I1,r1,q1⟩=>?_)
 obtain⟨c,rfl,q1⟩:=q1
 cases r1
 refine wpAny_truthy_bool ?_
 cases c with
 |true=>exact hb pins s1 σ H1 Q I1 q1
 |false=>exact⟨.bl false,H1,I1,rfl,q1⟩
theorem ZpS(ha:PE X a ta)(hb:PE X (.BoolOp .Or (b::rest) pos) tb):PE X (.BoolOp .Or (a::b::rest) pos) (tOrV ta tb):=by
 intro pins s σ H Q I h
 refine BoolOp_or (thn (ha pins s σ H _ I h) λv s1 ⟨x,H1,I1,r1,q1⟩=>?_)
 obtain⟨c,rfl,q1⟩:=q1
 cases r1
 refine wpAny_truthy_bool ?_
 cases c with
 |false=>exact hb pins s1 σ H1 Q I1 q1
 |true=>exact⟨.bl true,H1,I1,rfl,q1⟩
theorem Znv(ha:PE X a ta):PE X (.UnaryOp .Not a pos) (ZoD ta):=by
 intro pins s σ H Q I h
 refine UnaryOp_ (thn (ha pins s σ H _ I h) λv s1 ⟨x,H1,I1,r1,q1⟩=>?_)
 obtain⟨c,rfl,q1⟩:=q1
 cases r1
 exact not_of (wpAny_truthy_bool ⟨.bl (!c),H1,I1,rfl,q1⟩)
def tIf(t:TT)(ta tb:TE):TE:=λσ H Q=>t σ H λc H1=>if c=true then ta σ H1 Q else tb σ H1 Q
theorem Zix{c:Expr}(hc:PT X c tA)(ha:PE X a ta)(hb:PE X b tb):PE X (.IfExp c a b pos) (tIf tA ta tb):=by
 intro pins s σ H Q I h
 refine wpAny_IfExp (thn (hc pins s σ H _ I h) λd s1 ⟨H1,I1,q1⟩=>?_)
 cases d with
 |true=>exact ha pins s1 σ H1 Q I1 q1
 |false=>exact hb pins s1 σ H1 Q I1 q1
end
end L2
namespace L2
open PySem PySem.Spec PyProof.Rows
def SqL(K:Y02)(H:Hp)(a:Addr)(xs:List V):Prop:=
 Rd H a (.lst xs)\/
  ∃(o:Obj) (its:Array Value) (n:Nat),K.lookup a=some o/\o.cls=.type "list"/\o.dict=none/\o.data=.seq its n/\its.size≤sizeLine/\Vals xs its.toList
def SqT(K:Y02)(H:Hp)(a:Addr)(xs:List V):Prop:=
 Rd H a (.tup xs)\/
  ∃(o:Obj) (its:Array Value) (n:Nat),K.lookup a=some o/\o.cls=.type "tuple"/\o.data=.seq its n/\its.size≤sizeLine/\Vals xs its.toList
def absV:Value->Option V
 |.none=>some .non
 |.bool b=>some (.bl b)
 |.int i _=>some (.int i)
 |.str x _=>some (.str x)
 |.bytes b _=>some (.byt b)
 |.float b _=>some (.flt b)
 |.ref a=>some (.ref a)
 |.type n=>some (.ty n)
 |_=>none
theorem RelV.abs{x:V}{u:Value}(r:RelV x u):absV u=some x:=by
 cases x with
 |non=>cases r;rfl
 |bl _=>cases r;rfl
 |int _=>obtain⟨t,rfl⟩:=r;rfl
 |str _=>obtain⟨t,rfl⟩:=r;rfl
 |byt _=>obtain⟨t,rfl⟩:=r;rfl
 |flt _=>obtain⟨t,rfl⟩:=r;rfl
 |ref _=>cases r;rfl
 |ty _=>cases r;rfl
theorem RelV.inj{x y:V}{u:Value}(r:RelV x u)(q:RelV y u):x=y:=Y0K (r.abs.symm.trans q.abs)
theorem Vals.inj:∀{xs ys:List V} {us:List Value},Vals xs us->Vals ys us->xs=ys
 |_,_,_,.nil,.nil=>rfl
 |_,_,_,.cons r t,.cons r' t'=>by rw[r.inj r',Vals.inj t t']
section
variable{X:Cx}{pins:List (Addr×Obj)}{σ:St}{H:Hp}{s:Shared}{a:Addr}{xs ys:List V}
theorem SqL.of{K:Y02}(h:H a=some (.lst xs)):SqL K H a xs:=.inl (.inl h)
theorem SqT.of{K:Y02}(h:H a=some (.tup xs)):SqT K H a xs:=.inl (.inl h)
theorem Inv.list(I:Inv X pins σ H s)(h:SqL X.K H a xs):∃its:List Value,Vals xs its/\PlainL s.heap a its.toArray/\xs.length≤sizeLine:=by
 rcases h with h|⟨o,its,n,hk,hc,hd,hs,hz,r⟩
 ·obtain⟨z,its,n,r,e⟩:=h.ok I.hok
  exact⟨its,r,⟨_,n,e,rfl,rfl,rfl⟩,z⟩
 ·refine⟨its.toList,r,⟨o,n,I.kIn a o hk,hc,hd,by simpa using hs⟩,?_⟩
  have e:=r.length
  simp only[Y0k]at e
  lia
theorem Inv.tuple(I:Inv X pins σ H s)(h:SqT X.K H a xs):∃its:List Value,Vals xs its/\IsTup s.heap a its.toArray/\xs.length≤sizeLine:=by
 rcases h with h|⟨o,its,n,hk,hc,hs,hz,r⟩
 ·obtain⟨z,its,r,p⟩:=h.ok I.hok
  exact⟨its,r,p.1,z⟩
 ·refine⟨its.toList,r,⟨o,I.kIn a o hk,hc,n,by simpa using hs⟩,?_⟩
  have e:=r.length
  simp only[Y0k]at e
  lia
theorem Inv.list_inj(I:Inv X pins σ H s)(h:SqL X.K H a xs)(h':SqL X.K H a ys):xs=ys:=by
 obtain⟨its,r,⟨o,n,e,_,_,d⟩,_⟩:=I.list h
 obtain⟨its',r',⟨o',n',e',_,_,d'⟩,_⟩:=I.list h'
 rw[e]at e';cases e'
 rw[d]at d'
 injection d' with d1 _
 have:its=its':=by simpa using congrArg Array.toList d1
 subst this
 exact r.inj r'
theorem Inv.tuple_inj(I:Inv X pins σ H s)(h:SqT X.K H a xs)(h':SqT X.K H a ys):xs=ys:=by
 obtain⟨its,r,⟨o,e,_,n,d⟩,_⟩:=I.tuple h
 obtain⟨its',r',⟨o',e',_,n',d'⟩,_⟩:=I.tuple h'
 rw[e]at e';cases e'
 rw[d]at d'
 injection d' with d1 _
 have:its=its':=by simpa using congrArg Array.toList d1
 subst this
 exact r.inj r'
end
abbrev Cx.wish(X:Cx)(E:Value->Shared->Prop):Cx:={X with xe:=E}
abbrev Cx.nox(X:Cx):Cx:=X.wish λ_ _=>False
theorem Cx.Ok.wish{X:Cx}(ok:X.Ok)(E:Value->Shared->Prop):(X.wish E).Ok:=
 ⟨ok.mod,ok.kind,ok.glob,ok.blt,ok.above,ok.inj,ok.has,ok.cab,ok.hd,ok.frames,ok.stk,ok.exf,ok.bs,ok.bsz,ok.noex,ok.exfs,ok.funs,ok.frf⟩
theorem Cx.Ok.unwish{X:Cx}{E:Value->Shared->Prop}(ok:(X.wish E).Ok):X.Ok:=
 ⟨ok.mod,ok.kind,ok.glob,ok.blt,ok.above,ok.inj,ok.has,ok.cab,ok.hd,ok.frames,ok.stk,ok.exf,ok.bs,ok.bsz,ok.noex,ok.exfs,ok.funs,ok.frf⟩
section
variable{X:Cx}{pins:List (Addr×Obj)}{σ:St}{H:Hp}{s:Shared}{E:Value->Shared->Prop}
theorem Inv.wish(I:Inv X pins σ H s)(E:Value->Shared->Prop):Inv (X.wish E) pins σ H s:=⟨I.ok.wish E,I.os,I.bare,I.base,I.loc,I.cell,I.free,I.freeC,I.pin,I.hok,I.len⟩
theorem Inv.unwish(I:Inv (X.wish E) pins σ H s):Inv X pins σ H s:=⟨I.ok.unwish,I.os,I.bare,I.base,I.loc,I.cell,I.free,I.freeC,I.pin,I.hok,I.len⟩
theorem SP.unwish{D:Ends}{f:Flow}{s':Shared}(h:SP (X.wish E) pins D f s'):SP X pins D f s':=by
 cases f with
 |next=>obtain⟨σ',H',I,q⟩:=h;exact⟨σ',H',I.unwish,q⟩
 |brk=>obtain⟨σ',H',I,q⟩:=h;exact⟨σ',H',I.unwish,q⟩
 |cont=>obtain⟨σ',H',I,q⟩:=h;exact⟨σ',H',I.unwish,q⟩
 |ret u=>obtain⟨v,σ',H',I,r,q⟩:=h;exact⟨v,σ',H',I.unwish,r,q⟩
theorem PE.nox{e:Expr}{t:TE}(h:PE X.nox e t):PE X e t:=λpins s σ H Q I hw=>
 wpAny_mono (h pins s σ H Q (I.wish _) hw) (λ_ _ ⟨v,H',I',r,q⟩=>⟨v,H',I'.unwish,r,q⟩) λ_ _ z=>Y1c z
theorem PT.nox{e:Expr}{t:TT}(h:PT X.nox e t):PT X e t:=λpins s σ H Q I hw=>
 wpAny_mono (h pins s σ H Q (I.wish _) hw) (λ_ _ ⟨H',I',q⟩=>⟨H',I'.unwish,q⟩) λ_ _ z=>Y1c z
theorem PSs.nox{st:List Stmt}{t:TS}(h:PSs X.nox st t):PSs X st t:=λpins s σ H D I hw=>
 wpAny_mono (h pins s σ H D (I.wish _) hw) (λ_ _ q=>q.unwish) λ_ _ z=>Y1c z
end
section
variable{X:Cx}{st:Stmt}{rest:List Stmt}{t u:TS}{e:Expr}{te:TE}{pos:Pos}
def ZoE:TS:=λD σ H=>D.nx σ H
def tSeq(t u:TS):TS:=λD σ H=>t {D with nx:=u D} σ H
theorem pss_nil:PSs X [] ZoE:=λ_ _ σ H _ I h=>wpAny_execs_nil ⟨σ,H,I,h⟩
theorem Ziq(h1:PS X st t)(h2:PSs X rest u):PSs X (st::rest) (tSeq t u):=by
 intro pins s σ H D I h
 refine wpAny_execs_cons (thn (h1 pins s σ H {D with nx:=u D} I h) λf s1 q=>?_)
 cases f with
 |next=>
  obtain⟨σ',H',I',q⟩:=q
  exact h2 pins s1 σ' H' D I' q
 |ret v=>exact q
 |brk=>exact q
 |cont=>exact q
theorem Inv.quiet{pins:List (Addr×Obj)}{σ:St}{H:Hp}{s:Shared}(I:Inv X pins σ H s):interactive X.env=false:=by simp[interactive,I.ok.kind]
def ZoF(te:TE):TS:=λD σ H=>te σ H λ_ H1=>D.nx σ H1
theorem ZkP(he:PE X e te)(hs:swapsWith e none pos.line X.env=pure false:=by rfl):PS X (.Expr e pos) (ZoF te):=by
 intro pins s σ H D I h
 exact wpAny_Expr_any (thn (he pins s σ H _ I h) λv s1 ⟨x,H1,I1,r1,q1⟩=>⟨σ,H1,I1,q1⟩) I.quiet hs
def tRet(te:TE):TS:=λD σ H=>te σ H D.rt
theorem Zno(he:PE X e te):PS X (.Return (some e) pos) (tRet te):=by
 intro pins s σ H D I h
 exact wpAny_Return_some (thn (he pins s σ H _ I h) λv s1 ⟨x,H1,I1,r1,q1⟩=>⟨x,σ,H1,I1,r1,q1⟩)
def tIfS(c:TT)(t u:TS):TS:=λD σ H=>c σ H λb H1=>if b=true then t D σ H1 else u D σ H1
theorem ZpR{c:Expr}{a b:List Stmt}{tc:TT}(hc:PT X c tc)(ha:PSs X a t)(hb:PSs X b u):PS X (.If c a b pos) (tIfS tc t u):=by
 intro pins s σ H D I h
 refine wpAny_If (thn (hc pins s σ H _ I h) λd s1 ⟨H1,I1,q1⟩=>?_)
 cases d with
 |true=>exact ha pins s1 σ H1 D I1 q1
 |false=>exact hb pins s1 σ H1 D I1 q1
def Zmr:TS:=λ_ _ _=>False
theorem ps_never:PS X st Zmr:=λ_ _ _ _ _ _ h=>h.elim
end
abbrev TG:=V->St->Hp->(St->Hp->Prop)->Prop
abbrev TGs:=List V->St->Hp->(St->Hp->Prop)->Prop
def PG(X:Cx)(target:Expr)(t:TG):Prop:=
 ∀(pins:List (Addr×Obj)) (s:Shared) (σ:St) (H:Hp) (v:V) (u:Value) (Q:St->Hp->Prop),Inv X pins σ H s->RelV v u->t v σ H Q->
  wpAny (model X.prog X.w) X.A (assign target X.env u) (λ_ s'=>∃σ' H',Inv X pins σ' H' s'/\Q σ' H') X.xe s
def PGs(X:Cx)(ts:List Expr)(t:TGs):Prop:=
 ∀(pins:List (Addr×Obj)) (s:Shared) (σ:St) (H:Hp) (vs:List V) (us:List Value) (Q:St->Hp->Prop),Inv X pins σ H s->Vals vs us->t vs σ H Q->
  wpAny (model X.prog X.w) X.A (assignInOrder ((assignEach ts X.env).map (·.2)) us) (λ_ s'=>∃σ' H',Inv X pins σ' H' s'/\Q σ' H') X.xe s
abbrev TSet:=V->V->V->Hp->(Hp->Prop)->Prop
def PSet(X:Cx)(t:TSet):Prop:=
 ∀(pins:List (Addr×Obj)) (s:Shared) (σ:St) (H:Hp) (o i v:V) (ov iv u:Value) (Q:Hp->Prop),Inv X pins σ H s->RelV o ov->RelV i iv->RelV v u->t o i v H Q->
  wpAny (model X.prog X.w) X.A (setItem ov iv u) (λ_ s'=>∃H',Inv X pins σ H' s'/\Q H') X.xe s
section
variable{X:Cx}{pos:Pos}
def ZiZ(i:Nat):TG:=λv σ H Q=>Q (σ.set i (some v)) H
theorem ZgB{i:Nat}{x:Str}(hN:X.N.Nodup)(hi:X.N[i]?=some x) (hx:Loc X.env.scope x) (hf:X.fn x=true\/X.env.scope.names.lookup x=some .local:=by first|exact .inl rfl|exact .inr rfl|assumption):PG X (.Name x pos) (ZiZ i):=by
 intro pins s σ H v u Q I r h
 exact wpAny_assign_Name (Zej I hN hi hx r (λs' I'=>⟨_,H,I',h⟩) hf)
def gNil:TGs:=λvs σ H Q=>vs=[]/\Q σ H
def Zok(t:TG)(u:TGs):TGs:=λvs σ H Q=>∃v r,vs=v::r/\t v σ H λσ' H'=>u r σ' H' Q
theorem ZkX:PGs X [] gNil:=by
 intro pins s σ H vs us Q I r h
 obtain⟨e,h⟩:=h
 subst e
 cases r
 exact assignInOrder_nil ⟨σ,H,I,h⟩
theorem Ziv{e:Expr}{es:List Expr}{t:TG}{u:TGs}(h1:PG X e t)(h2:PGs X es u)
  (hs:(assignEach (e::es) X.env).map (·.2)=assign e X.env::(assignEach es X.env).map (·.2):=by rfl):PGs X (e::es) (Zok t u):=by
 intro pins s σ H vs us Q I r h
 obtain⟨v,vr,e1,h⟩:=h
 subst e1
 cases r with
 |cons r rr=>
  rw[hs]
  refine assignInOrder_cons (thn (h1 pins s σ H _ _ _ I r h) λ_ s1 ⟨σ1,H1,I1,q1⟩=>?_)
  exact h2 pins s1 σ1 H1 _ _ Q I1 rr q1
def gTup(K:Y02)(n:Nat)(t:TGs):TG:=λv σ H Q=>∃a xs,v=.ref a/\SqT K H a xs/\xs.length=n/\t xs σ H Q
theorem Zns{es:List Expr}{k:Nat}{t:TGs}{n:Nat}(hc:X.calm=true)(h:PGs X es t)
  (hn:(assignEach es X.env).length=n:=by rfl) (hst:(assignEach es X.env).findIdx? (·.1)=none:=by rfl):PG X (.Tuple es k pos) (gTup X.K n t):=by
 intro pins s σ H v u Q I r hw
 obtain⟨a,xs,e1,hq,hl,hw⟩:=hw
 subst e1
 cases r
 obtain⟨its,rv,ht,hz⟩:=I.tuple hq
 refine assign_Tuple_tuple (I.ok.hd hc) ht (by simp[hn,<- hl,rv.length]) hst λh' hx=>?_
 have I1:Inv X pins σ H {s with heap:=h'}:=I.kept (t':=s.toks) λb o e=>hx b o (Y0m (Y0i e)) e
 exact h pins _ σ H xs _ Q I1 (by simpa using rv) hw
def gSub(to ti:TE)(t:TSet):TG:=λv σ H Q=>to σ H λo H1=>ti σ H1 λi H2=>t o i v H2 λH3=>Q σ H3
theorem Znt{o i:Expr}{to ti:TE}{t:TSet}(ho:PE X o to)(hi:PE X i ti)(hs:PSet X t)
  (ha:∀v,assign (.Subscript o i pos) X.env v=(do
   let ov<- holding [v] (eval o X.env)
   let iv<- holding [v,ov] (eval i X.env)
   standAt pos
   holding [v,ov,iv] (setItem ov iv v)
   release [v,ov,iv] []):=by intro _;rfl):PG X (.Subscript o i pos) (gSub to ti t):=by
 intro pins s σ H v u Q I r h
 rw[ha]
 refine wpAny_bind (wpAny_holding (thn (ho pins s σ H _ I h) λov s1 ⟨x,H1,I1,r1,q1⟩=>?_))
 refine wpAny_bind (wpAny_holding (thn (hi pins s1 σ H1 _ I1 q1) λiv s2 ⟨y,H2,I2,r2,q2⟩=>?_))
 refine wpAny_bind (wpAny_standAt (wpAny_bind (wpAny_holding (thn (hs pins s2 σ H2 x y v ov iv u _ I2 r1 r2 r q2) λ_ s3 ⟨H3,I3,q3⟩=>?_))))
 exact wpAny_release ⟨σ,H3,I3,q3⟩
def tAsg(te:TE)(g:TG):TS:=λD σ H=>te σ H λx H1=>g x σ H1 D.nx
theorem ZjH{tg e:Expr}{te:TE}{g:TG}(he:PE X e te)(hg:PG X tg g)(hs:swapsWithSole [tg] e pos.line X.env=pure false:=by rfl)(hw:swappedStores [tg] e X.env=pure none:=by rfl)
  (h1:(assignEach [tg] X.env).map (·.2)=[assign tg X.env]:=by rfl):PS X (.Assign [tg] e pos) (tAsg te g):=by
 intro pins s σ H D I h
 refine wpAny_Assign_stores (thn (he pins s σ H _ I h) λv s1 ⟨x,H1,I1,r1,q1⟩=>?_) hs hw
 rw[h1]
 exact thn (hg pins s1 σ H1 x v _ I1 r1 q1) λ_ s2 q=>q
theorem ZjG{i:Nat}{x:Str}{e:Expr}{te:TE}{pos':Pos}(hN:X.N.Nodup)(hi:X.N[i]?=some x) (hx:Loc X.env.scope x) (he:PE X e te) (hs:swapsWith e (some (.Name x pos')) pos.line X.env=pure false:=by rfl) (hf:X.fn x=true\/X.env.scope.names.lookup x=some .local:=by first|exact .inl rfl|exact .inr rfl|assumption):
  PS X (.Assign [.Name x pos'] e pos) (tAsg te (ZiZ i)):=by
 intro pins s σ H D I h
 refine wpAny_Assign_Name (thn (he pins s σ H _ I h) λv s1 ⟨y,H1,I1,r1,q1⟩=>?_) hs
 exact Zej I1 hN hi hx r1 (λs2 I2=>⟨_,H1,I2,q1⟩) hf
end
section
variable{X:Cx}{pos:Pos}
end
structure It where
 go:Nat->Hp->Prop
 yld:Nat->Hp->V->Hp->Prop
 stop:Nat->Hp->Prop
def FpOk(X:Cx)(pins:List (Addr×Obj))(H:Hp)(b:Addr):Prop:=
 H b=none/\b≠X.env.locals/\b∉X.fs/\(b∈X.ex\/X.s₀.heap.objs.size≤b)/\(∀x c,X.env.cells.lookup x=some c->c≠b)/\∀p∈X.pn++pins,p.1≠b
theorem Inv.fpOk{X:Cx}{pins:List (Addr×Obj)}{σ:St}{H H':Hp}{s:Shared}{b:Addr}(I:Inv X pins σ H s)(hb:s.heap.objs.size≤b)(hn:H' b=none):FpOk X pins H' b:=by
 refine⟨hn,Y2e (Y0L I.lt hb),I.nofs hb,.inr (Y0M I.sz hb),λx c e z=>?_,λp hp z=>?_⟩
 ·obtain⟨v,q⟩:=I.cell x c e
  exact absurd (Y0L q.lt (by rw[z];exact hb)) (Y22 _)
 ·exact absurd (Y0L (Y0i (I.pin p hp).1) (by rw[z];exact hb)) (Y22 _)
structure Turn (P:Program) (w:World) (K:Y02) (tg:Expr) (J:It) (fp:List Addr) (it:Addr) (tn:Nat->Heap->Prop):Prop where
 mem:it∈fp
 obj:∀i h,tn i h->∀b∈fp,∃o,h.get? b=some o/\∀v,o.data≠.cell v
 keep:∀i h h',tn i h->(∀b∈fp,∀o,h.get? b=some o->h'.get? b=some o)->tn i h'
 item:∀(X:Cx),X.prog=P->X.w=w->X.K=K->X.calm=true->∀(i:Nat) (pins:List (Addr×Obj)) (s:Shared) (σ:St) (H:Hp) (E:Value->Shared->Prop),Inv X pins σ H s->(∀b∈fp,FpOk X pins H b)->tn i s.heap->J.go i H->
  wpAny (model P w) X.A (pyNext (.ref it)) (λr s1=>∃u,r=some u/\
   wpAny (model P w) X.A (letOwnedTupleGo tg (.ref it) u) (λ_ s2=>∃x H',Inv X pins σ H' s2/\RelV x u/\J.yld i H x H'/\tn (i+1) s2.heap/\∀b∈fp,H' b=none) E s1) E s
 done:∀(X:Cx),X.prog=P->X.w=w->X.K=K->X.calm=true->∀(i:Nat) (pins:List (Addr×Obj)) (s:Shared) (σ:St) (H:Hp) (E:Value->Shared->Prop),Inv X pins σ H s->(∀b∈fp,FpOk X pins H b)->tn i s.heap->J.stop i H->
  wpAny (model P w) X.A (pyNext (.ref it)) (λr s1=>r=none/\Inv X pins σ H s1) E s
 self:∀(A:Around) (i:Nat) (s:Shared) (Q:Value->Shared->Prop) (E:Value->Shared->Prop),tn i s.heap->Q (.ref it) s->wpAny (model P w) A (pyIter (.ref it)) Q E s
abbrev TI:=St->Hp->(It->Hp->Prop)->Prop
def PIE(X:Cx)(pins:List (Addr×Obj))(σ:St)(tg:Expr)(R:It->Hp->Prop)(itv:Value)(s2:Shared):Prop:=
 ∃(it:Addr) (fp:List Addr) (tn:Nat->Heap->Prop) (J:It) (H':Hp),itv=.ref it/\Inv X pins σ H' s2/\Turn X.prog X.w X.K tg J fp it tn/\tn 0 s2.heap/\(∀b∈fp,FpOk X pins H' b)/\R J H'
def PI(X:Cx)(tg iter:Expr)(wi:TI):Prop:=
 ∀(pins:List (Addr×Obj)) (s:Shared) (σ:St) (H:Hp) (R:It->Hp->Prop),Inv X pins σ H s->wi σ H R->
  wpAny (model X.prog X.w) X.A (eval iter X.env) (λv s1=>wpAny (model X.prog X.w) X.A (pyIter v) (PIE X pins σ tg R) X.xe s1) X.xe s
theorem ZdW{M:Model}{A:Around}{E:Value->Shared->Prop}{s:Shared}{tg:Expr}{it:Addr}{u:Value}{o:Obj}{n:String}{vs:Array Value}{Q:Unit->Shared->Prop}(ho:s.heap.get? it=some o)(hc:o.cls=.type n)(hd:o.data=.fields vs)
  (hn:["enumerate","zip","dict_itemiterator","dict_reverseitemiterator","odict_iterator","itertools.zip_longest","itertools.pairwise"].contains n=false) (hQ:Q () s):wpAny M A (letOwnedTupleGo tg (.ref it) u) Q E s:=by
 unfold letOwnedTupleGo
 cases tg<;>first
  |exact wpAny_pure hQ
  |(cases u<;>first
    |exact wpAny_pure hQ
    |(refine wpAny_bind (wpAny_load ho ?_)
      rw[hc,hd]
      show wpAny M A (if(["enumerate","zip","dict_itemiterator","dict_reverseitemiterator","odict_iterator","itertools.zip_longest","itertools.pairwise"].contains n&&vs[0]?==some (rawInt _))=true then _ else _) Q E s
      rw[if_neg (by intro h;rw[hn,Y3E]at h;cases h)]
      exact wpAny_pure hQ))
def Itl(K:Y02)(a:Addr):It:=
 ⟨λi H=>∃xs x,SqL K H a xs/\xs[i]?=some x,λi H x H'=>H'=H/\∀xs,SqL K H a xs->xs[i]?=some x,λi H=>∃xs,SqL K H a xs/\xs.length≤i⟩
def Itt(K:Y02)(a:Addr):It:=
 ⟨λi H=>∃xs x,SqT K H a xs/\xs[i]?=some x,λi H x H'=>H'=H/\∀xs,SqT K H a xs->xs[i]?=some x,λi H=>∃xs,SqT K H a xs/\xs.length≤i⟩
def Itr(lo:Int)(n:Nat):It:=⟨λi _=>i<n,λi H x H'=>H'=H/\x=.int (lo+i),λi _=>n≤i⟩
theorem ZfY{P:Program}{w:World}{K:Y02}{tg:Expr}(a it:Addr):Turn P w K tg (Itl K a) [it] it (λi h=>h.IsListIter it a i)where
 mem:=by simp
 obj:=λi h st b hb=>by
  have e:b=it:=by simpa using hb
  subst e
  obtain⟨o,e,c,d⟩:=st
  exact⟨o,e,λv z=>by rw[d]at z;cases z⟩
 keep:=λi h h' st k=>st.at λo e=>k it (by simp) o e
 item:=by
  intro X hP hw hK hc i pins s σ H E I hf st hg
  subst hP hw hK
  obtain⟨xs,x,hq,hx⟩:=hg
  obtain⟨its,rv,p,hz⟩:=I.list hq
  obtain⟨u,hu,ru⟩:=rv.get hx
  obtain⟨f0,f1,f2,f3,f4,f5⟩:=hf it (by simp)
  refine wpAny_pyNext_list_item st p.isList (x:=u) (by simpa using hu) λh' st' sb=>?_
  have I1:Inv X pins σ H {s with heap:=h'}:=I.turned (t':=s.toks) (λb o hb e=>(sb.2 b hb).trans e) f0 f1 f3 f4 f5
  obtain⟨o,e,c,d⟩:=id st'
  exact⟨u,rfl,ZdW (s:={s with heap:=h'}) e c d (by decide) ⟨x,H,I1,ru,⟨rfl,λys hy=>by rw[I.list_inj hy hq];exact hx⟩,st',λb hb=>(hf b hb).1⟩⟩
 done:=by
  intro X hP hw hK hc i pins s σ H E I hf st hg
  subst hP hw hK
  obtain⟨xs,hq,hx⟩:=hg
  obtain⟨its,rv,p,hz⟩:=I.list hq
  obtain⟨f0,f1,f2,f3,f4,f5⟩:=hf it (by simp)
  have hl:=rv.length
  exact wpAny_pyNext_list_end (I.ok.hd hc) st p.isList (by simp;lia) λh' eb=>⟨rfl,I.turned (t':=s.toks) (λb o hb e=>eb b o hb e) f0 f1 f3 f4 f5⟩
 self:=λ_ _ _ _ _ st h=>wpAny_pyIter_listiter st h
theorem Zf7{P:Program}{w:World}{K:Y02}{tg:Expr}(a it:Addr):Turn P w K tg (Itt K a) [it] it (λi h=>h.IsTupleIter it a i)where
 mem:=by simp
 obj:=λi h st b hb=>by
  have e:b=it:=by simpa using hb
  subst e
  obtain⟨o,e,c,d⟩:=st
  exact⟨o,e,λv z=>by rw[d]at z;cases z⟩
 keep:=λi h h' st k=>st.at λo e=>k it (by simp) o e
 item:=by
  intro X hP hw hK hc i pins s σ H E I hf st hg
  subst hP hw hK
  obtain⟨xs,x,hq,hx⟩:=hg
  obtain⟨its,rv,p,hz⟩:=I.tuple hq
  obtain⟨u,hu,ru⟩:=rv.get hx
  obtain⟨f0,f1,f2,f3,f4,f5⟩:=hf it (by simp)
  refine wpAny_pyNext_tuple_item st (show s.heap.IsTuple a its.toArray from p) (x:=u) (by simpa using hu) λh' st' sb=>?_
  have I1:Inv X pins σ H {s with heap:=h'}:=I.turned (t':=s.toks) (λb o hb e=>(sb.2 b hb).trans e) f0 f1 f3 f4 f5
  obtain⟨o,e,c,d⟩:=id st'
  exact⟨u,rfl,ZdW (s:={s with heap:=h'}) e c d (by decide) ⟨x,H,I1,ru,⟨rfl,λys hy=>by rw[I.tuple_inj hy hq];exact hx⟩,st',λb hb=>(hf b hb).1⟩⟩
 done:=by
  intro X hP hw hK hc i pins s σ H E I hf st hg
  subst hP hw hK
  obtain⟨xs,hq,hx⟩:=hg
  obtain⟨its,rv,p,hz⟩:=I.tuple hq
  obtain⟨f0,f1,f2,f3,f4,f5⟩:=hf it (by simp)
  have hl:=rv.length
  exact wpAny_pyNext_tuple_end (I.ok.hd hc) st (show s.heap.IsTuple a its.toArray from p) (by simp;lia) λh' eb=>⟨rfl,I.turned (t':=s.toks) (λb o hb e=>eb b o hb e) f0 f1 f3 f4 f5⟩
 self:=λ_ _ _ _ _ st h=>wpAny_pyIter_tupleiter st h
theorem Zf8{P:Program}{w:World}{K:Y02}{tg:Expr}(it:Addr)(lo:Int)(n:Nat):Turn P w K tg (Itr lo n) [it] it (λi h=>IsRangeIter h it (lo+(i:Nat)*1) ((n:Int) - (i:Nat)) 1)where
 mem:=by simp
 obj:=λi h st b hb=>by
  have e:b=it:=by simpa using hb
  subst e
  exact⟨_,st,λv z=>by
   have z':Y1R _=Data.cell v:=z
   cases z'⟩
 keep:=λi h h' st k=>k it (by simp) _ st
 item:=by
  intro X hP hw hK hc i pins s σ H E I hf st hg
  subst hP hw hK
  obtain⟨f0,f1,f2,f3,f4,f5⟩:=hf it (by simp)
  have W:=Walks.range (prog:=X.prog) (w:=X.w) (I.ok.hd hc) it lo 1 n
  refine W.item i s _ _ hg st λv h' tk hv st' kk=>?_
  obtain⟨t,rfl⟩:=hv
  have I1:Inv X pins σ H {s with heap:=h',toks:=tk}:=I.turned (λb o hb e=>kk b o (by simpa using hb) e) f0 f1 f3 f4 f5
  refine⟨_,rfl,ZdW (s:={s with heap:=h',toks:=tk}) (n:="range_iterator") st' rfl rfl (by decide) ⟨.int (lo+i),H,I1,⟨t,?_⟩,⟨rfl,rfl⟩,st',fun b hb=>(hf b hb).1⟩⟩
  rw[Int.mul_one]
 done:=by
  intro X hP hw hK hc i pins s σ H E I hf st hg
  subst hP hw hK
  obtain⟨f0,f1,f2,f3,f4,f5⟩:=hf it (by simp)
  exact wpAny_pyNext_range_end (I.ok.hd hc) st (by have:n≤i:=hg;lia) λh' eb=>⟨rfl,I.turned (t':=s.toks) (λb o hb e=>eb b o hb e) f0 f1 f3 f4 f5⟩
 self:=λ_ _ _ _ _ st h=>wpAny_pyIter_rangeiter st h
end L2
namespace L2
open PySem PySem.Spec PyProof.Rows
section
variable{X:Cx}{tg:Expr}
theorem Zeq{pins:List (Addr×Obj)}{σ:St}{H:Hp}{s:Shared}{R:It->Hp->Prop}{E:Value->Shared->Prop}{lo hi:Int}{t u v:Tok}{tk:Nat}(I:Inv X pins σ H s)(h1:-(2^62)≤lo)(h2:lo<2^62)(h3:-(2^62)≤hi)(h4:hi<2^62)
  (q:R (Itr lo (hi - lo).toNat) H):wpAny (model X.prog X.w) X.A (pyIter (.ref s.heap.objs.size)) (PIE X pins σ tg R) E {s with heap:=s.heap.push {cls:=.type "range",data:=.fields #[.int lo t,.int hi u,.int 1 v]},toks:=tk}:=by
 refine wpAny_pyIter_range (Y3Z ..) (small_one h1 h2 h3 h4) ?_
 have I1:Inv X pins σ H {s with heap:=s.heap.push {cls:=.type "range",data:=.fields #[.int lo t,.int hi u,.int 1 v]},toks:=tk}:=I.kept fun b o e=>Y03 _ e
 refine⟨(s.heap.push {cls:=.type "range",data:=.fields #[.int lo t,.int hi u,.int 1 v]}).objs.size,[(s.heap.push {cls:=.type "range",data:=.fields #[.int lo t,.int hi u,.int 1 v]}).objs.size],_,_,H,rfl,
  I1.kept (t':=tk) λb o e=>Y03 _ e,Zf8 _ lo (hi - lo).toNat,?_,λb hb=>?_,q⟩
 ·have e1:lo+((0:Nat):Int)*1=lo:=by simp
  have e2:(((hi - lo).toNat:Nat):Int) - ((0:Nat):Int)=Y1g lo hi 1:=by rw[rangeSize_one];split<;>lia
  show IsRangeIter _ _ (lo+((0:Nat):Int)*1) ((((hi - lo).toNat:Nat):Int) - ((0:Nat):Int)) 1
  rw[e1,e2]
  exact Y0e _ rfl
 ·have e:b=(s.heap.push {cls:=.type "range",data:=.fields #[.int lo t,.int hi u,.int 1 v]}).objs.size:=by simpa using hb
  subst e
  exact I1.fpOk (Y0b _) (I1.hok.fresh (Y0b _))
def Zq9(ta:TA):TI:=λσ H R=>ta σ H λvs H1=>∃j:Int,vs=[.int j]/\ -(2^62)≤j/\j<2^62/\R (Itr 0 j.toNat) H1
def Zq8(ta:TA):TI:=λσ H R=>ta σ H λvs H1=>∃i j:Int,vs=[.int i,.int j]/\(-(2^62)≤i/\i<2^62/\ -(2^62)≤j/\j<2^62)/\R (Itr i (j - i).toNat) H1
theorem ZgA{a:Expr}{ta:TA}{p pos:Pos}(hg:Gl X "range")(hm:X.mg "range"=none)(ha:PA X [a] ta)(hs:starEach [a] X.env=[(false,eval a X.env)]:=by rfl):PI X tg (.Call (.Name "range" p) [a] [] pos) (Zq9 ta):=by
 intro pins s σ H R I h
 refine Call_ (Z4o I hg hm boot_range (Y10 (thn (ha pos pins s σ H _ I h) λus s1 ⟨vs,H1,I1,r1,q1⟩=>?_) hs rfl))
 obtain⟨j,e,q1,q2,q⟩:=q1
 subst e
 cases r1 with
 |cons r rr=>
  cases rr
  obtain⟨t,rfl⟩:=r
  exact call_range_1 (Zeq I1 (by lia) (by lia) q1 q2 (by simpa using q))
theorem Zgz{a b:Expr}{ta:TA}{p pos:Pos}(hg:Gl X "range")(hm:X.mg "range"=none)(ha:PA X [a,b] ta)(hs:starEach [a,b] X.env=[(false,eval a X.env),(false,eval b X.env)]:=by rfl)(hs2:starEach [b] X.env=[(false,eval b X.env)]:=by rfl):
  PI X tg (.Call (.Name "range" p) [a,b] [] pos) (Zq8 ta):=by
 intro pins s σ H R I h
 refine Call_ (Z4o I hg hm boot_range (Y10 (thn (ha pos pins s σ H _ I h) λus s1 ⟨vs,H1,I1,r1,q1⟩=>?_) (by rw[hs,hs2]) (by rw[hs2];rfl)))
 obtain⟨i,j,e,⟨q1,q2,q3,q4⟩,q⟩:=q1
 subst e
 cases r1 with
 |cons r rr=>
  cases rr with
  |cons r' rr=>
   cases rr
   obtain⟨t,rfl⟩:=r
   obtain⟨t',rfl⟩:=r'
   exact call_range_2 (Zeq I1 q1 q2 q3 q4 q)
def tFor(wi:TI)(g:TG)(tb:TS):TS:=λD σ H=>wi σ H λJ H1=>∃W:Nat->Nat->St->Hp->Prop,(∃m,W 0 m σ H1)/\∀i m σ H,W i m σ H->
 (J.stop i H/\D.nx σ H)\/(J.go i H/\∃N:St->Hp->Prop,(∀σ' H',N σ' H'->∃m',m'<m/\W (i+1) m' σ' H')/\∀x H',J.yld i H x H'->g x σ H' λσ2 H2=>tb {D with nx:=N,ct:=N,bk:=D.nx} σ2 H2)
def ZaJ(fp:List Addr)(h:Heap):List (Addr×Obj):=fp.filterMap λb=>(h.get? b).map λo=>(b,o)
theorem Z5k{fp:List Addr}{h:Heap}{b:Addr}{o:Obj}(hb:b∈fp)(e:h.get? b=some o):(b,o)∈ZaJ fp h:=List.mem_filterMap.mpr ⟨b,hb,by rw[e];rfl⟩
theorem ZgH{fp:List Addr}{h:Heap}{p:Addr×Obj}(hp:p∈ZaJ fp h):p.1∈fp/\h.get? p.1=some p.2:=by
 obtain⟨b,hb,e⟩:=List.mem_filterMap.mp hp
 cases q:h.get? b with
 |none=>rw[q]at e;cases e
 |some o=>
  rw[q]at e
  have e':(b,o)=p:=Y0K e
  subst e'
  exact⟨hb,q⟩
theorem Inv.pinned{pins:List (Addr×Obj)}{σ:St}{H:Hp}{s:Shared}{fp:List Addr}(I:Inv X pins σ H s)(hf:∀b∈fp,FpOk X pins H b)(ho:∀b∈fp,∃o,s.heap.get? b=some o/\∀v,o.data≠.cell v):Inv X (pins++ZaJ fp s.heap) σ H s:=
 I.pins_of λp hp=>(Y0Q.mp hp).elim (λz=>I.pin p (Y0Y _ z)) λz=>by
  obtain⟨hb,e⟩:=ZgH z
  obtain⟨f0,f1,f2,_⟩:=hf p.1 hb
  obtain⟨o,e',d⟩:=ho p.1 hb
  rw[e]at e';cases e'
  exact⟨e,f0,f1,f2,d⟩
theorem Inv.unpinned{pins pl:List (Addr×Obj)}{σ:St}{H:Hp}{s:Shared}(I:Inv X (pins++pl) σ H s):Inv X pins σ H s:=I.pins_of λp hp=>I.pin p (Y0Y _ (List.mem_append_left _ hp))
theorem Znq{iter:Expr}{body:List Stmt}{wi:TI}{g:TG}{tb:TS}{pos:Pos}(hp:PassesOwn (model X.prog X.w) X.A X.env X.xe)(hc:X.calm=true)(hi:PI X tg iter wi)(hg:PG X tg g)(hb:PSs X body tb)
  (hs:∀x,foldedSetIterable iter X.env x=pure x:=by intro _;rfl):PS X (.For tg iter body [] pos) (tFor wi g tb):=by
 intro pins s σ H D I h
 refine wpAny_For (thn (hi pins s σ H _ I h) λv s1 h1=>thn h1 λitv s2 h2=>?_) hs
 obtain⟨it,fp,tn,J,H2,e,I2,T,st2,f2,W,⟨m0,w0⟩,turn⟩:=h2
 subst e
 have stat:∀{H':Hp},(∀b∈fp,H' b=none)->∀b∈fp,FpOk X pins H' b:=λhn b hb=>⟨hn b hb,(f2 b hb).2⟩
 refine codeAny_forLoop_any (λn s'=>∃i σ' H',Inv X pins σ' H' s'/\tn i s'.heap/\(∀b∈fp,H' b=none)/\W i n σ' H') ?_ m0 ⟨0,σ,H2,I2,st2,λb hb=>(f2 b hb).1,w0⟩
 rintro n s3 ⟨i,σ3,H3,I3,st3,fr3,w3⟩
 rcases turn i n σ3 H3 w3 with⟨stop,qn⟩|⟨go,N,hN,step⟩
 ·refine wpAny_passesOwn hp (thn (T.done X rfl rfl rfl hc i pins s3 σ3 H3 X.xe I3 (stat fr3) st3 stop) λr s4 ⟨hr,I4⟩=>?_)
  subst hr
  exact wpAny_execs_nil ⟨σ3,H3,I4,qn⟩
 ·refine wpAny_passesOwn hp (thn (T.item X rfl rfl rfl hc i pins s3 σ3 H3 X.xe I3 (stat fr3) st3 go) λr s4 ⟨u,hr,h4⟩=>?_)
  subst hr
  refine wpAny_passesOwn hp (thn h4 λ_ s5 ⟨x,H5,I5,r5,y5,st5,fr5⟩=>?_)
  have I5':=I5.pinned (stat fr5) (T.obj _ _ st5)
  refine wpAny_passesOwn hp (thn (hg _ s5 σ3 H5 x u _ I5' r5 (step x H5 y5)) λ_ s6 ⟨σ6,H6,I6,q6⟩=>?_)
  refine wpAny_passesOwn hp (thn (hb _ s6 σ6 H6 _ I6 q6) λf s7 q7=>?_)
  have again:∀{σ7:St} {H7:Hp},Inv X (pins++ZaJ fp s5.heap) σ7 H7 s7->N σ7 H7->∃m,m<n/\∃i σ' H',Inv X pins σ' H' s7/\tn i s7.heap/\(∀b∈fp,H' b=none)/\W i m σ' H':=fun{σ7 H7} I7 n7=>by
   obtain⟨m',hm,w7⟩:=hN σ7 H7 n7
   refine⟨m',hm,i+1,σ7,H7,I7.unpinned,T.keep _ _ _ st5 λb hb o e=>(I7.pin (b,o) (Y0Y _ (Y0Y _ (Z5k hb e)))).1,λb hb=>?_,w7⟩
   obtain⟨o,e,d⟩:=T.obj _ _ st5 b hb
   exact(I7.pin (b,o) (Y0Y _ (Y0Y _ (Z5k hb e)))).2.1
  cases f with
  |next=>obtain⟨σ7,H7,I7,n7⟩:=q7;exact again I7 n7
  |cont=>obtain⟨σ7,H7,I7,n7⟩:=q7;exact again I7 n7
  |brk=>obtain⟨σ7,H7,I7,q7⟩:=q7;exact⟨σ7,H7,I7.unpinned,q7⟩
  |ret v=>obtain⟨x7,σ7,H7,I7,r7,q7⟩:=q7;exact⟨x7,σ7,H7,I7.unpinned,r7,q7⟩
end
end L2
namespace L2
open PySem PySem.Spec PyProof.Rows
abbrev R2:=V->V->Hp->VK->Prop
def OpR(X:Cx)(f:Value->Value->Sem Value)(r:R2):Prop:=
 ∀(pins:List (Addr×Obj)) (s:Shared) (σ:St) (H:Hp) (x y:V) (v u:Value) (Q:VK),Inv X pins σ H s->RelV x v->RelV y u->r x y H Q->
  wpAny (model X.prog X.w) X.A (f v u) (EP X pins σ Q) X.xe s
def CallR(X:Cx)(f:Value)(r:List V->Hp->VK->Prop):Prop:=
 ∀(pins:List (Addr×Obj)) (s:Shared) (σ:St) (H:Hp) (xs:List V) (us:List Value) (Q:VK),Inv X pins σ H s->Vals xs us->r xs H Q->
  wpAny (model X.prog X.w) X.A (call f us) (EP X pins σ Q) X.xe s
def tOp(r:R2)(ta tb:TE):TE:=λσ H Q=>ta σ H λx H1=>tb σ H1 λy H2=>r x y H2 Q
def rI(C:Int->Int->Prop)(g:Int->Int->V):R2:=λx y H Q=>∃i j,x=.int i/\y=.int j/\C i j/\Q (g i j) H
def rI0(g:Int->Int->V):R2:=λx y H Q=>∃i j,x=.int i/\y=.int j/\Q (g i j) H
section
variable{X:Cx}{a b c:Expr}{ta tb tc:TE}{pos:Pos}
theorem binT(ha:PE X a ta)(hb:PE X b tb){pins:List (Addr×Obj)}{s:Shared}{σ:St}{H:Hp}{R:V->V->Hp->Prop}(I:Inv X pins σ H s)
  (h:ta σ H λx H1=>tb σ H1 λy H2=>R x y H2) {Q:Value->Shared->Prop} {f:Value->Value->Sem Value}
  (hf:∀v u s2 x y H2,Inv X pins σ H2 s2->RelV x v->RelV y u->R x y H2->wpAny (model X.prog X.w) X.A (f v u) Q X.xe s2):
  wpAny (model X.prog X.w) X.A (eval a X.env) (λv s₁=>wpAny (model X.prog X.w) X.A (eval b X.env) (λu s₂=>wpAny (model X.prog X.w) X.A (f v u) Q X.xe s₂) X.xe s₁) X.xe s:=by
 refine thn (ha pins s σ H _ I h) λv s1 ⟨x,H1,I1,r1,q1⟩=>?_
 refine thn (hb pins s1 σ H1 _ I1 q1) λu s2 ⟨y,H2,I2,r2,q2⟩=>?_
 exact hf v u s2 x y H2 I2 r1 r2 q2
theorem ZpT{op:Operator}{r:R2}(ho:OpR X (binaryOp op) r)(ha:PE X a ta)(hb:PE X b tb):PE X (.BinOp a op b pos) (tOp r ta tb):=by
 intro pins s σ H Q I h
 exact wpAny_BinOp (binT ha hb I h λv u s2 x y H2 I2 rx ry q=>ho pins s2 σ H2 x y v u Q I2 rx ry q)
theorem opI{f:Value->Value->Sem Value}{C:Int->Int->Prop}{g:Int->Int->Int}
  (rule:∀(i j:Int) (t u:Tok) (s:Shared) (Q:Value->Shared->Prop) (E:Value->Shared->Prop),C i j->Q (.int (g i j) s.toks) {s with toks:=s.toks+1}->wpAny (model X.prog X.w) X.A (f (.int i t) (.int j u)) Q E s):
  OpR X f (rI C λi j=>.int (g i j)):=by
 intro pins s σ H x y v u Q I rx ry h
 obtain⟨i,j,rfl,rfl,hc,q⟩:=h
 obtain⟨t,rfl⟩:=rx
 obtain⟨t',rfl⟩:=ry
 exact rule i j t t' s _ _ hc ⟨.int (g i j),H,I.tok _,⟨_,rfl⟩,q⟩
theorem opI0{f:Value->Value->Sem Value}{g:Int->Int->Int}
  (rule:∀(i j:Int) (t u:Tok) (s:Shared) (Q:Value->Shared->Prop) (E:Value->Shared->Prop),Q (.int (g i j) s.toks) {s with toks:=s.toks+1}->wpAny (model X.prog X.w) X.A (f (.int i t) (.int j u)) Q E s):
  OpR X f (rI0 λi j=>.int (g i j)):=by
 intro pins s σ H x y v u Q I rx ry h
 obtain⟨i,j,rfl,rfl,q⟩:=h
 obtain⟨t,rfl⟩:=rx
 obtain⟨t',rfl⟩:=ry
 exact rule i j t t' s _ _ ⟨.int (g i j),H,I.tok _,⟨_,rfl⟩,q⟩
theorem opB0{f:Value->Value->Sem Value}{g:Int->Int->Bool}
  (rule:∀(i j:Int) (t u:Tok) (s:Shared) (Q:Value->Shared->Prop) (E:Value->Shared->Prop),Q (.bool (g i j)) s->wpAny (model X.prog X.w) X.A (f (.int i t) (.int j u)) Q E s):
  OpR X f (rI0 λi j=>.bl (g i j)):=by
 intro pins s σ H x y v u Q I rx ry h
 obtain⟨i,j,rfl,rfl,q⟩:=h
 obtain⟨t,rfl⟩:=rx
 obtain⟨t',rfl⟩:=ry
 exact rule i j t t' s _ _ ⟨.bl (g i j),H,I,rfl,q⟩
def CPow(i j:Int):Prop:=0≤j/\j≤1000000/\i.natAbs<2^64
def CMul(i j:Int):Prop:=(-(2^64)<i/\i<2^64)\/(-(2^64)<j/\j<2^64)
theorem CMul.ok{i j:Int}(h:CMul i j):IntMulOk i j:=by
 rcases h with⟨h1,h2⟩|⟨h1,h2⟩
 ·exact .of_left (intBits_le_64 h1 h2)
 ·exact .of_right (intBits_le_64 h1 h2)
theorem ZnK:OpR X (binaryOp .Add) (rI0 λi j=>.int (i+j)):=opI0 λ_ _ _ _ _ _ _ q=>add_int q
theorem ZnA:OpR X (binaryOp .Sub) (rI0 λi j=>.int (i - j)):=opI0 λ_ _ _ _ _ _ _ q=>sub_int q
theorem ZnE:OpR X (binaryOp .Mult) (rI CMul λi j=>.int (i*j)):=opI λ_ _ _ _ _ _ _ hc q=>mul_int q hc.ok
theorem ZnF:OpR X (binaryOp .Mod) (rI (λ_ j=>0<j) λi j=>.int (i%j)):=opI λi j _ _ _ _ _ hc q=>by
 have h1:(0:Int)<j:=hc
 exact mod_int' (by lia) (by rw[Int.fmod_eq_emod_of_nonneg i (by lia)];exact q)
theorem ZnC:OpR X (binaryOp .Pow) (rI CPow λi j=>.int (i^j.toNat)):=opI λ_ _ _ _ _ _ _ hc q=>pow_int_small hc.1 hc.2.1 hc.2.2 q
end
def scal:V->V->Bool
 |.non,.non=>true|.non,.int _=>true|.int _,.non=>true|.non,.bl _=>true|.bl _,.non=>true|.non,.str _=>true|.str _,.non=>true
 |.int _,.int _=>true|.bl _,.bl _=>true|.str _,.str _=>true|.byt _,.byt _=>true
 |.int _,.str _=>true|.str _,.int _=>true|.bl _,.str _=>true|.str _,.bl _=>true
 |_,_=>false
def rEq:R2:=λx y H Q=>scal x y=true/\Q (.bl (decide (x=y))) H
def rNe:R2:=λx y H Q=>scal x y=true/\Q (.bl (!decide (x=y))) H
theorem ZhA{i j:Int}:decide (V.int i=V.int j)=(i==j):=by
 rw[Y2z]
 simp
theorem Zke{i j:Bool}:decide (V.bl i=V.bl j)=(i==j):=by
 rw[Y2z]
 simp
theorem Zhz{i j:Str}:decide (V.str i=V.str j)=(i==j):=by
 rw[Y2z]
 simp
theorem ZhB{i j:Array UInt8}:decide (V.byt i=V.byt j)=(i.toList==j.toList):=by
 rw[Y2z]
 cases i
 cases j
 simp
section
variable{X:Cx}{a b c:Expr}{ta tb tc:TE}{pos:Pos}
theorem Z0x{pins:List (Addr×Obj)}{σ:St}{H:Hp}{s:Shared}{Q:VK}{k k':Bool}(I:Inv X pins σ H s)(q:Q (.bl k) H)(e:k=k'):EP X pins σ Q (.bool k') s:=by
 subst e
 exact⟨.bl k,H,I,rfl,q⟩
theorem Zq2:OpR X (compareOp .Eq) rEq:=by
 intro pins s σ H x y v u Q I rx ry h
 obtain⟨hs,q⟩:=h
 cases x with
 |non=>
  cases rx
  cases y with
  |non=>cases ry;exact PySem.EqNone.eq_none_none (Z0x I q (by simp))
  |bl j=>cases ry;exact PySem.EqNone.eq_none_bool (Z0x I q (by simp))
  |int j=>obtain⟨t',rfl⟩:=ry;exact PySem.EqNone.eq_none_int (Z0x I q (by simp))
  |str j=>obtain⟨t',rfl⟩:=ry;exact PySem.EqNone.eq_none_str (Z0x I q (by simp))
  |_=>exact absurd (show false=true from hs) Y09
 |bl i=>
  cases rx
  cases y with
  |non=>cases ry;exact PySem.EqNone.eq_bool_none (Z0x I q (by simp))
  |bl j=>cases ry;exact eq_bool (Z0x I q Zke)
  |str j=>obtain⟨t',rfl⟩:=ry;exact PySem.EqMixed.eq_bool_str (Z0x I q (by simp))
  |_=>exact absurd (show false=true from hs) Y09
 |int i=>
  obtain⟨t,rfl⟩:=rx
  cases y with
  |non=>cases ry;exact PySem.EqNone.eq_int_none (Z0x I q (by simp))
  |int j=>obtain⟨t',rfl⟩:=ry;exact eq_int (Z0x I q ZhA)
  |str j=>obtain⟨t',rfl⟩:=ry;exact PySem.EqMixed.eq_int_str (Z0x I q (by simp))
  |_=>exact absurd (show false=true from hs) Y09
 |str i=>
  obtain⟨t,rfl⟩:=rx
  cases y with
  |non=>cases ry;exact PySem.EqNone.eq_str_none (Z0x I q (by simp))
  |bl j=>cases ry;exact PySem.EqMixed.eq_str_bool (Z0x I q (by simp))
  |int j=>obtain⟨t',rfl⟩:=ry;exact PySem.EqMixed.eq_str_int (Z0x I q (by simp))
  |str j=>obtain⟨t',rfl⟩:=ry;exact eq_str (Z0x I q Zhz)
  |_=>exact absurd (show false=true from hs) Y09
 |byt i=>
  obtain⟨t,rfl⟩:=rx
  cases y with
  |byt j=>obtain⟨t',rfl⟩:=ry;exact PySem.W.eq_bytes (Z0x I q ZhB)
  |_=>exact absurd (show false=true from hs) Y09
 |_=>cases y<;>exact absurd (show false=true from hs) Y09
theorem ZpX:OpR X (compareOp .NotEq) rNe:=by
 intro pins s σ H x y v u Q I rx ry h
 obtain⟨hs,q⟩:=h
 cases x with
 |non=>
  cases rx
  cases y with
  |non=>cases ry;exact PySem.EqNone.ne_none_none (Z0x I q (by simp))
  |bl j=>cases ry;exact PySem.EqNone.ne_none_bool (Z0x I q (by simp))
  |int j=>obtain⟨t',rfl⟩:=ry;exact PySem.EqNone.ne_none_int (Z0x I q (by simp))
  |str j=>obtain⟨t',rfl⟩:=ry;exact PySem.EqNone.ne_none_str (Z0x I q (by simp))
  |_=>exact absurd (show false=true from hs) Y09
 |bl i=>
  cases rx
  cases y with
  |non=>cases ry;exact PySem.EqNone.ne_bool_none (Z0x I q (by simp))
  |bl j=>cases ry;exact ne_bool (Z0x I q (congrArg not Zke))
  |str j=>obtain⟨t',rfl⟩:=ry;exact PySem.EqMixed.ne_bool_str (Z0x I q (by simp))
  |_=>exact absurd (show false=true from hs) Y09
 |int i=>
  obtain⟨t,rfl⟩:=rx
  cases y with
  |non=>cases ry;exact PySem.EqNone.ne_int_none (Z0x I q (by simp))
  |int j=>obtain⟨t',rfl⟩:=ry;exact ne_int (Z0x I q (congrArg not ZhA))
  |str j=>obtain⟨t',rfl⟩:=ry;exact PySem.EqMixed.ne_int_str (Z0x I q (by simp))
  |_=>exact absurd (show false=true from hs) Y09
 |str i=>
  obtain⟨t,rfl⟩:=rx
  cases y with
  |non=>cases ry;exact PySem.EqNone.ne_str_none (Z0x I q (by simp))
  |bl j=>cases ry;exact PySem.EqMixed.ne_str_bool (Z0x I q (by simp))
  |int j=>obtain⟨t',rfl⟩:=ry;exact PySem.EqMixed.ne_str_int (Z0x I q (by simp))
  |str j=>obtain⟨t',rfl⟩:=ry;exact ne_str (Z0x I q (congrArg not Zhz))
  |_=>exact absurd (show false=true from hs) Y09
 |byt i=>
  obtain⟨t,rfl⟩:=rx
  cases y with
  |byt j=>obtain⟨t',rfl⟩:=ry;exact PySem.W.ne_bytes (Z0x I q (congrArg not ZhB))
  |_=>exact absurd (show false=true from hs) Y09
 |_=>cases y<;>exact absurd (show false=true from hs) Y09
theorem ZpY:OpR X (compareOp .Lt) (rI0 λi j=>.bl (decide (i<j))):=opB0 λ_ _ _ _ _ _ _ q=>lt_int q
theorem ZpZ:OpR X (compareOp .LtE) (rI0 λi j=>.bl (decide (i≤j))):=opB0 λ_ _ _ _ _ _ _ q=>le_int q
theorem Zq0:OpR X (compareOp .Gt) (rI0 λi j=>.bl (decide (j<i))):=opB0 λ_ _ _ _ _ _ _ q=>gt_int q
theorem Zq1:OpR X (compareOp .GtE) (rI0 λi j=>.bl (decide (j≤i))):=opB0 λ_ _ _ _ _ _ _ q=>ge_int q
theorem ZnG:OpR X (compareOp .Is) (λx y H Q=>y=.non/\Q (.bl (decide (x=.non))) H):=by
 intro pins s σ H x y v u Q I rx ry h
 obtain⟨rfl,q⟩:=h
 cases ry
 refine is_none_gen (Z0x I q ?_)
 cases x<;>first
  |(cases rx;rfl)
  |(obtain⟨t,rfl⟩:=rx;rfl)
theorem Zl3:OpR X (compareOp .IsNot) (λx y H Q=>y=.non/\Q (.bl (!decide (x=.non))) H):=by
 intro pins s σ H x y v u Q I rx ry h
 obtain⟨rfl,q⟩:=h
 cases ry
 refine isnot_none_gen (Z0x I q ?_)
 cases x<;>first
  |(cases rx;rfl)
  |(obtain⟨t,rfl⟩:=rx;rfl)
theorem OpR.or{f:Value->Value->Sem Value}{r r':R2}(h:OpR X f r)(h':OpR X f r'):OpR X f (λx y H Q=>r x y H Q\/r' x y H Q):=by
 intro pins s σ H x y v u Q I rx ry q
 rcases q with q|q
 ·exact h pins s σ H x y v u Q I rx ry q
 ·exact h' pins s σ H x y v u Q I rx ry q
theorem nomark(b:Expr){op:CmpOp}(h:op≠.In:=by decide)(h2:op≠.NotIn:=by decide):behindInMarks op b=false:=by
 have e1:(op==CmpOp.In)=false:=by cases op<;>first|rfl|exact absurd rfl h
 have e2:(op==CmpOp.NotIn)=false:=by cases op<;>first|rfl|exact absurd rfl h2
 cases b<;>simp[behindInMarks,e1,e2]
theorem ZkZ{op:CmpOp}{r:R2}(ho:OpR X (compareOp op) r)(ha:PE X a ta)(hb:PE X b tb)(hm:behindInMarks op b=false):PE X (.Compare a [op] [b] pos) (tOp r ta tb):=by
 intro pins s σ H Q I h
 exact wpAny_Compare1 (binT ha hb I h λv u s2 x y H2 I2 rx ry q=>ho pins s2 σ H2 x y v u Q I2 rx ry q) hm
def Zmq(t:TE):TT:=λσ H Q=>t σ H λx H'=>∃k,x=.bl k/\Q k H'
theorem ZkO{op:CmpOp}{r:R2}(ho:OpR X (compareOp op) r)(ha:PE X a ta)(hb:PE X b tb)(hm:behindInMarks op b=false):PT X (.Compare a [op] [b] pos) (Zmq (tOp r ta tb)):=by
 intro pins s σ H Q I h
 refine wpAny_isTrue_Compare1 (thn (ha pins s σ H _ I h) λv s1 ⟨x,H1,I1,r1,q1⟩=>thn (hb pins s1 σ H1 _ I1 q1) λu s2 ⟨y,H2,I2,r2,q2⟩=>
  thn (ho pins s2 σ H2 x y v u _ I2 r1 r2 q2) λc s3 ⟨z,H3,I3,r3,k,e,q3⟩=>?_) hm
 subst e
 cases r3
 exact wpAny_truthy_bool ⟨H3,I3,q3⟩
def Zg4(r r':R2)(ta tb tc:TE):TE:=λσ H Q=>ta σ H λx H1=>tb σ H1 λy H2=>r x y H2 λz H3=>∃k,z=.bl k/\
 (if k=true then tc σ H3 λw' H4=>r' y w' H4 Q else Q (.bl false) H3)
theorem Ziz{op op':CmpOp}{r r':R2}(ho:OpR X (compareOp op) r)(ho':OpR X (compareOp op') r')(ha:PE X a ta)(hb:PE X b tb)(hc:PE X c tc)
  (hm:lastMarks [op,op'] [b,c]=false:=by with_unfolding_all rfl):PE X (.Compare a [op,op'] [b,c] pos) (Zg4 r r' ta tb tc):=by
 intro pins s σ H Q I h
 refine Compare_chain (thn (ha pins s σ H _ I h) λv s1 ⟨x,H1,I1,r1,q1⟩=>chain_link (thn (hb pins s1 σ H1 _ I1 q1) λu s2 ⟨y,H2,I2,r2,q2⟩=>
  thn (ho pins s2 σ H2 x y v u _ I2 r1 r2 q2) λd s3 ⟨z,H3,I3,r3,k,e,q3⟩=>?_)) hm
 subst e
 cases r3
 refine wpAny_truthy_bool ?_
 cases k with
 |false=>exact ite_ff ⟨.bl false,H3,I3,rfl,q3⟩
 |true=>exact ite_tt (chain_last (thn (hc pins s3 σ H3 _ I3 q3) λw' s4 ⟨z',H4,I4,r4,q4⟩=>ho' pins s4 σ H4 y z' u w' Q I4 r2 r4 q4))
theorem Zip{op op':CmpOp}{r r':R2}(ho:OpR X (compareOp op) r)(ho':OpR X (compareOp op') r')(ha:PE X a ta)(hb:PE X b tb)(hc:PE X c tc)
  (hm:lastMarks [op,op'] [b,c]=false:=by with_unfolding_all rfl):PT X (.Compare a [op,op'] [b,c] pos) (Zmq (Zg4 r r' ta tb tc)):=by
 intro pins s σ H Q I h
 refine isTrue_chain (thn (ha pins s σ H _ I h) λv s1 ⟨x,H1,I1,r1,q1⟩=>test_link (thn (hb pins s1 σ H1 _ I1 q1) λu s2 ⟨y,H2,I2,r2,q2⟩=>
  thn (ho pins s2 σ H2 x y v u _ I2 r1 r2 q2) λd s3 ⟨z,H3,I3,r3,k,e,q3⟩=>?_)) hm
 subst e
 cases r3
 refine wpAny_truthy_bool ?_
 cases k with
 |false=>
  obtain⟨k',e',q'⟩:=q3
  cases e'
  exact ite_ff ⟨H3,I3,q'⟩
 |true=>
  refine ite_tt (test_last (thn (hc pins s3 σ H3 _ I3 q3) λw' s4 ⟨z',H4,I4,r4,q4⟩=>thn (ho' pins s4 σ H4 y z' u w' _ I4 r2 r4 q4) λd' s5 ⟨z2,H5,I5,r5,k2,e2,q5⟩=>?_))
  subst e2
  cases r5
  exact wpAny_truthy_bool ⟨H5,I5,q5⟩
theorem ZaO:(sizeLine:Nat)<2^63:=by rw[sizeLine_eq];decide
theorem Zfj:OpR X (binaryOp .Add) (λx y H Q=>∃i j,x=.str i/\y=.str j/\i.length+j.length≤sizeLine/\Q (.str (i++j)) H):=by
 intro pins s σ H x y v u Q I rx ry h
 obtain⟨i,j,rfl,rfl,hz,q⟩:=h
 obtain⟨t,rfl⟩:=rx
 obtain⟨t',rfl⟩:=ry
 exact add_str (λt' tk=>⟨.str (i++j),H,I.tok _,⟨_,rfl⟩,q⟩) hz
theorem Z6k{x:V}{us:List Value}(r:Vals [x] us):∃u,us=[u]/\RelV x u:=by
 cases r with
 |cons r1 r2=>cases r2;exact⟨_,rfl,r1⟩
theorem Zf6{x y:V}{us:List Value}(r:Vals [x,y] us):∃u w',us=[u,w']/\RelV x u/\RelV y w':=by
 cases r with
 |cons r1 r2=>
  cases r2 with
  |cons r3 r4=>cases r4;exact⟨_,_,rfl,r1,r3⟩
theorem Zjb:CallR X (.builtin "abs") (fun xs H Q=>∃i,xs=[.int i]/\Q (.int (if i<0 then -i else i)) H):=by
 intro pins s σ H xs us Q I r h
 obtain⟨i,rfl,q⟩:=h
 obtain⟨u,rfl,t,rfl⟩:=Z6k r
 exact call_abs_int λu tk=>⟨.int (if i<0 then -i else i),H,I.tok _,⟨_,rfl⟩,q⟩
theorem ZhO(hc:X.calm=true):CallR X (.builtin "max") (fun xs H Q=>∃i j,xs=[.int i,.int j]/\Q (.int (if j>i then j else i)) H):=by
 intro pins s σ H xs us Q I r h
 obtain⟨i,j,rfl,q⟩:=h
 obtain⟨u,w',rfl,⟨t,rfl⟩,⟨t',rfl⟩⟩:=Zf6 r
 refine max_two_ints (I.ok.hd hc) λh' tk k=>⟨_,H,I.kept k,?_,q⟩
 by_cases hj:j>i
 ·rw[if_pos hj,if_pos hj];exact⟨_,rfl⟩
 ·rw[if_neg hj,if_neg hj];exact⟨_,rfl⟩
theorem ZhM(hc:X.calm=true):CallR X (.builtin "min") (fun xs H Q=>∃i j,xs=[.int i,.int j]/\Q (.int (if j<i then j else i)) H):=by
 intro pins s σ H xs us Q I r h
 obtain⟨i,j,rfl,q⟩:=h
 obtain⟨u,w',rfl,⟨t,rfl⟩,⟨t',rfl⟩⟩:=Zf6 r
 refine min_two_ints (I.ok.hd hc) λh' tk k=>⟨_,H,I.kept k,?_,q⟩
 by_cases hj:j<i
 ·rw[if_pos hj,if_pos hj];exact⟨_,rfl⟩
 ·rw[if_neg hj,if_neg hj];exact⟨_,rfl⟩
theorem Zd1:CallR X (.type "int") (fun xs H Q=>(∃i,xs=[.int i]/\Q (.int i) H)\/∃k,xs=[.bl k]/\Q (.int (if k then 1 else 0)) H):=by
 intro pins s σ H xs us Q I r h
 rcases h with⟨i,rfl,q⟩|⟨k,rfl,q⟩
 ·obtain⟨u,rfl,t,rfl⟩:=Z6k r
  exact call_int_int ⟨.int i,H,I,⟨_,rfl⟩,q⟩
 ·obtain⟨u,rfl,r1⟩:=Z6k r
  cases r1
  exact call_int_bool ⟨.int (if k then 1 else 0),H,I.tok _,⟨_,rfl⟩,q⟩
end
end L2
namespace L2
open PySem PySem.Spec PyProof.Rows
structure ObjM (h:Heap) (x dx C:Addr) (mA:Str->Option Value):Prop where
 obj:h.get? x=some (Y1G C dx)
 ns:h.Ns1 dx mA
 ne:dx≠x
theorem ZgR{h:Heap}{dx:Addr}{mA:Str->Option Value}(n:h.Ns1 dx mA):∃od,h.get? dx=some od/\∀name,Y3F name od=some (mA name):=by
 obtain⟨o,es,ep,ho,hd,hk,_,hm⟩:=n
 refine⟨o,ho,λname=>?_⟩
 have e:=hm name
 unfold nsFind findBy at e
 rw[<- Array.find?_toList]at e
 unfold Y3F
 rw[hd]
 dsimp only
 split
 ·rename_i y q
  rw[q]at e
  exact congrArg some e
 ·rename_i q
  rw[q]at e
  have a:es.toList.any (·.refKey)=false:=by
   rw[List.any_eq_false]
   intro y hy
   obtain⟨z,t,hkey⟩:=hk y (Array.mem_toList_iff.mp hy)
   simp[DictEntry.refKey,hkey]
  have a':¬es.toList.any (·.refKey)=true:=by rw[a];exact Y09
  rw[if_neg a']
  exact congrArg some e
theorem ObjM.look{h:Heap}{x dx C:Addr}{mA:Str->Option Value}(I:ObjM h x dx C mA):∃od,PySem.W.InstAt h x (Y1G C dx) C (some od)/\∀name,Y3F name od=some (mA name):=
 let⟨od,ho,hl⟩:=ZgR I.ns
 ⟨od,⟨I.obj,rfl,rfl,ho⟩,hl⟩
section
variable{prog:Program}{w:World}{A:Around}{E:Value->Shared->Prop}{s:Shared}{K:Y02}{x dx C f:Addr}{mA:Str->Option Value}{name:Str}{v:Value}
end
theorem RelO.some_of{v:V}{o:Option Value}(r:RelO (some v) o):∃u,o=some u/\RelV v u:=by
 cases o with
 |none=>exact(show False from r).elim
 |some u=>exact⟨u,rfl,r⟩
theorem RelO.none_of{o:Option Value}(r:RelO none o):o=none:=by
 cases o with
 |none=>rfl
 |some u=>exact(show False from r).elim
section
variable{P:Program}{w:World}{H H':Hp}{h h':Heap}{a C dx:Addr}{fs fs':List (Str×V)}
theorem Zhe(hok:HOk P w H h)(e:H a=some (.ins C dx fs)):∃mA,ObjM h a dx C mA/\(∀f,RelO (fs.lookup f) (mA f))/\PySem.Within mA (fs.map (·.1))/\fs.length≤1000/\H dx=some (.own a):=by
 obtain⟨d,z,ne,ob,mA,n,r,q⟩:=(show ObjOk P w H h a (.ins C dx fs)from hok a _ e)
 exact⟨mA,⟨ob,n,ne⟩,r,q,z,d⟩
end
structure Cls (K:Y02) (C:Addr):Prop where
 pg:PySem.W.plainGet K C Y3m=true
 hd:PySem.W.hasDictIn K C=true
 po:PySem.W.plainOver K C=true
 sa:Y1T K (.ref C) "__setattr__"=some (some (.builtin "object.__setattr__"))
theorem Cls.get{K:Y02}{C:Addr}(c:Cls K C)(f:Str):PySem.W.plainGet K C f=true:=c.pg
def NoAttr(K:Y02)(C:Addr)(f:Str):Prop:=Y1T K (.ref C) f=some none
theorem NoAttr.taker{K:Y02}{C:Addr}{f:Str}(n:NoAttr K C f):PySem.W.takerIn K C f=some none:=by
 unfold PySem.W.takerIn
 rw[show Y1T K (.ref C) f=some none from n]
 rfl
structure Con (K:Y02) (C:Addr) (f:Str) (v:V) (u:Value):Prop where
 at_:Y1T K (.ref C) f=some (some u)
 rel:RelV v u
 get:PySem.W.specialIn K u "__get__"=some none
 cp:PySem.W.copiedNames.contains f=false
structure Meth (K:Y02) (C:Addr) (m:Str) (f:Addr):Prop where
 at_:Y1T K (.ref C) m=some (some (.ref f))
 fn:PySem.W.isFn K (.ref f)=true
 kp:Y0a K (.ref f)=true
section
variable{X:Cx}{pins:List (Addr×Obj)}{σ:St}{H:Hp}{s:Shared}{a C dx:Addr}{fs:List (Str×V)}{f:Str}{v:V}{A:Around}{E:Value->Shared->Prop}
theorem Inv.made(I:Inv X pins σ H s):Inv X pins σ (upd (upd H s.heap.objs.size (.own (s.heap.objs.size+1))) (s.heap.objs.size+1) (.ins C s.heap.objs.size []))
  {s with heap:=(s.heap.push Y1j).push (Y1G C s.heap.objs.size)}:=by
 have e1:(s.heap.push Y1j).get? s.heap.objs.size=some Y1j:=Y0e s.heap rfl
 have e2:((s.heap.push Y1j).push (Y1G C s.heap.objs.size)).get? (s.heap.objs.size+1)=some (Y1G C s.heap.objs.size):=by
  have:=Y0e (s.heap.push Y1j) (o:=Y1G C s.heap.objs.size) rfl
  rwa [Y1f]at this
 have e3:(s.heap.push Y1j).Ns s.heap.objs.size (λ_=>none):=⟨Y1j,#[],_,e1,rfl,(λe he=>absurd he (by simp)),λ_=>rfl⟩
 have I1:=I.laid (a:=s.heap.objs.size) (o:=.own (s.heap.objs.size+1)) (h':=s.heap.push Y1j) (t':=s.toks) (λb u q=>Y03 _ q) (Y0b _) ⟨_,e1⟩
 refine I1.laid (a:=s.heap.objs.size+1) (o:=.ins C s.heap.objs.size []) (t':=s.toks) (λb u q=>Y03 _ q) (Y2I (Y1f _ _)) ?_
 have ne:s.heap.objs.size≠s.heap.objs.size+1:=Y0m (Nat.lt_succ_self _)
 refine⟨by rw[Z0y ne,Z1G],Y17 _,ne,e2,λ_=>none,(Heap.Ns1.of_empty e3).at λo q=>Y03 _ q,λ_=>Y1k,λy hy=>absurd rfl hy⟩
end
section
variable{X:Cx}{o e value:Expr}{f:Str}{pos pos' tpos:Pos}{ta tv:TE}
end
section
variable{X:Cx}{pins:List (Addr×Obj)}{σ:St}{H:Hp}{s:Shared}{A:Around}{E:Value->Shared->Prop}{Q:Value->Shared->Prop}{c:Value}{b:Bool}
inductive TyOf (K:Y02) (H:Hp):V->Value->Prop where
 |non:TyOf K H .non (.type "NoneType")
 |bl (x:Bool):TyOf K H (.bl x) (.type "bool")
 |int (i:Int):TyOf K H (.int i) (.type "int")
 |str (x:Str):TyOf K H (.str x) (.type "str")
 |flt (x:UInt64):TyOf K H (.flt x) (.type "float")
 |lst {a:Addr} {xs:List V} (e:H a=some (.lst xs)):TyOf K H (.ref a) (.type "list")
 |frz {a:Addr} {o:Obj} {xs:List V} (e:H a=some (.frz o (.lst xs))):TyOf K H (.ref a) (.type "list")
 |tup {a:Addr} {xs:List V} (e:H a=some (.tup xs)):TyOf K H (.ref a) (.type "tuple")
 |dK {a:Addr} {kvs:List (Key×V)} (e:H a=some (.dK kvs)):TyOf K H (.ref a) (.type "dict")
 |dT {a:Addr} {kvs:List (List Key×V)} (e:H a=some (.dT kvs)):TyOf K H (.ref a) (.type "dict")
 |ins {a C dx:Addr} {fs:List (Str×V)} (e:H a=some (.ins C dx fs)) (cl:Cls K C) (ha:Y1T K (.ref C) "__class__"=some (some (.builtin "object.__class__")))
   (hn:PySem.W.specialIn K (.builtin "object.__class__") "__get__"=some (some (.builtin "getset_descriptor.__get__"))) (htk:PySem.W.takesIn K (.builtin "object.__class__")=some true)
   (hm:PySem.W.mroIn K C (.type "object")=some true):TyOf K H (.ref a) (.ref C)
theorem Zh6{x:V}{u t:Value}(I:Inv X pins σ H s)(rx:RelV x u)(ty:TyOf X.K H x t)(e:Y1U X.K t c=some b)(h:∀tk,Q (.bool b) {s with toks:=tk}):
  wpAny (model X.prog X.w) A (call (.builtin "isinstance") [u,c]) Q E s:=by
 cases ty with
 |non=>cases(show u=Y0o from rx);exact Y19 PySem.W.kitx_none I.kIn Y1k e (λz=>nomatch z) h
 |bl y=>cases(show u=Y15 y from rx);exact Y19 PySem.W.kitx_bool I.kIn Y1k e (λz=>nomatch z) h
 |int i=>obtain⟨t,q⟩:=(show∃t,u=Y3M i t from rx);cases q;exact Y19 PySem.W.kitx_int I.kIn Y1k e (λz=>nomatch z) h
 |str y=>obtain⟨t,q⟩:=(show∃t,u=Y0F y t from rx);cases q;exact Y19 PySem.W.kitx_str I.kIn Y1k e (λz=>nomatch z) h
 |flt y=>obtain⟨t,q⟩:=(show∃t,u=Value.float y t from rx);cases q;exact Y19 PySem.W.kitx_float I.kIn Y1k e (λz=>nomatch z) h
 | @lst a xs ea=>
  cases(show u=Y0q a from rx)
  obtain⟨_,_,n,_,h1⟩:=(show ObjOk X.prog X.w H s.heap a (.lst xs)from I.hok a _ ea)
  exact Y19 Y2n I.kIn ⟨_,h1,rfl⟩ e (λz=>nomatch z) h
 | @frz a ob xs ea=>
  cases(show u=Y0q a from rx)
  obtain⟨_,_,_,n,_,h1⟩:=(show ObjOk X.prog X.w H s.heap a (.frz ob (.lst xs))from I.hok a _ ea)
  exact Y19 Y2n I.kIn ⟨_,h1,rfl⟩ e (λz=>nomatch z) h
 | @tup a xs ea=>
  cases(show u=Y0q a from rx)
  obtain⟨_,_,_,p⟩:=(show ObjOk X.prog X.w H s.heap a (.tup xs)from I.hok a _ ea)
  obtain⟨o,h1,h2,_⟩:=p.1
  exact Y19 PySem.W.kitx_tuple I.kIn ⟨o,h1,h2⟩ e (λz=>nomatch z) h
 | @dK a kvs ea=>
  cases(show u=Y0q a from rx)
  obtain⟨_,_,vs,_,p⟩:=(show ObjOk X.prog X.w H s.heap a (.dK kvs)from I.hok a _ ea)
  obtain⟨o,es,ep,h1,h2,_⟩:=p
  exact Y19 Y2o I.kIn ⟨o,h1,h2.1⟩ e (λz=>nomatch z) h
 | @dT a kvs ea=>
  cases(show u=Y0q a from rx)
  obtain⟨_,_,xs,_,o,es,ep,h1,h2,_⟩:=(show ObjOk X.prog X.w H s.heap a (.dT kvs)from I.hok a _ ea)
  exact Y19 Y2o I.kIn ⟨o,h1,h2.1⟩ e (λz=>nomatch z) h
 | @ins a C dx fs ea cl ha hn htk hm=>
  cases(show u=Y0q a from rx)
  obtain⟨mA,O,_⟩:=Zhe I.hok ea
  obtain⟨od,J,_⟩:=O.look
  exact Y19 (PySem.W.kitx_own (cl.get _) cl.hd ha hn htk hm) I.kIn J e (λz=>nomatch z) h
end
end L2
namespace L2
open PySem PySem.Spec PyProof.Rows
structure Room (k:Nat) (A:Around):Prop where
 hd:A.handled=none
 dp:A.depth+3*k+5<recursionLimit
 un:A.units+16*k+200<cLine
theorem Room.mono{j k:Nat}{A:Around}(r:Room k A)(h:j≤k):Room j A:=⟨r.hd,by have:=r.dp;lia,by have:=r.un;lia⟩
theorem Room.deeper{k:Nat}{A:Around}(r:Room (k+1) A)(env:Env):Room k (A.deeper env):=
 ⟨r.hd,by have:=r.dp;show A.depth+1+3*k+5<_;lia,by have:=r.un;show A.units+3+16*k+200<_;lia⟩
theorem Room.in1{k:Nat}{A:Around}(r:Room (k+1) A):Room k A.in1:=
 ⟨r.hd,by have:=r.dp;show A.depth+3*k+5<_;lia,by have:=r.un;show A.units+1+16*k+200<_;lia⟩
theorem Zfs{A:Around}{C:Addr}{us:List Value}{kw:List (Str×Value)}:(A.under (.builtin "type.__call__" ⟨.ref C::us,kw⟩)).depth=A.depth+1:=by
 first|rfl|simp[Y3Y,Code.weight,Code.isCreation,Code.isGuard,Code.isCaller,Code.frames,Code.isFrame,guardIds]
theorem Zfr{A:Around}{C:Addr}{us:List Value}{kw:List (Str×Value)}:(A.under (.builtin "type.__call__" ⟨.ref C::us,kw⟩)).units=A.units+1:=by
 first|rfl|simp[Y3Y,Code.cUnits,Code.frames,Code.isFrame]
theorem Room.make{k:Nat}{A:Around}(r:Room (k+1) A)(C:Addr)(us:List Value)(kw:List (Str×Value)):Room k (A.under (.builtin "type.__call__" ⟨.ref C::us,kw⟩)):=
 ⟨r.hd,by have:=r.dp;rw[Zfs];lia,by have:=r.un;rw[Zfr];lia⟩
theorem Room.depth{k:Nat}{A:Around}(r:Room k A):A.depth<recursionLimit:=by have:=r.dp;lia
theorem Room.units{k:Nat}{A:Around}(r:Room k A):A.units+64<cLine:=by have:=r.un;lia
def tNil:TA:=λ_ H Q=>Q [] H
def Zg2(ta:TE)(tr:TA):TA:=λσ H Q=>ta σ H λx H1=>tr σ H1 λxs H2=>Q (x::xs) H2
section
variable{X:Cx}{e:Expr}{es:List Expr}{te:TE}{t:TA}{pos:Pos}
theorem pa_nil:PA X [] tNil:=λ_ _ _ _ H Q I h=>Y23 ⟨[],H,I,.nil,h⟩
theorem Z3f(ha:PE X e te)(hr:PA X es t)(hs:starEach (e::es) X.env=(false,eval e X.env)::starEach es X.env:=by rfl):PA X (e::es) (Zg2 te t):=by
 intro pos pins s σ H Q I h
 rw[hs]
 show wpAny _ _ (spliced ((false,eval e X.env)::backTo pos (starEach es X.env))) _ _ s
 refine Y1X (thn (ha pins s σ H _ I h) λu s1 ⟨x,H1,I1,r1,q1⟩=>?_)
 exact thn (hr pos pins s1 σ H1 _ I1 q1) λus s2 ⟨xs,H2,I2,r2,q2⟩=>⟨x::xs,H2,I2,.cons r1 r2,q2⟩
def tTup(t:TA):TE:=λσ H Q=>t σ H λxs H1=>xs.length≤sizeLine/\∀p,H1 p=none->Q (.ref p) (upd H1 p (.tup xs))
def tLst(t:TA):TE:=λσ H Q=>t σ H λxs H1=>xs.length≤sizeLine/\∀p,H1 p=none->Q (.ref p) (upd H1 p (.lst xs))
theorem Znu{x1}(h:PA X es t):PE X (.Tuple es x1 pos) (tTup t):=by
 intro pins s σ H Q I hq
 refine wpAny_Tuple_spliced (thn (h pos pins s σ H _ I hq) λus s1 ⟨xs,H1,I1,r,z,q⟩=>⟨by rw[<- r.length];exact z,?_⟩)
 have hf:H1 s1.heap.objs.size=none:=I1.hok.fresh (Y0b _)
 refine⟨.ref s1.heap.objs.size,upd H1 s1.heap.objs.size (.tup xs),I1.laid (t':=s1.toks) (λb u e=>Y03 _ e) (Y0b _) ?_,rfl,q _ hf⟩
 exact⟨z,us,r,⟨_,Y0e _ rfl,rfl,_,rfl⟩,_,Y0e _ rfl,rfl⟩
theorem Znx(h:PA X es t):PE X (.List es pos) (tLst t):=by
 intro pins s σ H Q I hq
 refine wpAny_List_spliced (thn (h pos pins s σ H _ I hq) λus s1 ⟨xs,H1,I1,r,z,q⟩=>⟨by rw[<- r.length];exact z,?_⟩)
 have hf:H1 s1.heap.objs.size=none:=I1.hok.fresh (Y0b _)
 refine⟨.ref s1.heap.objs.size,upd H1 s1.heap.objs.size (.lst xs),I1.laid (t':=s1.toks) (λb u e=>Y03 _ e) (Y0b _) ?_,rfl,q _ hf⟩
 exact⟨z,us,0,r,Y0e _ rfl⟩
end
abbrev Sp:=List V->Hp->VK->XK->Prop
abbrev CXT:=List Env->Hp->Shared->XK->Value->Shared->Prop
structure Env0 (P:Program) (w:World) (K:Y02) (mg:Str->Option Value) (base:Heap) (A:Around) (outer:List Env) (s:Shared) (H:Hp):Prop where
 frames:A.frames=some outer
 mod:Mod K mg base
 bs:∀b o,base.get? b=some o->s.heap.get? b=some o/\H b=none
 bsz:base.objs.size≤s.heap.objs.size
 funs:s.heap.FunFrames base outer
 frf:∀b∈frs outer,H b=none
 hok:HOk P w H s.heap
 bare:AllBare s.gens
def CE(outer:List Env)(P:Program)(w:World)(H:Hp)(s:Shared)(Q:VK)(u:Value)(s':Shared):Prop:=
 ∃v H',s'.os=s.os/\AllBare s'.gens/\Un (frs outer) [] H H' s.heap s'.heap/\HOk P w H' s'.heap/\RelV v u/\Q v H'
def CR(CX:CXT)(outer:List Env)(P:Program)(w:World)(H:Hp)(s:Shared)(Q:VK)(E:XK)(r:Result)(s':Shared):Prop:=
 match r with
 |.ok (.ret u)=>CE outer P w H s Q u s'
 |.ok _=>False
 |.error e=>CX outer H s E e s'
structure FnOk (P:Program) (w:World) (K:Y02) (mg:Str->Option Value) (base:Heap) (CX:CXT) (k:Nat) (f:Addr) (fd:FuncData) (ps:List Str) (sp:Sp):Prop where
 len:∀vs H Q E,sp vs H Q E->vs.length=ps.length
 run:∀(A:Around) (outer:List Env) (s:Shared) (H:Hp) (args:Args) (us:List Value) (vs:List V) (Q:VK) (E:XK),Room k A->Env0 P w K mg base A outer s H->BindsTo s fd args (ps.zip us)->Vals vs us->sp vs H Q E->
  codeAny (model P w) A (.call (.ref f) args) (CR CX outer P w H s Q E) s
theorem FnOk.mono{P:Program}{w:World}{K:Y02}{mg:Str->Option Value}{base:Heap}{CX:CXT}{j k:Nat}{f:Addr}{fd:FuncData}{ps:List Str}{sp:Sp}(F:FnOk P w K mg base CX j f fd ps sp)(h:j≤k):
  FnOk P w K mg base CX k f fd ps sp:=⟨F.len,λA outer s H args us vs Q E hr=>F.run A outer s H args us vs Q E (hr.mono h)⟩
theorem FnOk.imp{P:Program}{w:World}{K:Y02}{mg:Str->Option Value}{base:Heap}{CX:CXT}{k:Nat}{f:Addr}{fd:FuncData}{ps:List Str}{sp sp':Sp}(F:FnOk P w K mg base CX k f fd ps sp)
  (h:∀vs H Q E,sp' vs H Q E->sp vs H Q E):FnOk P w K mg base CX k f fd ps sp':=
 ⟨λvs H Q E q=>F.len vs H Q E (h _ _ _ _ q),λA outer s H args us vs Q E hr he hb hv hs=>F.run A outer s H args us vs Q E hr he hb hv (h _ _ _ _ hs)⟩
theorem Env0.make{P:Program}{w:World}{K:Y02}{mg:Str->Option Value}{base:Heap}{A:Around}{outer:List Env}{s:Shared}{H:Hp}(e:Env0 P w K mg base A outer s H)(C:Addr)(us:List Value)(kw:List (Str×Value)):
  Env0 P w K mg base (A.under (.builtin "type.__call__" ⟨.ref C::us,kw⟩)) outer s H:=⟨by first|exact e.frames|(simpa [Y3Y,Code.envs,Code.isFrame,pushEnvs]using e.frames),e.mod,e.bs,e.bsz,e.funs,e.frf,e.hok,e.bare⟩
theorem Env0.in1{P:Program}{w:World}{K:Y02}{mg:Str->Option Value}{base:Heap}{A:Around}{outer:List Env}{s:Shared}{H:Hp}(e:Env0 P w K mg base A outer s H):
  Env0 P w K mg base A.in1 outer s H:=⟨e.frames,e.mod,e.bs,e.bsz,e.funs,e.frf,e.hok,e.bare⟩
section
variable{X:Cx}{pins:List (Addr×Obj)}{σ:St}{H:Hp}{s s':Shared}
theorem Inv.env0(I:Inv X pins σ H s):Env0 X.prog X.w X.K X.mg X.base X.A X.stack s H:=
 ⟨I.ok.frames,I.ok.mod,I.bs,Y0M I.ok.bsz I.sz,I.stack,I.stkFree,I.hok,I.bare⟩
theorem Inv.after{Q:VK}{u:Value}(I:Inv X pins σ H s)(h:CE X.stack X.prog X.w H s Q u s'):EP X pins σ Q u s':=by
 obtain⟨v,H',os,bare,un,hok,r,q⟩:=h
 obtain⟨hh,g,d,t,os'⟩:=s'
 obtain rfl:os'=s.os:=os
 exact⟨v,H',I.call (h':=hh) (g':=g) (d':=d) (t':=t) (ch:=[]) un hok bare (λb z=>absurd z (by simp)),r,q⟩
end
def ZoG(sp:Sp)(dvs:List V)(E:XK)(t:TA):TE:=λσ H Q=>t σ H λvs H1=>sp (vs++dvs) H1 Q E
def Binds(K:Y02)(fd:FuncData)(ps:List Str)(ds:List Value):Prop:=
 ∀(s:Shared) (us:List Value),K.In s.heap->(us++ds).length=ps.length->BindsTo s fd ⟨us,[]⟩ (ps.zip (us++ds))
theorem Binds.all{K:Y02}{fd:FuncData}{ps:List Str}(h:∀us:List Value,us.length=ps.length->bindArgs fd ⟨us,[]⟩=pure (ps.zip us)):Binds K fd ps []:=λs us _ hl=>by
 rw[Y2i]at hl ⊢
 exact .of_eq (h us hl)
def Zi0(CX:CXT)(X:Cx)(E:XK):Prop:=∀(pins:List (Addr×Obj)) (σ:St) (H:Hp) (s:Shared) (e:Value) (s':Shared),Inv X pins σ H s->CX X.stack H s E e s'->X.xe e s'
section
variable{X:Cx}{CX:CXT}{k:Nat}{f C:Addr}{fd:FuncData}{ps:List Str}{sp:Sp}{dvs:List V}{ds:List Value}{E:XK}{x m:Str}{p pos apos:Pos}{e o:Expr}{es:List Expr}{ta:TE}{t:TA}
theorem ZmF{pins:List (Addr×Obj)}{σ:St}{H:Hp}{s:Shared}{Q:VK}{us:List Value}{vs:List V}(F:FnOk X.prog X.w X.K X.mg X.base CX k f fd ps sp)(hr:Room k X.A)(hb:Binds X.K fd ps ds)(hd:Vals dvs ds)(hx:Zi0 CX X E)
  (I:Inv X pins σ H s) (r:Vals vs us) (h:sp (vs++dvs) H Q E):wpAny (model X.prog X.w) X.A (call (.ref f) us) (EP X pins σ Q) X.xe s:=by
 have r2:Vals (vs++dvs) (us++ds):=r.append hd
 have hl:(us++ds).length=ps.length:=by rw[<- r2.length];exact F.len _ _ _ _ h
 refine wpAny_call (codeAny_mono (F.run X.A X.stack s H ⟨us,[]⟩ (us++ds) (vs++dvs) Q E hr I.env0 (hb s us I.kIn hl) r2 h) λr s' hq=>?_)
 cases r with
 |error e=>exact hx pins σ H s e s' I hq
 |ok fl=>
  cases fl with
  |ret u=>exact I.after hq
  |next=>exact Y1c hq
  |brk=>exact Y1c hq
  |cont=>exact Y1c hq
theorem Zl0(F:FnOk X.prog X.w X.K X.mg X.base CX k f fd ps sp)(hr:Room k X.A)(hg:Gl X x)(hm:X.mg x=some (.ref f))(hk:Y0a X.K (.ref f)=true)(hb:Binds X.K fd ps ds)(hd:Vals dvs ds)(hx:Zi0 CX X E)
  (ha:PA X (e::es) t) (hdb:(x==("__debug__":Str))=false:=by decide) (he:starEach (e::es) X.env=(false,eval e X.env)::starEach es X.env:=by rfl) (hpl:(backTo pos (starEach es X.env)).any (·.1)=false:=by rfl):
  PE X (.Call (.Name x p) (e::es) [] pos) (ZoG sp dvs E t):=by
 intro pins s σ H Q I h
 refine wpAny_Call_Name_kw (ZgT I hg hm ?_ hdb)
 refine PySem.W.callWith_K (h₀:=X.base) I.ok.mod.kin hk (thn (ha pos pins s σ H _ I h) λus s1 ⟨vs,H1,I1,r,q⟩=>⟨I1.kIn,?_⟩) he hpl
 exact ZmF F hr hb hd hx I1 r q
structure Mk (K:Y02) (C f:Addr):Prop where
 makes:PySem.W.makesIn K C=true
 init:Y1T K (.ref C) "__init__"=some (some (.ref f))
 fn:PySem.W.isFn K (.ref f)=true
 kp:Y0a K (.ref C)=true
end
section
variable{X:Cx}{CX:CXT}{k:Nat}{f C:Addr}{fd:FuncData}{ps ks:List Str}{sp:Sp}{E:XK}{x m:Str}{p pos apos kpos:Pos}{e o:Expr}{es:List Expr}{kws:List Keyword}{te ta:TE}{t tk:TA}{nm:Option Str}
structure KBinds (K:Y02) (fd:FuncData) (ps ks:List Str) (g:List Value->List Value->List Value) (gV:List V->List V->List V):Prop where
 to:∀(s:Shared) (us ws:List Value),K.In s.heap->(g us ws).length=ps.length->BindsTo s fd ⟨us,ks.zip ws⟩ (ps.zip (g us ws))
 rel:∀{vs:List V} {us:List Value} {zs:List V} {ws:List Value},Vals vs us->Vals zs ws->Vals (gV vs zs) (g us ws)
variable{g:List Value->List Value->List Value}{gV:List V->List V->List V}
end
structure FnScope (N P:List Str) (sc:Scope):Prop where
 kind:sc.kind=.function
 co:sc.isCoroutine=false
 gen:sc.isGenerator=false
 nd:N.Nodup
 pre:N.take P.length=P
 par:∀x∈P,sc.names.lookup x=some .local\/sc.names.lookup x=some .cell
 nofree:∀y∈sc.names,y.2≠.free
theorem Zd3{kindOf:Str->Option NameKind}{x:Str}:∀{binds:List (Str×Value)} {m:Str->Option Value},(∀v,(x,v)∉binds)->bindL kindOf binds m x=m x
 |[],_,_=>rfl
 |(n,v)::r,m,h=>by
  unfold bindL
  rw[Zd3 λw hw=>h w (Y0n _ hw)]
  split
  ·have:x≠n:=by rintro rfl;exact h v Y0v
   simp[this]
  ·rfl
theorem Zd5{kindOf:Str->Option NameKind}{x:Str}:∀{binds:List (Str×Value)} {m:Str->Option Value},(∀v,(x,v)∉binds)->bindC kindOf binds m x=m x
 |[],_,_=>rfl
 |(n,v)::r,m,h=>by
  unfold bindC
  rw[Zd5 λw hw=>h w (Y0n _ hw)]
  split
  ·rfl
  ·have:x≠n:=by rintro rfl;exact h v Y0v
   simp[this]
theorem Zd4{kindOf:Str->Option NameKind}{x:Str}{v:Value}:∀{P:List Str} {vs:List Value} {i:Nat} {m:Str->Option Value},P.Nodup->P[i]?=some x->vs[i]?=some v->kindOf x=some .local->
  bindL kindOf (P.zip vs) m x=some v
 |[],_,_,_,_,h,_,_=>by simp at h
 |_::_,[],_,_,_,_,h,_=>by simp at h
 |p::P,w::vs,0,m,nd,h1,h2,hk=>by
  simp at h1 h2;subst h1;subst h2
  show bindL kindOf ((p,w)::P.zip vs) m p=_
  unfold bindL
  rw[Zd3 λv hv=>(Y11.mp nd).1 (Y3n hv).1,if_pos hk]
  simp
 |p::P,w::vs,i+1,m,nd,h1,h2,hk=>by
  show bindL kindOf ((p,w)::P.zip vs) m x=_
  unfold bindL
  exact Zd4 (i:=i) (Y11.mp nd).2 (by simpa using h1) (by simpa using h2) hk
theorem Zd6{kindOf:Str->Option NameKind}{x:Str}{v:Value}:∀{P:List Str} {vs:List Value} {i:Nat} {m:Str->Option Value},P.Nodup->P[i]?=some x->vs[i]?=some v->kindOf x≠some .local->
  bindC kindOf (P.zip vs) m x=some v
 |[],_,_,_,_,h,_,_=>by simp at h
 |_::_,[],_,_,_,_,h,_=>by simp at h
 |p::P,w::vs,0,m,nd,h1,h2,hk=>by
  simp at h1 h2;subst h1;subst h2
  show bindC kindOf ((p,w)::P.zip vs) m p=_
  unfold bindC
  rw[Zd5 λv hv=>(Y11.mp nd).1 (Y3n hv).1,if_neg hk]
  simp
 |p::P,w::vs,i+1,m,nd,h1,h2,hk=>by
  show bindC kindOf ((p,w)::P.zip vs) m x=_
  unfold bindC
  exact Zd6 (i:=i) (Y11.mp nd).2 (by simpa using h1) (by simpa using h2) hk
def Zaa(N:List Str)(vs:List V):St:=vs.map some++Y0l (N.length - vs.length) none
def cxOf(CX:CXT)(P:Program)(w:World)(K:Y02)(mg:Str->Option Value)(base:Heap)(N:List Str)(qual:Str)(scope:Scope)(f:Addr)(cd:Value)(A:Around)(outer:List Env)(s:Shared)(H:Hp)(E:XK):Cx where
 prog:=P
 w:=w
 K:=K
 mg:=mg
 base:=base
 A:=A.deeper (envOfC qual scope s.heap.objs.size f cd)
 N:=N
 s₀:=s
 H₀:=H
 env:=envOfC qual scope s.heap.objs.size f cd
 outer:=outer
 stack:=envOfC qual scope s.heap.objs.size f cd::outer
 ex:=[]
 calm:=true
 fn:=λ_=>true
 pn:=[]
 xe:=λe s'=>wpAny (model P w) (A.deeper (envOfC qual scope s.heap.objs.size f cd)) (leaving (envOfC qual scope s.heap.objs.size f cd) e) (λ_ s''=>CX outer H s E e s'') (λe' s''=>CX outer H s E e' s'') s'
theorem Zf0{sc:Scope}{n:Nat}{x:Str}(h:sc.names.lookup x=some .cell):∃c,(cellsFrom n sc.names []).lookup x=some c:=by
 have q:=Y3d sc.names n [] (.inl h)
 exact Option.isSome_iff_exists.mp q
theorem Zhb{CX:CXT}{P:Program}{w:World}{K:Y02}{mg:Str->Option Value}{base:Heap}{N ps:List Str}{qual:Str}{scope:Scope}{f:Addr}{cd:Value}{A:Around}{outer:List Env}{s s1:Shared}{H:Hp}{E:XK}{us:List Value}{vs:List V}
  (S:FnScope N ps scope) (hd:A.handled=none) (e0:Env0 P w K mg base A outer s H) (hl:vs.length=ps.length) (r:Vals vs us)
  (x:InCallC s s.heap.objs.size (bindL (envOfC qual scope s.heap.objs.size f cd).kindOf (ps.zip us) λ_=>none) (cellsFrom (s.heap.objs.size+1) scope.names []) (bindC (envOfC qual scope s.heap.objs.size f cd).kindOf (ps.zip us) λ_=>none) s1):
  Inv (cxOf CX P w K mg base N qual scope f cd A outer s H E) [] (Zaa N vs) H s1:=by
 have hpl:ps.length≤N.length:=by have:=congrArg Y31 S.pre;rw[Y0J]at this;lia
 obtain⟨h1,tk,rfl,hk⟩:=x.done
 have noA:∀b:Addr,b∉(cxOf CX P w K mg base N qual scope f cd A outer s H E).ex:=λb z=>absurd (show b∈([]:List Addr)from z) (by simp)
 refine⟨⟨e0.mod,S.kind,rfl,rfl,Y0b _,λy z c h1 h2=>?_,λy hy=>?_,λy c _ h=>?_,λ_=>hd,Around.frames_deeper e0.frames,.inr ⟨rfl,rfl⟩,λb z=>absurd z (noA b),e0.bs,e0.bsz,λb _ _=>noA b,λb z=>absurd z (noA b),e0.funs,e0.frf⟩,
  rfl,e0.bare,Un.kept hk,⟨_,x.toInCall.ns,λi y v h1 h2 h3=>?_⟩,λy c h=>⟨_,x.cell y c h⟩,e0.hok.fresh (Y0b _),λy c h=>?_,λp hp=>absurd (show p∈([]:List (Addr×Obj))from hp) (by simp),e0.hok.kept hk,?_⟩
 ·exact name_of_addr x.apart (Y1w h1) (Y1w h2)
 ·have hy:scope.names.lookup y=some .cell\/scope.names.lookup y=some .free:=hy
  rcases hy with hy|hy
  ·exact Zf0 hy
  ·exact absurd rfl (S.nofree _ (Y1w hy))
 ·exact Y3l (x.above y c (Y1w h))
 ·have hi:i<vs.length:=by
   unfold Zaa at h2
   by_cases hi:i<vs.length
   ·exact hi
   ·rw[Y0E (by simpa using hi)]at h2
    rw[Y32]at h2
    split at h2<;>cases h2
  have ha:vs[i]?=some v:=by
   unfold Zaa at h2
   rw[Y0P (by simpa using hi),Y06]at h2
   cases e:vs[i]? with
   |none=>rw[e]at h2;cases h2
   |some a=>rw[e]at h2;cases h2;rfl
  obtain⟨u,hu,rv⟩:=r.get ha
  have hp:ps[i]?=some y:=by
   rw[<- S.pre,List.getElem?_take_of_lt (by lia)];exact h1
  have ndP:ps.Nodup:=by rw[<- S.pre];exact S.nd.sublist (List.take_sublist _ _)
  refine⟨u,rv,?_⟩
  rcases S.par y (Y08 hp)with k|k
  ·exact .inl ⟨k,Zd4 ndP hp hu k⟩
  ·obtain⟨c,e⟩:=Zf0 (n:=s.heap.objs.size+1) k
   refine .inr ⟨.inl k,c,e,?_⟩
   have q:=x.cell y c e
   rw[Zd6 ndP hp hu (by show scope.names.lookup y≠_;rw[k];decide)]at q
   exact q
 ·exact e0.hok.fresh (Y3l (x.above y c (Y1w h)))
 ·unfold Zaa
  show _=N.length
  rw[Y0D,Y01,Y0R]
  lia
theorem Zqa{CX:CXT}{P:Program}{w:World}{K:Y02}{mg:Str->Option Value}{base:Heap}{k:Nat}{f:Addr}{name qual:Str}{params:Arguments}{body:List Stmt}{scope:Scope}{dV kV doc pm cdv ct oc:Value}{an od:Option Addr}
  {osl:Array (Option Value)} {N ps:List Str} {sp:Sp} (lk:K.lookup f=some ⟨oc,od,.func (Y04 name qual params body scope dV kV doc pm an cdv ct),osl⟩) (hcd:Y0d K cdv qual=true) (S:FnScope N ps scope)
  (len:∀vs H Q E,sp vs H Q E->vs.length=ps.length)
  (hbody:∀(A:Around) (outer:List Env) (s:Shared) (H:Hp) (vs:List V) (Q:VK) (E:XK),Room k (A.deeper (envOfC qual scope s.heap.objs.size f cdv))->sp vs H Q E->
   ∃t,PSs (cxOf CX P w K mg base N qual scope f cdv A outer s H E) body t/\t {nx:=λ_ H'=>Q .non H',rt:=Q} (Zaa N vs) H):
  FnOk P w K mg base CX (k+1) f (Y04 name qual params body scope dV kV doc pm an cdv ct) ps sp:=by
 refine⟨len,λA outer s H args us vs Q E hr e0 hb r hsp=>?_⟩
 have hl:=len _ _ _ _ hsp
 have KX:K.In s.heap:=e0.mod.kin.keeps λb o e=>(e0.bs b o e).1
 have lim:s.heap.NoLimit:=e0.mod.nolimit.keeps λb o e=>(e0.bs b o e).1
 have hkind:∀y∈ps.zip us,scope.names.lookup y.1=some .local\/(scope.names.lookup y.1=some .cell/\((cellsFrom (s.heap.objs.size+1) scope.names []).lookup y.1).isSome=true):=fun⟨n,v⟩ hy=>by
  rcases S.par n (Y3n hy).1 with q|q
  ·exact .inl q
  ·exact .inr ⟨q,Y3d _ _ _ (.inl q)⟩
 refine codeAny_call_function hr.depth (KX _ _ lk) rfl S.co S.gen rfl (PySem.W.codeRec_of KX hcd) (hb _ _ _ _ ?_)
 refine wpAny_newFunctionEnv_cells S.kind hkind λenv he s1 x=>?_
 subst he
 refine⟨lim.keeps x.toInCall.keep,codeAny_func ?_⟩
 obtain⟨t,ht,hq⟩:=hbody A outer s H vs Q E (hr.deeper _) hsp
 have I:Inv (cxOf CX P w K mg base N qual scope f cdv A outer s H E) [] (Zaa N vs) H s1:=Zhb S hr.hd e0 hl r x
 refine wpAny_mono (ht [] s1 (Zaa N vs) H _ I hq) (λfl s' hs=>?_) λe s' hs=>hs
 have fin:∀{σ':St} {H':Hp} {v:V} {u:Value},Inv (cxOf CX P w K mg base N qual scope f cdv A outer s H E) [] σ' H' s'->RelV v u->Q v H'->CE outer P w H s Q u s':=
  fun{σ' H' v u} J rv q=>⟨v,H',J.os,J.bare,J.base,J.hok,rv,q⟩
 cases fl with
 |ret u=>
  obtain⟨v,σ',H',J,rv,q⟩:=hs
  exact fin J rv q
 |next=>
  obtain⟨σ',H',J,q⟩:=hs
  exact fin (v:=V.non) (u:=Y0o) J rfl q
 |brk=>
  obtain⟨_,_,_,q⟩:=hs
  exact Y1c q
 |cont=>
  obtain⟨_,_,_,q⟩:=hs
  exact Y1c q
end L2
namespace L2
open PySem PySem.Spec PyProof.Rows
section
variable{X:Cx}{x:Str}{p pos:Pos}{e:Expr}{es:List Expr}{t:TA}{id T:String}{r:List V->Hp->VK->Prop}
def tCB(r:List V->Hp->VK->Prop)(t:TA):TE:=λσ H Q=>t σ H λvs H1=>r vs H1 Q
theorem ZiA(hc:CallR X (.builtin id) r)(hg:Gl X x)(hm:X.mg x=none)(hv:bootBuiltins x=some (.builtin id))(ha:PA X (e::es) t)(hn:x≠"__name__":=by decide)(hdb:(x==("__debug__":Str))=false:=by decide)
  (he:starEach (e::es) X.env=(false,eval e X.env)::starEach es X.env:=by rfl) (hpl:(backTo pos (starEach es X.env)).any (·.1)=false:=by rfl):PE X (.Call (.Name x p) (e::es) [] pos) (tCB r t):=by
 intro pins s σ H Q I h
 refine wpAny_Call_Name_kw (Z4o I hg hm hv ?_ hn hdb)
 exact Y2s (thn (ha pos pins s σ H _ I h) λus s1 ⟨vs,H1,I1,r1,q1⟩=>hc pins s1 σ H1 vs us Q I1 r1 q1) he hpl
theorem ZgC(hc:CallR X (.type T) r)(hg:Gl X x)(hm:X.mg x=none)(hv:bootBuiltins x=some (.type T))(ha:PA X (e::es) t)(hn:x≠"__name__":=by decide)(hdb:(x==("__debug__":Str))=false:=by decide)
  (he:starEach (e::es) X.env=(false,eval e X.env)::starEach es X.env:=by rfl) (hpl:(backTo pos (starEach es X.env)).any (·.1)=false:=by rfl):PE X (.Call (.Name x p) (e::es) [] pos) (tCB r t):=by
 intro pins s σ H Q I h
 refine wpAny_Call_Name_kw (Z4o I hg hm hv ?_ hn hdb)
 exact Y10 (thn (ha pos pins s σ H _ I h) λus s1 ⟨vs,H1,I1,r1,q1⟩=>hc pins s1 σ H1 vs us Q I1 r1 q1) he hpl
end
end L2
namespace HT
open PySem PyProof.Rows
section
open PySem.SeqAt
open PySem.AutoSeq1 (wpAny_loadPart')
open PySem.MeetsSeq PySem.MeetsSeq2 PySem.MeetsSeq3
end
section
variable{prog:Program}{w:World}{A:Around}{E:Value->Shared->Prop}{s:Shared}
theorem cat_tup{t b:Addr}{vs ws:List Value}{Q:Value->Shared->Prop}(ht:IsTup s.heap t vs.toArray)(hb:IsTup s.heap b ws.toArray)(hv:vs≠ [])
  (h1:ws=[]->Q (.ref t) s) (h2:ws≠ []->Q (.ref s.heap.objs.size) {s with heap:=s.heap.push {cls:=.type "tuple",data:=.seq (vs++ws).toArray} })
  (hsz:vs.length+ws.length≤sizeLine):wpAny (model prog w) A (binaryOp .Add (.ref t) (.ref b)) Q E s:=by
 obtain⟨⟨cls,dd,data,sl⟩,ho,hc,n,hd⟩:=id ht
 obtain⟨⟨cls2,dd2,data2,sl2⟩,ho2,hc2,n2,hd2⟩:=id hb
 simp only at hc hd hc2 hd2
 subst hc hd hc2 hd2
 have e:vs.toArray++ws.toArray=(vs++ws).toArray:=by simp
 by_cases hw:ws=[]
 ·exact concat_meets ⟨_,ho,rfl⟩ ⟨_,ho2,rfl⟩ noFill_tuple_add seq_tuple_add Y3e Y33 (Y2P _ _)
   (tuple_addW1 t b vs.toArray ws.toArray n n2 dd dd2 sl sl2 (by simpa using hv) (by simp[hw])) ⟨ho,ho2,h1 hw⟩
 ·refine concat_meets ⟨_,ho,rfl⟩ ⟨_,ho2,rfl⟩ noFill_tuple_add seq_tuple_add Y3e Y33 (Y2P _ _)
   (tuple_addW2 t b vs.toArray ws.toArray n n2 dd dd2 sl sl2 (by simpa using hv) (by simpa using hw) (by rw[Y0g,Y0g];exact hsz)) ⟨ho,ho2,?_⟩
  rw[e]
  exact h2 hw
def sIx(n d:Nat):Option Int->Nat
 |none=>d
 |some v=>if v<0 then(v+(n:Int)).toNat else min v.toNat n
theorem sIx_none(n d:Nat):sIx n d none=d:=rfl
theorem sIx_nat(n d k:Nat):sIx n d (some (k:Int))=min k n:=by
 show(if(k:Int)<0 then((k:Int)+(n:Int)).toNat else min (k:Int).toNat n)=min k n
 rw[if_neg (by lia),Y1H]
theorem ZmE(n d:Nat)(hd:d≤n)(o:Option Int):sIx n d o≤n:=by
 cases o with
 |none=>exact hd
 |some v=>
  show(if v<0 then(v+(n:Int)).toNat else min v.toNat n)≤n
  by_cases hv:v<0
  ·rw[if_pos hv];lia
  ·rw[if_neg hv];exact Nat.min_le_right _ _
theorem ZhE(v:Int)(n d:Nat):(if v<0 then max (v+(n:Int)) 0 else min v (n:Int))=((sIx n d (some v):Nat):Int):=by
 show(if v<0 then max (v+(n:Int)) 0 else min v (n:Int))=(((if v<0 then(v+(n:Int)).toNat else min v.toNat n):Nat):Int)
 by_cases hv:v<0
 ·simp only[if_pos hv];lia
 ·simp only[if_neg hv];lia
theorem ZfS(lo hi:Option Int)(n:Nat):Y28 lo hi 1 (n:Int)=(((sIx n 0 lo:Nat):Int),((sIx n n hi:Nat):Int)):=by
 have h1:¬((1:Int)<0):=by lia
 unfold Y28
 simp only[h1,if_false]
 refine Prod.ext ?_ ?_
 ·cases lo with
  |none=>rfl
  |some v=>exact ZhE v n 0
 ·cases hi with
  |none=>rfl
  |some v=>exact ZhE v n n
theorem Zfi(i j:Nat):Y1C (i:Int) (j:Int) 1=j - i:=by
 unfold Y1C
 have h1:(1:Int)>0:=by lia
 simp only[h1,if_true,Int.ediv_one]
 split<;>lia
theorem ZaI{v:Value}{o:Option Int}{Q:Option Int->Shared->Prop}(p:IsPart v o)(h:Q o s):wpAny (model prog w) A (Builtin.Slice.slicePartIndex v) Q E s:=by
 cases p with
 |none=>exact slicePart_none h
 |int i t=>exact slicePart_int h
theorem Z8G{sl:Addr}{vl vu:Value}{lo hi:Option Int}{n:Nat}{Q:Int×Int×Nat->Shared->Prop}(hs:s.heap.IsSliceOf sl vl vu .none)(pl:IsPart vl lo)(pu:IsPart vu hi)
  (h:Q (((sIx n 0 lo:Nat):Int),1,sIx n n hi - sIx n 0 lo) s):wpAny (model prog w) A (Y2F (.ref sl) (pure (n:Int))) Q E s:=by
 obtain⟨os,hos,hcs,hds⟩:=id hs
 unfold Y2F Builtin.Slice.sliceFields
 refine wpAny_bind (wpAny_bind (wpAny_field hos hds (x:=vl) rfl (wpAny_bind (wpAny_field hos hds (x:=vu) rfl (wpAny_bind (wpAny_field hos hds (x:=.none) rfl (wpAny_pure ?_)))))))
 refine wpAny_bind (slicePart_none ?_)
 show wpAny _ _ (if((1:Int)==0)=true then _ else _) _ _ s
 rw[if_neg (by decide)]
 refine wpAny_bind (ZaI pl (wpAny_bind (ZaI pu (wpAny_bind (wpAny_pure ?_)))))
 show wpAny _ _ (match Y28 lo hi 1 (n:Int)with|(lo,hi)=>pure (lo,(1:Int),Y1C lo hi 1)) _ _ s
 rw[ZfS lo hi n]
 show wpAny _ _ (pure (((sIx n 0 lo:Nat):Int),(1:Int),Y1C ((sIx n 0 lo:Nat):Int) ((sIx n n hi:Nat):Int) 1)) _ _ s
 rw[Zfi]
 exact wpAny_pure h
theorem Zit(xs:Array Value)(i k:Nat):((Y0U k).filterMap fun(m:Nat)=>xs[((i:Int)+(m:Int)*1).toNat]?).toArray=((xs.toList.drop i).take k).toArray:=by
 have e:(fun(m:Nat)=>xs[((i:Int)+(m:Int)*1).toNat]?)=λm=>xs[i+m]?:=by
  funext m
  have:((i:Int)+(m:Int)*1).toNat=i+m:=by lia
  rw[this]
 rw[e]
 have:=pick_run xs i k
 rw[List.filterMap_map]at this
 have e2:((λx=>xs[x]?)∘ λx=>i+x)=λm=>xs[i+m]?:=rfl
 rw[e2]at this
 rw[this]
theorem getItem_tuple_cut{t sl:Addr}{items:Array Value}{vl vu:Value}{lo hi:Option Int}{Q:Value->Shared->Prop}(ht:IsTup s.heap t items)(hs:s.heap.IsSliceOf sl vl vu .none)(pl:IsPart vl lo)(pu:IsPart vu hi)
  (hw:¬(sIx items.size 0 lo=0/\sIx items.size items.size hi=items.size))
  (h:Q (.ref s.heap.objs.size) {s with heap:=s.heap.push {cls:=.type "tuple",data:=.seq ((items.toList.drop (sIx items.size 0 lo)).take (sIx items.size items.size hi - sIx items.size 0 lo)).toArray} })
  (hsz:items.size≤sizeLine):wpAny (model prog w) A (getItem (.ref t) (.ref sl)) Q E s:=by
 have htake:sizeOk (.seq ((items.toList.drop (sIx items.size 0 lo)).take (sIx items.size items.size hi - sIx items.size 0 lo)).toArray):=by
  show((items.toList.drop (sIx items.size 0 lo)).take (sIx items.size items.size hi - sIx items.size 0 lo)).toArray.size≤sizeLine
  rw[Y0g,Y0J,Y2b,Y0k]
  lia
 have hj:sIx items.size items.size hi≤items.size:=ZmE _ _ (Y0b _) hi
 obtain⟨os,hos,hcs,hds⟩:=id hs
 have hTs:s.TypeIs (.ref sl) "slice":=⟨os,hos,hcs⟩
 unfold getItem
 try with_reducible refine wpAny_holding ?_
 first|refine wpAny_bind (wpAny_pure ?_)|skip
 refine wpAny_bind (wpAny_sequenceKey ht.typeIs (by decide) ?_)
 refine wpAny_bind (wpAny_callSpecial?_slot (name:=Y0Z "__getitem__") ht.typeIs Y1I
  (wpAny_call_entry Y1I ht.typeIs entry_tuple_getitem ?_ (args_tuple_getitem _ _)))
 show wpAny _ _ (Builtin.Tuple.tupleItemsOf (.ref t)>>= _) _ _ s
 refine wpAny_bind (tupleItemsOf_ ht ?_)
 refine wpAny_bind (wpAny_typeOf hTs ?_)
 rw[if_pos (by decide)]
 refine wpAny_bind (Z8G hs pl pu ?_)
 have hno:¬((((sIx items.size 0 lo:Nat):Int)==0&&(1:Int)==1&&(sIx items.size items.size hi - sIx items.size 0 lo)==items.size)=true):=by
  intro q
  rw[Y0H,Y0H]at q
  have q1:((sIx items.size 0 lo:Nat):Int)=0:=eq_of_beq q.1.1
  have q2:sIx items.size items.size hi - sIx items.size 0 lo=items.size:=eq_of_beq q.2
  exact hw ⟨by lia,by lia⟩
 show wpAny _ _ (if(((sIx items.size 0 lo:Nat):Int)==0&&(1:Int)==1&&(sIx items.size items.size hi - sIx items.size 0 lo)==items.size)=true then _ else _) _ _ s
 rw[if_neg hno,Zit]
 first
  |exact wpAny_bind (m:=Y1J _) (wpAny_newObj_type (wpAny_pure ⟨_,rfl,wpAny_pure h⟩) htake)
  |exact wpAny_bind (m:=Y1J _) (wpAny_newObj_type (wpAny_bind (wpAny_pure (wpAny_pure ⟨_,rfl,wpAny_pure h⟩))) htake)
  |exact wpAny_bind (wpAny_bind (m:=Y1J _) (wpAny_newObj_type (wpAny_pure (wpAny_pure ⟨_,rfl,wpAny_pure h⟩)) htake))
  |exact wpAny_bind (wpAny_bind (m:=Y1J _) (wpAny_newObj_type (wpAny_pure ⟨_,rfl,wpAny_pure h⟩) htake))
end
end HT
namespace L2
open PySem PySem.Spec PyProof.Rows
abbrev TO:=St->Hp->(Option Int->Hp->Prop)->Prop
def PO(X:Cx)(e:Option Expr)(t:TO):Prop:=
 ∀(pins:List (Addr×Obj)) (s:Shared) (σ:St) (H:Hp) (Q:Option Int->Hp->Prop),Inv X pins σ H s->t σ H Q->
  wpAny (model X.prog X.w) X.A (evalPart e X.env) (λu s'=>∃o H',Inv X pins σ H' s'/\IsPart u o/\Q o H') X.xe s
def Zko:TO:=λ_ H Q=>Q none H
def ZoC(t:TE):TO:=λσ H Q=>t σ H λx H1=>∃i,x=.int i/\Q (some i) H1
theorem Z7L{ns:List Int}:∀{us:List Value},Vals (ns.map V.int) us->IntsAre us ns:=by
 induction ns with
 |nil=>intro us r;rw[Y0N]at r;cases r;exact .nil
 |cons n ns ih=>
  intro us r
  rw[Y0h]at r
  cases r with
  |cons r1 r2=>
   obtain⟨t,e⟩:=r1
   subst e
   exact .cons n t (ih r2)
section
variable{X:Cx}{e:Expr}{te:TE}{lo hi:Option Expr}{tl th:TO}{pos p2:Pos}
theorem ZkT:PO X none Zko:=by
 intro pins s σ H Q I h
 rw[evalPart_none]
 exact wpAny_pure ⟨none,H,I,.none,h⟩
theorem ZkS(h:PE X e te):PO X (some e) (ZoC te):=by
 intro pins s σ H Q I hw
 rw[evalPart_some]
 refine thn (h pins s σ H _ I hw) λu s1 ⟨x,H1,I1,r1,q1⟩=>?_
 obtain⟨i,rfl,q⟩:=q1
 obtain⟨t,rfl⟩:=r1
 exact⟨some i,H1,I1,.int i t,q⟩
def SlR(X:Cx)(r:V->Option Int->Option Int->Hp->VK->Prop):Prop:=
 ∀(pins:List (Addr×Obj)) (s:Shared) (σ:St) (H:Hp) (x:V) (v vl vu:Value) (lo hi:Option Int) (sl:Addr) (Q:VK),Inv X pins σ H s->RelV x v->s.heap.IsSliceOf sl vl vu .none->IsPart vl lo->IsPart vu hi->r x lo hi H Q->
  ∃T id,typeLookup (.type T) "__getitem__"=pure (some (.builtin id))/\s.TypeIs v T/\wpAny (model X.prog X.w) X.A (getItem v (.ref sl)) (EP X pins σ Q) X.xe s
theorem SlR.or{r r':V->Option Int->Option Int->Hp->VK->Prop}(h:SlR X r)(h':SlR X r'):SlR X (λx lo hi H Q=>r x lo hi H Q\/r' x lo hi H Q):=by
 intro pins s σ H x v vl vu lo hi sl Q I rx hs pl pu q
 rcases q with q|q
 ·exact h pins s σ H x v vl vu lo hi sl Q I rx hs pl pu q
 ·exact h' pins s σ H x v vl vu lo hi sl Q I rx hs pl pu q
def tSl(r:V->Option Int->Option Int->Hp->VK->Prop)(te:TE)(tl th:TO):TE:=λσ H Q=>te σ H λx H1=>tl σ H1 λl H2=>th σ H2 λu H3=>r x l u H3 Q
theorem Ziw{r:V->Option Int->Option Int->Hp->VK->Prop}(hr:SlR X r)(he:PE X e te)(hl:PO X lo tl)(hu:PO X hi th):PE X (.Subscript e (.Slice lo hi none p2) pos) (tSl r te tl th):=by
 intro pins s σ H Q I h
 refine Subscript_ (thn (he pins s σ H _ I h) λv s1 ⟨x,H1,I1,r1,q1⟩=>?_)
 refine wpAny_Slice (thn (hl pins s1 σ H1 _ I1 q1) λvl s2 ⟨l,H2,I2,pl,q2⟩=>thn (hu pins s2 σ H2 _ I2 q2) λvu s3 ⟨u,H3,I3,pu,q3⟩=>?_)
 rw[evalPart_none]
 refine wpAny_pure ?_
 have I4:Inv X pins σ H3 {s3 with heap:=s3.heap.push {cls:=.type "slice",data:=.fields #[vl,vu,.none]} }:=I3.kept (t':=s3.toks) fun b ob q=>Y03 _ q
 obtain⟨T,id,hT,ht,hg⟩:=hr pins {s3 with heap:=s3.heap.push {cls:=.type "slice",data:=.fields #[vl,vu,.none]} } σ H3 x v vl vu l u s3.heap.objs.size Q I4 r1 (Heap.IsSliceOf.new ..) pl pu q3
 show wpAny (model X.prog X.w) X.A (subscriptTail e (.Slice lo hi none p2) v (.ref s3.heap.objs.size)) (EP X pins σ Q) X.xe {s3 with heap:=s3.heap.push {cls:=.type "slice",data:=.fields #[vl,vu,.none]} }
 exact tail_any (ops:=[.ref s3.heap.objs.size,v]) ht hT hg (by with_unfolding_all rfl)
def cutV(xs:List V)(lo hi:Option Int):List V:=(xs.drop (HT.sIx xs.length 0 lo)).take (HT.sIx xs.length xs.length hi - HT.sIx xs.length 0 lo)
theorem Z9V(xs:List V)(lo hi:Option Int):(cutV xs lo hi).length≤xs.length:=by
 unfold cutV
 rw[Y0J,Y2b]
 lia
def rSlT(K:Y02):V->Option Int->Option Int->Hp->VK->Prop:=λx lo hi H Q=>∃a xs,x=.ref a/\SqT K H a xs/\
 ¬(HT.sIx xs.length 0 lo=0/\HT.sIx xs.length xs.length hi=xs.length)/\∀p,H p=none->Q (.ref p) (upd H p (.tup (cutV xs lo hi)))
theorem Zmt:SlR X (rSlT X.K):=by
 intro pins s σ H x v vl vu lo hi sl Q I rx hs pl pu h
 obtain⟨a,xs,rfl,hx,hw,q⟩:=h
 cases rx
 obtain⟨its,r,ht,hz⟩:=I.tuple hx
 have hlen:its.toArray.size=xs.length:=by rw[Y0g];exact r.length.symm
 refine⟨"tuple",_,Y1I.lookup,ht.typeIs,?_⟩
 refine HT.getItem_tuple_cut ht hs pl pu (by rw[hlen];exact hw) ?_ (by rw[hlen];exact hz)
 rw[hlen]
 refine⟨.ref s.heap.objs.size,_,I.laid (t':=s.toks) (o:=.tup (cutV xs lo hi)) (λb ob q=>Y03 _ q) (Y0b _) ?_,rfl,q _ (I.hok.fresh (Y0b _))⟩
 exact⟨Y0M (Z9V xs lo hi) hz,_,(r.drop (HT.sIx xs.length 0 lo)).take (HT.sIx xs.length xs.length hi - HT.sIx xs.length 0 lo),IsTup.new _ _,_,Y0e _ rfl,rfl⟩
def ZoW(K:Y02):R2:=λx y H Q=>∃a b xs ys,x=.ref a/\y=.ref b/\SqT K H a xs/\SqT K H b ys/\xs≠ []/\xs.length+ys.length≤sizeLine/\
 (ys=[]->Q (.ref a) H)/\(ys≠ []->∀p,H p=none->Q (.ref p) (upd H p (.tup (xs++ys))))
theorem Vals.nil_iff{xs:List V}{us:List Value}(r:Vals xs us):us=[]↔xs=[]:=by
 cases r with
 |nil=>simp
 |cons _ _=>simp
theorem Zl7:OpR X (binaryOp .Add) (ZoW X.K):=by
 intro pins s σ H x y v u Q I rx ry h
 obtain⟨a,b,xs,ys,rfl,rfl,ha,hb,hx,hz,q1,q2⟩:=h
 cases rx
 cases ry
 obtain⟨its,r1,p1,_⟩:=I.tuple ha
 obtain⟨its2,r2,p2,_⟩:=I.tuple hb
 refine HT.cat_tup p1 p2 (λz=>hx (r1.nil_iff.mp z)) (λz=>⟨.ref a,H,I,rfl,q1 (r2.nil_iff.mp z)⟩) (λz=>?_) (by rw[<- r1.length,<- r2.length];exact hz)
 refine⟨.ref s.heap.objs.size,_,I.laid (t':=s.toks) (o:=.tup (xs++ys)) (λb ob q=>Y03 _ q) (Y0b _) ?_,rfl,q2 (λw=>z (r2.nil_iff.mpr w)) _ (I.hok.fresh (Y0b _))⟩
 exact⟨by rw[Y0D];exact hz,_,r1.append r2,IsTup.new _ _,_,Y0e _ rfl,rfl⟩
end
end L2
namespace L2
open PySem PySem.Spec PyProof.Rows
def ixN(n:Nat)(i:Int):Option Nat:=if 0≤i then(if i<n then some i.toNat else none)else if -(n:Int)≤i then some (i+n).toNat else none
def atI{α:Type}(xs:List α)(i:Int):Option α:=(ixN xs.length i).bind λj=>xs[j]?
theorem Zh2{n:Nat}{i:Int}{j:Nat}(h:ixN n i=some j):seqIndex? i n=some j/\j<n/\ -(n:Int)≤i/\i<n:=by
 unfold ixN at h
 by_cases h0:0≤i
 ·rw[if_pos h0]at h
  by_cases h1:i<n
  ·rw[if_pos h1]at h
   have e:i.toNat=j:=Y0K h
   exact⟨by rw[seqIndex_of h0 h1,e],by lia,by lia,h1⟩
  ·rw[if_neg h1]at h;cases h
 ·rw[if_neg h0]at h
  by_cases h1:-(n:Int)≤i
  ·rw[if_pos h1]at h
   have e:(i+n).toNat=j:=Y0K h
   exact⟨by rw[seqIndex_neg (by lia) h1,e],by lia,h1,by lia⟩
  ·rw[if_neg h1]at h;cases h
theorem Zeb{α:Type}{xs:List α}{i:Int}{v:α}(h:atI xs i=some v):∃j,seqIndex? i xs.length=some j/\xs[j]?=some v/\j<xs.length/\ -(xs.length:Int)≤i/\i<xs.length:=by
 unfold atI at h
 cases e:ixN xs.length i with
 |none=>rw[e]at h;cases h
 |some j=>
  rw[e]at h
  obtain⟨h1,h2,h3,h4⟩:=Zh2 e
  exact⟨j,h1,h,h2,h3,h4⟩
theorem Z2g{α:Type}{xs:List α}{j:Nat}{v:α}(h:xs[j]?=some v):atI xs (j:Int)=some v:=by
 have hj:j<xs.length:=(Y05.mp h).1
 have e:ixN xs.length (j:Int)=some j:=by
  unfold ixN
  rw[if_pos (by lia),if_pos (by lia)];simp
 unfold atI;rw[e];exact h
def ZhZ(b:Expr):Prop:=∀o i,subscripted b false o i=operate [o,i] (getItem o i)
def IxR(X:Cx)(r:R2):Prop:=
 ∀(value slice:Expr) (pins:List (Addr×Obj)) (s:Shared) (σ:St) (H:Hp) (x y:V) (v u:Value) (Q:VK),Inv X pins σ H s->RelV x v->RelV y u->r x y H Q->
  subscripted slice false v u=operate [v,u] (getItem v u)->wpAny (model X.prog X.w) X.A (subscriptTail value slice v u) (EP X pins σ Q) X.xe s
def MtR(X:Cx)(id:String)(r:V->List V->Hp->VK->Prop):Prop:=
 ∀(pins:List (Addr×Obj)) (s:Shared) (σ:St) (H:Hp) (x:V) (xs:List V) (v:Value) (us:List Value) (Q:VK),Inv X pins σ H s->RelV x v->Vals xs us->r x xs H Q->
  wpAny (model X.prog X.w) X.A (call (.builtin id) (v::us)) (EP X pins σ Q) X.xe s
section
variable{X:Cx}{a b:Expr}{ta tb:TE}{pos:Pos}
theorem IxR.or{r r':R2}(h:IxR X r)(h':IxR X r'):IxR X (λx y H Q=>r x y H Q\/r' x y H Q):=by
 intro value slice pins s σ H x y v u Q I rx ry q hs
 rcases q with q|q
 ·exact h value slice pins s σ H x y v u Q I rx ry q hs
 ·exact h' value slice pins s σ H x y v u Q I rx ry q hs
theorem MtR.or{id:String}{r r':V->List V->Hp->VK->Prop}(h:MtR X id r)(h':MtR X id r'):MtR X id (λx xs H Q=>r x xs H Q\/r' x xs H Q):=by
 intro pins s σ H x xs v us Q I rx rs q
 rcases q with q|q
 ·exact h pins s σ H x xs v us Q I rx rs q
 ·exact h' pins s σ H x xs v us Q I rx rs q
theorem ZpU{r:R2}(hr:IxR X r)(ha:PE X a ta)(hb:PE X b tb)(hs:ZhZ b):PE X (.Subscript a b pos) (tOp r ta tb):=by
 intro pins s σ H Q I h
 exact Subscript_ (binT ha hb I h λv u s2 x y H2 I2 rx ry q=>hr a b pins s2 σ H2 x y v u Q I2 rx ry q (hs _ _))
def rIxL(K:Y02):R2:=λx y H Q=>∃p xs i v,x=.ref p/\y=.int i/\SqL K H p xs/\atI xs i=some v/\Q v H
def rIxT(K:Y02):R2:=λx y H Q=>∃p xs i v,x=.ref p/\y=.int i/\SqT K H p xs/\atI xs i=some v/\Q v H
def rIxS:R2:=λx y H Q=>∃z i c,x=.str z/\y=.int i/\z.length≤sizeLine/\atI z.cps.toList i=some c/\Q (.str ⟨#[c]⟩) H
theorem Zh0:IxR X (rIxL X.K):=by
 intro value slice pins s σ H x y v u Q I rx ry h hs
 obtain⟨p,xs,i,z,rfl,rfl,hq,he,q⟩:=h
 cases rx
 obtain⟨t,rfl⟩:=ry
 obtain⟨its,r,pl,hz⟩:=I.list hq
 obtain⟨j,h1,h2,h3,h4,h5⟩:=Zeb he
 obtain⟨w,ew,rw'⟩:=r.get h2
 have hl:=r.length
 have hn:=ZaO
 have fin:EP X pins σ Q w s:=⟨z,H,I,rw',q⟩
 by_cases h0:0≤i
 ·have hj:i.toNat=j:=by
   rw[seqIndex_of h0 h5]at h1
   exact Y0K h1
  exact item_listR pl.isList h0 (by lia) (by rw[hj];simpa using ew) fin hs
 ·have hj:(i+(its.toArray.size:Int)).toNat=j:=by
   rw[seqIndex_neg (by lia) h4]at h1
   rw[Y0g,<- hl]
   exact Y0K h1
  exact subscriptTail_builtinR (x:=w) pl.isList.typeIs slot_list_getitem.lookup
   (wpAny_getItem_list_neg (Q:=λr s'=>r=w/\EP X pins σ Q r s') pl.isList (by lia) (by rw[Y0g]<;>lia) (by lia) (by rw[hj];simpa using ew) ⟨rfl,fin⟩) hs
theorem Zo5:IxR X (rIxT X.K):=by
 intro value slice pins s σ H x y v u Q I rx ry h hs
 obtain⟨p,xs,i,z,rfl,rfl,hq,he,q⟩:=h
 cases rx
 obtain⟨t,rfl⟩:=ry
 obtain⟨its,r,pl,hz⟩:=I.tuple hq
 obtain⟨j,h1,h2,h3,h4,h5⟩:=Zeb he
 obtain⟨w,ew,rw'⟩:=r.get h2
 have hl:=r.length
 have hn:=ZaO
 have fin:EP X pins σ Q w s:=⟨z,H,I,rw',q⟩
 exact subscriptTail_builtinR (x:=w) pl.typeIs slot_tuple_getitem.lookup
  (getItem_tuple (j:=j) (Q:=λr s'=>r=w/\EP X pins σ Q r s') pl (by lia) (by lia) (by rw[Y0g,<- hl];exact h1) (by simpa using ew) ⟨rfl,fin⟩) hs
theorem Zo6:IxR X rIxS:=by
 intro value slice pins s σ H x y v u Q I rx ry h hs
 obtain⟨z,i,c,rfl,rfl,hz,he,q⟩:=h
 obtain⟨t,rfl⟩:=rx
 obtain⟨t',rfl⟩:=ry
 obtain⟨j,h1,h2,h3,h4,h5⟩:=Zeb he
 have hl:z.cps.toList.length=z.length:=by simp[Y3T]
 rw[hl]at h1 h4 h5
 have hn:=ZaO
 exact tail_any (typeIs_str s z t) slot_str_getitem.lookup (getItem_str (c:=c) (by
  have e1:decide (i< -(2^63:Int))=false:=decide_eq_false (by lia)
  have e2:decide (i ≥ 2^63)=false:=decide_eq_false (by lia)
  rw[e1,e2,Bool.or_false]) (by rw[h1];simpa using h2) ⟨.str ⟨#[c]⟩,H,I.tok _,⟨_,rfl⟩,q⟩) hs
theorem Zfq(its:List Value)(n j:Nat)(u:Value):Y2f (·.setIfInBounds j u) {cls:=.type "list",data:=.seq its.toArray n}={cls:=.type "list",data:=.seq (its.set j u).toArray n}:=by
 simp[Y2f]
theorem Inv.lst{pins:List (Addr×Obj)}{σ:St}{H:Hp}{s:Shared}{p:Addr}{xs:List V}(I:Inv X pins σ H s)(h:H p=some (.lst xs)):
  ∃(its:List Value) (n:Nat),Vals xs its/\s.heap.get? p=some {cls:=.type "list",data:=.seq its.toArray n}/\xs.length≤sizeLine:=by
 obtain⟨z,its,n,r,e⟩:=I.hok p _ h
 exact⟨its,n,r,e,z⟩
theorem Inv.lstUpd{pins:List (Addr×Obj)}{σ:St}{H:Hp}{s:Shared}{p:Addr}{xs ys:List V}{its its':List Value}{n n':Nat}{f:Obj->Obj}(I:Inv X pins σ H s)(h:H p=some (.lst xs))
  (ho:s.heap.get? p=some {cls:=.type "list",data:=.seq its.toArray n}) (hf:f {cls:=.type "list",data:=.seq its.toArray n}={cls:=.type "list",data:=.seq its'.toArray n'}) (r:Vals ys its') (hz:ys.length≤sizeLine) (t:Nat):
  Inv X pins σ (upd H p (.lst ys)) {s with heap:=s.heap.update p f,toks:=t}:=by
 have e:(s.heap.update p f).get? p=some {cls:=.type "list",data:=.seq its'.toArray n'}:=by
  rw[Y12 f ho (by rw[hf]<;>rfl),hf]
 refine I.write (x:=p) (e:=p) (by rw[h];trivial) (.inl rfl) (λb u hb q=>(Y0T _ _ (Y2d hb)).trans q) ⟨_,e⟩ ?_
 exact⟨hz,its',n',r,e⟩
def ZoU:V->V->V->Hp->(Hp->Prop)->Prop:=λo i v H Q=>∃p xs k j,o=.ref p/\i=.int k/\H p=some (.lst xs)/\ixN xs.length k=some j/\Q (upd H p (.lst (xs.set j v)))
theorem Zii:PSet X ZoU:=by
 intro pins s σ H o i v ov iv u Q I ro ri rv h
 obtain⟨p,xs,k,j,rfl,rfl,hp,hj,q⟩:=h
 cases ro
 obtain⟨t,rfl⟩:=ri
 obtain⟨its,n,r,ho,hz⟩:=I.lst hp
 obtain⟨h1,h2,h3,h4⟩:=Zh2 hj
 have hl:=r.length
 have hn:=ZaO
 have I':Inv X pins σ (upd H p (.lst (xs.set j v))) {s with heap:=s.heap.update p (Y2f (·.setIfInBounds j u))}:=
  I.lstUpd hp ho (Zfq its n j u) (r.set rv j) (by rw[Y1K];exact hz) s.toks
 by_cases h0:0≤k
 ·have hk:k.toNat=j:=by
   rw[seqIndex_of h0 h4]at h1
   exact Y0K h1
  exact PySem.W.ki_setAt ho h0 (by lia) (by rw[Y0g,<- hl];exact h4) (by rw[hk];exact⟨_,I',q⟩)
 ·have hk:(k+(its.toArray.size:Int)).toNat=j:=by
   rw[seqIndex_neg (by lia) h3]at h1
   rw[Y0g,<- hl]
   exact Y0K h1
  exact PySem.W.ki_setBack ho (by lia) (by rw[Y0g,<- hl];exact h3) (by lia) (by rw[hk];exact⟨_,I',q⟩)
theorem Z4h(lo hi:Option Int)(n:Nat):(sliceBounds lo hi none n).1=((HT.sIx n 0 lo:Nat):Int)/\(sliceBounds lo hi none n).2.1=((HT.sIx n n hi:Nat):Int)/\(sliceBounds lo hi none n).2.2=1:=by
 refine⟨?_,?_,rfl⟩
 ·cases lo with
  |none=>simp[sliceBounds,HT.sIx]
  |some i=>
   simp only[sliceBounds,HT.sIx,Option.getD_none,show(1:Int)>0 by decide,if_true]
   by_cases h:i<0
   ·simp only[h,if_true]<;>lia
   ·simp only[h,if_false]<;>lia
 ·cases hi with
  |none=>simp[sliceBounds,HT.sIx]
  |some i=>
   simp only[sliceBounds,HT.sIx,Option.getD_none,show(1:Int)>0 by decide,if_true]
   by_cases h:i<0
   ·simp only[h,if_true]<;>lia
   ·simp only[h,if_false]<;>lia
theorem Zbr(its:List Value)(lo hi:Option Int):slicePick its.toArray lo hi none=((its.drop (HT.sIx its.length 0 lo)).take (HT.sIx its.length its.length hi - HT.sIx its.length 0 lo)).toArray:=by
 obtain⟨h1,h2,h3⟩:=Z4h lo hi its.toArray.size
 unfold slicePick
 rw[h1,h2,h3]
 simp only[sliceRange_one,pick_run,Y0g]<;>rfl
def rSlL(K:Y02):V->Option Int->Option Int->Hp->VK->Prop:=λx lo hi H Q=>∃a xs,x=.ref a/\SqL K H a xs/\∀p,H p=none->Q (.ref p) (upd H p (.lst (cutV xs lo hi)))
theorem Zgg:SlR X (rSlL X.K):=by
 intro pins s σ H x v vl vu lo hi sl Q I rx hs pl pu h
 obtain⟨a,xs,rfl,hx,q⟩:=h
 cases rx
 obtain⟨its,r,ht,hz⟩:=I.list hx
 have hlen:=r.length
 refine⟨"list",_,slot_list_getitem.lookup,ht.isList.typeIs,?_⟩
 refine wpAny_getItem_list_slice ht.isList hs pl pu .none (by simp) ?_ (by rw[Y0g]<;>lia)
 rw[Zbr,<- hlen]
 refine⟨.ref s.heap.objs.size,_,I.laid (t':=s.toks) (o:=.lst (cutV xs lo hi)) (λb ob q=>Y03 _ q) (Y0b _) ?_,rfl,q _ (I.hok.fresh (Y0b _))⟩
 exact⟨Y0M (Z9V xs lo hi) hz,_,0,(r.drop (HT.sIx xs.length 0 lo)).take (HT.sIx xs.length xs.length hi - HT.sIx xs.length 0 lo),Y0e _ rfl⟩
def Zax:V->Bool
 |.non=>true
 |.bl _=>true
 |.int _=>true
 |.str _=>true
 |_=>false
def eqV:V->V->Bool
 |.non,.non=>true
 |.bl a,.bl b=>a==b
 |.bl a,.int b=>(if a then 1 else 0)==b
 |.int a,.bl b=>a==(if b then 1 else 0)
 |.int a,.int b=>a==b
 |.str a,.str b=>a==b
 |_,_=>false
theorem Zkd{A:Around}{s:Shared}{y x:V}{u v:Value}(ry:RelV y u)(rx:RelV x v)(fy:Zax y=true)(fx:Zax x=true):SeqAt.EqAt A s u v (eqV y x):=by
 cases y with
 |non=>
  cases ry
  cases x with
  |non=>cases rx;exact SeqAt.EqAt.same _
  |bl b=>cases rx;exact SeqAt.EqAt.none_bool b
  |int b=>obtain⟨t,rfl⟩:=rx;exact SeqAt.EqAt.none_int b t
  |str b=>obtain⟨t,rfl⟩:=rx;exact SeqAt.EqAt.none_str b t
  |_=>exact absurd (show false=true from fx) Y09
 |bl a=>
  cases ry
  cases x with
  |non=>cases rx;exact SeqAt.EqAt.bool_none a
  |bl b=>cases rx;exact SeqAt.EqAt.bool_bool a b
  |int b=>obtain⟨t,rfl⟩:=rx;exact SeqAt.EqAt.bool_int a b t
  |str b=>obtain⟨t,rfl⟩:=rx;exact SeqAt.EqAt.bool_str a b t
  |_=>exact absurd (show false=true from fx) Y09
 |int a=>
  obtain⟨t',rfl⟩:=ry
  cases x with
  |non=>cases rx;exact SeqAt.EqAt.int_none a t'
  |bl b=>cases rx;exact SeqAt.EqAt.int_bool a t' b
  |int b=>obtain⟨t,rfl⟩:=rx;exact SeqAt.EqAt.int_int a t' b t
  |str b=>obtain⟨t,rfl⟩:=rx;exact Y3N a t' b t
  |_=>exact absurd (show false=true from fx) Y09
 |str a=>
  obtain⟨t',rfl⟩:=ry
  cases x with
  |non=>cases rx;exact SeqAt.EqAt.str_none a t'
  |bl b=>cases rx;exact SeqAt.EqAt.str_bool a t' b
  |int b=>obtain⟨t,rfl⟩:=rx;exact Y3O a t' b t
  |str b=>obtain⟨t,rfl⟩:=rx;exact SeqAt.EqAt.str_str a t' b t
  |_=>exact absurd (show false=true from fx) Y09
 |_=>exact absurd (show false=true from fy) Y09
def eqU(x:V)(u:Value):Bool:=match u with
 |.none=>eqV .non x
 |.bool b=>eqV (.bl b) x
 |.int i _=>eqV (.int i) x
 |.str z _=>eqV (.str z) x
 |_=>false
theorem Zkb{x y:V}{u:Value}(r:RelV y u)(f:Zax y=true):eqU x u=eqV y x:=by
 cases y with
 |non=>cases r;rfl
 |bl b=>cases r;rfl
 |int i=>obtain⟨t,rfl⟩:=r;rfl
 |str z=>obtain⟨t,rfl⟩:=r;rfl
 |_=>exact absurd (show false=true from f) Y09
theorem Za2{x:V}:∀{xs:List V} {us:List Value},Vals xs us->xs.all Zax=true->us.any (eqU x)=xs.any λy=>eqV y x
 |_,_,.nil,_=>rfl
 |y::xs,u::us,.cons r t,f=>by
  rw[Y24,Y0H]at f
  rw[Y1t,Y1t,Zkb r f.1,Za2 t f.2]
theorem Z6U{A:Around}{s:Shared}{x:V}{v:Value}(rx:RelV x v)(fx:Zax x=true):∀{xs:List V} {us:List Value},Vals xs us->xs.all Zax=true->∀u∈us,SeqAt.EqAt A s u v (eqU x u)
 |_,_,.nil,_=>λu hu=>by cases hu
 |y::xs,u::us,.cons r t,f=>λu' hu=>by
  rw[Y24,Y0H]at f
  rcases Y0f.mp hu with rfl|hu
  ·rw[Zkb r f.1];exact Zkd r rx f.1 fx
  ·exact Z6U rx fx t f.2 u' hu
def inV(x:V)(xs:List V):Bool:=xs.any λy=>eqV y x
def rIn(K:Y02)(neg:Bool):R2:=λx y H Q=>∃p xs,y=.ref p/\(SqL K H p xs\/SqT K H p xs)/\Zax x=true/\xs.all Zax=true/\Q (.bl (if neg then !inV x xs else inV x xs)) H
theorem Z9d:OpR X (compareOp .In) (rIn X.K false):=by
 intro pins s σ H x y v u Q I rx ry h
 obtain⟨p,xs,rfl,hq,fx,fs,q⟩:=h
 cases ry
 rcases hq with hq|hq
 ·obtain⟨its,r,pl,hz⟩:=I.list hq
  refine SeqAt.in_listAt (eqU x) pl.isList (λw hw=>Z6U rx fx r fs w (by simpa using hw)) ⟨.bl _,H,I,rfl,?_⟩
  rw[show its.toArray.any (eqU x)=its.any (eqU x) by simp,Za2 r fs]
  exact q
 ·obtain⟨its,r,pl,hz⟩:=I.tuple hq
  refine SeqAt.in_tupleAt (eqU x) pl (λw hw=>Z6U rx fx r fs w (by simpa using hw)) ⟨.bl _,H,I,rfl,?_⟩
  rw[show its.toArray.any (eqU x)=its.any (eqU x) by simp,Za2 r fs]
  exact q
theorem Z4j:OpR X (compareOp .NotIn) (rIn X.K true):=by
 intro pins s σ H x y v u Q I rx ry h
 obtain⟨p,xs,rfl,hq,fx,fs,q⟩:=h
 cases ry
 rcases hq with hq|hq
 ·obtain⟨its,r,pl,hz⟩:=I.list hq
  refine SeqAt.notIn_listAt (eqU x) pl.isList (λw hw=>Z6U rx fx r fs w (by simpa using hw)) ⟨.bl _,H,I,rfl,?_⟩
  rw[show its.toArray.any (eqU x)=its.any (eqU x) by simp,Za2 r fs]
  exact q
 ·obtain⟨its,r,pl,hz⟩:=I.tuple hq
  refine SeqAt.notIn_tupleAt (eqU x) pl (λw hw=>Z6U rx fx r fs w (by simpa using hw)) ⟨.bl _,H,I,rfl,?_⟩
  rw[show its.toArray.any (eqU x)=its.any (eqU x) by simp,Za2 r fs]
  exact q
theorem Z53:CallR X (.builtin "len") (fun xs H Q=>∃p ys,xs=[.ref p]/\(SqL X.K H p ys\/SqT X.K H p ys)/\Q (.int ys.length) H):=by
 intro pins s σ H xs us Q I r h
 obtain⟨p,ys,rfl,hq,q⟩:=h
 obtain⟨u,rfl,rx⟩:=Z6k r
 cases rx
 have hn:=ZaO
 rcases hq with hq|hq
 ·obtain⟨its,r',pl,hz⟩:=I.list hq
  have hlen:=r'.length
  exact Calls.call_len_list pl.isList (by simp only[Y0g]<;>lia) ⟨.int ys.length,H,I.tok _,⟨s.toks+1,by rw[Y0g,hlen]⟩,q⟩
 ·obtain⟨its,r',pl,hz⟩:=I.tuple hq
  have hlen:=r'.length
  exact len_tuple pl (by simp only[Y0g]<;>lia) ⟨.int ys.length,H,I.tok _,⟨s.toks+1,by rw[Y0g,hlen]⟩,q⟩
theorem ZcZ:CallR X (.builtin "len") (fun xs H Q=>∃z,xs=[.str z]/\z.length≤sizeLine/\Q (.int z.length) H):=by
 intro pins s σ H xs us Q I r h
 obtain⟨z,rfl,hz,q⟩:=h
 obtain⟨u,rfl,t,rfl⟩:=Z6k r
 have hn:=ZaO
 exact len_str (by lia) ⟨.int z.length,H,I.tok _,⟨_,rfl⟩,q⟩
theorem CallR.or{f:Value}{r r':List V->Hp->VK->Prop}(h:CallR X f r)(h':CallR X f r'):CallR X f (λxs H Q=>r xs H Q\/r' xs H Q):=by
 intro pins s σ H xs us Q I rs q
 rcases q with q|q
 ·exact h pins s σ H xs us Q I rs q
 ·exact h' pins s σ H xs us Q I rs q
theorem Z52:CallR X (.type "list") (fun xs H Q=>∃p ys,xs=[.ref p]/\(SqL X.K H p ys\/SqT X.K H p ys)/\∀l,H l=none->Q (.ref l) (upd H l (.lst ys))):=by
 intro pins s σ H xs us Q I r h
 obtain⟨p,ys,rfl,hq,q⟩:=h
 obtain⟨u,rfl,rx⟩:=Z6k r
 cases rx
 have fin:∀(its:List Value),Vals ys its->ys.length≤sizeLine->∀(h':Heap) (c':Nat),(∀b o',s.heap.get? b=some o'->h'.get? b=some o')->
   h'.get? s.heap.objs.size=some {cls:=.type "list",dict:=none,data:=.seq its.toArray c',slots:=#[]}->EP X pins σ Q (.ref s.heap.objs.size) {s with heap:=h'}:=fun its r' hz h' c' kp e=>
  ⟨.ref s.heap.objs.size,_,I.laid (t':=s.toks) kp (Y0b _) (show ObjOk X.prog X.w _ h' _ (.lst ys)from⟨hz,its,c',r',e⟩),rfl,q _ (I.hok.fresh (Y0b _))⟩
 rcases hq with hq|hq
 ·obtain⟨its,r',pl,hz⟩:=I.list hq
  have hlen:=r'.length
  obtain⟨o,ho,hc,n,hd⟩:=pl.isList
  exact call_list_seq p (.inl rfl) ho hc hd (λh' c' kp e=>fin its r' hz h' c' kp e) (by simp only[Y0g]<;>lia)
 ·obtain⟨its,r',pl,hz⟩:=I.tuple hq
  have hlen:=r'.length
  obtain⟨o,ho,hc,n,hd⟩:=pl
  exact call_list_seq p (.inr rfl) ho hc hd (λh' c' kp e=>fin its r' hz h' c' kp e) (by simp only[Y0g]<;>lia)
theorem Z3Y:CallR X (.type "tuple") (fun xs H Q=>∃p ys,xs=[.ref p]/\((SqL X.K H p ys/\∀l,H l=none->Q (.ref l) (upd H l (.tup ys)))\/(SqT X.K H p ys/\Q (.ref p) H))):=by
 intro pins s σ H xs us Q I r h
 obtain⟨p,ys,rfl,h⟩:=h
 obtain⟨u,rfl,rx⟩:=Z6k r
 cases rx
 rcases h with⟨hq,q⟩|⟨hq,q⟩
 ·obtain⟨its,r',pl,hz⟩:=I.list hq
  have hlen:=r'.length
  refine call_tuple_list pl.isList (λh' kp=>?_) (by simp only[Y0g]<;>lia)
  have I1:Inv X pins σ H {s with heap:=h'}:=I.kept (t':=s.toks) kp
  have I2:Inv X pins σ (upd H h'.objs.size (.tup ys)) {s with heap:=h'.push {cls:=.type "tuple",data:=.seq its.toArray} }:=
   I1.laid (t':=s.toks) (λb o e=>Y03 _ e) (Y0b _) (show ObjOk X.prog X.w _ _ _ (.tup ys)from⟨hz,its,r',IsTup.new _ _,_,Y0e _ rfl,rfl⟩)
  exact⟨.ref h'.objs.size,_,I2,rfl,q _ (I1.hok.fresh (Y0b _))⟩
 ·obtain⟨its,r',pl,hz⟩:=I.tuple hq
  exact call_tuple_same pl ⟨.ref p,H,I,rfl,q⟩
def tyV(K:Y02)(T:String)(x:V)(H:Hp):Prop:=match x with
 |.str _=>T="str"
 |.int _=>T="int"
 |.ref p=>(T="list"/\∃xs,SqL K H p xs)\/(T="tuple"/\∃o,K.lookup p=some o/\o.cls=.type "tuple"/\o.dict=none)\/
   (T="dict"/\((∃kvs,H p=some (.dK kvs))\/∃kvs,H p=some (.dT kvs)))\/(T="set"/\∃S n,H p=some (.set S n))
 |_=>False
theorem Zjv{pins:List (Addr×Obj)}{σ:St}{H:Hp}{s:Shared}{T:String}{x:V}{v:Value}(I:Inv X pins σ H s)(r:RelV x v)(ty:tyV X.K T x H):
  s.TypeIs v T/\∀a,v=.ref a->∃ob,s.heap.get? a=some ob/\ob.dict=none:=by
 cases x with
 |str z=>
  obtain⟨t,rfl⟩:=r
  cases(show T="str" from ty)
  exact⟨typeIs_str s z t,λ_ e=>nomatch e⟩
 |int i=>
  obtain⟨t,rfl⟩:=r
  cases(show T="int" from ty)
  exact⟨typeIs_int s i t,λ_ e=>nomatch e⟩
 |ref p=>
  cases r
  rcases ty with⟨rfl,xs,hq⟩|⟨rfl,o,hk,hc,hd⟩|⟨rfl,hk⟩|⟨rfl,S,n,hk⟩
  ·obtain⟨its,_,pl,_⟩:=I.list hq
   refine⟨pl.isList.typeIs,λa e=>?_⟩
   cases e
   obtain⟨o,n,e,c,hd,_⟩:=pl
   exact⟨o,e,hd⟩
  ·refine⟨⟨o,I.kIn p o hk,hc⟩,λa e=>?_⟩
   cases e
   exact⟨o,I.kIn _ o hk,hd⟩
  ·have z:∃o,s.heap.get? p=some o/\o.ExactDict:=by
    rcases hk with⟨kvs,hk⟩|⟨kvs,hk⟩
    ·obtain⟨_,_,_,_,o,_,_,e,ex,_⟩:=I.hok p _ hk
     exact⟨o,e,ex⟩
    ·obtain⟨_,_,_,_,o,_,_,e,ex,_⟩:=I.hok p _ hk
     exact⟨o,e,ex⟩
   obtain⟨o,e,ex⟩:=z
   refine⟨⟨o,e,ex.1⟩,λa e2=>?_⟩
   cases e2
   exact⟨o,e,ex.2.1⟩
  ·obtain⟨o,_,_,_,e,ex,_⟩:=I.hok p _ hk
   refine⟨⟨o,e,ex.1⟩,λa e2=>?_⟩
   cases e2
   exact⟨o,e,ex.2.1⟩
 |_=>exact Y1c ty
def tBM0(K:Y02)(T:String)(r:V->List V->Hp->VK->Prop)(to:TE):TE:=λσ H Q=>to σ H λx H1=>tyV K T x H1/\r x [] H1 Q
def tBM(K:Y02)(T:String)(r:V->List V->Hp->VK->Prop)(to:TE)(t:TA):TE:=λσ H Q=>to σ H λx H1=>tyV K T x H1/\t σ H1 λxs H2=>r x xs H2 Q
variable{o e:Expr}{es:List Expr}{to:TE}{t:TA}{name:Str}{apos cpos:Pos}{T id:String}{r:V->List V->Hp->VK->Prop}
theorem Zny(pa:PlainAttrs T)(slot:Slot T name id)(hty:typeOf (.builtin id)=pure (.type "method_descriptor"))(hm:MtR X id r)(ho:PE X o to)
  (hbase:attributeBase o name X.env (eval o X.env)=eval o X.env:=by rfl) (hline:(apos.endLine==cpos.line)=true:=by rfl):PE X (.Call (.Attribute o name apos) [] [] cpos) (tBM0 X.K T r to):=by
 intro pins s σ H Q I h
 refine wpAny_Call_method0_late hbase hline (thn (ho pins s σ H _ I h) λv s1 ⟨x,H1,I1,r1,ty,q1⟩=>?_)
 obtain⟨h1,h2⟩:=Zjv I1 r1 ty
 exact⟨T,id,pa,slot,hty,h1,h2,Y3f rfl (PySem.evalArgs_none (hm pins s1 σ H1 x [] v [] Q I1 r1 .nil q1))⟩
theorem ZpV(pa:PlainAttrs T)(slot:Slot T name id)(hty:typeOf (.builtin id)=pure (.type "method_descriptor"))(hm:MtR X id r)(ho:PE X o to)(ha:PA X (e::es) t)
  (hbase:attributeBase o name X.env (eval o X.env)=eval o X.env:=by rfl)
  (hfew:((backTo cpos (starEach (e::es) X.env)).all (λx=>!x.1)&&(backToKw cpos (keywordEach [] X.env)).all (λx=>x.1.isSome)
   &&decide ((e::es).length+([]:List Keyword).length+(if([]:List Keyword).isEmpty then 0 else 1)<30))=true:=by rfl)
  (hline:(apos.endLine==cpos.line)=true:=by rfl) (hs:starEach (e::es) X.env=(false,eval e X.env)::starEach es X.env:=by rfl) (hplain:(backTo cpos (starEach es X.env)).any (·.1)=false:=by rfl):
  PE X (.Call (.Attribute o name apos) (e::es) [] cpos) (tBM X.K T r to t):=by
 intro pins s σ H Q I h
 refine wpAny_Call_method_late hbase hfew hline rfl (thn (ho pins s σ H _ I h) λv s1 ⟨x,H1,I1,r1,ty,q1⟩=>?_)
 obtain⟨h1,h2⟩:=Zjv I1 r1 ty
 refine⟨T,id,pa,slot,hty,h1,h2,?_⟩
 have hA:=ha cpos pins s1 σ H1 _ I1 q1
 rw[hs]at hA ⊢
 refine Y3f (by show(false||(backTo cpos (starEach es X.env)).any (·.1))=false;rw[hplain]<;>rfl) (Calls.evalArgs_plain ?_)
 exact thn hA λus s2 ⟨vs,H2,I2,r2,q2⟩=>hm pins s2 σ H2 x vs v us Q I2 r1 r2 q2
/- xs.append(e),list.index on a module's tuple .. are MtR facts of 06m -/
end
end L2
namespace L2
open PySem PySem.Spec PyProof.Rows
def MtM(X:Cx)(id:String)(r:V->List V->Hp->VK->Prop):Prop:=
 ∀(pins:List (Addr×Obj)) (s:Shared) (σ:St) (H:Hp) (x:V) (xs:List V) (v:Value) (us:List Value) (Q:VK),Inv X pins σ H s->RelV x v->Vals xs us->r x xs H Q->
  wpAny (model X.prog X.w) X.A (call (.builtin id) (v::us)) (EP X pins σ Q) X.xe s
theorem Vals.one:∀{x:V} {us:List Value},Vals [x] us->∃u,us=[u]/\RelV x u
 |_,_,.cons r .nil=>⟨_,rfl,r⟩
theorem Vals.two:∀{x y:V} {us:List Value},Vals [x,y] us->∃u v,us=[u,v]/\RelV x u/\RelV y v
 |_,_,_,.cons r (.cons q .nil)=>⟨_,_,rfl,r,q⟩
theorem Vals.zero:∀{us:List Value},Vals [] us->us=[]
 |_,.nil=>rfl
theorem Vals.eraseIdx:∀{xs:List V} {us:List Value} (i:Nat),Vals xs us->Vals (xs.eraseIdx i) (us.eraseIdx i)
 |_,_,_,.nil=>.nil
 |_,_,0,.cons _ t=>t
 |_,_,i+1,.cons r t=>.cons r (Vals.eraseIdx i t)
theorem Vals.reverse{xs:List V}{us:List Value}(h:Vals xs us):Vals xs.reverse us.reverse:=by
 induction h with
 |nil=>exact .nil
 |cons r t ih=>rw[List.reverse_cons,List.reverse_cons];exact Vals.append ih (.cons r .nil)
theorem Vals.rep{xs:List V}{us:List Value}(h:Vals xs us):∀k:Nat,Vals (Y0l k xs).flatten (Y0l k us).flatten
 |0=>.nil
 |k+1=>by
  rw[Y13,Y13,Y1L,Y1L]
  exact Vals.append h (Vals.rep h k)
theorem Zcu{α:Type}:∀(l:List α) (i:Nat),(l.eraseIdx i).length≤l.length
 |[],_=>Y0b _
 |_::_,0=>Y1D _
 |_::r,i+1=>Y38 (Zcu r i)
theorem Z9T(its:List Value):∀(k:Nat) (acc:List Value),
  Y2Q (λx1 x2=>x1++x2) acc.toArray (Y0l k its.toArray)=(acc++(Y0l k its).flatten).toArray
 |0,acc=>by simp
 |k+1,acc=>by
  have e:acc.toArray++its.toArray=(acc++its).toArray:=by simp
  have e2:(acc++its)++(Y0l k its).flatten=acc++(Y0l (k+1) its).flatten:=by
   rw[Y13,Y1L,Y25]
  rw[<- e2,<- Z9T its k (acc++its),<- e,Y13,Y1M]
section
variable{X:Cx}{pins:List (Addr×Obj)}{σ:St}{H:Hp}{s:Shared}{l b:Addr}{xs ys zs:List V}
theorem Inv.lset{its its':List Value}{n:Nat}{f:Array Value->Array Value}{t':Nat}(I:Inv X pins σ H s)(hH:H l=some (.lst xs))
  (e:s.heap.get? l=some {cls:=.type "list",data:=.seq its.toArray n}) (hf:f its.toArray=its'.toArray) (hv:Vals ys its') (hz:ys.length≤sizeLine):
  Inv X pins σ (upd H l (.lst ys)) {s with heap:=s.heap.update l (Y2f f),toks:=t'}:=by
 have q:=PySem.IsL.update e f
 rw[hf]at q
 refine I.write (x:=l) (e:=l) (by rw[hH];exact trivial) (.inl rfl) (λb' u hb hu=>(Y0T s.heap (Y2f f) (Y2d hb)).trans hu) ⟨_,q⟩ ?_
 exact⟨hz,its',_,hv,q⟩
theorem Inv.lnew{its:List Value}{t':Nat}(I:Inv X pins σ H s)(hv:Vals ys its)(hz:ys.length≤sizeLine):
  Inv X pins σ (upd H s.heap.objs.size (.lst ys)) {s with heap:=s.heap.push {cls:=.type "list",data:=.seq its.toArray},toks:=t'}:=
 I.laid (λ_ _ q=>Y03 _ q) (Y0b _) ⟨hz,its,0,hv,Y0e _ rfl⟩
theorem Inv.fresh(I:Inv X pins σ H s):H s.heap.objs.size=none:=I.hok.fresh (Y0b _)
theorem Inv.lstM(I:Inv X pins σ H s)(hH:H l=some (.lst xs)):xs.length≤sizeLine/\∃(its:List Value) (n:Nat),Vals xs its/\xs.length=its.length/\s.heap.get? l=some {cls:=.type "list",data:=.seq its.toArray n}:=by
 obtain⟨z,its,n,r,e⟩:=I.hok l _ hH
 exact⟨z,its,n,r,r.length,e⟩
theorem Zeu{n:Nat}(h:n≤sizeLine):Y1N n=false:=by
 unfold Y1N
 exact decide_eq_false (by lia)
end
section
variable{X:Cx}
def ZkB:V->List V->Hp->VK->Prop:=λx vs H Q=>∃l xs y,x=.ref l/\vs=[y]/\H l=some (.lst xs)/\xs.length<sizeLine/\Q .non (upd H l (.lst (xs++[y])))
theorem Zcp:MtM X "list.append" ZkB:=by
 intro pins s σ H x vs v us Q I rx rv h
 obtain⟨l,xs,y,rfl,rfl,hH,hz,q⟩:=h
 cases rx
 obtain⟨u,rfl,ru⟩:=rv.one
 obtain⟨z,its,n,r,hl,e⟩:=I.lstM hH
 refine call_meets F.slot_list_append ⟨_,e,rfl⟩ F.entry_list_append (F.args_list_append_2 _ _) (PySem.list_append l its.toArray n u (by rw[Y0g];lia)) ⟨e,?_⟩
 refine⟨.non,_,I.lset (its':=its++[u]) hH e (by simp) (r.append (.cons ru .nil)) ?_,rfl,q⟩
 rw[Y0D,List.length_singleton]
 lia
def ZkA:V->List V->Hp->VK->Prop:=λx vs H Q=>∃l b xs zs,x=.ref l/\vs=[.ref b]/\H l=some (.lst xs)/\H b=some (.lst zs)/\xs.length+zs.length≤sizeLine/\Q .non (upd H l (.lst (xs++zs)))
theorem ZgK:MtM X "list.extend" ZkA:=by
 intro pins s σ H x vs v us Q I rx rv h
 obtain⟨l,b,xs,zs,rfl,rfl,hH,hB,hz,q⟩:=h
 cases rx
 obtain⟨u,rfl,ru⟩:=rv.one
 cases ru
 obtain⟨z,its,n,r,hl,e⟩:=I.lstM hH
 obtain⟨z2,its2,n2,r2,hl2,e2⟩:=I.lstM hB
 have hsz:its.toArray.size+its2.toArray.size≤sizeLine:=by rw[Y0g,Y0g];lia
 have hlong:¬(!its.toArray.isEmpty&&Y1N (its.toArray.size+its2.toArray.size))=true:=by
  rw[Zeu hsz,Y3G]
  exact Y09
 refine call_meets F.slot_list_extend ⟨_,e,rfl⟩ F.entry_list_extend (F.args_list_extend_2 _ _)
  (AutoSeq1.list_extend_list_list_0 l its.toArray n b its2.toArray n2 hlong (by rw[Y0g];lia) (by lia)) ⟨e,e2,?_⟩
 refine⟨.non,_,I.lset (its':=its++its2) hH e (by simp) (r.append r2) ?_,rfl,q⟩
 rw[Y0D]
 lia
def rCat:R2:=λx y H Q=>∃l b xs zs,x=.ref l/\y=.ref b/\H l=some (.lst xs)/\H b=some (.lst zs)/\xs.length+zs.length≤sizeLine/\∀p,H p=none->Q (.ref p) (upd H p (.lst (xs++zs)))
theorem ZnI:OpR X (binaryOp .Add) rCat:=by
 intro pins s σ H x y v u Q I rx ry h
 obtain⟨l,b,xs,zs,rfl,rfl,hH,hB,hz,q⟩:=h
 cases rx
 cases ry
 obtain⟨z,its,n,r,hl,e⟩:=I.lstM hH
 obtain⟨z2,its2,n2,r2,hl2,e2⟩:=I.lstM hB
 refine PySem.P.add_list e e2 ?_ (by rw[Y0g,Y0g];lia)
 have ea:its.toArray++its2.toArray=(its++its2).toArray:=by simp
 rw[ea]
 exact⟨.ref _,_,I.lnew (t':=s.toks) (r.append r2) (by rw[Y0D];lia),rfl,q _ I.fresh⟩
def rRep:R2:=λx y H Q=>∃l k xs,x=.ref l/\y=.int k/\H l=some (.lst xs)/\ -(2^63)≤k/\k<2^63/\xs.length*k.toNat≤sizeLine/\
 ∀p,H p=none->Q (.ref p) (upd H p (.lst (Y0l k.toNat xs).flatten))
theorem ZgS{α:Type}(xs:List α)(k:Nat):(Y0l k xs).flatten.length=k*xs.length:=by
 induction k with
 |zero=>simp
 |succ k ih=>rw[Y13,Y1L,Y0D,ih,Nat.succ_mul,Nat.add_comm]
theorem ZnB:OpR X (binaryOp .Mult) rRep:=by
 intro pins s σ H x y v u Q I rx ry h
 obtain⟨l,k,xs,rfl,rfl,hH,h1,h2,hz,q⟩:=h
 cases rx
 obtain⟨t,rfl⟩:=ry
 obtain⟨z,its,n,r,hl,e⟩:=I.lstM hH
 have hlen:its.toArray.size*k.toNat≤sizeLine:=by rw[Y0g,<- hl];exact hz
 have hcap:¬its.toArray.size*k.toNat>(2^63 - 1)/8:=by
  have:(sizeLine:Nat)≤(2^63 - 1)/8:=by decide
  lia
 have hfit:¬(!Builtin.List.listFitsIndex k)=true:=by
  rw[fitsIndex_both h1 h2]
  exact Y09
 have hlong:¬Y1N (its.toArray.size*k.toNat)=true:=by
  rw[Zeu hlen]
  exact Y09
 have hnew:Y2Q (λx1 x2=>x1++x2) #[] (Y0l (if its.toArray.isEmpty=true then 0 else k.toNat) its.toArray)=(Y0l k.toNat its).flatten.toArray:=by
  have f0:∀m:Nat,Y2Q (λx1 x2=>x1++x2) #[] (Y0l m its.toArray)=(Y0l m its).flatten.toArray:=λm=>by
   have:=Z9T its m []
   rw[Y0y]at this
   exact this
  rw[f0]
  cases its with
  |nil=>simp
  |cons a r'=>rw[if_neg (by simp)]
 refine wpAny_binaryOp_repeat_ref (T:="list") (U:="int") (by decide) ⟨_,e,rfl⟩ (fun s'=>typeIs_int s' k t) noFill_list_mul F.fills_int_mul F.slot_int_rmul repeat_list F.slot_int_index.lookup
  (call_meets F.slot_int_rmul (typeIs_int s k t) F.entry_int_rmul (F.args_int_rmul_2 _ _) (int___rmul___int_list k t l its.toArray n)
   ⟨e,rfl,⟨_,e,rfl⟩,call_meets F.slot_list_mul ⟨_,e,rfl⟩ F.entry_list_mul (F.args_list_mul_2 _ _) (AutoListH.list___mul___list_int_3 l its.toArray n k t hfit hcap hlong) ⟨e,?_⟩⟩)
 rw[hnew]
 exact⟨.ref _,_,I.lnew (t':=s.toks) (r.rep k.toNat) (by rw[ZgS,Nat.mul_comm];exact hz),rfl,q _ I.fresh⟩
end
section
variable{prog:Program}{w:World}{A:Around}{E:Value->Shared->Prop}{s:Shared}
set_option maxRecDepth 100000 in
end
section
variable{X:Cx}
end
end L2
namespace L2
open PySem PySem.Spec PyProof.Rows
section
variable{κ:Type} [DecidableEq κ]
def valV(kvs:List (κ×V))(k:κ):Option V:=(kvs.find? λkv=>decide (kv.1=k)).map (·.2)
def putK(kvs:List (κ×V))(k:κ)(v:V):List (κ×V):=
 if(kvs.any λkv=>decide (kv.1=k))=true then kvs.map (λkv=>if kv.1=k then(kv.1,v)else kv)else kvs++[(k,v)]
def Zoq(kvs:List (κ×V))(k:κ):List (κ×V):=kvs.filter λkv=>decide (kv.1≠k)
theorem Z8T{p:κ×V}{r:List (κ×V)}{k:κ}(e:p.1=k):valV (p::r) k=some p.2:=by simp[valV,Y1Z,e]
theorem Z8U{p:κ×V}{r:List (κ×V)}{k:κ}(e:¬p.1=k):valV (p::r) k=valV r k:=by simp[valV,Y1Z,e]
theorem Zef(k:κ):∀kvs:List (κ×V),(kvs.any λkv=>decide (kv.1=k))=(valV kvs k).isSome
 |[]=>rfl
 |p::r=>by
  rw[Y1t]
  by_cases e:p.1=k
  ·simp only[Z8T e,decide_eq_true e,Y3o,Option.isSome_some]
  ·rw[Z8U e,decide_eq_false e,Bool.false_or];exact Zef k r
theorem Z9o(kvs:List (κ×V))(k:κ)(v:V):(putK kvs k v).length≤kvs.length+1:=by
 unfold putK
 split
 ·rw[Y01];lia
 ·rw[Y0D,Y0X,List.length_nil];lia
theorem RelO.isSome_eq{o:Option V}{u:Option Value}(r:RelO o u):o.isSome=u.isSome:=by
 cases o with
 |none=>cases u with
  |none=>rfl
  |some _=>exact(show False from r).elim
 |some _=>cases u with
  |none=>exact(show False from r).elim
  |some _=>rfl
theorem RelO.getD{o:Option V}{u:Option Value}{d:V}{d':Value}(r:RelO o u)(rd:RelV d d'):RelV (o.getD d) (u.getD d'):=by
 cases o with
 |none=>cases u with
  |none=>exact rd
  |some _=>exact(show False from r).elim
 |some _=>cases u with
  |none=>exact(show False from r).elim
  |some _=>exact r
theorem KV.val{kvs:List (κ×V)}{vs:List (κ×Value)}(r:KV kvs vs)(k:κ):RelO (valV kvs k) (valueAt vs k):=by
 unfold KV at r
 induction r with
 |nil=>exact Y1k
 | @cons p q ps qs h t ih=>
  obtain⟨h1,h2⟩:=h
  by_cases e:p.1=k
  ·have e':q.1=k:=h1.symm.trans e
   have b:valueAt (q::qs) k=some q.2:=by simp[valueAt,Y1Z,e']
   rw[Z8T e,b];exact h2
  ·have e':¬q.1=k:=λz=>e (h1.trans z)
   have b:valueAt (q::qs) k=valueAt qs k:=by simp[valueAt,Y1Z,e']
   rw[Z8U e,b];exact ih
theorem KV.any{kvs:List (κ×V)}{vs:List (κ×Value)}(r:KV kvs vs)(k:κ):(kvs.any λkv=>decide (kv.1=k))=vs.any λkv=>decide (kv.1=k):=by
 unfold KV at r
 induction r with
 |nil=>rfl
 |cons h t ih=>rw[Y1t,Y1t,ih,h.1]
theorem KV.repl{kvs:List (κ×V)}{vs:List (κ×Value)}(r:KV kvs vs)(k:κ){y:V}{u:Value}(ry:RelV y u):
  KV (kvs.map λkv=>if kv.1=k then(kv.1,y)else kv) (vs.map λkv=>if kv.1=k then(kv.1,u)else kv):=by
 unfold KV at r ⊢
 induction r with
 |nil=>exact .nil
 | @cons p q ps qs h t ih=>
  rw[Y0h,Y0h]
  refine .cons ?_ ih
  obtain⟨h1,h2⟩:=h
  by_cases e:p.1=k
  ·rw[if_pos e,if_pos (h1.symm.trans e)];exact⟨h1,ry⟩
  ·rw[if_neg e,if_neg (λz=>e (h1.trans z))];exact⟨h1,h2⟩
theorem KV.put{kvs:List (κ×V)}{vs:List (κ×Value)}(r:KV kvs vs)(k:κ){y:V}{u:Value}(ry:RelV y u):KV (putK kvs k y) (stored vs k u):=by
 unfold putK stored
 rw[r.any k]
 by_cases e:(vs.any λkv=>decide (kv.1=k))=true
 ·rw[if_pos e,if_pos e];exact r.repl k ry
 ·rw[if_neg e,if_neg e];exact Paired.snoc r ⟨rfl,ry⟩
theorem KV.drop{kvs:List (κ×V)}{vs:List (κ×Value)}(r:KV kvs vs)(k:κ):KV (Zoq kvs k) (without vs k):=by
 unfold KV at r ⊢
 unfold Zoq without
 induction r with
 |nil=>exact .nil
 | @cons p q ps qs h t ih=>
  obtain⟨h1,h2⟩:=h
  rw[List.filter_cons,List.filter_cons]
  by_cases e:p.1=k
  ·have a:¬decide (p.1≠k)=true:=by simp[e]
   have b:¬decide (q.1≠k)=true:=by simp[h1.symm.trans e]
   rw[if_neg a,if_neg b];exact ih
  ·have e':¬q.1=k:=λz=>e (h1.trans z)
   have a:decide (p.1≠k)=true:=by simp[e]
   have b:decide (q.1≠k)=true:=by simp[e']
   rw[if_pos a,if_pos b];exact .cons ⟨h1,h2⟩ ih
theorem KV.keys{kvs:List (κ×V)}{vs:List (κ×Value)}(r:KV kvs vs):kvs.map (·.1)=vs.map (·.1):=by
 unfold KV at r
 induction r with
 |nil=>rfl
 |cons h t ih=>rw[Y0h,Y0h,ih,h.1]
theorem KV.length{kvs:List (κ×V)}{vs:List (κ×Value)}(r:KV kvs vs):kvs.length=vs.length:=Paired.length r
end
theorem ZdG{P:Program}{w:World}{k:Key}{u:Value}(r:RelV (kV k) u):(Z19 P w).is k u=true:=by
 cases k with
 |inl i=>obtain⟨t,e⟩:=(show∃t,u=Y3M i t from r);subst e;exact ZdD P w i t
 |inr x=>obtain⟨t,e⟩:=(show∃t,u=Y0F x t from r);subst e;exact ZdC P w x t
theorem ZcB{P:Program}{w:World}:∀{ks:List Key} {us:List Value},Vals (ks.map kV) us->ItemsAre (Z19 P w) ks us
 |[],_,r=>by rw[Y0N]at r;cases r;exact .nil
 |k::ks,_,r=>by
  rw[Y0h]at r
  cases r with
  |cons h t=>exact .cons (ZdG h) (ZcB t)
abbrev KT(H:Hp):List (List Key×V)->List (List Key×Addr×Value)->Prop:=Paired λp q=>p.1=q.1/\H q.2.1=some (.tup (p.1.map kV))/\RelV p.2 q.2.2
theorem KT.val{H:Hp}{kvs:List (List Key×V)}{xs:List (List Key×Addr×Value)}(r:KT H kvs xs)(k:List Key):RelO (valV kvs k) ((atKey xs k).map (·.2)):=by
 induction r with
 |nil=>exact Y1k
 | @cons p q ps qs h t ih=>
  obtain⟨h1,_,h2⟩:=h
  by_cases e:p.1=k
  ·have e':q.1=k:=h1.symm.trans e
   have b:atKey (q::qs) k=some q.2:=by simp[atKey,Y1Z,e']
   rw[Z8T e,b];exact h2
  ·have e':¬q.1=k:=λz=>e (h1.trans z)
   have b:atKey (q::qs) k=atKey qs k:=by simp[atKey,Y1Z,e']
   rw[Z8U e,b];exact ih
theorem KT.repl{H:Hp}{kvs:List (List Key×V)}{xs:List (List Key×Addr×Value)}(r:KT H kvs xs)(k:List Key){y:V}{u:Value}(ry:RelV y u):
  KT H (kvs.map λkv=>if kv.1=k then(kv.1,y)else kv) (xs.map (putAt k u)):=by
 induction r with
 |nil=>exact .nil
 | @cons p q ps qs h t ih=>
  rw[Y0h,Y0h]
  refine .cons ?_ ih
  obtain⟨h1,h2,h3⟩:=h
  unfold putAt
  by_cases e:p.1=k
  ·rw[if_pos e,if_pos (h1.symm.trans e)];exact⟨h1,h2,ry⟩
  ·rw[if_neg e,if_neg (λz=>e (h1.trans z))];exact⟨h1,h2,h3⟩
theorem KT.put{H:Hp}{kvs:List (List Key×V)}{xs:List (List Key×Addr×Value)}(r:KT H kvs xs)(k:List Key){b:Addr}{y:V}{u:Value}(hb:H b=some (.tup (k.map kV)))(ry:RelV y u):
  KT H (putK kvs k y) (storedH xs k b u):=by
 have e:(kvs.any λkv=>decide (kv.1=k))=(atKey xs k).isSome:=by
  rw[Zef,(r.val k).isSome_eq,Y2R]
 unfold putK storedH
 rw[e]
 by_cases q:(atKey xs k).isSome=true
 ·rw[if_pos q,if_pos q];exact r.repl k ry
 ·rw[if_neg q,if_neg q];exact Paired.snoc r ⟨rfl,hb,ry⟩
theorem KT.keeps{H H':Hp}{kvs:List (List Key×V)}{xs:List (List Key×Addr×Value)}(r:KT H kvs xs)(ht:∀b ys,H b=some (.tup ys)->H' b=some (.tup ys)):KT H' kvs xs:=
 Paired.mapP r λ_ _ z=>⟨z.1,ht _ _ z.2.1,z.2.2⟩
section
variable{P:Program}{w:World}{H:Hp}{h:Heap}{a:Addr}
theorem ZmG{u:HO}(ok:HOk P w H h)(e:Rd H a u):ObjOk P w H h a u:=e.ok ok
theorem ZdZ{kvs:List (Key×V)}(ok:HOk P w H h)(e:Rd H a (.dK kvs)):kvs.length≤sizeLine/\(a==sysModules)=false/\∃vs,KV kvs vs/\h.DictOf (Z19 P w) a vs:=
 show ObjOk P w H h a (.dK kvs)from ZmG ok e
theorem ZcK{kvs:List (Key×V)}(ok:HOk P w H h)(e:H a=some (.dK kvs)):kvs.length≤sizeLine/\(a==sysModules)=false/\∃vs,KV kvs vs/\h.DictOf (Z19 P w) a vs:=ZdZ ok (.inl e)
theorem Zcw{ks:List Key}(ok:HOk P w H h)(e:H a=some (.tup (ks.map kV))):(tupleKind (Z19 P w)).is h ks a:=by
 obtain⟨_,its,r,⟨o,h1,h2,n,h3⟩,_⟩:=(show ObjOk P w H h a (.tup (ks.map kV))from ok a _ e)
 exact⟨o,its.toArray,n,h1,h2,h3,by simpa using ZcB r⟩
theorem Zhy{kvs:List (List Key×V)}(ok:HOk P w H h)(e:Rd H a (.dT kvs)):kvs.length≤sizeLine/\(a==sysModules)=false/\
  ∃xs,KT H kvs xs/\h.DictOfH (tupleKind (Z19 P w)) a xs:=by
 obtain⟨z,y,xs,r,o,es,ep,h1,h2,h3,h4,h5⟩:=(show ObjOk P w H h a (.dT kvs)from ZmG ok e)
 refine⟨z,y,xs,r,o,es,ep,h1,h2,h3,h4,λx hx=>?_,h5⟩
 have all:∀{l:List (List Key×V)} {m:List (List Key×Addr×Value)},KT H l m->∀x∈m,(tupleKind (Z19 P w)).is h x.1 x.2.1:=by
  intro l m q
  induction q with
  |nil=>intro x hx;exact nomatch hx
  | @cons p q ps qs hq t ih=>
   intro x hx
   rcases Y0f.mp hx with e|hx
   ·subst e
    exact Zcw ok (by rw[<- hq.1];exact hq.2.1)
   ·exact ih x hx
 exact all r x hx
theorem Zqs{kvs:List (List Key×V)}(ok:HOk P w H h)(e:H a=some (.dT kvs)):kvs.length≤sizeLine/\(a==sysModules)=false/\
  ∃xs,KT H kvs xs/\h.DictOfH (tupleKind (Z19 P w)) a xs:=Zhy ok (.inl e)
end
def DGet(H:Hp)(a:Addr)(y:V)(r:Option V):Prop:=
 (∃kvs k,Rd H a (.dK kvs)/\y=kV k/\r=valV kvs k)\/∃kvs k b,Rd H a (.dT kvs)/\y=.ref b/\H b=some (.tup (k.map kV))/\r=valV kvs k
def DPut(H:Hp)(a:Addr)(y v:V)(H':Hp):Prop:=
 (∃kvs k,H a=some (.dK kvs)/\y=kV k/\kvs.length<sizeLine/\H'=upd H a (.dK (putK kvs k v)))\/
 ∃kvs k b,H a=some (.dT kvs)/\y=.ref b/\H b=some (.tup (k.map kV))/\kvs.length<sizeLine/\H'=upd H a (.dT (putK kvs k v))
theorem DGet.k{H:Hp}{a:Addr}{kvs:List (Key×V)}{k:Key}(e:H a=some (.dK kvs)):DGet H a (kV k) (valV kvs k):=.inl ⟨kvs,k,.inl e,rfl,rfl⟩
theorem DGet.t{H:Hp}{a b:Addr}{kvs:List (List Key×V)}{k:List Key}(e:H a=some (.dT kvs))(eb:H b=some (.tup (k.map kV))):DGet H a (.ref b) (valV kvs k):=.inr ⟨kvs,k,b,.inl e,rfl,eb,rfl⟩
theorem DPut.k{H:Hp}{a:Addr}{kvs:List (Key×V)}{k:Key}{v:V}(e:H a=some (.dK kvs))(hl:kvs.length<sizeLine):DPut H a (kV k) v (upd H a (.dK (putK kvs k v))):=.inl ⟨kvs,k,e,rfl,hl,rfl⟩
theorem DPut.t{H:Hp}{a b:Addr}{kvs:List (List Key×V)}{k:List Key}{v:V}(e:H a=some (.dT kvs))(eb:H b=some (.tup (k.map kV)))(hl:kvs.length<sizeLine):
  DPut H a (.ref b) v (upd H a (.dT (putK kvs k v))):=.inr ⟨kvs,k,b,e,rfl,eb,hl,rfl⟩
section
variable{X:Cx}{pins:List (Addr×Obj)}{σ:St}{H:Hp}{s:Shared}{a:Addr}{y v:V}{u r:Value}{o:Option V}{A:Around}{E:Value->Shared->Prop}
theorem Inv.big(I:Inv X pins σ H s):sysModules<s.heap.objs.size:=by
 have h:mainGlobals<s.heap.objs.size:=(I.mod.glob.keeps I.bk).lt
 exact Y2g (by decide) h
theorem ZhD{Q:Value->Shared->Prop}(hu:A.units+1<cLine)(I:Inv X pins σ H s)(g:DGet H a y (some v))(ry:RelV y u)(h:∀w' s',Inv X pins σ H s'->RelV v w'->Q w' s'):
  wpAny (model X.prog X.w) A (getItem (.ref a) u) Q E s:=by
 rcases g with⟨kvs,k,e,ey,l⟩|⟨kvs,k,b,e,ey,eb,l⟩
 ·subst ey
  obtain⟨z,hd,vs,rel,dd⟩:=ZdZ I.hok e
  obtain⟨w',hw,rw'⟩:=RelO.some_of (v:=v) (o:=valueAt vs k) (by rw[l];exact rel.val k)
  exact wpAny_getItem_of (ZdG ry) dd.mapOf hw (h w' _ (I.tok _) rw')
 ·subst ey
  cases(show u=Y0q b from ry)
  obtain⟨z,hd,xs,rel,dd⟩:=Zhy I.hok e
  obtain⟨w',hw,rw'⟩:=RelO.some_of (v:=v) (o:=(atKey xs k).map (·.2)) (by rw[l];exact rel.val k)
  obtain⟨p,hp,hp2⟩:=Y2l.mp hw
  refine wpAny_getItem_heap (tupleKind_room_in1 hu) (Zcw I.hok eb) dd hp ?_
  rw[hp2]
  exact h w' _ (I.tok _) rw'
theorem d_in{Q:Value->Shared->Prop}(hu:A.units+1<cLine)(I:Inv X pins σ H s)(g:DGet H a y o)(ry:RelV y u)(h:∀s',Inv X pins σ H s'->Q (.bool o.isSome) s'):
  wpAny (model X.prog X.w) A (compareOp .In u (.ref a)) Q E s:=by
 rcases g with⟨kvs,k,e,ey,l⟩|⟨kvs,k,b,e,ey,eb,l⟩
 ·subst ey
  obtain⟨z,hd,vs,rel,dd⟩:=ZdZ I.hok e
  refine wpAny_in_of (ZdG ry) hd dd.mapOf ?_
  rw[<- (rel.val k).isSome_eq,<- l]
  exact h _ (I.tok _)
 ·subst ey
  cases(show u=Y0q b from ry)
  obtain⟨z,hd,xs,rel,dd⟩:=Zhy I.hok e
  refine wpAny_in_heap (tupleKind_room_in1 hu) (Zcw I.hok eb) hd dd ?_
  have q:=(rel.val k).isSome_eq
  rw[Y2R]at q
  rw[<- q,<- l]
  exact h _ (I.tok _)
theorem ZlU{Q:Value->Shared->Prop}(hu:A.units+1<cLine)(I:Inv X pins σ H s)(g:DGet H a y o)(ry:RelV y u)(h:∀s',Inv X pins σ H s'->Q (.bool (!o.isSome)) s'):
  wpAny (model X.prog X.w) A (compareOp .NotIn u (.ref a)) Q E s:=by
 rcases g with⟨kvs,k,e,ey,l⟩|⟨kvs,k,b,e,ey,eb,l⟩
 ·subst ey
  obtain⟨z,hd,vs,rel,dd⟩:=ZdZ I.hok e
  refine wpAny_notIn_of (ZdG ry) hd dd.mapOf ?_
  rw[<- (rel.val k).isSome_eq,<- l]
  exact h _ (I.tok _)
 ·subst ey
  cases(show u=Y0q b from ry)
  obtain⟨z,hd,xs,rel,dd⟩:=Zhy I.hok e
  refine wpAny_notIn_heap (tupleKind_room_in1 hu) (Zcw I.hok eb) hd dd ?_
  have q:=(rel.val k).isSome_eq
  rw[Y2R]at q
  rw[<- q,<- l]
  exact h _ (I.tok _)
theorem Ze1{h':Heap}{t':Nat}{ob:HO}(I:Inv X pins σ H s)(mu:Mut (H a))(hs:Y1Y a s.heap h')(he:∃q,h'.get? a=some q)(new:ObjOk X.prog X.w (upd H a ob) h' a ob):
  Inv X pins σ (upd H a ob) {s with heap:=h',toks:=t'}:=
 I.write (x:=a) (e:=a) mu (.inl rfl) (λb q hb z=>(hs.2 b hb).trans z) he new
theorem ZcL{P:Program}{w:World}{H':Hp}{h':Heap}{kvs:List (Key×V)}{vs:List (Key×Value)}(z:kvs.length≤sizeLine)(hd:(a==sysModules)=false)(rel:KV kvs vs)(dd:h'.DictOf (Z19 P w) a vs):
  ObjOk P w H' h' a (.dK kvs):=⟨z,hd,vs,rel,dd⟩
theorem ZhC{H':Hp}{Q:Unit->Shared->Prop}(hu:A.units+1<cLine)(I:Inv X pins σ H s)(g:DPut H a y v H')(ry:RelV y u)(rv:RelV v r)(h:∀s',Inv X pins σ H' s'->Q () s'):
  wpAny (model X.prog X.w) A (setItem (.ref a) u r) Q E s:=by
 rcases g with⟨kvs,k,e,ey,l,eH⟩|⟨kvs,k,b,e,ey,eb,l,eH⟩
 ·subst ey eH
  obtain⟨z,hd,vs,rel,dd⟩:=ZcK I.hok e
  have hz:vs.length≤sizeLine:=by rw[<- rel.length];exact z
  have hl:(putK kvs k v).length≤sizeLine:=by have:=Z9o kvs k v;lia
  refine wpAny_setItem_pairs (hsz:=hz) (ZdG ry) dd λh' dd' hs=>h _ ?_
  have he:∃q,h'.get? a=some q:=let⟨q,_,_,hq,_⟩:=dd';⟨q,hq⟩
  exact Ze1 I (by rw[e];exact Y1k) hs he (ZcL hl hd (rel.put k rv) dd')
 ·subst ey eH
  cases(show u=Y0q b from ry)
  obtain⟨z,hd,xs,rel,dd⟩:=Zqs I.hok e
  have hz:xs.length≤sizeLine:=by rw[<- Paired.length rel];exact z
  have hl:(putK kvs k v).length≤sizeLine:=by have:=Z9o kvs k v;lia
  refine wpAny_setItem_heap (hsz:=hz) (tupleKind_room_in1 hu) (Zcw I.hok eb) dd λh' dd' hs=>h _ ?_
  obtain⟨q,es,ep,hq,h2,h3,h4,_,h5⟩:=dd'
  refine Ze1 I (by rw[e];exact Y1k) hs ⟨q,hq⟩ ⟨hl,hd,_,(rel.put k eb rv).keeps λc ys ec=>?_,q,es,ep,hq,h2,h3,h4,h5⟩
  rw[Z0y (ZnR ec e (λz=>nomatch z))]
  exact ec
end
section
variable{X:Cx}{pins:List (Addr×Obj)}{σ:St}{H:Hp}{s:Shared}{a:Addr}{kvs:List (Key×V)}{k:Key}{u:Value}{A:Around}{E:Value->Shared->Prop}
theorem ZlV{Q:Value->Shared->Prop}(I:Inv X pins σ H s)(e:H a=some (.dK kvs))(h:∀s',Inv X pins σ (upd H a (.dK [])) s'->Q .none s'):wpAny (model X.prog X.w) A (call (.builtin "dict.clear") [.ref a]) Q E s:=by
 obtain⟨z,hd,vs,rel,dd⟩:=ZcK I.hok e
 refine call_meetsIn Y34 dd.typeIs PySem.F.entry_dict_clear (PySem.F.args_dict_clear_1 _) (meets_dict_clear (Z19 X.prog X.w) a) ⟨vs,dd,by rw[<- rel.length];exact z,λh' dd' hs=>h _ ?_⟩
 have he:∃q,h'.get? a=some q:=let⟨q,_,_,hq,_⟩:=dd';⟨q,hq⟩
 exact Ze1 (t':=s.toks) I (by rw[e];exact Y1k) hs he (ZcL (Y17 _) hd .nil dd')
theorem Zqt{Q:Value->Shared->Prop}(I:Inv X pins σ H s)(e:Rd H a (.dK kvs))(h:∀t s',Inv X pins σ H s'->Q (.int kvs.length t) s'):wpAny (model X.prog X.w) A (call (.builtin "len") [.ref a]) Q E s:=by
 obtain⟨z,hd,vs,rel,dd⟩:=ZdZ I.hok e
 refine call_len_dict hd dd (by rw[<- rel.length];rw[sizeLine_eq]at z;lia) ?_
 rw[<- rel.length]
 exact h _ _ (I.tok _)
end
theorem Ze0{X:Cx}{pins:List (Addr×Obj)}{σ:St}{H:Hp}{s:Shared}{a:Addr}{y:V}{o:Option V}(I:Inv X pins σ H s)(g:DGet H a y o):s.TypeIs (.ref a) "dict":=by
 rcases g with⟨kvs,k,e,_,_⟩|⟨kvs,k,b,e,_,_,_⟩
 ·obtain⟨_,_,vs,_,dd⟩:=ZdZ I.hok e
  exact dd.typeIs
 ·obtain⟨_,_,xs,_,dd⟩:=Zhy I.hok e
  exact dd.typeIs
section
variable{X:Cx}{o i e value:Expr}{pos pos' tpos:Pos}{td ty tv:TE}
end
theorem Zj2{P:Program}{w:World}{H:Hp}(h:Heap)(hb:sysModules<h.objs.size):ObjOk P w H (h.push {cls:=.type "dict",data:=.dict #[]}) h.objs.size (.dK []):=
 ⟨Y17 _,beq_eq_false_iff_ne.mpr (Y2d (Y0m hb)),[],.nil,Y3p h⟩
def Zms:TE:=λ_ H Q=>∀p,H p=none->Q (.ref p) (upd H p (.dK []))
section
variable{X:Cx}{pos:Pos}
theorem pe_dnewK:PE X (.Dict [] [] pos) Zms:=λpins s σ H Q I h=>
 wpAny_Dict_empty ⟨.ref s.heap.objs.size,_,I.laid (a:=s.heap.objs.size) (o:=.dK []) (t':=s.toks) (λ_ _ q=>Y03 _ q) (Y0b _) (Zj2 s.heap I.big),rfl,h _ (I.hok.fresh (Y0b _))⟩
end
def Zjx:List (TE×TE)->St->Hp->(List (V×V)->Hp->Prop)->Prop
 |[],_,H,Q=>Q [] H
 |(tk,tv)::r,σ,H,Q=>tk σ H λx H1=>tv σ H1 λy H2=>Zjx r σ H2 λps H3=>Q ((x,y)::ps) H3
abbrev VV:List (V×V)->List (Value×Value)->Prop:=Paired λp q=>RelV p.1 q.1/\RelV p.2 q.2
def PPs(X:Cx)(pos:Pos)(keys:List (Option Expr))(values:List Expr)(trs:List (TE×TE)):Prop:=
 ∀(pins:List (Addr×Obj)) (s:Shared) (σ:St) (H:Hp) (Q:List (V×V)->Hp->Prop),Inv X pins σ H s->Zjx trs σ H Q->
  wpAny (model X.prog X.w) X.A (evalPairs (pairTrees keys values X.env pos)) (λvs s'=>∃ps H',Inv X pins σ H' s'/\VV ps vs/\Q ps H') X.xe s
theorem ZkR{X:Cx}{pos:Pos}:PPs X pos [] [] []:=λpins s σ H Q I h=>pairTrees_nil_walk ⟨[],H,I,.nil,h⟩
theorem Zir{X:Cx}{pos:Pos}{k v:Expr}{ks:List (Option Expr)}{vs:List Expr}{tk tv:TE}{trs:List (TE×TE)}(hk:PE X k tk)(hv:PE X v tv)(hr:PPs X pos ks vs trs):
  PPs X pos (some k::ks) (v::vs) ((tk,tv)::trs):=λpins s σ H Q I h=>
 pairTrees_cons_walk (thn (hk pins s σ H _ I h) λu s1 ⟨x,H1,I1,rx,q1⟩=>thn (hv pins s1 σ H1 _ I1 q1) λw2 s2 ⟨y,H2,I2,ry,q2⟩=>
  thn (hr pins s2 σ H2 _ I2 q2) λws s3 ⟨ps,H3,I3,rel,q3⟩=>⟨(x,y)::ps,H3,I3,.cons ⟨rx,ry⟩ rel,q3⟩)
structure M1 (X:Cx) (o:Expr) (m:Str) (apos:Pos) (e:Expr) (cpos:Pos):Prop where
 base:attributeBase o m X.env (eval o X.env)=eval o X.env
 few:((backTo cpos (starEach [e] X.env)).all (λx=>!x.1)&&(backToKw cpos (keywordEach [] X.env)).all (λx=>x.1.isSome)
  &&decide (([e]:List Expr).length+([]:List Keyword).length+(if([]:List Keyword).isEmpty then 0 else 1)<30))=true
 line:(apos.endLine==cpos.line)=true
 trees:backTo cpos (starEach [e] X.env)=[(false,eval e X.env)]
structure M2 (X:Cx) (o:Expr) (m:Str) (apos:Pos) (e f:Expr) (cpos:Pos):Prop where
 base:attributeBase o m X.env (eval o X.env)=eval o X.env
 few:((backTo cpos (starEach [e,f] X.env)).all (λx=>!x.1)&&(backToKw cpos (keywordEach [] X.env)).all (λx=>x.1.isSome)
  &&decide (([e,f]:List Expr).length+([]:List Keyword).length+(if([]:List Keyword).isEmpty then 0 else 1)<30))=true
 line:(apos.endLine==cpos.line)=true
 trees:backTo cpos (starEach [e,f] X.env)=[(false,eval e X.env),(false,eval f X.env)]
section
variable{X:Cx}{pins:List (Addr×Obj)}{σ:St}{H:Hp}{s:Shared}{a:Addr}{y d:V}{u r:Value}{o:Option V}{A:Around}{E:Value->Shared->Prop}
end
section
variable{X:Cx}{o e f:Expr}{apos cpos:Pos}{td ty tx:TE}
end
section
variable{X:Cx}{pins:List (Addr×Obj)}{σ:St}{H:Hp}{s:Shared}{a:Addr}{kvs:List (Key×V)}{A:Around}{E:Value->Shared->Prop}
theorem Zj3{Q:Value->Shared->Prop}(I:Inv X pins σ H s)(e:Rd H a (.dK kvs))(h:∀p s',H p=none->Inv X pins σ (upd H p (.dK kvs)) s'->Q (.ref p) s'):wpAny (model X.prog X.w) A (call (.type "dict") [.ref a]) Q E s:=by
 obtain⟨z,hd,vs,rel,dd⟩:=ZdZ I.hok e
 refine kt_call_dict hd dd (by rw[<- rel.length];exact z) λh' dd' hs=>?_
 refine h _ _ (I.hok.fresh (Y0b _)) (I.laid (a:=s.heap.objs.size) (o:=.dK kvs) (t':=s.toks) (λb q hq=>?_) (Y0b _) (ZcL z (beq_eq_false_iff_ne.mpr (Y2d (Y0m I.big))) rel dd'))
 exact(hs.2 b (Y0m (Y0i hq))).trans (Y03 _ hq)
end
section
variable{X:Cx}{pins:List (Addr×Obj)}{σ:St}{H:Hp}{s:Shared}{a:Addr}{y:V}{u:Value}{A:Around}{E:Value->Shared->Prop}
end
end L2
namespace Att
open PySem PySem.W PySem.Calls PyProof.Rows
theorem Z9G{P:Params}{h:Heap}:∀(ns:List Int) (vs:List Value),WellAll P h vs (ns.map WData.int)->IntsAre vs ns:=by
 intro ns
 induction ns with
 |nil=>
  intro vs w
  rw[Y0N]at w
  cases w
  exact .nil
 |cons n ns ih=>
  intro vs w
  rw[Y0h]at w
  cases w with
  |cons a b=>
   cases a
   exact .cons _ _ (ih _ b)
theorem Zgj{l:OpenLaw}{n:Nat}(hn:l.most=some n){P:Params}{h:Heap}{args:List WData}{vals:List Value}
  (hpre:l.row.toRowW.claim.pre args=true) (hwl:WellAll P h vals args):
  ∃a vs ns,vals=[Y0q a]/\args=[WData.list (ns.map WData.int)]/\h.get? a=some {cls:=.type "list",data:=.seq vs.toArray}/\IntsAre vs ns/\ns.length≤n:=by
 have hsh:WShape.hasAll [] args [.list .int]=true:=(pre_splitW hpre).1
 have hc:l.pre.holds [] {args:=args}=true:=(pre_splitW hpre).2
 obtain⟨d,r,rfl,h1,h2⟩:=hasAllW_cons hsh
 obtain rfl:=hasAllW_nil h2
 obtain⟨xs,rfl,h3⟩:=hasW_list h1
 obtain⟨ns,rfl⟩:=items_int h3
 have hlen:ns.length≤n:=by
  unfold OpenLaw.pre at hc
  have h4:(WTm.not (.lt (.lit (.int (n:Int))) (.len (.arg 0)))).holds [] {args:=[.list (ns.map .int)]}=true:=by
   have h4:=(holds_andW hc).1
   rw[hn]at h4
   exact h4
  have h5:=condW_of h4 (w_not (w_lt w_lit (w_len_list (w_arg rfl))))
  rw[Y01]at h5
  refine Nat.le_of_not_lt λq=>?_
  have q':(n:Int)<((ns.length:Nat):Int):=by lia
  first
   |(rw[decide_eq_true q']at h5;exact absurd h5 (by decide))
   |(simp at h5;lia)
 cases hwl with
 |cons w1 w2=>
  cases w2
  cases w1 with
  |list ho hall=>exact⟨_,_,ns,rfl,rfl,ho,Z9G ns _ hall,hlen⟩
theorem Zgw(l:OpenLaw)(args:List WData):l.row.toRowW.claim.post args (.bool true) args=true:=
 postW_of (r:=l.row.toRowW) (X:=(true==true))
  (show WShape.has [] (.bool true) .bool=true by first|rfl|decide|simp[WShape.has,WShape.arms,WShape.armsAll])
  (show(WTm.eq .res (.lit (.bool true))).value [] {args:=args,res:=some (.bool true),after:=args}=some (.bool (true==true))from w_eq_bool (w_res rfl) w_lit) rfl
theorem attach_call{l:OpenLaw}{n:Nat}{q:Program}{loose:List Str}{XP:(Str->Option Value)->Heap->Prop}{YP:World->Heap->Prop}{d:DefRec}
  (hn:l.most=some n) (hdf:d.params.defaults=[])
  (call:∀(w:World) (s₀ s₁:Shared) (mg mb:Str->Option Value) (fa:Addr) (o:Obj) (pm cd doc:Value) (a:Addr) (vs:List Value) (ns:List Int),
   Ground q loose [] XP w s₀ mg mb s₁.heap->YP w s₁.heap->
   s₁.heap.get? fa=some o->o.data=.func (docDef d.name d.params d.body d.scope pm cd doc)->s₁.heap.CodeRec cd d.name->mg d.name=some (.ref fa)->
   s₁.heap.get? a=some {cls:=.type "list",data:=.seq vs.toArray}->IntsAre vs ns->ns.length≤n->s₁.gens=#[]->
   codeAny (model l.prog w) callerA (.call (.ref fa) ⟨[.ref a],[]⟩) (λr s'=>r=.ok (.ret (.bool true))/\OldK s₁.heap s'.heap/\s'.os=s₁.os/\AllBare s'.gens) s₁):
  WalkO q loose XP YP l.row.toRowW d [] (λf vs=>PySem.call f vs):=by
 intro w s₀ s₁ mg mb G Y fa o pm cd doc dV kV ho hd hcd hD hmg hg args vals as hpre hlay hrd hwl hlo
 obtain rfl:dV=.none:=Dflts.none hD hdf
 obtain rfl:kV=.none:=Dflts.noKw hD
 obtain⟨a,vs,ns,rfl,rfl,hobj,hints,hlen⟩:=Zgj hn hpre hwl
 refine enter_call (codeAny_mono (call w s₀ s₁ mg mb fa o pm cd doc a vs ns G Y ho (fd_plain hd) hcd hmg hobj hints hlen hg) λr s' hq=>?_)
 obtain⟨rfl,h2,h3,h4⟩:=hq
 exact⟨.inl ⟨.bool true,.bool true,[],rfl,λ_=>rfl,.bool true,Zgw l _,λ_=>⟨List.Pairwise.nil,λ_ hm=>(nomatch hm)⟩⟩,h2,h3,h4⟩
section
variable{prog:Program}{w:World}{A:Around}{E:Value->Shared->Prop}{s:Shared}{K:Frag}
def ledger(h:Heap)(L d:Addr):List (Addr×Obj):=(Y0U h.objs.size).filterMap λa=>if a=L\/a=d then none else(h.get? a).map λo=>(a,o)
end
end Att
namespace L2
open PySem PySem.Spec PyProof.Rows
theorem Zc3:∀{vs:List Value} {ns:List Int},IntsAre vs ns->Vals (ns.map V.int) vs
 |_,_,.nil=>.nil
 |_,_,.cons n t h=>.cons ⟨t,rfl⟩ (Zc3 h)
def Only(H:Hp):Prop:=∀b,H b=none\/∃o xs,H b=some (.frz o (.lst xs))
theorem ZiL{P:Program}{w:World}{K:Y02}{mg mb:Str->Option Value}{CX:CXT}{k:Nat}{fa a:Addr}{fd:FuncData}{x:Str}{sp:Sp}{s₁:Shared}{vs:List Value}{ns:List Int}
  (KX:K.In s₁.heap) (hns:s₁.heap.Ns mainGlobals mg) (hb:s₁.heap.Ns builtinsNs mb) (hbb:∀x:Str,x≠"__name__"->mb x=bootBuiltins x) (hlim:s₁.heap.NoLimit) (hg:s₁.gens=#[])
  (ha:s₁.heap.get? a=some {cls:=.type "list",data:=.seq vs.toArray}) (hi:IntsAre vs ns) (hl:ns.length≤sizeLine) (hr:Room k callerA)
  (F:∀base:Heap,K.In base->base.Ns mainGlobals mg->FnOk P w K mg base CX k fa fd [x] sp) (hbind:∀(s:Shared) (u:Value),BindsTo s fd ⟨[u],[]⟩ [(x,u)])
  (hsp:∀H:Hp,Only H->SqL K H a (ns.map V.int)->sp [.ref a] H (λv _=>v=.bl true) λ_ _ _=>False)
  (hCX:∀H e s',CX [] H s₁ (λ_ _ _=>False) e s'->False):
  codeAny (model P w) callerA (.call (.ref fa) ⟨[.ref a],[]⟩) (λr s'=>r=.ok (.ret (.bool true))/\OldK s₁.heap s'.heap/\s'.os=s₁.os/\AllBare s'.gens) s₁:=by
 have rv:=Zc3 hi
 have lenV:=hi.length
 have core:∀H:Hp,Only H->SqL K H a (ns.map V.int)->HOk P w H s₁.heap->(∀b,H b≠none->b=a)->(H a≠none->K.lookup a=none)->
   codeAny (model P w) callerA (.call (.ref fa) ⟨[.ref a],[]⟩) (λr s'=>r=.ok (.ret (.bool true))/\OldK s₁.heap s'.heap/\s'.os=s₁.os/\AllBare s'.gens) s₁:=by
  intro H hO hS hok hA hK
  have base_of:∀{b:Addr} {o:Obj},s₁.heap.get? b=some o->H b=none->(hidT s₁.heap H).get? b=some o:=λe n=>ZiY e n
  have noA:∀{b:Addr} {o:Obj} {es:Array DictEntry} {ep:Nat},s₁.heap.get? b=some o->o.data=.dict es ep->H b=none:=fun{b o es ep} e d=>by
   cases q:H b with
   |none=>rfl
   |some u=>
    have e':b=a:=hA b (by rw[q];simp)
    subst e'
    rw[ha]at e;cases e
    have d':Y26 vs.toArray _=Data.dict es ep:=d
    cases d'
  have nsK:∀{b:Addr} {m:Str->Option Value},s₁.heap.Ns b m->(hidT s₁.heap H).Ns b m:=fun{b m} ⟨o,es,ep,e,d,r⟩=>⟨o,es,ep,base_of e (noA e d),d,r⟩
  have hKb:K.In (hidT s₁.heap H):=λb o e=>base_of (KX b o e) (by
   cases q:H b with
   |none=>rfl
   |some u=>
    have e':b=a:=hA b (by rw[q];simp)
    subst e'
    rw[hK (by rw[q];simp)]at e;cases e)
  have hM:Mod K mg (hidT s₁.heap H):=⟨hKb,nsK hns,⟨mb,nsK hb,hbb⟩,let⟨mc,h1,h2⟩:=hlim;⟨mc,nsK h1,h2⟩⟩
  have e0:Env0 P w K mg (hidT s₁.heap H) callerA [] s₁ H:=⟨rfl,hM,λb o e=>Zlc e,Y2I (Zhu _ _),trivial,λb hb=>absurd (show b∈([]:List Addr)from hb) (by simp),hok,.of_eq hg⟩
  refine codeAny_mono ((F _ hKb (nsK hns)).run callerA [] s₁ H ⟨[.ref a],[]⟩ [.ref a] [.ref a] _ _ hr e0 (hbind s₁ (.ref a)) (.cons rfl .nil) (hsp H hO hS)) λr s' h=>?_
  cases r with
  |error e=>exact(hCX H e s' h).elim
  |ok fl=>
   cases fl with
   |next=>exact Y1c h
   |brk=>exact Y1c h
   |cont=>exact Y1c h
   |ret u=>
    obtain⟨v,H',os,bare,un,hok',r',q⟩:=h
    have q':v=.bl true:=q
    subst q'
    obtain rfl:u=Y15 true:=r'
    refine⟨rfl,OldK.of_keep λb o e=>?_,os,bare⟩
    cases q:H b with
    |none=>exact un.keep b o e q (by intro z;exact absurd (show b∈([]:List Addr)from z) (by simp)) (by simp)
    |some u=>
     rcases hO b with z|⟨ob,xs,z⟩
     ·rw[q]at z;cases z
     ·have z2:=un.frzs b ob _ z
      obtain⟨e1,_⟩:=hok b _ z
      obtain⟨e2,_⟩:=hok' b _ z2
      rw[e]at e1;cases e1
      exact e2
 cases hk:K.lookup a with
 |some o=>
  have e:=KX a o hk
  rw[ha]at e
  cases e
  refine core (λ_=>none) (λ_=>.inl rfl) (.inr ⟨_,vs.toArray,_,hk,rfl,rfl,rfl,by rw[Y0g,lenV];exact hl,by simpa using rv⟩) (λb u z=>by have z':(none:Option HO)=some u:=z;cases z') (λb z=>absurd rfl z) λz=>absurd rfl z
 |none=>
  refine core (fun b=>if b=a then some (.frz {cls:=.type "list",data:=.seq vs.toArray} (.lst (ns.map V.int)))else none) (fun b=>?_) (.inl (.inr ⟨{cls:=.type "list",data:=.seq vs.toArray},if_pos rfl⟩)) (fun b u z=>?_) (fun b z=>?_) fun _=>hk
  ·by_cases hb:b=a
   ·exact .inr ⟨_,_,if_pos hb⟩
   ·exact .inl (if_neg hb)
  ·by_cases hb:b=a
   ·have z':=(if_pos hb).symm.trans z
    cases z'
    subst hb
    exact⟨ha,by rw[Y01];exact hl,vs,_,rv,ha⟩
   ·have z':=(if_neg hb).symm.trans z
    cases z'
  ·by_cases hb:b=a
   ·exact hb
   ·exact absurd (if_neg hb) z
end L2
namespace L2
open PySem PySem.Spec PyProof.Rows
abbrev KOf{K:Y02}{h:Heap}(_:K.In h):Y02:=K
theorem walk_of{l:Y3q}{n k:Nat}{q:Program}{loose:List Str}{XP:(Str->Option Value)->Heap->Prop}{YP:World->Heap->Prop}{d:DefRec}{K:Params->Y02}{CX:World->CXT}{sp:World->Sp}{x:Str}
  (hn:l.most=some n) (hn2:n≤sizeLine) (hdf:d.params.defaults=[]) (hr:Room k callerA)
  (hY:∀(w:World) (h:Heap),YP w h->(K w.params).In h)
  (F:∀(w:World) (mg:Str->Option Value) (fa:Addr) (h:Heap),(K w.params).In h->h.Ns mainGlobals mg->mg d.name=some (.ref fa)->
   ∃fd:FuncData,(∀(s:Shared) (u:Value),BindsTo s fd ⟨[u],[]⟩ [(x,u)])/\
    ∀base:Heap,(K w.params).In base->base.Ns mainGlobals mg->FnOk l.prog w (K w.params) mg base (CX w) k fa fd [x] (sp w))
  (hsp:∀(w:World) (H:Hp) (a:Addr) (ns:List Int),ns.length≤n->Only H->SqL (K w.params) H a (ns.map V.int)->sp w [.ref a] H (λv _=>v=.bl true) λ_ _ _=>False)
  (hCX:∀(w:World) (H:Hp) (s:Shared) (e:Value) (s':Shared),CX w [] H s (λ_ _ _=>False) e s'->False):
  PySem.W.WalkO q loose XP YP l.row.toRowW d [] (λf vs=>PySem.call f vs):=by
 refine Att.attach_call hn hdf λw s₀ s₁ mg mb fa o pm cd doc a vs ns G Y ho hd hcd hmg hobj hints hlen hg=>?_
 have KX:=hY w _ Y
 obtain⟨fd,hb,hF⟩:=F w mg fa _ KX G.T.g hmg
 exact ZiL KX G.T.g G.T.b G.T.builtins G.T.nolimit hg hobj hints (Y0M hlen hn2) hr hF hb (λH hO hS=>hsp w H a ns hlen hO hS) λH e s'=>hCX w H s₁ e s'
end L2
/- THE LAST THEOREM (shape;LID,My.*are yours):
  My.Adr:a structure of the addresses that your layer names (classes,functions);My.Txt K t:a structure(Prop) of the equations over K;
  My.txt_mk:{K} {implicit addresses ..} (e1:nsIn K mainGlobals "law"=some (some (.ref f))) (e2:K.lookup f=some ⟨oc,od,.func (fnOf "law" "law" params body scope dV kV doc pm an cdv ct),sl⟩) (e3:codeIn K cdv "law"=true) ..:∃t,My.Txt K t
set_option maxRecDepth 100000 in
set_option maxHeartbeats 0 in
theorem PySem.Challenge.cw_LID_holds:PySem.Challenge.rw_LID.Holds:=by
 w_on;o_law;k_head;(case hw=>w_witness2)
 k_fill
 refine L2.walk_of (l:=PySem.Challenge.rw_LID) (n:=63) (k:=40) (x:="script") (CX:=fun w=>..) (sp:=fun _=>My.sp_law) rfl (by decide) rfl ⟨rfl,by decide,by decide⟩ (fun w h Y=>PySem.W.kIn_of Y) ?F ?S ?C
 case F=>
  intro w mg fa h KX G hmg
  have T:∃t,My.Txt (L2.KOf KX) t:=by
   dsimp only[L2.KOf] -- K must stand as «<heap const> w.params» for k_is
   refine' My.txt_mk ?e1 ?e2 ?e3 ..
   (case e1=>PySem.W.k_is) -- in the order:a name->its address->its object->its parts
   (case e2=>PySem.W.k_is)
   ..
  obtain⟨t,T⟩:=T
  have e0:=hmg.symm.trans (Y0c KX G T.law)
  cases e0 -- fa is the law's own address
  exact⟨_,λs u=>.of_eq rfl,λbase kb nb=>My.law_fn T kb nb⟩ -- if «.of_eq rfl» comes too early:refine' ⟨_,?b,λbase kb nb=>My.law_fn T kb nb⟩;exact λs u=>.of_eq rfl
 case S=>exact λw H a ns hl hO hS=>..
 case C=>exact ..
(the tactic k_is has no namespace:write k_is) -/
namespace L2
open PySem PySem.Spec PyProof.Rows
def Z03(s:Stmt):Arguments:=match s with
 |.FunctionDef _ a _ _ _ _ _ _ _ _=>a
 |_=>{posonlyargs:=[],args:=[],vararg:=none,kwonlyargs:=[],kw_defaults:=[],kwarg:=none,defaults:=[]}
def Z01(s:Stmt):List Stmt:=match s with
 |.FunctionDef _ _ b _ _ _ _ _ _ _=>b
 |_=>[]
def Z00(s:Stmt):Scope:=match s with
 |.FunctionDef _ _ _ _ _ _ sc _ _ _=>sc
 |_=>{kind:=.function,names:=[],isGenerator:=false,isCoroutine:=false}
abbrev CX0:CXT:=λ_ _ _ _ _ _=>False
abbrev E0:XK:=λ_ _ _=>False
theorem ZpW{X:Cx}:Zi0 CX0 X E0:=λ_ _ _ _ _ _ _ h=>h.elim
structure Fun (K:Y02) (x qual:Str) (st:Stmt) (f:Addr) (fd:FuncData):Prop where
 ex:∃(oc:Value) (od:Option Addr) (kV doc pm:Value) (an:Option Addr) (cdv ct:Value) (osl:Array (Option Value)),
  fd=Y04 x qual (Z03 st) (Z01 st) (Z00 st) .none kV doc pm an cdv ct/\K.lookup f=some ⟨oc,od,.func fd,osl⟩/\Y0d K cdv qual=true
 kp:Y0a K (.ref f)=true
section
variable{P:Program}{w:World}{K:Y02}{mg:Str->Option Value}{base:Heap}
theorem Fun.ok{x qual:Str}{st:Stmt}{f:Addr}{fd:FuncData}{N ps:List Str}{k:Nat}{sp:Sp}(F:Fun K x qual st f fd)(S:FnScope N ps (Z00 st))(len:∀vs H Q E,sp vs H Q E->vs.length=ps.length)
  (hbody:∀(cdv:Value) (A:Around) (outer:List Env) (s:Shared) (H:Hp) (vs:List V) (Q:VK) (E:XK),Room k (A.deeper (envOfC qual (Z00 st) s.heap.objs.size f cdv))->sp vs H Q E->
   ∃t,PSs (cxOf CX0 P w K mg base N qual (Z00 st) f cdv A outer s H E).nox (Z01 st) t/\t {nx:=λ_ H'=>Q .non H',rt:=Q} (Zaa N vs) H):FnOk P w K mg base CX0 (k+1) f fd ps sp:=by
 obtain⟨oc,od,kV,doc,pm,an,cdv,ct,osl,rfl,lk,hcd⟩:=F.ex
 refine Zqa lk hcd S len λA outer s H vs Q E hr hsp=>?_
 obtain⟨t,h,q⟩:=hbody cdv A outer s H vs Q E hr hsp
 exact⟨t,h.nox,q⟩
theorem Fun.binds{x qual:Str}{st:Stmt}{f:Addr}{fd:FuncData}{ps:List Str}(F:Fun K x qual st f fd)
  (h:∀(kV doc pm:Value) (an:Option Addr) (cdv ct:Value) (us:List Value),us.length=ps.length->bindArgs (Y04 x qual (Z03 st) (Z01 st) (Z00 st) .none kV doc pm an cdv ct) ⟨us,[]⟩=pure (ps.zip us)):Binds K fd ps []:=by
 obtain⟨oc,od,kV,doc,pm,an,cdv,ct,osl,rfl,lk,hcd⟩:=F.ex
 exact .all (h kV doc pm an cdv ct)
theorem Z04{x qual:Str}{st:Stmt}{f:Addr}{oc:Value}{od an:Option Addr}{osl:Array (Option Value)}{kV doc pm cdv ct:Value}(l:K.lookup f=some ⟨oc,od,.func (Y04 x qual (Z03 st) (Z01 st) (Z00 st) .none kV doc pm an cdv ct),osl⟩)
  (c:Y0d K cdv qual=true) (k:Y0a K (.ref f)=true):Fun K x qual st f (Y04 x qual (Z03 st) (Z01 st) (Z00 st) .none kV doc pm an cdv ct):=⟨⟨oc,od,kV,doc,pm,an,cdv,ct,osl,rfl,l,c⟩,k⟩
end
section
variable{X:Cx}
theorem pv(i:Nat){x:Str}{pos:Pos}(hN:X.N[i]?=some x:=by rfl) (hv:Vis X.env.scope x:=by first|exact Or.inl rfl|exact Or.inr (Or.inl rfl)|exact Or.inr (Or.inr rfl)) (hd:(x==("__debug__":Str))=false:=by decide)
  (hcd:(x==("__classdict__":Str))=false:=by decide):PE X (.Name x pos) (tVar i):=ZjJ hN hv hd hcd
end
def Same(H H':Hp):Prop:=∀b o,H b=some o->H' b=some o
theorem Same.refl(H:Hp):Same H H:=λ_ _ h=>h
theorem Same.trans{H H1 H2:Hp}(a:Same H H1)(b:Same H1 H2):Same H H2:=λc o h=>b c o (a c o h)
theorem Same.free{H H':Hp}(e:Same H H'){l:Addr}(h:H' l=Option.none):H l=Option.none:=by
 cases q:H l with
 |none=>rfl
 |some o=>
  rw[e l o q]at h
  cases h
theorem Same.seq{K:Y02}{H H':Hp}{a:Addr}{xs:List V}(e:Same H H')(h:SqL K H a xs):SqL K H' a xs:=by
 rcases h with(h|⟨o,h⟩)|h
 ·exact .inl (.inl (e _ _ h))
 ·exact .inl (.inr ⟨o,e _ _ h⟩)
 ·exact .inr h
end L2
namespace L2
open PySem PySem.Spec PyProof.Rows
section
variable{X:Cx}
theorem ZhQ:CallR X (.builtin "len") (fun xs H Q=>∃a kvs,xs=[V.ref a]/\H a=some (.dK kvs)/\Q (.int kvs.length) H):=by
 intro pins s σ H xs us Q I r h
 obtain⟨a,kvs,rfl,ha,q⟩:=h
 obtain⟨u,rfl,ru⟩:=Z6k r
 cases ru
 exact Zqt I (.inl ha) λt s' I'=>⟨.int kvs.length,H,I',⟨t,rfl⟩,q⟩
end
section
variable{κ:Type} [DecidableEq κ]
theorem ZgJ:∀{l:List κ} {k:κ},l.Nodup->¬k∈l->(l++[k]).Nodup
 |[],k,_,_=>by simp
 |a::r,k,h,hk=>by
  obtain⟨h1,h2⟩:=Y11.mp h
  show(a::(r++[k])).Nodup
  refine Y11.mpr ⟨λm=>?_,ZgJ h2 λm=>hk (Y0f.mpr (Or.inr m))⟩
  rcases Y0Q.mp m with q|q
  ·exact h1 q
  ·exact hk (Y0f.mpr (Or.inl (Y0z.mp q).symm))
end
end L2
namespace L2
open PySem PySem.Spec PyProof.Rows
section
variable{X:Cx}
def Zi6(i j:Int):Prop:=0<j/\j<2^256
theorem Zft{j:Int}(h:Zi6 i j):j.natAbs.log2<9000:=by
 have h1:(0:Int)<j:=h.1
 have h2:j<2^256:=h.2
 have h0:j.natAbs≠0:=by lia
 have:j.natAbs<2^256:=by lia
 have:=(Nat.log2_lt h0).mpr this
 lia
theorem ZiD:OpR X (binaryOp .FloorDiv) (rI Zi6 λi j=>.int (i/j)):=opI λi j _ _ _ _ _ hc q=>by
 have h1:(0:Int)<j:=hc.1
 exact floordiv_int (by lia) (by rw[Int.fdiv_eq_ediv_of_nonneg i (by lia)];exact q) (.inl (PyProof.noPylong_of_log2 (Zft hc)))
theorem Ze8:CallR X (.builtin "isinstance") (fun xs H Q=>∃x c t b,xs=[x,.ty c]/\TyOf X.K H x t/\Y1U X.K t (.type c)=some b/\Q (.bl b) H):=by
 intro pins s σ H xs us Q I r h
 obtain⟨x,c,t,b,rfl,ty,e,q⟩:=h
 obtain⟨u,w',rfl,ru,rw'⟩:=Zf6 r
 cases rw'
 exact Zh6 I ru ty e λtk=>⟨.bl b,H,I.tok tk,rfl,q⟩
end
mutual
inductive Dp (K:Y02) (H:Hp):V->PyData->Prop
 |non:Dp K H .non .none
 |bl (b:Bool):Dp K H (.bl b) (.bool b)
 |int (i:Int):Dp K H (.int i) (.int i)
 |str (x:Str):Dp K H (.str x) (.str x)
 |lst {a:Addr} {xs:List V} {ds:List PyData}:SqL K H a xs->DpAll K H xs ds->Dp K H (.ref a) (.list ds)
 |tup {a:Addr} {xs:List V} {ds:List PyData}:SqT K H a xs->DpAll K H xs ds->Dp K H (.ref a) (.tuple ds)
inductive DpAll (K:Y02) (H:Hp):List V->List PyData->Prop
 |nil:DpAll K H [] []
 |cons {x:V} {xs:List V} {d:PyData} {ds:List PyData}:Dp K H x d->DpAll K H xs ds->DpAll K H (x::xs) (d::ds)
end
section
variable{X:Cx}{pins:List (Addr×Obj)}{σ:St}{H:Hp}{s:Shared}
mutual
theorem Dp.reads(I:Inv X pins σ H s):∀{x:V} {d:PyData} {u:Value},Dp X.K H x d->RelV x u->∃as,Reads s.heap u d as
 |_,_,_,.non,r=>by cases r;exact⟨_,.none⟩
 |_,_,_,.bl b,r=>by cases r;exact⟨_,.bool b⟩
 |_,_,_,.int i,r=>by obtain⟨t,rfl⟩:=r;exact⟨_,.int i t⟩
 |_,_,_,.str x,r=>by obtain⟨t,rfl⟩:=r;exact⟨_,.str x t⟩
 |_,_,_,.lst hq ha,r=>by
  cases r
  obtain⟨its,rv,pl,hz⟩:=I.list hq
  obtain⟨as,rs⟩:=DpAll.reads I ha rv
  obtain⟨o,ho,hc,n,hd⟩:=pl.isList
  exact⟨_,.list ho hc hd (by simpa using rs)⟩
 |_,_,_,.tup hq ha,r=>by
  cases r
  obtain⟨its,rv,pl,hz⟩:=I.tuple hq
  obtain⟨as,rs⟩:=DpAll.reads I ha rv
  obtain⟨o,ho,hc,n,hd⟩:=pl
  exact⟨_,.tuple ho hc hd (by simpa using rs)⟩
theorem DpAll.reads(I:Inv X pins σ H s):∀{xs:List V} {ds:List PyData} {us:List Value},DpAll X.K H xs ds->Vals xs us->∃as,ReadsAll s.heap us ds as
 |_,_,_,.nil,r=>by cases r;exact⟨_,.nil⟩
 |_,_,_,.cons h t,r=>by
  cases r with
  |cons r1 r2=>
   obtain⟨as,a⟩:=Dp.reads I h r1
   obtain⟨bs,b⟩:=DpAll.reads I t r2
   exact⟨_,.cons a b⟩
end
end
theorem DpAll.ints{K:Y02}{H:Hp}:∀ns:List Int,DpAll K H (ns.map V.int) (ns.map PyData.int)
 |[]=>.nil
 |n::r=>.cons (.int n) (DpAll.ints r)
section
variable{X:Cx}
theorem ZnH(hu:X.A.units+64<cLine):OpR X (compareOp .Eq) (λx y H Q=>∃d e,Dp X.K H x d/\Dp X.K H y e/\Y20 d=true/\Y20 e=true/\Q (.bl (PyData.eqv d e)) H):=by
 intro pins s σ H x y v u Q I rx ry h
 obtain⟨d,e,hd,he,sd,se,q⟩:=h
 obtain⟨as,ra⟩:=hd.reads I rx
 obtain⟨bs,rb⟩:=he.reads I ry
 exact SeqAt.compareEq_shaped ra rb sd se hu (Z0x I q rfl)
theorem ZnD(hu:X.A.units+64<cLine):OpR X (compareOp .NotEq) (λx y H Q=>∃d e,Dp X.K H x d/\Dp X.K H y e/\Y20 d=true/\Y20 e=true/\Q (.bl (!PyData.eqv d e)) H):=by
 intro pins s σ H x y v u Q I rx ry h
 obtain⟨d,e,hd,he,sd,se,q⟩:=h
 obtain⟨as,ra⟩:=hd.reads I rx
 obtain⟨bs,rb⟩:=he.reads I ry
 exact SeqAt.compareNe_shaped ra rb sd se hu (Z0x I q rfl)
end
end L2
namespace L2
end L2
namespace L2
open PySem PySem.Spec PyProof.Rows
def clOf(cells:List (Str×Addr)):List (Str×NameKind)->List (Str×Addr)->List (Str×Addr)
 |[],acc=>acc
 |(n,k)::r,acc=>if k=.free then(match cells.lookup n with|some a=>clOf cells r ((n,a)::acc)|none=>clOf cells r acc)else clOf cells r acc
theorem Z50(cells:List (Str×Addr)):∀(names:List (Str×NameKind)) (acc:List (Str×Addr)) (x:Str) (c:Addr),(clOf cells names acc).lookup x=some c->acc.lookup x=some c\/cells.lookup x=some c
 |[],acc,x,c,h=>.inl h
 |(n,k)::r,acc,x,c,h=>by
  unfold clOf at h
  by_cases hk:k=.free
  ·rw[if_pos hk]at h
   cases hc:cells.lookup n with
   |none=>rw[hc]at h;exact Z50 cells r acc x c h
   |some a=>
    rw[hc]at h
    rcases Z50 cells r _ x c h with q|q
    ·by_cases hx:x=n
     ·subst hx
      simp at q
      subst q
      exact .inr hc
     ·have hb:(x==n)=false:=beq_eq_false_iff_ne.mpr hx
      simp only[Y1b,hb]at q
      exact .inl q
    ·exact .inr q
  ·rw[if_neg hk]at h
   exact Z50 cells r acc x c h
theorem Z7m(cells:List (Str×Addr)):∀(names:List (Str×NameKind)) (acc:List (Str×Addr)) (x:Str) (c:Addr),cells.lookup x=some c->acc.lookup x=some c->(clOf cells names acc).lookup x=some c
 |[],acc,x,c,_,h=>h
 |(n,k)::r,acc,x,c,h,ha=>by
  unfold clOf
  by_cases hk:k=.free
  ·rw[if_pos hk]
   cases hc:cells.lookup n with
   |none=>exact Z7m cells r acc x c h ha
   |some a=>
    refine Z7m cells r _ x c h ?_
    by_cases hx:x=n
    ·subst hx
     rw[h]at hc;cases hc
     simp
    ·have hb:(x==n)=false:=beq_eq_false_iff_ne.mpr hx
     simp only[Y1b,hb]
     exact ha
  ·rw[if_neg hk]
   exact Z7m cells r acc x c h ha
theorem Z7n(cells:List (Str×Addr)):∀(names:List (Str×NameKind)) (acc:List (Str×Addr)) (x:Str) (c:Addr),(x,Y0W)∈names->cells.lookup x=some c->(clOf cells names acc).lookup x=some c
 |[],acc,x,c,h,_=>by cases h
 |(n,k)::r,acc,x,c,h,ha=>by
  unfold clOf
  rcases Y0f.mp h with e|h
  ·cases e
   rw[if_pos rfl,ha]
   exact Z7m cells r _ _ c ha (by simp)
  ·by_cases hk:k=.free
   ·rw[if_pos hk]
    cases hc:cells.lookup n with
    |none=>exact Z7n cells r acc x c h ha
    |some a=>exact Z7n cells r _ x c h ha
   ·rw[if_neg hk]
    exact Z7n cells r acc x c h ha
theorem Z4Z{env:Env}(f:Str×NameKind->List (Str×Addr)->Sem (ForInStep (List (Str×Addr))))
  (hf:∀n k r,f (n,k) r=if(k==Y0W)=true then(cellOf env n >>= λa=>pure (Y2A ((n,a)::r)))else pure (Y2A r)):
  ∀(names:List (Str×NameKind)) (acc:List (Str×Addr)),(∀y∈names,y.2=.free->∃c,env.cells.lookup y.1=some c)->(forIn names acc f:Sem (List (Str×Addr)))=pure (clOf env.cells names acc)
 |[],acc,_=>by rw[List.forIn_nil];rfl
 |(n,k)::r,acc,h=>by
  rw[List.forIn_cons,hf]
  have hr:∀y∈r,y.2=.free->∃c,env.cells.lookup y.1=some c:=λy hy=>h y (Y0n _ hy)
  by_cases hk:k=.free
  ·subst hk
   obtain⟨c,hc⟩:=h (n,.free) Y0v rfl
   have hc':env.cells.lookup n=some c:=hc
   have e:cellOf env n=pure c:=by unfold cellOf;rw[hc']
   rw[if_pos (by decide),e,pure_bind,pure_bind]
   show forIn r ((n,c)::acc) f=_
   rw[Z4Z f hf r _ hr]
   simp only[clOf,if_pos,hc']
  ·have hb:(k==Y0W)=false:=by simpa using hk
   rw[hb,if_neg Y09,pure_bind]
   show forIn r acc f=_
   rw[Z4Z f hf r _ hr]
   simp only[clOf,if_neg hk]
theorem Zbg{scope:Scope}{env:Env}(h:∀y∈scope.names,y.2=.free->∃c,env.cells.lookup y.1=some c):closureFor scope env=pure (clOf env.cells scope.names []):=by
 unfold closureFor
 simp only[bind_pure]
 exact Z4Z _ (λn k r=>by
  by_cases hk:(k==Y0W)=true
  ·simp only[hk,if_true]
  ·simp only[hk,if_false]) scope.names [] h
def Zbf(osc scope:Scope)(N own:List Str)(fr:List Nat):Bool:=
 decide (scope.kind=.function)&&scope.names.all (λy=>decide (y.2≠.cell))&&scope.names.all (λy=>decide (y.2=.local->scope.names.lookup y.1=some .local))&&
 scope.names.all (λy=>decide (y.2=.free->osc.names.lookup y.1=some .cell\/osc.names.lookup y.1=some .free))&&
 fr.all (λi=>match N[i]? with|some x=>decide ((x,Y0W)∈scope.names/\scope.names.lookup x=some .free/\(osc.names.lookup x=some .cell\/osc.names.lookup x=some .free))|none=>false)
structure CompOk (osc scope:Scope) (N:List Str) (fr:List Nat):Prop where
 kind:scope.kind=.function
 nocell:∀y∈scope.names,y.2≠.cell
 names:∀y∈scope.names,y.2=.local->scope.names.lookup y.1=some .local
 has:∀y∈scope.names,y.2=.free->osc.names.lookup y.1=some .cell\/osc.names.lookup y.1=some .free
 frees:∀i∈fr,∃x,N[i]?=some x/\(x,Y0W)∈scope.names/\scope.names.lookup x=some .free/\(osc.names.lookup x=some .cell\/osc.names.lookup x=some .free)
theorem Z3H{osc scope:Scope}{N own:List Str}{fr:List Nat}(h:Zbf osc scope N own fr=true):CompOk osc scope N fr:=by
 unfold Zbf at h
 simp only[Y0H,List.all_eq_true,decide_eq_true_eq]at h
 obtain⟨⟨⟨⟨h1,h2⟩,h3⟩,h4⟩,h5⟩:=h
 refine⟨h1,h2,h3,h4,λi hi=>?_⟩
 have q:=h5 i hi
 cases e:N[i]? with
 |none=>rw[e]at q;simp at q
 |some x=>rw[e]at q;simp only[decide_eq_true_eq]at q;exact⟨x,rfl,q⟩
def sC(own:List Str)(fr:List Nat)(σ:St):St:=own.map (λ_=>none)++fr.map (λi=>σ.getD i none)
def nC(own:List Str)(fr:List Nat)(N:List Str):List Str:=own++fr.map (λi=>N.getD i Y3m)
def cxC(X:Cx)(scope:Scope)(own:List Str)(fr:List Nat)(C:Addr)(fp:List Addr)(s₃:Shared)(H₃:Hp):Cx:=
 {X with N:=nC own fr X.N,s₀:=s₃,H₀:=H₃,env:=compEnvC scope (clOf X.env.cells scope.names []) C X.env,outer:=X.stack,ex:=fp,fn:=λ_=>false,xe:=λ_ _=>False}
def Keep(σ σ':St):Prop:=σ.length=σ'.length/\∀(i:Nat) (v:V),σ[i]?=some (some v)->σ'[i]?=some (some v)
def tAll:TT:=λ_ H Q=>Q true H
def PTs(X:Cx)(ifs:List Expr)(t:TT):Prop:=(ifs=[]/\t=tAll)\/∃c,ifs=[c]/\PT X c t
section
variable{prog:Program}{w:World}{A:Around}{R:Result->Shared->Prop}{s:Shared}
theorem ZcR{elt target iter:Expr}{ifs:List Expr}{scope:Scope}{pos:Pos}{it acc:Value}{env:Env}(I:Nat->Shared->Prop)
  (turn:∀n s,I n s->wpAny (model prog w) A (pyNext it) (λr s₁=>match r with
   |none=>R (.ok .next) s₁
   |some v=>wpAny (model prog w) A (letOwnedTupleGo target it v) (λ_ s₁'=>wpAny (model prog w) A (assign target env v) (λ_ s₂=>
     wpAny (model prog w) A (forIn ifs true λc r=>if r=true then do let ok<- isTrue c env (eval c env);pure (Y2A ok)else pure (Y2A r)) (λok s₃=>
      if ok=true then wpAny (model prog w) A (eval elt env) (λx s₄=>
       wpAny (model prog w) A (call (.builtin "list.append") [acc,x]) (fun _ s₅=>∃m,m<n/\I m s₅) (fun _ _=>False) s₄) (fun _ _=>False) s₃
      else∃m,m<n/\I m s₃) (λ_ _=>False) s₂) (λ_ _=>False) s₁') (λ_ _=>False) s₁) (λ_ _=>False) s)
  (n:Nat) (h:I n s):
  codeAny (model prog w) A (.compLoop (.ListComp elt [⟨target,iter,ifs,0⟩] scope pos) 0 it acc env) R s:=by
 refine codeAny_loop rfl I (λn s hI=>?_) n h
 show wpAny _ A ((compTurn (.ListComp elt [⟨target,iter,ifs,0⟩] scope pos) 0 it acc env).onRaise (λx=>do noteFrame x env;theTreesLotGoes x)) _ _ s
 refine wpAny_noted ?_
 rw[compTurn_list]
 refine wpAny_bind (wpAny_standAt (wpAny_bind (wpAny_mono (turn n s hI) (λr s₁ h₁=>?_) λ_ _ h'=>h'.elim)))
 cases r with
 |none=>exact wpAny_pure h₁
 |some v=>
  refine wpAny_bind (wpAny_mono h₁ (λ_ s₁' h₁'=>?_) λ_ _ h'=>h'.elim)
  refine wpAny_bind (wpAny_mono h₁' (λ_ s₂ h₂=>wpAny_bind (wpAny_mono h₂ (λok s₃ h₃=>?_) λ_ _ h'=>h'.elim)) λ_ _ h'=>h'.elim)
  cases ok with
  |false=>exact wpAny_pure ⟨rfl,h₃⟩
  |true=>
   exact wpAny_bind (wpAny_bind (wpAny_mono h₃ (λx s₄ h₄=>wpAny_bind (wpAny_mono h₄ (λ_ s₅ h₅=>wpAny_pure (wpAny_pure ⟨rfl,h₅⟩)) λ_ _ h'=>h'.elim)) λ_ _ h'=>h'.elim))
end
theorem Zoz{σ:St}{H:Hp}{Q:Bool->Hp->Prop}(h:Q true H):tAll σ H Q:=h
section
variable{X:Cx}{pins:List (Addr×Obj)}{σ:St}{H1:Hp}{s2:Shared}{tg elt iter:Expr}{ifs:List Expr}{scope:Scope}{pos:Pos}{own:List Str}{fr:List Nat}{g:TG}{tt:TT}{te:TE}
theorem Z7T{scope:Scope}{env:Env}{x:Str}:∀{names:List (Str×NameKind)},names.lookup x=some .free->
  (names.map fun(n,k)=>if(k==Y0W&&env.scope.kind==.function&&env.kindOf n==some .cell)then(n,Y2j)else(n,k)).lookup x=some .cell\/
  (names.map fun(n,k)=>if(k==Y0W&&env.scope.kind==.function&&env.kindOf n==some .cell)then(n,Y2j)else(n,k)).lookup x=some .free
 |[],h=>by simp at h
 |(n,k)::r,h=>by
  have ih:=@Z7T scope env x r
  show List.lookup x ((if(k==Y0W&&env.scope.kind==.function&&env.kindOf n==some .cell)=true then(n,Y2j)else(n,k))::_)=_\/List.lookup x ((if(k==Y0W&&env.scope.kind==.function&&env.kindOf n==some .cell)=true then(n,Y2j)else(n,k))::_)=_
  cases hx:x==n with
  |true=>
   simp only[Y1b,hx]at h
   cases h
   by_cases hc:(Y0W==Y0W&&env.scope.kind==.function&&env.kindOf n==some .cell)=true
   ·rw[if_pos hc];simp only[Y1b,hx];exact .inl trivial
   ·rw[if_neg hc];simp only[Y1b,hx];exact .inr trivial
  |false=>
   simp only[Y1b,hx]at h
   by_cases hc:(k==Y0W&&env.scope.kind==.function&&env.kindOf n==some .cell)=true
   ·rw[if_pos hc];simp only[Y1b,hx];exact ih h
   ·rw[if_neg hc];simp only[Y1b,hx];exact ih h
theorem Z7S{scope:Scope}{env:Env}(hn:∀y∈scope.names,y.2≠.cell){x:Str}:∀{names:List (Str×NameKind)},(∀y∈names,y.2≠.cell)->
  ((names.map fun(n,k)=>if(k==Y0W&&env.scope.kind==.function&&env.kindOf n==some .cell)then(n,Y2j)else(n,k)).lookup x=some .cell\/
  (names.map fun(n,k)=>if(k==Y0W&&env.scope.kind==.function&&env.kindOf n==some .cell)then(n,Y2j)else(n,k)).lookup x=some .free)->(x,Y0W)∈names
 |[],_,h=>by simp at h
 |(n,k)::r,hnc,h=>by
  have ih:=@Z7S scope env hn x r (λy hy=>hnc y (Y0n _ hy))
  have hk:k≠.cell:=hnc (n,k) Y0v
  simp only[Y0h]at h
  cases hx:x==n with
  |true=>
   have e:x=n:=eq_of_beq hx
   subst e
   by_cases hc:(k==Y0W&&env.scope.kind==.function&&env.kindOf x==some .cell)=true
   ·have:k=.free:=by
     simp only[Y0H,beq_iff_eq]at hc
     exact hc.1.1
    subst this
    exact Y0v
   ·rw[if_neg hc]at h
    simp at h
    rcases h with h|h
    ·exact absurd h hk
    ·subst h;exact Y0v
  |false=>
   by_cases hc:(k==Y0W&&env.scope.kind==.function&&env.kindOf n==some .cell)=true
   ·rw[if_pos hc]at h
    simp only[Y1b,hx]at h
    exact Y0n _ (ih h)
   ·rw[if_neg hc]at h
    simp only[Y1b,hx]at h
    exact Y0n _ (ih h)
theorem ZfG{C:Addr}{fp:List Addr}{s3:Shared}{H3:Hp}{h4:Heap}{tk:Nat}{m:Str->Option Value}(ok:CompOk X.env.scope scope X.N fr)(I3:Inv X pins σ H3 s3)(hC:C=s3.heap.objs.size)(hf:∀b∈fp,FpOk X pins H3 b)(hfo:∀b∈fp,∃o,s3.heap.get? b=some o)
  (ns:h4.Ns C m) (kp:∀b o,s3.heap.get? b=some o->h4.get? b=some o):
  Inv (cxC X scope own fr C fp s3 H3) pins (sC own fr σ) H3 {s3 with heap:=h4,toks:=tk}:=by
 have cellsub:∀x c,(clOf X.env.cells scope.names []).lookup x=some c->X.env.cells.lookup x=some c:=λx c h=>(Z50 _ _ _ _ _ h).elim (λz=>by simp at z) id
 have cellt:∀x c,X.env.cells.lookup x=some c->c<s3.heap.objs.size:=λx c e=>let⟨v,q⟩:=I3.cell x c e;q.lt
 have fplt:∀b∈fp,b<s3.heap.objs.size:=λb hb=>let⟨o,e⟩:=hfo b hb;Y0i e
 have kindOf_of:∀x,(X.env.scope.names.lookup x=some .cell\/X.env.scope.names.lookup x=some .free)->∃c,X.env.cells.lookup x=some c:=λx h=>I3.ok.has x h
 refine⟨⟨I3.ok.mod,ok.kind,I3.ok.glob,I3.ok.blt,Y2I hC.symm,λx y c h1 h2=>I3.ok.inj x y c (cellsub x c h1) (cellsub y c h2),λx hx=>?_,λx c z=>?_,I3.ok.hd,I3.ok.frames,.inl rfl,λb hb=>⟨?_,λx c e=>?_⟩,λb o e=>I3.bs b o e,Y0M I3.ok.bsz I3.sz,λb o e hb=>?_,λb hb hz=>?_,I3.stack,λb hb=>I3.stkFree b hb⟩,
  rfl,I3.bare,Un.kept kp,⟨m,ns,λi x v e1 e2 e3=>?_⟩,λx c e=>?_,?_,λx c e=>I3.freeC x c (cellsub x c e),λp hp=>?_,I3.hok.kept kp,?_⟩
 · -- has
  have hm:(x,Y0W)∈scope.names:=Z7S (scope:=scope) (env:=X.env) ok.nocell ok.nocell hx
  obtain⟨c,hc⟩:=kindOf_of x (ok.has _ hm rfl)
  exact⟨c,Z7n _ _ _ _ _ hm hc⟩
 ·exact absurd z Y09
 ·exact Y0m (by rw[hC];exact fplt b hb)
 ·exact(hf b hb).2.2.2.2.1 x c (cellsub x c e)
 ·rcases(hf b hb).2.2.2.1 with z|z
  ·exact I3.ok.noex b o e z
  ·exact absurd (Y0L (Y0i e) (Y0M I3.ok.bsz z)) (Y22 _)
 ·rcases Y0f.mp (I3.stkSub b hz)with z|z
  ·exact(hf b hb).2.1 z
  ·exact(hf b hb).2.2.1 z
 · -- a free name's value
  have e2':(own.map (λ_=>(none:Option V))++fr.map (λi=>σ.getD i none))[i]?=some (some v):=e2
  have e1':(own++fr.map (λi=>X.N.getD i Y3m))[i]?=some x:=e1
  by_cases hi:i<own.length
  ·rw[Y0P (by simpa using hi),Y06]at e2'
   cases q:own[i]? with
   |none=>rw[q]at e2';cases e2'
   |some z=>rw[q]at e2';cases e2'
  ·rw[Y0E (by simpa using hi)]at e2'
   rw[Y0E (by simpa using hi)]at e1'
   simp only[Y01]at e2'
   rw[Y06]at e1' e2'
   cases q:fr[i - own.length]? with
   |none=>rw[q]at e2';cases e2'
   |some j=>
    rw[q]at e1' e2'
    obtain⟨y,hy,hm,hl,ho⟩:=ok.frees j (Y08 q)
    have ex:x=y:=by
     have:X.N.getD j Y3m=y:=by rw[Y0j,hy];rfl
     simp only[Option.map_some,this,Y2p]at e1'
     exact e1'.symm
    subst ex
    have ev:σ[j]?=some (some v):=by
     simp only[Option.map_some,Y2p]at e2'
     rw[Y0j]at e2'
     cases z:σ[j]? with
     |none=>rw[z]at e2';cases e2'
     |some o=>rw[z]at e2';cases e2';rfl
    obtain⟨m0,hn0,hl0⟩:=I3.loc
    obtain⟨u,ru,lk⟩:=hl0 j x v hy ev (.inr ho)
    refine⟨u,ru,.inr ⟨Z7T (scope:=scope) hl,?_⟩⟩
    rcases lk with⟨k1,_⟩|⟨_,c,hc,z⟩
    ·have k1':X.env.scope.names.lookup x=some .local:=k1
     rw[k1']at ho
     rcases ho with z|z<;>cases z
    ·exact⟨c,Z7n _ _ _ _ _ hm hc,z.keeps kp⟩
 ·obtain⟨v,z⟩:=I3.cell x c (cellsub x c e)
  exact⟨v,z.keeps kp⟩
 ·show H3 C=none
  exact I3.hok.fresh (Y2I hC.symm)
 ·obtain⟨e,n,ne,nf,d⟩:=I3.pin p hp
  refine⟨kp _ _ e,n,Y0m (by rw[hC];exact Y0i e),λz=>?_,d⟩
  rcases Y0f.mp (I3.stkSub p.1 z)with z|z
  ·exact ne z
  ·exact nf z
 ·show(own.map (λ_=>(none:Option V))++fr.map (λi=>σ.getD i none)).length=(own++fr.map (λi=>X.N.getD i Y3m)).length
  simp
end
end L2
namespace L2
open PySem PySem.Spec PyProof.Rows
section
variable{X:Cx}
theorem ZhL(hc:X.calm=true):CallR X (.builtin "min") (fun xs H Q=>∃(p:Addr) (ns:List Int),xs=[.ref p]/\SqL X.K H p (ns.map V.int)/\0<ns.length/\∀M,M∈ns->(∀a∈ns,M≤a)->Q (.int M) H):=by
 intro pins s σ H xs us Q I r h
 obtain⟨p,ns,rfl,hq,hne,q⟩:=h
 obtain⟨u,rfl,ru⟩:=Z6k r
 cases ru
 obtain⟨its,rv,pl,hz⟩:=I.list hq
 have hi:IntsAre its ns:=Z7L rv
 obtain⟨xs,e⟩:=hi.allInts.items
 have hns:ns=xs.toList.map (·.1):=by rw[<- hi.numsOf,<- nums_intItems,<- e]
 have hsz:0<xs.size:=by
  have h3:=hne;rw[hns,Y01,Y0k]at h3;exact h3
 have hl:=pl.isList
 rw[e]at hl
 refine min_intList (I.ok.hd hc) hl hsz λv h' tk hv hk=>?_
 obtain⟨t,rfl⟩:=intItems_at hv
 obtain⟨h1,h2⟩:=argBest_lt (numAt xs) (xs.size - 1)
 refine⟨.int _,H,I.kept hk,⟨t,rfl⟩,q _ ?_ λa ha=>?_⟩
 ·rw[hns,numAt_eq];exact getD_mem (by rw[Y01,Y0k];lia)
 ·rw[hns]at ha
  obtain⟨j,hj,rfl⟩:=mem_getD ha
  rw[Y01,Y0k]at hj
  rw[<- numAt_eq];exact h2 j (by lia)
theorem ZhN(hc:X.calm=true):CallR X (.builtin "max") (fun xs H Q=>∃(p:Addr) (ns:List Int),xs=[.ref p]/\SqL X.K H p (ns.map V.int)/\0<ns.length/\∀M,M∈ns->(∀a∈ns,a≤M)->Q (.int M) H):=by
 intro pins s σ H xs us Q I r h
 obtain⟨p,ns,rfl,hq,hne,q⟩:=h
 obtain⟨u,rfl,ru⟩:=Z6k r
 cases ru
 obtain⟨its,rv,pl,hz⟩:=I.list hq
 have hi:IntsAre its ns:=Z7L rv
 obtain⟨xs,e⟩:=hi.allInts.items
 have hns:ns=xs.toList.map (·.1):=by rw[<- hi.numsOf,<- nums_intItems,<- e]
 have hsz:0<xs.size:=by
  have h3:=hne;rw[hns,Y01,Y0k]at h3;exact h3
 have hl:=pl.isList
 rw[e]at hl
 refine max_intList (I.ok.hd hc) hl hsz λv h' tk hv hk=>?_
 obtain⟨t,rfl⟩:=intItems_at hv
 obtain⟨h1,h2⟩:=argBest_gt (numAt xs) (xs.size - 1)
 refine⟨.int _,H,I.kept hk,⟨t,rfl⟩,q _ ?_ λa ha=>?_⟩
 ·rw[hns,numAt_eq];exact getD_mem (by rw[Y01,Y0k];lia)
 ·rw[hns]at ha
  obtain⟨j,hj,rfl⟩:=mem_getD ha
  rw[Y01,Y0k]at hj
  rw[<- numAt_eq];exact h2 j (by lia)
end
section
variable{X:Cx}
end
end L2
namespace L2
open PySem PySem.Spec PyProof.Rows
section
variable{X:Cx}
end
end L2
namespace L2
open PySem PySem.Spec PyProof.Rows
section
variable{X:Cx}
theorem Zdz{z:Str}{i:Int}(hz:z.length≤16)(h0:-1000≤i)(h1:i≤1000):MulOk z i:=by
 refine⟨?_,λh2 _=>?_,λh2 _=>?_⟩
 ·rw[decide_eq_false (by lia),decide_eq_false (by lia)];rfl
 ·have hi:1≤i:=by lia
  have:(16:Int)≤(2^63 - 1)/i:=by
   rw[Int.le_ediv_iff_mul_le (by lia)]
   lia
  lia
 ·have:z.length*i.toNat≤16*1000:=Nat.mul_le_mul hz (by lia)
  have h3:z.length*i.toNat<2^20:=by lia
  generalize z.length*i.toNat=n at h3
  revert n
  intro n hn
  have hs:sizeLine=16777216:=by decide
  show decide (n>sizeLine)=false
  rw[hs]
  exact decide_eq_false (by lia)
theorem Zl5:OpR X (binaryOp .Mult) (λx y H Q=>∃z i,x=.str z/\y=.int i/\z.length≤16/\ -1000≤i/\i≤1000/\Q (.str (Txt.mul z i)) H):=by
 intro pins s σ H x y v u Q I rx ry h
 obtain⟨z,i,rfl,rfl,hz,h0,h1,q⟩:=h
 obtain⟨t,rfl⟩:=rx
 obtain⟨t',rfl⟩:=ry
 exact SB.mul (Zdz hz h0 h1) (λt' k=>⟨.str (Txt.mul z i),H,I.tok _,⟨_,rfl⟩,q⟩)
theorem Z7k(x:Array Nat):∀(k:Nat) (acc:Array Nat),((Y0l k x).foldl (·++·) acc).size=acc.size+k*x.size
 |0,acc=>by simp
 |k+1,acc=>by
  rw[Y13,Y1M,Z7k x k,Array.size_append,Nat.succ_mul]
  lia
theorem Zlh(z:Str)(i:Int):(Txt.mul z i).length=i.toNat*z.length:=by
 unfold Txt.mul
 by_cases h:i<1
 ·rw[if_pos h]
  have:i.toNat=0:=by lia
  rw[this,Nat.zero_mul]
  rfl
 rw[if_neg h]
 by_cases h2:(i==1||z.length==0)=true
 ·rw[if_pos h2]
  rcases(Y3r _ _).mp h2 with e|e
  ·have:i=1:=by simpa using e
   subst this
   simp
  ·have:z.length=0:=by simpa using e
   rw[this,Nat.mul_zero]
 ·rw[if_neg h2]
  have e:=Z7k z.cps i.toNat #[]
  show((Y0l i.toNat z.cps).foldl (·++·) #[]).size=_
  rw[e]
  show 0+_=_
  rw[Nat.zero_add]
  rfl
theorem Z90{z:Str}{i:Int}(m:Nat)(h:i≤m)(hz:z.length≤1):(Txt.mul z i).length≤m:=by
 rw[Zlh]
 have:i.toNat*z.length≤i.toNat*1:=Nat.mul_le_mul_left _ hz
 lia
theorem ZiE(hu:X.A.units<cLine):OpR X (compareOp .Eq) (λx y H Q=>∃a b xs,x=.ref a/\y=.ref b/\SqL X.K H a xs/\SqL X.K H b []/\Q (.bl xs.isEmpty) H):=by
 intro pins s σ H x y v u Q I rx ry h
 obtain⟨a,b,xs,rfl,rfl,ha,hb,q⟩:=h
 cases rx
 cases ry
 obtain⟨its,rv,pl,hz⟩:=I.list ha
 obtain⟨jts,rw',pl',_⟩:=I.list hb
 have hj:jts=[]:=Y1s rw'.length.symm
 subst hj
 cases xs with
 |nil=>
  have hi:its=[]:=Y1s rv.length.symm
  subst hi
  exact SeqAt.eq_listAt (e:=λ_=>true) pl.isList pl'.isList rfl hu (λj h1 _=>absurd h1 (Y3s j)) (Z0x I q rfl)
 |cons x r=>
  have hl:its.length=r.length+1:=by rw[<- rv.length];rfl
  exact SeqAt.eq_list_lengthsAt pl.isList pl'.isList (by simp;intro e;rw[e]at hl;simp at hl) hu (Z0x I q rfl)
theorem ZiC(hu:X.A.units<cLine):OpR X (compareOp .NotEq) (λx y H Q=>∃a b xs,x=.ref a/\y=.ref b/\SqL X.K H a xs/\SqL X.K H b []/\Q (.bl (!xs.isEmpty)) H):=by
 intro pins s σ H x y v u Q I rx ry h
 obtain⟨a,b,xs,rfl,rfl,ha,hb,q⟩:=h
 cases rx
 cases ry
 obtain⟨its,rv,pl,hz⟩:=I.list ha
 obtain⟨jts,rw',pl',_⟩:=I.list hb
 have hj:jts=[]:=Y1s rw'.length.symm
 subst hj
 cases xs with
 |nil=>
  have hi:its=[]:=Y1s rv.length.symm
  subst hi
  exact SeqAt.RcNeAt.lists (e:=λ_=>true) pl.isList pl'.isList rfl hu (λj h1 _=>absurd h1 (Y3s j)) X.prog X.w _ _ (Z0x I q rfl)
 |cons x r=>
  have hl:its.length=r.length+1:=by rw[<- rv.length];rfl
  exact SeqAt.RcNeAt.lists_lengths pl.isList pl'.isList (by simp;intro e;rw[e]at hl;simp at hl) hu X.prog X.w _ _ (Z0x I q rfl)
end
end L2
namespace L2
open PySem PySem.Spec PyProof.Rows
end L2
namespace L2
open PySem PySem.Spec PyProof.Rows
open AutoSeq1 (wpAny_loadPart')
open MeetsSeq MeetsSeq2 MeetsSeq3 SeqRoads2
def AliP(P:Program)(w:World)(A:Around)(s:Shared)(y x:Value):Prop:=∀(E:Value->Shared->Prop) (Q:Bool->Shared->Prop),Q true s->wpAny (model P w) A (eqBool y x) Q E s
def RcP(P:Program)(w:World)(A:Around)(s:Shared)(y x:Value):Prop:=∀(E Q:Value->Shared->Prop),Q (.bool true) s->wpAny (model P w) A (richCompare .Eq y x) Q E s
def RnP(P:Program)(w:World)(A:Around)(s:Shared)(y x:Value):Prop:=∀(E Q:Value->Shared->Prop),Q (.bool false) s->wpAny (model P w) A (richCompare .NotEq y x) Q E s
section
variable{P:Program}{w:World}{A:Around}{s:Shared}{a b:Addr}{xs ys:Array Value}
theorem AliP.of_at{y x:Value}(h:SeqAt.EqAt A s y x true):AliP P w A s y x:=λE Q q=>h P w E Q q
theorem AliP.refs(h:RcP P w A s (.ref a) (.ref b)):AliP P w A s (.ref a) (.ref b):=by
 intro E Q q
 by_cases e:a=b
 ·subst e;exact SeqAt.EqAt.same _ P w E Q q
 ·unfold eqBool
  refine wpAny_holding (wpAny_ite_split (λz=>absurd (by injection (eq_of_beq z)) e) λ_=>?_)
  exact wpAny_bind (h E _ (wpAny_truthy_bool q))
theorem ZmH(ha:s.heap.IsTuple a xs)(hb:s.heap.IsTuple b ys)(hz:xs.size=ys.size)(hu:A.units<cLine)(he:∀p∈xs.toList.zip ys.toList,AliP P w A.in1 s p.1 p.2):RcP P w A s (.ref a) (.ref b):=by
 intro E Q q
 obtain⟨⟨c1,d1,t1,l1⟩,o1,k1,n1,e1⟩:=id ha
 obtain⟨⟨c2,d2,t2,l2⟩,o2,k2,n2,e2⟩:=id hb
 dsimp only at k1 e1 k2 e2
 subst k1 e1 k2 e2
 refine wpAny_richCompare_same_room (op:=.Eq) ⟨_,o1,rfl⟩ ⟨_,o2,rfl⟩ F.slot_tuple_eq (wpAny_call_entry F.slot_tuple_eq ⟨_,o1,rfl⟩ F.entry_tuple_eq ?_ (F.args_tuple_eq_2 _ _)) hu
 obtain⟨h0,g0,dd,tk,os⟩:=s
 have f2:=Y2S
 wp_walk using wpAny_loadPart' o1,wpAny_loadPart' o2,wpAny_forIn_list _ (λrest r s'=>r.1=none/\s'=⟨h0,g0,dd,tk,os⟩/\∀p∈rest,AliP P w A.in1 ⟨h0,g0,dd,tk,os⟩ p.1 p.2) _
 case turn=>
  rintro⟨y,x⟩ rest r s' ⟨z1,rfl,m⟩
  refine wpAny_bind (m (y,x) Y0v _ _ ?_)
  wp_walk
  exact⟨rfl,rfl,λp hp=>m p (Y0n _ hp)⟩
 case fin=>
  rintro⟨r1,r2⟩ s' ⟨z1,rfl,-⟩
  dsimp only at z1
  subst z1
  wp_walk
  have tc:Y1l .Eq xs.size ys.size=.bool true:=by simp[Y1l,hz]
  rw[tc]
  exact⟨_,rfl,(λz=>nomatch z),q⟩
 case h=>exact⟨rfl,rfl,he⟩
theorem Zj1{n1 n2:Nat}{d1 d2:Option Addr}{l1 l2:Array (Option Value)}(hz:xs.size=ys.size){R:Result->Shared->Prop}
  (o1:s.heap.get? a=some {cls:=.type "list",dict:=d1,data:=.seq xs n1,slots:=l1}) (o2:s.heap.get? b=some {cls:=.type "list",dict:=d2,data:=.seq ys n2,slots:=l2})
  (he:∀j (h1:j<xs.size) (h2:j<ys.size),AliP P w A.in1 s xs[j] ys[j]) (q:R (.ok (.ret (.bool true))) s):∀k i:Nat,xs.size - i=k->
  wpAny (model P w) A.in1 (Builtin.«list.__eq__.loop» ⟨[.ref a,.ref b,rawInt i,rawInt 2],[]⟩) (λfin s'=>match fin with|.done f=>R (.ok f) s'|.again c'=>c'.quiet=true/\codeAny (model P w) A c' R s') (λe s'=>R (.error e) s') s:=by
 obtain⟨h0,g0,dd,tk,os⟩:=s
 intro k
 induction k with
 |zero=>
  intro i hk
  wp_walk using wpAny_loadPart' o1,wpAny_loadPart' o2
  rw[show xs[((i:Nat):Int).toNat]?=none by simp;lia,show ys[((i:Nat):Int).toNat]?=none by simp;lia]
  wp_walk using wpAny_loadPart' o1,wpAny_loadPart' o2
  show R (.ok (.ret (.bool (xs.size==ys.size)))) _
  simpa [hz]using q
 |succ k ih=>
  intro i hk
  have h1:i<xs.size:=by lia
  have h2:i<ys.size:=by lia
  wp_walk using wpAny_loadPart' o1,wpAny_loadPart' o2
  rw[show xs[((i:Nat):Int).toNat]?=some xs[i] by simp[h1],show ys[((i:Nat):Int).toNat]?=some ys[i] by simp[h2]]
  refine wpAny_bind (he i h1 h2 _ _ ?_)
  wp_walk
  rw[show((i:Int)+1)=((i+1:Nat):Int) by push_cast;rfl]
  refine⟨plainId_quiet plain_eq_loop _,codeAny_builtin entry_eq_loop ?_⟩
  rw[Y0I plain_eq_loop _]
  exact ih (i+1) (by lia)
theorem ZmI(ha:s.heap.IsList a xs)(hb:s.heap.IsList b ys)(hz:xs.size=ys.size)(hu:A.units<cLine)(he:∀j (h1:j<xs.size) (h2:j<ys.size),AliP P w A.in1 s xs[j] ys[j]):RcP P w A s (.ref a) (.ref b):=by
 intro E Q q
 obtain⟨⟨c1,d1,t1,l1⟩,o1,k1,n1,e1⟩:=id ha
 obtain⟨⟨c2,d2,t2,l2⟩,o2,k2,n2,e2⟩:=id hb
 dsimp only at k1 e1 k2 e2
 subst k1 e1 k2 e2
 have t1:s.TypeIs (.ref a) "list":=⟨_,o1,rfl⟩
 refine wpAny_richCompare_same_room (op:=.Eq) t1 ⟨_,o2,rfl⟩ Y3H (wpAny_call (codeAny_call_builtin Y3H.plain F.entry_list_eq (Y3H.check _ _ _ _ _ _ _ _ t1 (F.args_list_eq_2 _ _) ?_))) hu
 obtain⟨h0,g0,dd,tk,os⟩:=s
 have f3:=Y3g
 have nz:¬(xs.size != ys.size)=true:=by simp[hz]
 wp_walk using wpAny_loadPart' o1,wpAny_loadPart' o2
 refine⟨plainId_quiet plain_eq_loop _,codeAny_builtin entry_eq_loop ?_⟩
 rw[Y0I plain_eq_loop _]
 exact Zj1 (R:=wants (λv s'=>v≠.notImplemented/\Q v s') E) hz o1 o2 he (show Y15 true≠.notImplemented/\Q (.bool true) _ from⟨(λz=>nomatch z),q⟩) _ 0 rfl
theorem Zld(ha:s.heap.IsTuple a xs)(hb:s.heap.IsTuple b ys)(hz:xs.size=ys.size)(hu:A.units<cLine)(he:∀p∈xs.toList.zip ys.toList,AliP P w A.in1 s p.1 p.2):RnP P w A s (.ref a) (.ref b):=by
 intro E Q q
 obtain⟨⟨c1,d1,t1,l1⟩,o1,k1,n1,e1⟩:=id ha
 obtain⟨⟨c2,d2,t2,l2⟩,o2,k2,n2,e2⟩:=id hb
 dsimp only at k1 e1 k2 e2
 subst k1 e1 k2 e2
 refine wpAny_richCompare_same_room (op:=.NotEq) ⟨_,o1,rfl⟩ ⟨_,o2,rfl⟩ F.slot_tuple_ne (wpAny_call_entry F.slot_tuple_ne ⟨_,o1,rfl⟩ F.entry_tuple_ne ?_ (F.args_tuple_ne_2 _ _)) hu
 obtain⟨h0,g0,dd,tk,os⟩:=s
 have f2:=Y2S
 wp_walk using wpAny_loadPart' o1,wpAny_loadPart' o2,wpAny_forIn_list _ (λrest r s'=>r.1=none/\s'=⟨h0,g0,dd,tk,os⟩/\∀p∈rest,AliP P w A.in1 ⟨h0,g0,dd,tk,os⟩ p.1 p.2) _
 case turn=>
  rintro⟨y,x⟩ rest r s' ⟨z1,rfl,m⟩
  refine wpAny_bind (m (y,x) Y0v _ _ ?_)
  wp_walk
  exact⟨rfl,rfl,λp hp=>m p (Y0n _ hp)⟩
 case fin=>
  rintro⟨r1,r2⟩ s' ⟨z1,rfl,-⟩
  dsimp only at z1
  subst z1
  wp_walk
  have tc:Y1l .NotEq xs.size ys.size=.bool false:=by simp[Y1l,hz]
  rw[tc]
  exact⟨_,rfl,(λz=>nomatch z),q⟩
 case h=>exact⟨rfl,rfl,he⟩
theorem ZiI{n1 n2:Nat}{d1 d2:Option Addr}{l1 l2:Array (Option Value)}(hz:xs.size=ys.size){R:Result->Shared->Prop}
  (o1:s.heap.get? a=some {cls:=.type "list",dict:=d1,data:=.seq xs n1,slots:=l1}) (o2:s.heap.get? b=some {cls:=.type "list",dict:=d2,data:=.seq ys n2,slots:=l2})
  (he:∀j (h1:j<xs.size) (h2:j<ys.size),AliP P w A.in1 s xs[j] ys[j]) (q:R (.ok (.ret (.bool false))) s):∀k i:Nat,xs.size - i=k->
  wpAny (model P w) A.in1 (Builtin.«list.__eq__.loop» ⟨[.ref a,.ref b,rawInt i,rawInt 3],[]⟩) (λfin s'=>match fin with|.done f=>R (.ok f) s'|.again c'=>c'.quiet=true/\codeAny (model P w) A c' R s') (λe s'=>R (.error e) s') s:=by
 obtain⟨h0,g0,dd,tk,os⟩:=s
 intro k
 induction k with
 |zero=>
  intro i hk
  wp_walk using wpAny_loadPart' o1,wpAny_loadPart' o2
  rw[show xs[((i:Nat):Int).toNat]?=none by simp;lia,show ys[((i:Nat):Int).toNat]?=none by simp;lia]
  wp_walk using wpAny_loadPart' o1,wpAny_loadPart' o2
  show R (.ok (.ret (.bool (xs.size != ys.size)))) _
  simpa [hz]using q
 |succ k ih=>
  intro i hk
  have h1:i<xs.size:=by lia
  have h2:i<ys.size:=by lia
  wp_walk using wpAny_loadPart' o1,wpAny_loadPart' o2
  rw[show xs[((i:Nat):Int).toNat]?=some xs[i] by simp[h1],show ys[((i:Nat):Int).toNat]?=some ys[i] by simp[h2]]
  refine wpAny_bind (he i h1 h2 _ _ ?_)
  wp_walk
  rw[show((i:Int)+1)=((i+1:Nat):Int) by push_cast;rfl]
  refine⟨plainId_quiet plain_eq_loop _,codeAny_builtin entry_eq_loop ?_⟩
  rw[Y0I plain_eq_loop _]
  exact ih (i+1) (by lia)
theorem Zle(ha:s.heap.IsList a xs)(hb:s.heap.IsList b ys)(hz:xs.size=ys.size)(hu:A.units<cLine)(he:∀j (h1:j<xs.size) (h2:j<ys.size),AliP P w A.in1 s xs[j] ys[j]):RnP P w A s (.ref a) (.ref b):=by
 intro E Q q
 obtain⟨⟨c1,d1,t1,l1⟩,o1,k1,n1,e1⟩:=id ha
 obtain⟨⟨c2,d2,t2,l2⟩,o2,k2,n2,e2⟩:=id hb
 dsimp only at k1 e1 k2 e2
 subst k1 e1 k2 e2
 have t1:s.TypeIs (.ref a) "list":=⟨_,o1,rfl⟩
 refine wpAny_richCompare_same_room (op:=.NotEq) t1 ⟨_,o2,rfl⟩ Y3I (wpAny_call (codeAny_call_builtin Y3I.plain F.entry_list_ne (Y3I.check _ _ _ _ _ _ _ _ t1 (F.args_list_ne_2 _ _) ?_))) hu
 obtain⟨h0,g0,dd,tk,os⟩:=s
 have f3:=Y3g
 have nz:¬(xs.size != ys.size)=true:=by simp[hz]
 wp_walk using wpAny_loadPart' o1,wpAny_loadPart' o2
 refine⟨plainId_quiet plain_eq_loop _,codeAny_builtin entry_eq_loop ?_⟩
 rw[Y0I plain_eq_loop _]
 exact ZiI (R:=wants (λv s'=>v≠.notImplemented/\Q v s') E) hz o1 o2 he (show Y15 false≠.notImplemented/\Q (.bool false) _ from⟨(λz=>nomatch z),q⟩) _ 0 rfl
theorem Z9c{K:Type} [DecidableEq K] {knd:KeyKind P w K}{nm:String}{ka kb:List (K×Value)}{E:Value->Shared->Prop}{Q:Bool->Shared->Prop}(na:(a==sysModules)=false)(nb:(b==sysModules)=false)
  (da:s.heap.DictOf knd a ka) (db:s.heap.DictOf knd b kb) (hz:ka.length=kb.length) (he:∀p∈ka,∃y,valueAt kb p.1=some y/\AliP P w A s p.2 y) (q:Q true s):
  wpAny (model P w) A (Y3h nm a b) Q E s:=by
 obtain⟨oa,ea,pa,o1,_,t1,k1,v1,_⟩:=da
 obtain⟨ob,eb,pb,o2,_,t2,k2,v2,_⟩:=db
 have za:ka.length=ea.size:=v1.length.symm.trans Y0k
 have zb:kb.length=eb.size:=v2.length.symm.trans Y0k
 have fd:∀k,findBy knd.is eb k=valueAt kb k:=by
  intro k
  rw[<- v2.find k]
  clear zb v2 k2 t2 o2
  obtain⟨l⟩:=eb
  simp[findBy]
 have zz:ea.size=eb.size:=by lia
 unfold Y3h Builtin.Dict.showsAll
 rw[na,nb]
 refine wpAny_bind (wpAny_pure (wpAny_bind (wpAny_pure (wpAny_bind (wpAny_dictEntries o1 t1 ?_)))))
 dsimp only
 refine wpAny_bind (wpAny_dictEntries o2 t2 ?_)
 rw[if_neg (by simp[zz])]
 refine wpAny_bind (wpAny_dictEpoch o1 t1 (wpAny_bind ?_))
 rw[Std.Legacy.Range.forIn_eq_forIn_range']
 simp only[Std.Legacy.Range.size,Nat.sub_zero,Nat.add_sub_cancel,Nat.div_one]
 refine wpAny_forIn_list _ (λrest r s'=>s'=s/\r=(none,())/\∀i∈rest,i<ea.size) _ ?_ ?_ _ _ ⟨rfl,rfl,λi hi=>by simpa using hi⟩
 ·rintro i rest r s' ⟨rfl,rfl,m⟩
  have lt:i<ea.size:=m i Y0v
  have lt':i<ka.length:=by lia
  refine wpAny_bind (wpAny_dictEntries o1 t1 ?_)
  rw[Y14 lt]
  obtain⟨key,val⟩:=v1.get? (i:=i) (e:=ea[i]) (k:=ka[i].1) (v:=ka[i].2) (by rw[Y3t];exact Y14 lt) (Y00 lt')
  obtain⟨k',i',hh⟩:=k1 ea[i] (Array.getElem_mem lt)
  obtain rfl:k'=ka[i].1:=knd.inj _ _ _ i' key
  obtain⟨y,fy,al⟩:=he ka[i] (Y0p lt')
  show wpAny _ _ (holding [ea[i].key,ea[i].val] _ >>= _) _ _ _
  rw[hh]
  refine wpAny_bind (wpAny_holding (wpAny_bind (wpAny_dictFind_of key o2 t2 k2 ?_)))
  have fy':=fy
  rw[<- fd,findBy_of_findIdx?]at fy'
  cases hj:eb.findIdx? λe=>knd.is ka[i].1 e.key with
  |none=>rw[hj]at fy';cases fy'
  |some j=>
   rw[hj]at fy'
   obtain⟨jl,_,_⟩:=Array.findIdx?_eq_some_iff_getElem.mp hj
   refine wpAny_bind (wpAny_dictEntries o2 t2 ?_)
   rw[Y14 jl]
   have ey:eb[j].val=y:=by simpa [Y14 jl]using fy'
   rw[<- ey,<- val]at al
   refine wpAny_holding (al _ _ ?_)
   show wpAny _ _ (if(!true)=true then _ else _) _ _ _
   rw[if_neg (show¬(!true)=true from Y09)]
   refine wpAny_bind (wpAny_dictEpoch o1 t1 ?_)
   rw[if_neg (by simp)]
   exact wpAny_pure ⟨rfl,rfl,λz hz=>m z (Y0n _ hz)⟩
 ·rintro r s' ⟨rfl,rfl,-⟩
  exact wpAny_pure q
theorem ZmJ{K:Type} [DecidableEq K] {knd:KeyKind P w K}{ka kb:List (K×Value)}(na:(a==sysModules)=false)(nb:(b==sysModules)=false)
  (da:s.heap.DictOf knd a ka) (db:s.heap.DictOf knd b kb) (hu:A.units<cLine) (hz:ka.length=kb.length) (he:∀p∈ka,∃y,valueAt kb p.1=some y/\AliP P w A.in1 s p.2 y):RcP P w A s (.ref a) (.ref b):=by
 intro E Q q
 refine wpAny_richCompare_same_room (op:=.Eq) da.typeIs db.typeIs Y3C (wpAny_call_entry Y3C da.typeIs PySem.F.entry_dict_eq ?_ (PySem.F.args_dict_eq_2 _ _)) hu
 show wpAny _ _ (Y1E "__eq__" ⟨[.ref a,.ref b],[]⟩>>= _) _ _ s
 refine wpAny_bind ?_
 unfold Y1E
 refine wpAny_bind (wpAny_notOrdered_dict da.typeIs (wpAny_pure (wpAny_bind (wpAny_isInstance (T:="dict") db.typeIs Y3u ?_))))
 rw[if_neg (by decide)]
 refine wpAny_bind (wpAny_pure (wpAny_bind (wpAny_pure (wpAny_bind (Z9c na nb da db hz he ?_)))))
 exact wpAny_pure ⟨_,rfl,(λz=>nomatch z),q⟩
theorem Zlf{K:Type} [DecidableEq K] {knd:KeyKind P w K}{ka kb:List (K×Value)}(na:(a==sysModules)=false)(nb:(b==sysModules)=false)
  (da:s.heap.DictOf knd a ka) (db:s.heap.DictOf knd b kb) (hu:A.units<cLine) (hz:ka.length=kb.length) (he:∀p∈ka,∃y,valueAt kb p.1=some y/\AliP P w A.in1 s p.2 y):RnP P w A s (.ref a) (.ref b):=by
 intro E Q q
 refine wpAny_richCompare_same_room (op:=.NotEq) da.typeIs db.typeIs Y3D (wpAny_call_entry Y3D da.typeIs PySem.F.entry_dict_ne ?_ (PySem.F.args_dict_ne_2 _ _)) hu
 show wpAny _ _ (Y1E "__ne__" ⟨[.ref a,.ref b],[]⟩>>= _) _ _ s
 refine wpAny_bind ?_
 unfold Y1E
 refine wpAny_bind (wpAny_notOrdered_dict da.typeIs (wpAny_pure (wpAny_bind (wpAny_isInstance (T:="dict") db.typeIs Y3u ?_))))
 rw[if_neg (by decide)]
 refine wpAny_bind (wpAny_pure (wpAny_bind (wpAny_pure (wpAny_bind (Z9c na nb da db hz he ?_)))))
 exact wpAny_pure ⟨_,rfl,(λz=>nomatch z),q⟩
end
section
variable{X:Cx}
theorem Zl8:OpR X (binaryOp .Add) (λx y H Q=>∃a b xs ys,x=.ref a/\y=.ref b/\SqL X.K H a xs/\SqL X.K H b ys/\xs.length+ys.length≤sizeLine/\∀p,H p=none->Q (.ref p) (upd H p (.lst (xs++ys)))):=by
 intro pins s σ H x y v u Q I rx ry h
 obtain⟨a,b,xs,ys,rfl,rfl,g1,g2,sz,q⟩:=h
 obtain rfl:v=Y0q a:=rx
 obtain rfl:u=Y0q b:=ry
 obtain⟨i1,r1,⟨⟨c1,d1,t1,l1⟩,n1,o1,k1,z1,e1⟩,m1⟩:=I.list g1
 obtain⟨i2,r2,⟨⟨c2,d2,t2,l2⟩,n2,o2,k2,z2,e2⟩,m2⟩:=I.list g2
 dsimp only at k1 z1 e1 k2 z2 e2
 subst k1 z1 e1 k2 z2 e2
 have zs:i1.toArray.size+i2.toArray.size≤sizeLine:=by rw[Y0g,Y0g,<- r1.length,<- r2.length];exact sz
 refine concat_meets ⟨_,o1,rfl⟩ ⟨_,o2,rfl⟩ noFill_list_add seq_list_add PySem.F.slot_list_add PySem.F.entry_list_add (PySem.F.args_list_add_2 _ _) (list_addW a b _ _ n1 n2 none none l1 l2 zs) ⟨o1,o2,?_⟩
 rw[show i1.toArray++i2.toArray=(i1++i2).toArray by simp]
 exact⟨.ref _,_,I.lnew (t':=s.toks) (r1.append r2) (by rw[Y0D];exact sz),rfl,q _ I.fresh⟩
theorem ZgL:MtR X "dict.clear" (fun x xs H Q=>∃a kvs,x=.ref a/\xs=[]/\H a=some (.dK kvs)/\Q .non (upd H a (.dK []))):=by
 intro pins s σ H x xs v us Q I rx rs h
 obtain⟨a,kvs,rfl,rfl,e,q⟩:=h
 obtain rfl:v=Y0q a:=rx
 cases rs
 exact ZlV I e λs' I'=>⟨.non,_,I',rfl,q⟩
end
end L2
namespace L2
open PySem PySem.Spec PyProof.Rows
theorem Z8K:fillsNumberSlot (.type "tuple") "mul"=pure false:=
 PySem.fillsNumberSlot_seq (id:="tuple.__mul__") (r:=some (.builtin "tuple.__rmul__")) Y1W.lookup (by decide+kernel) Y35.lookup (by decide+kernel)
theorem Zcg:seqRepeat? (.type "tuple")=pure (some (.builtin "tuple.__mul__")):=by
 unfold seqRepeat?
 rw[PySem.seqSlot_of (T:="tuple") (name:="__mul__") (id:="tuple.__mul__") Y1W.lookup (by decide+kernel),PySem.seqSlot_of (T:="tuple") (name:="__rmul__") (id:="tuple.__rmul__") Y35.lookup (by decide+kernel)]
 rfl
theorem ZcC(a:Int)(t:Tok)(l:Addr)(items:Array Value)(n:Nat)(dd:Option Addr)(sl:Array (Option Value)):
  Meets (Builtin.«int.__rmul__» ⟨[.int a t,.ref l],[]⟩) (fun _ R s=>s.heap.get? l=some {cls:=.type "tuple",dict:=dd,data:=.seq items n,slots:=sl}/\R (.ok (.ret Value.notImplemented)) s):=
 .of_wp λprog w A R s h=>by obtain⟨hp,g,d,tk,os⟩:=s;obtain⟨hl,h⟩:=h;wp_walk;exact⟨_,rfl,h⟩
theorem Zi9(l:Addr)(items:Array Value)(n:Nat)(dd:Option Addr)(sl:Array (Option Value))(u:Tok):
  Meets (Builtin.«tuple.__mul__» ⟨[.ref l,.int 1 u],[]⟩) (fun _ R s=>s.heap.get? l=some {cls:=.type "tuple",dict:=dd,data:=.seq items n,slots:=sl}/\R (.ok (.ret (Y0q l))) s):=
 .of_wp λprog w A R s h=>by
  obtain⟨hp,g,d,tk,os⟩:=s;obtain⟨hl,h⟩:=h
  have f1:=Y3i
  have c:(items.isEmpty||(1:Int)==1)=true:=by simp
  wp_walk using Y1q hl;exact⟨_,rfl,h⟩
theorem Zi8(l:Addr)(items:Array Value)(n:Nat)(dd:Option Addr)(sl:Array (Option Value))(k:Int)(u:Tok)(h2:2≤k)(h0:items.size≠0)(hz:items.size*k.toNat≤1000000):
  Meets (Builtin.«tuple.__mul__» ⟨[.ref l,.int k u],[]⟩) (fun _ R s=>s.heap.get? l=some {cls:=.type "tuple",dict:=dd,data:=.seq items n,slots:=sl}/\
   R (.ok (.ret (Y0q s.heap.objs.size))) {s with heap:=s.heap.push {cls:=Y0w "tuple",data:=Y26 (Y2Q (fun x1 x2=>x1++x2) #[] (Y0l k.toNat items))},toks:=s.toks}):=
 .of_wp λprog w A R s h=>by
  obtain⟨hp,g,d,tk,os⟩:=s;obtain⟨hl,h⟩:=h
  have f1:=Y3i
  have hk:k≤1000000:=by
   have:1*k.toNat≤items.size*k.toNat:=Nat.mul_le_mul_right _ (by lia)
   lia
  have zz:(items.size:Int)*k≤1000000:=by
   have e:(items.size:Int)*k=((items.size*k.toNat:Nat):Int):=by rw[Int.natCast_mul,Y1x (by lia)]
   rw[e];lia
  have c0:¬(decide (k< -(2^63))||decide (k ≥ 2^63))=true:=by simp;lia
  have c1:¬(items.isEmpty||k==1)=true:=by
   simp
   exact⟨λz=>h0 (by rw[z];rfl),by lia⟩
  have c2:¬(decide (k≤0)||items.isEmpty)=true:=by
   simp
   exact⟨by lia,λz=>h0 (by rw[z];rfl)⟩
  have c3:¬((items.size:Int)*k>(2^63 - 1)/8):=by lia
  have c4:¬(Y2G ((items.size:Int)*k)=true):=by
   unfold Y2G
   have hs:sizeLine=16777216:=by decide
   rw[hs];simp;lia
  have hsz:(Y2Q (λx1 x2=>x1++x2) #[] (Y0l k.toNat items)).size≤sizeLine:=by
   have hs:sizeLine=16777216:=by decide
   rw[PySem.AutoListH.size_joined,hs,Nat.mul_comm]
   simp;lia
  wp_walk using Y1q hl
  refine wpAny_ite_false (decide_eq_false c0) ?_
  wp_walk using Y1q hl
  refine wpAny_ite_false (decide_eq_false c3) ?_
  wp_walk using Y1q hl
  exact⟨_,rfl,h⟩
section
variable{X:Cx}
theorem Zl4:OpR X (binaryOp .Mult) (λx y H Q=>∃a k xs,x=.ref a/\y=.int k/\SqT X.K H a xs/\xs≠ []/\1≤k/\xs.length*k.toNat≤1000000/\(k=1->Q (.ref a) H)/\
  (k≠1->∀p,H p=none->Q (.ref p) (upd H p (.tup (Y0l k.toNat xs).flatten)))):=by
 intro pins s σ H x y v u Q I rx ry h
 obtain⟨a,k,xs,rfl,rfl,ha,h0,h1,hz,q1,q2⟩:=h
 obtain rfl:v=Y0q a:=rx
 obtain⟨tk,rfl⟩:=ry
 obtain⟨its,r,p1,_⟩:=I.tuple ha
 obtain⟨⟨cls,dd,data,sl⟩,ho,hc,n,hd⟩:=id p1
 simp only at hc hd
 subst hc hd
 have hl:its.toArray.size=xs.length:=by rw[Y0g,<- r.length]
 refine wpAny_binaryOp_repeat_ref (T:="tuple") (U:="int") (by decide) ⟨_,ho,rfl⟩ (fun s'=>typeIs_int s' k tk) Z8K PySem.F.fills_int_mul Y3v Zcg PySem.F.slot_int_index.lookup
  (call_meets Y3v (typeIs_int s k tk) PySem.F.entry_int_rmul (PySem.F.args_int_rmul_2 _ _) (ZcC k tk a its.toArray n dd sl) ⟨ho,rfl,⟨_,ho,rfl⟩,?_⟩)
 by_cases e1:k=1
 ·subst e1
  exact call_meets Y1W ⟨_,ho,rfl⟩ Y36 (Y2T _ _) (Zi9 a its.toArray n dd sl tk) ⟨ho,.ref a,H,I,rfl,q1 rfl⟩
 ·refine call_meets Y1W ⟨_,ho,rfl⟩ Y36 (Y2T _ _) (Zi8 a its.toArray n dd sl k tk (by lia) (by rw[hl];exact λz=>h0 (Y1u.mp z)) (by rw[hl];exact hz)) ⟨ho,?_⟩
  have f0:Y2Q (λx1 x2=>x1++x2) #[] (Y0l k.toNat its.toArray)=(Y0l k.toNat its).flatten.toArray:=by
   have:=Z9T its k.toNat []
   rw[Y0y]at this
   exact this
  rw[f0]
  refine⟨.ref s.heap.objs.size,_,I.laid (t':=s.toks) (o:=.tup (Y0l k.toNat xs).flatten) (λb ob q=>Y03 _ q) (Y0b _) ?_,rfl,q2 e1 _ (I.hok.fresh (Y0b _))⟩
  refine⟨?_,_,r.rep k.toNat,IsTup.new _ _,_,Y0e _ rfl,rfl⟩
  have hs:sizeLine=16777216:=by decide
  rw[ZgS,hs,Nat.mul_comm]
  lia
end
end L2
namespace L2
open PySem PySem.Spec PyProof.Rows
section
variable{X:Cx}{pins:List (Addr×Obj)}{σ:St}{H:Hp}{s:Shared}
theorem Zco{H:Hp}{a b:Addr}{u v:HO}(e:H a=some u)(mu:Mut (some u))(q:H b=some v)(nv:¬Mut (some v)):b≠a:=by
 intro z;subst z;rw[e]at q;cases q;exact nv mu
theorem Inv.freeze(I:Inv X pins σ H s){a:Addr}{u:HO}{o:Obj}(e:H a=some u)(mu:Mut (some u))(ho:s.heap.get? a=some o):Inv X pins σ (upd H a (.frz o u)) s:=by
 have nn:∀b,H b=none->b≠a:=λb n z=>by subst z;rw[e]at n;cases n
 refine I.step (h':=s.heap) (g':=s.gens) (t':=s.toks) (d':=s.drawn) (ch:=[]) (λ_ z=>nomatch z) (λb o _ _ _ q _=>q) (λb o _ _ _ q _=>⟨o.slots,q⟩) (λb o _ _ n=>by rw[Z0y (nn b n)];exact n) (λb o _ q=>⟨o,q⟩)
  (λb xs q=>by rw[Z0y (Zco e mu q λz=>z)];exact q) (λb o u q=>by rw[Z0y (Zco e mu q λz=>z)];exact q) (λb ps q=>⟨#[],by rw[Z0y (Zco e mu q λz=>z),q];simp⟩) (λm h=>h) (λb v q=>?_) I.bare
 have st:∀{c:Addr} {y:HO},ObjOk X.prog X.w H s.heap c y->ObjOk X.prog X.w (upd H a (.frz o u)) s.heap c y:=λx=>
  x.stay (λc v _ q=>q) (λc q=>by rw[Z0y (Zco e mu q λz=>z)];exact q) λc xs q=>by rw[Z0y (Zco e mu q λz=>z)];exact q
 by_cases hb:b=a
 ·subst hb;rw[Z1G]at q;cases q
  exact⟨ho,st (I.hok b u e)⟩
 ·rw[Z0y hb]at q
  exact st (I.hok b v q)
def Thw(X:Cx)(H H':Hp):Prop:=H'=H\/∃a o u,H a=some (.frz o u)/\Mut (some u)/\(∀o' u',X.H₀ a≠some (.frz o' u'))/\H'=upd H a u
theorem Inv.thaw(I:Inv X pins σ H s){H':Hp}(t:Thw X H H'):Inv X pins σ H' s:=by
 rcases t with rfl|⟨a,o,u,e,mu,nf,rfl⟩
 ·exact I
 have ne:∀{b:Addr} {y:HO},H b=some y->y≠.frz o u->b≠a:=fun{b y} q n z=>by subst z;rw[e]at q;cases q;exact n rfl
 have nn:∀b,H b=none->b≠a:=λb n z=>by subst z;rw[e]at n;cases n
 have st:∀{c:Addr} {y:HO},ObjOk X.prog X.w H s.heap c y->ObjOk X.prog X.w (upd H a u) s.heap c y:=λx=>
  x.stay (λc v _ q=>q) (λc q=>by rw[Z0y (ne q (λz=>by cases z))];exact q) λc xs q=>by rw[Z0y (ne q (λz=>by cases z))];exact q
 refine⟨I.ok,I.os,I.bare,⟨I.base.keep,I.base.slot,λb ob q n hx=>?_,I.base.there,λb xs q=>?_,λb o' u' q=>?_,λb ps q=>?_⟩,I.loc,I.cell,?_,λx c q=>?_,λp hp=>?_,λb v q=>?_,I.len⟩
 ·have:=I.base.free b ob q n hx
  rw[Z0y (nn b this)];exact this
 ·have:=I.base.tups b xs q
  rw[Z0y (ne this (λz=>by cases z))];exact this
 ·rw[Z0y (λz=>by subst z;exact nf o' u' q)]
  exact I.base.frzs b o' u' q
 ·obtain⟨m,h⟩:=I.base.tbls b ps q
  exact⟨m,by rw[Z0y (ne h (λz=>by cases z))];exact h⟩
 ·rw[Z0y (nn _ I.free)];exact I.free
 ·rw[Z0y (nn _ (I.freeC x c q))];exact I.freeC x c q
 ·obtain⟨h1,h2,h3⟩:=I.pin p hp
  exact⟨h1,by rw[Z0y (nn _ h2)];exact h2,h3⟩
 ·by_cases hb:b=a
  ·subst hb;rw[Z1G]at q;cases q
   exact st (I.hok b _ e).2
  ·rw[Z0y hb]at q
   exact st (I.hok b v q)
theorem Inv.nofrz(I:Inv X pins σ H s){a:Addr}{u:HO}(e:H a=some u)(mu:Mut (some u)):∀o' u',X.H₀ a≠some (.frz o' u'):=λo' u' z=>by
 have:=I.base.frzs a o' u' z
 rw[e]at this
 cases this
 exact mu
def thwD(X:Cx)(D:Ends):Ends where
 nx:=λσ H=>∃H',Thw X H H'/\D.nx σ H'
 rt:=λv H=>∃H',Thw X H H'/\D.rt v H'
 bk:=λσ H=>∃H',Thw X H H'/\D.bk σ H'
 ct:=λσ H=>∃H',Thw X H H'/\D.ct σ H'
theorem PS.thaw{st:Stmt}{t:TS}(h:PS X st t):PS X st (λD σ H=>t (thwD X D) σ H):=by
 intro pins s σ H D I q
 refine thn (h pins s σ H _ I q) λf s' hf=>?_
 cases f with
 |next=>obtain⟨σ',H',I',H2,t2,d⟩:=hf;exact⟨σ',H2,I'.thaw t2,d⟩
 |brk=>obtain⟨σ',H',I',H2,t2,d⟩:=hf;exact⟨σ',H2,I'.thaw t2,d⟩
 |cont=>obtain⟨σ',H',I',H2,t2,d⟩:=hf;exact⟨σ',H2,I'.thaw t2,d⟩
 |ret u=>obtain⟨v,σ',H',I',r,H2,t2,d⟩:=hf;exact⟨v,σ',H2,I'.thaw t2,r,d⟩
theorem PE.thaw{e:Expr}{t:TE}(h:PE X e t):PE X e (λσ H Q=>t σ H λv H'=>∃H2,Thw X H' H2/\Q v H2):=by
 intro pins s σ H Q I q
 refine thn (h pins s σ H _ I q) λu s' ⟨v,H',I',r,H2,t2,d⟩=>⟨v,H2,I'.thaw t2,r,d⟩
def Itd(a:Addr)(o:Obj):It where
 go:=λi H=>∃kvs,H a=some (.frz o (.dK kvs))/\i<kvs.length
 yld:=λi H x H'=>H'=H/\∀kvs,H a=some (.frz o (.dK kvs))->∃k v,kvs[i]?=some (k,v)/\x=kV k
 stop:=λi H=>∃kvs,H a=some (.frz o (.dK kvs))/\kvs.length≤i
theorem Zor{P:Program}{w:World}{h:Heap}{a:Addr}{o:Obj}{kvs:List (Key×V)}{es:Array DictEntry}{ep:Nat}(ok:HOk P w H h)(e:H a=some (.frz o (.dK kvs)))(hd:o.data=.dict es ep):
  ∃vs,KV kvs vs/\h.DictAt (Z19 P w) a vs ep/\vs.length=es.size:=by
 obtain⟨ho,z,_,vs,rel,o',es',ep',ho',r1,r2,r3⟩:=ok a _ e
 rw[ho]at ho';cases ho'
 rw[hd]at r2
 injection r2 with e1 e2
 subst e1 e2
 exact⟨vs,rel,⟨o,es,ho,r1,hd,r3⟩,by rw[<- r3.2.1.length];simp⟩
theorem ZnY{kvs:List (Key×V)}{vs:List (Key×Value)}(r:KV kvs vs):kvs.length=vs.length:=by
 induction r with
 |nil=>rfl
 |cons _ _ ih=>rw[Y0X,Y0X,ih]
theorem ZnZ{kvs:List (Key×V)}{vs:List (Key×Value)}(r:KV kvs vs):∀{i:Nat} {k:Key} {v:V},kvs[i]?=some (k,v)->∃u,vs[i]?=some (k,u)/\RelV v u:=by
 induction r with
 |nil=>intro i k v h;cases h
 | @cons p p' _ _ q _ ih=>
  intro i k v h
  cases i with
  |zero=>
   cases h
   obtain⟨k2,x2⟩:=p'
   have e1:k=k2:=q.1
   subst e1
   exact⟨x2,rfl,q.2⟩
  |succ i=>exact ih (i:=i) h
theorem Zls{P:Program}{w:World}{k:Key}{u:Value}(h:(Z19 P w).is k u=true):RelV (kV k) u:=by
 rcases Z13 h with⟨i,t,rfl,rfl⟩|⟨x,t,rfl,rfl⟩
 ·exact⟨t,rfl⟩
 ·exact⟨t,rfl⟩
theorem Z5l{P:Program}{w:World}{A:Around}{E:Value->Shared->Prop}{s:Shared}{it d:Addr}{i n ep:Nat}{Q:Value->Shared->Prop}(hit:s.heap.IsKeyIter it d i n ep)(h:Q (.ref it) s):
  wpAny (model P w) A (pyIter (.ref it)) Q E s:=by
 refine wpAny_pyIter_slot hit.typeIs Y2h (wpAny_call_entry Y2h hit.typeIs PySem.F.entry_dict_keyiterator_iter ?_ (PySem.F.args_dict_keyiterator_iter_1 _))
 show wpAny _ _ (ret (.ref it)) _ _ s
 exact wpAny_pure ⟨_,rfl,"dict_keyiterator",_,hit.typeIs,PySem.F.slot_dict_keyiterator_next.lookup,h⟩
theorem ZfZ{P:Program}{w:World}{K:Y02}{tg:Expr}(a it:Addr)(o:Obj)(es:Array DictEntry)(ep:Nat)(hd:o.data=.dict es ep):Turn P w K tg (Itd a o) [it] it (λi h=>h.IsKeyIter it a i es.size ep)where
 mem:=by simp
 obj:=λi h st b hb=>by
  have e:b=it:=by simpa using hb
  subst e
  obtain⟨o,e,c,d⟩:=st
  exact⟨o,e,λv z=>by rw[d]at z;cases z⟩
 keep:=λi h h' st k=>by
  obtain⟨o,e,c,d⟩:=st
  exact⟨o,k it (by simp) o e,c,d⟩
 item:=by
  intro X hP hw hK hc i pins s σ H E I hf st hg
  subst hP hw hK
  obtain⟨kvs,hq,hx⟩:=hg
  obtain⟨vs,rel,da,hl⟩:=Zor I.hok hq hd
  obtain⟨⟨k,v⟩,hk⟩:∃p,kvs[i]?=some p:=⟨_,Y00 hx⟩
  obtain⟨u,hu,ru⟩:=ZnZ rel hk
  obtain⟨f0,f1,f2,f3,f4,f5⟩:=hf it (by simp)
  rw[<- hl]at st
  refine wpAny_pyNext_dict_item st da hu λkey h' hkey st' sb=>?_
  have I1:Inv X pins σ H {s with heap:=h'}:=I.turned (t':=s.toks) (λb o hb e=>(sb.2 b hb).trans e) f0 f1 f3 f4 f5
  rw[hl]at st'
  obtain⟨o',e,c,d⟩:=id st'
  exact⟨key,rfl,ZdW (s:={s with heap:=h'}) e c d (by decide) ⟨kV k,H,I1,Zls hkey,⟨rfl,λkvs' e'=>by rw[hq]at e';cases e';exact⟨k,v,hk,rfl⟩⟩,st',λb hb=>(hf b hb).1⟩⟩
 done:=by
  intro X hP hw hK hc i pins s σ H E I hf st hg
  subst hP hw hK
  obtain⟨kvs,hq,hx⟩:=hg
  obtain⟨vs,rel,da,hl⟩:=Zor I.hok hq hd
  obtain⟨f0,f1,f2,f3,f4,f5⟩:=hf it (by simp)
  rw[ZnY rel]at hx
  rw[<- hl]at st
  exact wpAny_pyNext_dict_end (I.ok.hd hc) st da (Y1n.mpr hx) λh' eb=>⟨rfl,I.turned (t':=s.toks) (λb o hb e=>eb b o hb e) f0 f1 f3 f4 f5⟩
 self:=λ_ _ _ _ _ st h=>Z5l st h
theorem Ziu{tg:Expr}{R:It->Hp->Prop}{E:Value->Shared->Prop}{a:Addr}{kvs:List (Key×V)}(I:Inv X pins σ H s)(e:H a=some (.dK kvs))(q:∀o,(∀o' u',X.H₀ a≠some (.frz o' u'))->R (Itd a o) (upd H a (.frz o (.dK kvs)))):
  wpAny (model X.prog X.w) X.A (pyIter (.ref a)) (PIE X pins σ tg R) E s:=by
 obtain⟨z,hm,vs,rel,o,es,ep,ho,r1,r2,r3⟩:=I.hok a _ e
 have I1:=I.freeze e trivial ho
 have nf:=I.nofrz e trivial
 refine wpAny_pyIter_dict hm (⟨o,es,ho,r1,r2,r3⟩:s.heap.DictAt (Z19 X.prog X.w) a vs ep) ?_
 refine⟨s.heap.objs.size,[s.heap.objs.size],_,_,upd H a (.frz o (.dK kvs)),rfl,I1.kept (t':=s.toks) λb o e=>Y03 _ e,ZfZ a _ o es ep r2,?_,λb hb=>?_,q o nf⟩
 ·have hl:es.size=vs.length:=by rw[<- r3.2.1.length];simp
  rw[hl]
  exact⟨_,Y0e _ rfl,rfl,rfl⟩
 ·have e:b=s.heap.objs.size:=by simpa using hb
  subst e
  exact I1.fpOk (Y0b _) (I1.hok.fresh (Y0b _))
end
end L2
namespace L2
open PySem PySem.Spec PyProof.Rows
section
variable{prog:Program}{w:World}{A:Around}{E:Value->Shared->Prop}{s:Shared}{a₀:Array Keyed}
end
section
variable{X:Cx}
end
end L2
namespace L2
open PySem PySem.Spec PyProof.Rows
structure Mrk (t t':SetTable):Prop where
 led:t'.led=t.led
 plain:t.plain=false->t'.plain=false
theorem Mrk.refl(t:SetTable):Mrk t t:=⟨rfl,id⟩
theorem Mrk.trans{a b c:SetTable}(x:Mrk a b)(y:Mrk b c):Mrk a c:=⟨y.led.trans x.led,λh=>y.plain (x.plain h)⟩
theorem Mrk.standIn(t:SetTable)(n:Nat):Mrk t (t.standIn n):=⟨rfl,λ_=>rfl⟩
theorem Mrk.orStandIn(t:SetTable)(n:Nat):Mrk t (t.orStandIn n):=by
 unfold SetTable.orStandIn
 split
 ·exact .refl t
 ·exact .standIn t n
theorem Mrk.lay(t:SetTable)(es:Array (Int×Value))(k:Int)(x:Value):Mrk t (layNew t es k x).2.1:=by
 unfold layNew
 split
 ·exact Mrk.trans (b:=(t.put _).1) ⟨rfl,id⟩ (.orStandIn _ _)
 ·exact .standIn t _
theorem Mrk.relaid{t t':SetTable}{hs:Array Int}{n:Nat}{od:Array Nat}(h:t.relaid hs n=some (t',od)):Mrk t t':=by
 unfold SetTable.relaid SetTable.laid at h
 cases hl:SetTable.layClean (SetTable.sizeAbove n - 1) hs with
 |none=>rw[hl]at h;simp at h
 |some ow=>
  rw[hl]at h
  simp only[Option.bind_eq_bind,Option.bind_some,Option.pure_def,Y2p,Prod.mk.injEq]at h
  obtain⟨rfl,_⟩:=h
  exact⟨rfl,id⟩
theorem Mrk.relay(t:SetTable)(es:Array (Int×Value))(n:Nat):Mrk t (relayAll t es n).2.1:=by
 unfold relayAll
 split
 ·rename_i hr
  dsimp only
  split
  ·exact .relaid hr
  ·exact .standIn t _
 ·exact .standIn t _
def txt:Value->Str
 |.str x _=>x
 |_=>⟨#[]⟩
def met1(zs:List Str)(x:Str):List Str:=if x∈zs then zs else zs++[x]
def met(f:Nat->Str):Nat->List Str
 |0=>[]
 |i+1=>met1 (met f i) (f i)
theorem Zfp{zs:List Str}(h:zs.Nodup)(x:Str):(met1 zs x).Nodup:=by
 unfold met1
 split
 ·exact h
 ·rename_i n
  rw[Y1d]
  exact⟨h,by simp,λa ha b hb=>by rw[Y0z]at hb;subst hb;exact λe=>n (e▸ha)⟩
theorem Zcr(f:Nat->Str):∀i,(met f i).Nodup
 |0=>.nil
 |i+1=>Zfp (Zcr f i) _
theorem ZiK{zs:List Str}{x y:Str}:y∈met1 zs x↔y∈zs\/y=x:=by
 unfold met1
 split
 ·rename_i h
  exact⟨.inl,λz=>z.elim id λe=>e▸h⟩
 ·simp
theorem ZgP{f:Nat->Str}{y:Str}:∀i,y∈met f i↔∃j,j<i/\f j=y
 |0=>by simp[met]
 |i+1=>by
  unfold met
  rw[ZiK,ZgP i]
  constructor
  ·rintro(⟨j,hj,e⟩|e)
   ·exact⟨j,by lia,e⟩
   ·exact⟨i,by lia,e.symm⟩
  ·rintro⟨j,hj,e⟩
   by_cases z:j=i
   ·subst z;exact .inr e.symm
   ·exact .inl ⟨j,by lia,e⟩
theorem ZgQ(f:Nat->Str):∀i,(met f i).length≤i
 |0=>Y0b _
 |i+1=>by
  have:=ZgQ f i
  unfold met met1
  split
  ·lia
  ·rw[Y0D];simp;lia
section
variable{prog:Program}{w:World}{A:Around}{E:Value->Shared->Prop}{s:Shared}
def WSet(prog:Program)(w:World)(o:Obj)(zs:List Str):Prop:=
 o.ExactSet/\∃es ep t,o.data=.set es ep t/\ElemsOf (strKind prog w) es.toList/\(es.toList.map λe=>txt e.2).Perm zs/\es.size<scanBound/\t.fits es.size=true
  /\t.led=(!w.params.followText "set-order")/\(zs≠ []->t.plain=false)
theorem WSet.fresh:WSet prog w {cls:=.type "set",dict:=none,data:=.set #[] 0 (.fresh 0 0 (!w.params.followText "set-order"))} []:=
 ⟨⟨rfl,rfl,rfl⟩,#[],0,_,rfl,λe he=>by simp at he,by simp,by decide,by rfl,rfl,λh=>absurd rfl h⟩
theorem isT{k:Str}{v:Value}:(strKind prog w).is k v=true↔∃t,v=.str k t:=by
 constructor
 ·exact λh=>Value.isStrOf_shape h
 ·rintro⟨t,rfl⟩
  exact strKind_is prog w k t
theorem WSet.mem{es:Array (Int×Value)}{zs:List Str}(he:ElemsOf (strKind prog w) es.toList)(hp:(es.toList.map λe=>txt e.2).Perm zs)(k:Str):
  k∈zs↔∃e∈es.toList,(strKind prog w).is k e.2=true:=by
 rw[<- hp.mem_iff,Y0r]
 constructor
 ·rintro⟨e,hm,q⟩
  refine⟨e,hm,isT.mpr ?_⟩
  obtain⟨⟨k',hk,_⟩,_⟩:=he e hm
  obtain⟨t,ht⟩:=isT.mp hk
  rw[ht]at q ⊢
  exact⟨t,by rw[<- q];rfl⟩
 ·rintro⟨e,hm,q⟩
  obtain⟨t,ht⟩:=isT.mp q
  exact⟨e,hm,by rw[ht];rfl⟩
theorem ZaG{h:Heap}{a:Addr}{o:Obj}{es:Array (Int×Value)}{ep:Nat}{t:SetTable}(ho:h.get? a=some o)(hd:o.data=.set es ep t)(es':Array (Int×Value))(t':SetTable):
  (h.update a (Obj.putSet es' t')).get? a=some {o with data:=.set es' (ep+1) t'}:=by
 have z:=Y12 (Obj.putSet es' t') ho (by rw[putSet_of es' t' hd];rfl)
 rwa [putSet_of es' t' hd]at z
theorem Zc4{g:Bool->Sem Unit}(hg:∀(b:Bool) (s₁:Shared) (Q':Unit->Shared->Prop),Q' () s₁->wpAny (model prog w) A (g b) Q' E s₁)
  {a:Addr} {o:Obj} {es:Array (Int×Value)} {ep:Nat} {t:SetTable} (ho:s.heap.get? a=some o) (hex:o.ExactSet) (hd:o.data=.set es ep t)
  {es1:Array (Int×Value)} {t2:SetTable} {zs:List Str} (hel:ElemsOf (strKind prog w) es1.toList) (hp:(es1.toList.map λe=>txt e.2).Perm zs) (hb:es1.size<scanBound)
  (hf:t2.fits es1.size=true) (hled:t2.led=(!w.params.followText "set-order")) (hpl:t2.plain=false) {was:Bool} {R:Option Bool->Shared->Prop}
  (h:∀h' o',Y1Y a s.heap h'->h'.get? a=some o'->WSet prog w o' zs->R (some true) {s with heap:=h'}):
  wpAny (model prog w) A (do
    storeSet a es1 t2
    if(!was&&t2.tooFull)=true then do
      g (relayAll t2 es1 (Y1V es1.size)).2.2
      storeSet a (relayAll t2 es1 (Y1V es1.size)).1 (relayAll t2 es1 (Y1V es1.size)).2.1
      pure (some true)
     else pure (some true)) R E s:=by
 refine wpAny_bind (wpAny_storeSet_of ho hd ?_ (fits_of_scanBound hb))
 have ho1:=ZaG ho hd es1 t2
 split
 ·have hp2:=relayAll_perm t2 es1 (Y1V es1.size)
  have hf2:=relayAll_fits t2 es1 (Y1V es1.size)
  have hm:=Mrk.relay t2 es1 (Y1V es1.size)
  generalize relayAll t2 es1 (Y1V es1.size)=Rl at hp2 hf2 hm ⊢
  obtain⟨es2,t3,gv⟩:=Rl
  dsimp only at hp2 hf2 hm ⊢
  have hz:es2.size=es1.size:=by rw[<- Y0k,hp2.length_eq,Y0k]
  refine wpAny_bind (hg _ _ _ ?_)
  refine wpAny_bind (wpAny_storeSet_of ho1 rfl ?_ (fits_of_scanBound (by lia)))
  exact wpAny_pure (h _ _ ((Y16 _ a _).trans (Y16 _ a _)) (ZaG ho1 rfl es2 t3)
   ⟨hex,es2,_,t3,rfl,hel.perm hp2,(hp2.map _).trans hp,by lia,hf2,hm.led.trans hled,λ_=>hm.plain hpl⟩)
 ·exact wpAny_pure (h _ _ (Y16 _ a _) ho1 ⟨hex,es1,_,t2,rfl,hel,hp,hb,hf,hled,λ_=>hpl⟩)
theorem Zib{a:Addr}{o:Obj}{zs:List Str}{x:Str}{tk:Tok}{Q:Bool->Shared->Prop}(ho:s.heap.get? a=some o)(hS:WSet prog w o zs)(hroom:zs.length+1<scanBound)
  (h:∀b h' o',Y1Y a s.heap h'->h'.get? a=some o'->WSet prog w o' (met1 zs x)->Q b {s with heap:=h'}):
  wpAny (model prog w) A (setAddHashed a (.str x tk) ((strKind prog w).hash x)) Q E s:=by
 obtain⟨hex,es,ep,t,hd,hel,hp,hb,hf,hled,hpl⟩:=id hS
 have hkey:(strKind prog w).is x (.str x tk)=true:=strKind_is prog w x tk
 have hlen:es.size=zs.length:=by rw[<- hp.length_eq,Y01,Y0k]
 unfold setAddHashed setAddHashedIn
 refine wpAny_holding (wpAny_bind (wpAny_setState_of ho hd hf ?_))
 dsimp only
 rw[byScan_of (x:=.str x tk) rfl hb hel]
 simp only[↓reduceIte]
 unfold setAddByScan
 refine wpAny_bind (wpAny_bind (wpAny_rule (wpAny_bind (wpAny_setScan_of hkey ho hd hf hel ?_))))
 have hmem:=WSet.mem hel hp x
 cases hr:List.findIdx? (λe=>(strKind prog w).is x e.2) es.toList with
 |some j=>
  dsimp only
  obtain⟨hj,hpj,_⟩:=List.findIdx?_eq_some_iff_getElem.mp hr
  have hx:x∈zs:=hmem.mpr ⟨_,Y0p hj,hpj⟩
  refine wpAny_pure (wpAny_pure ?_)
  have:=h false s.heap o (Heap.SameBut.refl a s.heap) ho (by unfold met1;rw[if_pos hx];exact hS)
  cases s
  exact this
 |none=>
  dsimp only
  have hx:x∉zs:=λz=>by
   obtain⟨e,he,q⟩:=hmem.mp z
   have:=List.findIdx?_eq_none_iff.mp hr e he
   rw[q]at this
   exact Bool.noConfusion this
  have hz:met1 zs x=zs++[x]:=by unfold met1;rw[if_neg hx]
  have hl:=layNew_perm t es ((strKind prog w).hash x) (.str x tk)
  have hlf:=layNew_fits t es ((strKind prog w).hash x) (.str x tk)
  have hm:=Mrk.lay t es ((strKind prog w).hash x) (.str x tk)
  generalize layNew t es ((strKind prog w).hash x) (.str x tk)=L at hl hlf hm ⊢
  obtain⟨es1,t1,was,gave⟩:=L
  dsimp only at hl hlf hm ⊢
  rw[Array.toList_push]at hl
  have hel1:ElemsOf (strKind prog w) es1.toList:=(hel.push hkey rfl).perm hl
  have hp1:(es1.toList.map λe=>txt e.2).Perm (met1 zs x):=by
   rw[hz]
   refine(hl.map _).trans ?_
   rw[Y0A]
   exact hp.append (.refl _)
  have hb1:es1.size<scanBound:=by rw[<- Y0k,hl.length_eq,Y0D,Y0k];simp;lia
  have gw:∀(b:Bool) (s₁:Shared) (Q':Unit->Shared->Prop),Q' () s₁->wpAny (model prog w) A (match b with|true=>rule "set.scan.the-table-gave-way"|false=>pure ()) Q' E s₁:=
   λb s₁ Q' hq=>by cases b<;>first|exact wpAny_pure hq|exact wpAny_rule hq
  refine wpAny_bind (gw _ _ _ ?_)
  have fin:∀h' o',Y1Y a s.heap h'->h'.get? a=some o'->WSet prog w o' (met1 zs x)->Q true {s with heap:=h'}:=λh' o' a1 a2 a3=>h true h' o' a1 a2 a3
  split
  ·rw[hashByValue_scannable 8 (x:=.str x tk) rfl]
   refine wpAny_bind (wpAny_pure ?_)
   refine Zc4 gw ho hex hd hel1 hp1 hb1 (t2:={t1 with plain:=false}) (SetTable.fits_plain_off hlf) (hm.led.trans hled) rfl ?_
   intro h' o' a1 a2 a3
   exact wpAny_pure (fin h' o' a1 a2 a3)
  ·rename_i np
   refine wpAny_bind (wpAny_pure ?_)
   simp only[↓reduceIte]
   refine Zc4 gw ho hex hd hel1 hp1 hb1 hlf (hm.led.trans hled) (by simpa using np) ?_
   intro h' o' a1 a2 a3
   exact wpAny_pure (fin h' o' a1 a2 a3)
theorem Zg0{R:Result->Shared->Prop}{I:Addr}{fp wr:List Addr}{G:Array GenState->Array GenState->Prop}{n:Nat}{P:Nat->Value->Prop}{St:Nat->Shared->Prop}
  (W:WalksS prog w A.in1 I fp wr G n P St) (S:Addr) (hSf:S∉fp) (f:Nat->Str) (hval:∀i v,P i v->∃t,v=.str (f i) t) (hb:n+1<scanBound):
  ∀(k i:Nat) (s:Shared) (o:Obj),n - i=k->i≤n->St i s->s.heap.get? S=some o->WSet prog w o (met f i)->
   (∀s' o',Moved (S::wr) G s s'->s'.heap.get? S=some o'->WSet prog w o' (met f n)->R (.ok (.ret .none)) s')->
   codeAny (model prog w) A (.builtin "set.update.loop" ⟨[.ref S,.ref I],[]⟩) R s:=by
 have hSw:S∉wr:=λh=>hSf (W.sub _ h)
 have hsub:∀b∈wr,b∈S::wr:=λb hb=>Y0n _ hb
 intro k
 induction k with
 |zero=>
  intro i s o hk hi hst ho hS hR
  have hin:i=n:=by lia
  subst hin
  refine codeAny_builtin F.entry_set_update_loop ?_
  rw[Y0I F.plain_set_update_loop _]
  show wpAny _ A.in1 (pyNext (.ref I)>>= _) _ _ s
  refine wpAny_bind (W.done s _ _ hst λs' hm=>?_)
  exact wpAny_pure (hR s' o (hm.mono hsub) (hm.heap S _ hSw ho) hS)
 |succ k ih=>
  intro i s o hk hi hst ho hS hR
  have hlt:i<n:=by lia
  refine codeAny_builtin F.entry_set_update_loop ?_
  rw[Y0I F.plain_set_update_loop _]
  show wpAny _ A.in1 (pyNext (.ref I)>>= _) _ _ s
  refine wpAny_bind (W.item i s _ _ hlt hst λv s' hP hst' hm=>?_)
  obtain⟨t,rfl⟩:=hval i v hP
  have ho':=hm.heap S _ hSw ho
  show wpAny _ A.in1 (holding [Y0F (f i) t] (setAdd S (.str (f i) t))>>= _) _ _ s'
  refine wpAny_bind (wpAny_holding ?_)
  unfold setAdd
  refine wpAny_holding (wpAny_bind ((strKind prog w).pyHash (k:=f i) (strKind_is prog w _ _) ?_))
  refine Zib (s:={s' with toks:=s'.toks+1}) ho' hS (by have:=ZgQ f i;lia) λb h' o' hsb ho2 hS2=>?_
  refine wpAny_pure ⟨plainId_quiet F.plain_set_update_loop _,ih (i+1) _ o' (by lia) hlt (W.frame _ s' _ _ hst' (Y1D _) λb hb o e=>?_) ho2 hS2 λs'' o'' hm'' ho'' hS''=>?_⟩
  ·rw[hsb.2 b (λz:b=S=>hSf (by rw[<- z];exact hb))];exact e
  ·refine hR s'' o'' (Moved.trans W.gtrans ((hm.mono hsub).then_heap (Y1D _) λb o hb e=>?_) hm'') ho'' hS''
   rw[hsb.2 b (λz:b=S=>hb (by rw[z];exact Y0v))];exact e
def Z1z(w:World):Obj:={cls:=.type "set",dict:=none,data:=.set #[] 0 (.fresh 0 0 (!w.params.followText "set-order"))}
theorem Zia(a:Value){Q₁:Value->Shared->Prop}(h:Q₁ (.ref s.heap.objs.size) {s with heap:=s.heap.push (Z1z w)}):
  codeAny (model prog w) A (.call (.builtin "set.__new__") ⟨[.type "set",a],[]⟩) (wants Q₁ E) s:=by
 refine codeAny_of_tree ?_
 show wpAny _ A.in1 (do checkBuiltinCall "set.__new__" ⟨[.type "set",a],[]⟩;again (.builtin "set.__new__" ⟨[.type "set",a],[]⟩)) _ _ s
 refine wpAny_bind (wpAny_of_eq (F.newCall_set_1 a) (wpAny_pure ⟨plainId_quiet F.plain_set_new _,codeAny_builtin F.entry_set_new ?_⟩))
 rw[Y0I F.plain_set_new _]
 unfold Builtin.«set.__new__» Builtin.Frozenset.newClass
 have hsub:=sub_set_self
 obtain⟨hp,g,d,tk,os⟩:=s
 dsimp only
 wp_walk
 refine wpAny_askSetting (wpAny_pure ?_)
 dsimp only
 simp only[newObj]
 refine wpAny_bind (wpAny_alloc (wpAny_pure ?_))
 exact wpAny_pure h
theorem ZhK{l:Addr}{items:Array Value}{f:Nat->Str}{Q:Value->Shared->Prop}
  (hh:A.handled=none) (hl:s.heap.IsList l items) (hi:∀(i:Nat) (v:Value),items[i]?=some v->∃t,v=Y0F (f i) t) (hb:items.size+1<scanBound)
  (h:∀(h':Heap) (tk:Nat) (o:Obj),h'.get? s.heap.objs.size=some o->WSet prog w o (met f items.size)->
   (∀b o,b<s.heap.objs.size->s.heap.get? b=some o->h'.get? b=some o)->Q (.ref s.heap.objs.size) {s with heap:=h',toks:=tk}):
  wpAny (model prog w) A (call (.type "set") [.ref l]) Q E s:=by
 obtain⟨c,tl,hmro⟩:=Y21.mro
 have hmade:=Y21.made
 have hsub:=Y21.sub
 refine wpAny_call (codeAny_of_tree ?_)
 show wpAny _ _ (callAny (.type "set") _) _ _ _
 refine wpAny_pure ⟨Code.quiet_builtin _ (by decide+kernel),codeAny_builtin F.entry_type_call ?_⟩
 rw[Around.under_plain (weight_type_call_type "set" [.ref l] []) rfl]
 have h1:=Y21.notType
 have h2:=Y21.canCreate
 have hct:=F.typeCall_set_1 (.ref l)
 repeat (any_goals (first|assumption|wp_step))
 refine codeAny_mono (Zia (.ref l) (E:=E) (Q₁:=λobj s₁=>obj=.ref s.heap.objs.size/\s₁={s with heap:=s.heap.push (Z1z w)}) ⟨rfl,rfl⟩) λr s₁ hr=>?_
 cases r with
 |error e=>exact hr
 |ok fl=>
  cases fl with
  |ret obj=>
   obtain⟨rfl,rfl⟩:=hr
   have hS:(s.heap.push (Z1z w)).get? s.heap.objs.size=some (Z1z w):=Y0e _ rfl
   have hT:Y2w {s with heap:=s.heap.push (Z1z w)} (.ref s.heap.objs.size) "set":=⟨_,hS,rfl⟩
   have hli:=Y21.init.lookup
   have hbi:=Y21.init.bind (.ref s.heap.objs.size)
   repeat (any_goals (first|assumption|wp_step))
   refine codeAny_mono (codeAny_call_builtin (R:=wants (λr s₂=>r=.none/\∃h' tk o,s₂={s with heap:=h',toks:=tk}/\
     h'.get? s.heap.objs.size=some o/\WSet prog w o (met f items.size)/\
     (∀b o,b<s.heap.objs.size->s.heap.get? b=some o->h'.get? b=some o)) E) Y21.init.plain F.entry_set_init (check_set_init_1 hT ?_)) λr₂ s₂ hr₂=>?_
   ·obtain⟨ol,hol,hcl,nl,hdl⟩:=hl
    obtain⟨ocls,odict,odata,oslots⟩:=ol
    simp only at hcl hdl
    subst hcl;subst hdl
    have hol':(s.heap.push (Z1z w)).get? l=some {cls:=.type "list",dict:=odict,data:=.seq items nl,slots:=oslots}:=Y03 _ hol
    have hsls:=F.sub_list_set
    have hslf:=F.sub_list_frozenset
    have hne:(Y0w "list"==Y0w "dict")=false:=by decide
    have hl1:(s.heap.push (Z1z w)).IsList l items:=⟨_,hol',rfl,nl,rfl⟩
    unfold Builtin.«set.__init__» noKeywords Builtin.Frozenset.updateFrom
    generalize hPI:pyIter=PI
    wp_walk
    subst hPI
    refine wpAny_pyIter_list hl1 ?_
    refine wpAny_bind (wpAny_runValue ?_)
    have hlS:l<s.heap.objs.size:=Y0i hol
    have hneI:l≠(s.heap.push (Z1z w)).objs.size:=by
     rw[Y1f];exact Y0m (Y1v hlS)
    have hSf:s.heap.objs.size∉ [(s.heap.push (Z1z w)).objs.size,l]:=by
     rw[Y1f]
     simp only[Y0f,Y0u,or_false,not_or]
     exact⟨Y0m (Nat.lt_succ_self _),Y2e hlS⟩
    refine Zg0 ((Y3U (A:=A.in1.in1.in1) (by simp[hh]) _ l hneI items).toS) s.heap.objs.size
     hSf f hi hb (items.size - 0) 0 _ (Z1z w) (by lia) (Y17 _)
     ⟨⟨_,Y0e _ rfl,rfl,rfl⟩,(hl1.push _)⟩ (Y03 _ hS) WSet.fresh ?_
    intro s' o' hm ho' hS'
    obtain⟨h',g',d',tk',os'⟩:=s'
    have eg:g'=s.gens:=hm.gens
    have ed:d'=s.drawn:=hm.drawn
    have eo:os'=s.os:=hm.os
    subst eg;subst ed;subst eo
    refine wpAny_pure (wpAny_pure ⟨rfl,h',tk',o',rfl,ho',hS',λb o hb e=>?_⟩)
    refine hm.heap b o ?_ (Y03 _ (Y03 _ e))
    simp only[Y0f,Y0u,or_false,not_or]
    exact⟨Y0m hb,by rw[Y1f];exact Y0m (Y1v hb)⟩
   ·cases r₂ with
    |error e=>exact hr₂
    |ok fl₂=>
     cases fl₂ with
     |ret r=>
      obtain⟨rfl,h',tk,o',rfl,ho',hS',hk'⟩:=hr₂
      repeat (any_goals (first|assumption|wp_step))
      exact h _ _ _ ho' hS' hk'
     |_=>exact hr₂.elim
  |_=>exact hr.elim
end
end L2
namespace L2
open PySem PySem.Spec PyProof.Rows
theorem slot_setiter_next:Slot "set_iterator" "__next__" "set_iterator.__next__":=
 .of (owner:="set_iterator") (n:="__next__") (by rw[typeLookup_type,builtinLookup_eq_fast];kernel_rfl) (by decide+kernel) (by decide+kernel) (by decide+kernel)
  (by first|exact .inl (by decide+kernel)|exact .inr (by decide+kernel)) (by rw[isSubtype_type];kernel_rfl)
theorem Z3s:Slot "set_iterator" "__iter__" "set_iterator.__iter__":=
 .of (owner:="set_iterator") (n:="__iter__") (by rw[typeLookup_type,builtinLookup_eq_fast];kernel_rfl) (by decide+kernel) (by decide+kernel) (by decide+kernel)
  (by first|exact .inl (by decide+kernel)|exact .inr (by decide+kernel)) (by rw[isSubtype_type];kernel_rfl)
theorem Z3c:entryFor table "set_iterator.__next__"=some Builtin.«set_iterator.__next__»:=entryFor_of_fast (by kernel_rfl)
theorem Z7l:entryFor table "set_iterator.__iter__"=some Builtin.«dict_keyiterator.__iter__»:=
 entryFor_alias (id':="dict_keyiterator.__iter__") (by kernel_rfl) rfl (by decide+kernel) (by kernel_rfl)
theorem Zay:entryFor table "set.__iter__"=some Builtin.«frozenset.__iter__»:=
 entryFor_alias (id':="frozenset.__iter__") (by kernel_rfl) rfl (by decide+kernel) (by kernel_rfl)
theorem Z3J(a:Value):argsOk "set_iterator.__next__" ⟨[a],[]⟩:=by unfold argsOk;kernel_rfl
theorem Z7P(a:Value):argsOk "set_iterator.__iter__" ⟨[a],[]⟩:=by unfold argsOk;kernel_rfl
theorem ers{α:Type}:∀(l:List α) (i:Nat) (h:i<l.length),(l[i]::l.eraseIdx i).Perm l
 |[],_,h=>absurd h (by simp)
 |x::xs,0,_=>.refl _
 |x::xs,i+1,h=>(List.Perm.swap x _ _).trans ((ers xs i (by simpa using h)).cons x)
section
variable{prog:Program}{w:World}{A:Around}{E:Value->Shared->Prop}{s:Shared}
theorem Zmm{M:Model}{src:Source}{n:Nat}{Q:Nat->Shared->Prop}(hn:n≠0)(h:∀i d,i<n->Q i {s with drawn:=d}):wpAny M A (choose src n) Q E s:=λΓ p hΓ=>by
 unfold choose
 rw[Sem.wp_choose]
 exact⟨hn,by rw[Sem.wp_pure];exact h _ _ (Nat.mod_lt _ (Nat.pos_of_ne_zero hn))⟩
theorem Zkm{M:Model}{α:Type}:∀(n:Nat) (xs:List α) (s:Shared) (Q:List α->Shared->Prop),xs.length=n->(∀ys d,ys.Perm xs->Q ys {s with drawn:=d})->wpAny M A (drawOrder n xs) Q E s:=by
 intro n
 induction n with
 |zero=>
  intro xs s Q hl h
  unfold drawOrder
  have:xs=[]:=Y1u.mp hl
  subst this
  exact wpAny_pure (h [] s.drawn (.refl _))
 |succ n ih=>
  intro xs s Q hl h
  cases xs with
  |nil=>simp at hl
  |cons x xs=>
   unfold drawOrder
   refine wpAny_bind (Zmm (by simp) λi d hi=>?_)
   rw[Y00 hi]
   dsimp only
   refine wpAny_bind (ih _ _ _ (by rw[Y2H hi];lia) λys d' hp=>wpAny_pure ?_)
   have:(((x::xs)[i])::ys).Perm (x::xs):=((List.Perm.cons _ hp).trans (ers _ _ hi))
   exact h _ d' this
theorem ZkU{α:Type}(next:Nat->Nat):∀(n k:Nat) (left:List α) (out:Array α),left.length=n->(pickOrder.go next n k left out).toList.Perm (out.toList++left):=by
 intro n
 induction n with
 |zero=>
  intro k left out hl
  have:left=[]:=Y1u.mp hl
  subst this
  unfold pickOrder.go
  simp
 |succ n ih=>
  intro k left out hl
  unfold pickOrder.go
  have hi:next k%left.length<left.length:=Nat.mod_lt _ (by lia)
  rw[Y00 hi]
  dsimp only
  refine(ih _ _ _ (by rw[Y2H hi];lia)).trans ?_
  rw[Array.toList_push,Y25]
  exact(List.Perm.refl _).append (by simpa using ers _ _ hi)
theorem Zgx{α:Type}(next:Nat->Nat)(xs:Array α):(pickOrder next xs).toList.Perm xs.toList:=by
 unfold pickOrder
 simpa using ZkU next xs.size 0 xs.toList #[] (by simp)
end
end L2
namespace L2
open PySem PySem.Spec PyProof.Rows
section
variable{prog:Program}{w:World}{A:Around}{E:Value->Shared->Prop}{s:Shared}
def SIt(h:Heap)(it S:Addr)(first:Value)(i n ep:Nat):Prop:=
 ∃o,h.get? it=some o/\o.cls=.type "set_iterator"/\o.data=.fields #[first,.int i 0,.ref S,.int n 0,.int ep 0]
theorem SIt.typeIs{it S:Addr}{first:Value}{i n ep:Nat}(x:SIt s.heap it S first i n ep):s.TypeIs (.ref it) "set_iterator":=let⟨o,ho,hc,_⟩:=x;⟨o,ho,hc⟩
theorem ZbQ{h:Heap}{it:Addr}{o:Obj}{vs:Array Value}(ho:h.get? it=some o)(hd:o.data=.fields vs)(j:Nat)(v:Value):
  ∃o',(h.update it (Y3P (·.setIfInBounds j v))).get? it=some o'/\o'.cls=o.cls/\o'.data=.fields (vs.setIfInBounds j v):=
 ⟨_,Y12 _ ho (Y2t (Y2k hd _)),Y2U ..,Y2k hd _⟩
def Nx(w:World)(S:Addr)(es:Array (Int×Value))(ep:Nat)(t:SetTable)(slot i:Nat):Option (Value×Nat):=
 if w.params.followText "set-order"=true then(pickOrder (w.params.setOrder S ep) es)[i]?.map fun e=>(e.2,slot)
 else match es[Y2L t.place slot]?,t.place[Y2L t.place slot]? with
  |some (_,x),some j=>some (x,j+1)
  |_,_=>none
theorem Zih{S:Addr}{i ep slot:Nat}{o:Obj}{es:Array (Int×Value)}{t:SetTable}{Q:Option (Value×Nat)->Shared->Prop}
  (hoS:s.heap.get? S=some o) (hdS:o.data=.set es ep t) (hf:t.fits es.size=true) (hw:w.params.followText "set-order"=true\/(es.size≤1/\t.led=true))
  (h:Q (Nx w S es ep t slot i) s):wpAny (model prog w) A (setNext S slot i ep) Q E s:=by
 unfold setNext
 refine wpAny_bind (wpAny_setState_of hoS hdS hf ?_)
 refine wpAny_bind (m:=setsByText) (wpAny_bind (wpAny_askSetting (wpAny_pure ?_)))
 show wpAny _ _ (if w.params.followText "set-order"=true then _ else _) _ _ _
 unfold Nx at h
 by_cases hb:w.params.followText "set-order"=true
 ·rw[if_pos hb]
  rw[if_pos hb]at h
  simp only[bne_self_eq_false,Y0C,if_false]
  refine wpAny_bind ?_
  unfold setWalk
  refine wpAny_bind (wpAny_setState_of hoS hdS hf ?_)
  refine wpAny_bind (m:=setsByText) (wpAny_bind (wpAny_askSetting (wpAny_pure ?_)))
  show wpAny _ _ (if w.params.followText "set-order"=true then _ else _) _ _ _
  rw[if_pos hb]
  refine wpAny_bind (wpAny_askSetting (wpAny_pure (wpAny_pure ?_)))
  exact h
 ·rw[if_neg hb]
  rw[if_neg hb]at h
  obtain⟨h1,h2⟩:=hw.resolve_left hb
  have hdr:(!t.plain&&decide (es.size>1))=false:=by
   rw[decide_eq_false (by lia),Y3G]
  show wpAny _ _ (if(!t.plain&&decide (es.size>1))=true then _ else _) _ _ _
  rw[hdr,if_neg Y09]
  refine wpAny_bind ?_
  show wpAny _ _ (if(!t.led&& !es.isEmpty)=true then _ else _) _ _ _
  rw[h2]
  simp only[Y2x,Y3E,Y0C,if_false]
  exact wpAny_pure (wpAny_pure h)
theorem Zem{it:Addr}{Q:Option Value->Shared->Prop}{h₁:Heap}(hh:A.handled=none)(hk:Y3K it s.heap h₁)
  (hQ:∀h',Y3K it s.heap h'->Q none {s with heap:=h'}):
  wpAny (model prog w) A.in1 (do let x<- newExc (.type "StopIteration") [];(raiseNew x:Sem Fin)) (fun fin s'=>∃v,fin=Fin.done (Flow.ret v)/\wpAny (model prog w) A (pure (some v)) Q E s')
   (fun e s'=>wpAny (model prog w) A (do let b<- isInstance e (.type "StopIteration");if b=true then pure none else throw e) Q E s') {s with heap:=h₁}:=by
 refine wpAny_bind ?_
 simp only[newExc,newTuple]
 refine wpAny_bind (wpAny_newObj_type ?_ (by size_fits))
 refine wpAny_bind (m:=firstArgMember _ _) (wpAny_of_eq (a:=Y0o) (by first|rfl|(simp only[firstArgMember];rfl)) ?_)
 refine wpAny_newObj_type ?_ (by size_fits)
 simp only[raiseNew]
 refine wpAny_bind (wpAny_handled ?_)
 rw[show A.in1.handled=none from hh]
 refine wpAny_bind (wpAny_pure (wpAny_throw ?_))
 refine wpAny_bind (wpAny_isInstance (T:="StopIteration") (b:=true) ⟨_,Y0e _ rfl,rfl⟩ isSubtype_stop ?_)
 exact wpAny_pure (hQ _ ((hk.push _).push _))
theorem Zgi{it S:Addr}{i n ep slot:Nat}{o:Obj}{es:Array (Int×Value)}{t:SetTable}{Q:Option Value->Shared->Prop}(hh:A.handled=none)
  (hit:SIt s.heap it S (.int slot 0) i n ep) (hoS:s.heap.get? S=some o) (hdS:o.data=.set es ep t) (hf:t.fits es.size=true) (hn:es.size=n)
  (hw:w.params.followText "set-order"=true\/(es.size≤1/\t.led=true))
  (h1:∀x nx,Nx w S es ep t slot i=some (x,nx)->∀h',SIt h' it S (.int nx 0) (i+1) n ep->Y1Y it s.heap h'->Q (some x) {s with heap:=h'})
  (h2:Nx w S es ep t slot i=none->∀h',Y3K it s.heap h'->Q none {s with heap:=h'}):
  wpAny (model prog w) A (pyNext (.ref it)) Q E s:=by
 obtain⟨oi,hoi,hci,hdi⟩:=id hit
 unfold pyNext
 refine wpAny_bind (wpAny_attempt (wpAny_callSpecial?_slot (name:=Y0Z "__next__") hit.typeIs slot_setiter_next
  (wpAny_call_entry slot_setiter_next hit.typeIs Z3c ?_ (Z3J _))))
 show wpAny _ _ (fieldsOf (.ref it)>>= _) _ _ s
 refine wpAny_bind (wpAny_fieldsOf hoi hdi ?_)
 show wpAny _ _ (setEntries S >>= _) _ _ s
 refine wpAny_bind (wpAny_setEntries_of hoS hdS hf ?_)
 simp only[hn,bne_self_eq_false,Y0C,if_false]
 refine wpAny_bind (m:=setNext _ _ _ _) ?_
 simp only[Y1H]
 refine Zih hoS hdS hf hw ?_
 cases hx:Nx w S es ep t slot i with
 |none=>
  dsimp only
  refine wpAny_bind (wpAny_setField hoi hdi (by simp) ?_)
  exact Zem hh (Y16 ..).extBut (h2 hx)
 |some p=>
  obtain⟨x,nx⟩:=p
  dsimp only
  obtain⟨o1,ho1,hc1,hd1⟩:=ZbQ hoi hdi 0 (rawInt nx)
  refine wpAny_bind (wpAny_setField hoi hdi (by simp) ?_)
  refine wpAny_bind (wpAny_setField ho1 hd1 (by simp) ?_)
  obtain⟨o2,ho2,hc2,hd2⟩:=ZbQ ho1 hd1 1 (rawInt ((i:Int)+1))
  refine wpAny_pure ⟨x,rfl,wpAny_pure (h1 x nx hx _ ⟨o2,ho2,hc2.trans (hc1.trans hci),?_⟩ ((Y16 ..).trans (Y16 ..)))⟩
  rw[hd2]
  simp[rawInt]
theorem Zgh{it S P:Addr}{i n ep:Nat}{o op:Obj}{es:Array (Int×Value)}{t:SetTable}{ps:Array Value}{np:Nat}{Q:Option Value->Shared->Prop}(hh:A.handled=none)
  (hit:SIt s.heap it S (.ref P) i n ep) (hoS:s.heap.get? S=some o) (hdS:o.data=.set es ep t) (hf:t.fits es.size=true) (hn:es.size=n)
  (hoP:s.heap.get? P=some op) (hdP:op.data=.seq ps np)
  (h1:∀v,ps[i]?=some v->∃(p:Nat) (e:Int×Value),v=.int p 0/\es[p]?=some e/\∀h',SIt h' it S (.ref P) (i+1) n ep->Y1Y it s.heap h'->Q (some e.2) {s with heap:=h'})
  (h2:ps[i]?=none->∀h',Y3K it s.heap h'->Q none {s with heap:=h'}):
  wpAny (model prog w) A (pyNext (.ref it)) Q E s:=by
 obtain⟨oi,hoi,hci,hdi⟩:=id hit
 unfold pyNext
 refine wpAny_bind (wpAny_attempt (wpAny_callSpecial?_slot (name:=Y0Z "__next__") hit.typeIs slot_setiter_next
  (wpAny_call_entry slot_setiter_next hit.typeIs Z3c ?_ (Z3J _))))
 show wpAny _ _ (fieldsOf (.ref it)>>= _) _ _ s
 refine wpAny_bind (wpAny_fieldsOf hoi hdi ?_)
 show wpAny _ _ (setEntries S >>= _) _ _ s
 refine wpAny_bind (wpAny_setEntries_of hoS hdS hf ?_)
 simp only[hn,bne_self_eq_false,Y0C,if_false]
 refine wpAny_bind (m:=seqItems? _) (wpAny_seqItems hoP hdP ?_)
 simp only[Y1H]
 cases hx:ps[i]? with
 |none=>
  dsimp only
  obtain⟨o1,ho1,hc1,hd1⟩:=ZbQ hoi hdi 0 (rawInt 0)
  refine wpAny_bind (wpAny_setField hoi hdi (by simp) ?_)
  refine wpAny_bind (wpAny_setField ho1 hd1 (by simp) ?_)
  refine Zem (s:=s) (it:=it) hh ?_ (h2 hx)
  exact Heap.SameBut.extBut (Heap.SameBut.trans (Y16 _ _ _) (Y16 _ _ _))
 |some v=>
  obtain⟨p,e,rfl,he,hq⟩:=h1 v hx
  dsimp only
  refine wpAny_bind ?_
  unfold setNextDrawn
  refine wpAny_bind (wpAny_setState_of hoS hdS hf ?_)
  simp only[Y1H,bne_self_eq_false,Y0C,if_false,he]
  obtain⟨k,x⟩:=e
  refine wpAny_pure ?_
  obtain⟨o1,ho1,hc1,hd1⟩:=ZbQ hoi hdi 1 (rawInt ((i:Int)+1))
  refine wpAny_bind (wpAny_setField hoi hdi (by simp) ?_)
  refine wpAny_pure ⟨x,rfl,wpAny_pure (hq _ ⟨o1,ho1,hc1.trans hci,?_⟩ (Y16 ..))⟩
  rw[hd1]
  simp[rawInt]
end
end L2
namespace L2
open PySem PySem.Spec PyProof.Rows
section
variable{prog:Program}{w:World}{A:Around}{E:Value->Shared->Prop}{s:Shared}
theorem Zen{it S:Addr}{first:Value}{i n ep:Nat}{Q:Value->Shared->Prop}(hit:SIt s.heap it S first i n ep)(h:Q (.ref it) s):
  wpAny (model prog w) A (pyIter (.ref it)) Q E s:=by
 refine wpAny_pyIter_slot hit.typeIs Z3s (wpAny_call_entry Z3s hit.typeIs Z7l ?_ (Z7P _))
 show wpAny _ _ (ret (.ref it)) _ _ s
 exact wpAny_pure ⟨_,rfl,"set_iterator",_,hit.typeIs,slot_setiter_next.lookup,h⟩
theorem SIt.at{h h':Heap}{it S:Addr}{first:Value}{i n ep:Nat}(x:SIt h it S first i n ep)(e:∀o,h.get? it=some o->h'.get? it=some o):SIt h' it S first i n ep:=
 let⟨o,ho,r⟩:=x;⟨o,e _ ho,r⟩
theorem Zmo(hh:A.handled=none){I S:Addr}{n ep:Nat}{o:Obj}{es:Array (Int×Value)}{t:SetTable}{vs:List Value}{Good:Nat->Nat->Prop}(hne:S≠I)
  (hdS:o.data=.set es ep t) (hf:t.fits es.size=true) (hn:es.size=n) (hw:w.params.followText "set-order"=true\/(es.size≤1/\t.led=true))
  (hg:∀i sl,Good i sl->(i<n->∃x nx,Nx w S es ep t sl i=some (x,nx)/\vs[i]?=some x/\Good (i+1) nx)/\(i=n->Nx w S es ep t sl i=none)):
  Walks prog w A I [I,S] [I] n (λi v=>vs[i]?=some v) (λi h=>∃sl,Good i sl/\SIt h I S (.int (sl:Nat) 0) i n ep/\h.get? S=some o)where
 sub:=λb hb=>by simp at hb;simp[hb]
 frame:=λ_ _ _ st hk=>let⟨sl,g,st1,st2⟩:=st;⟨sl,g,st1.at λo e=>hk I (by simp) o e,hk S (by simp) _ st2⟩
 item:=λi s Q E hi st hQ=>by
  obtain⟨sl,g,st1,st2⟩:=st
  obtain⟨x,nx,e1,e2,g2⟩:=(hg i sl g).1 hi
  refine Zgi hh st1 st2 hdS hf hn hw (λx' nx' q h' a1 a2=>?_) (λq=>by rw[e1]at q;simp at q)
  rw[e1]at q
  simp only[Y2p,Prod.mk.injEq]at q
  obtain⟨rfl,rfl⟩:=q
  exact hQ _ h' s.toks e2 ⟨_,g2,a1,(a2.2 S hne).trans st2⟩ λb o hb e=>(a2.2 b (λz=>hb (by simp[z]))).trans e
 done:=λs Q E st hQ=>by
  obtain⟨sl,g,st1,st2⟩:=st
  have e1:=(hg n sl g).2 rfl
  refine Zgi hh st1 st2 hdS hf hn hw (λx' nx' q h' a1 a2=>by rw[e1]at q;simp at q) (λ_ h' a=>hQ h' s.toks λb o hb e=>a b o (λz=>hb (by simp[z])) e)
 self:=λ_ _ _ _ st hQ=>let⟨_,_,st1,_⟩:=st;Zen st1 hQ
theorem Zmn(hh:A.handled=none){I S P:Addr}{n ep np:Nat}{o op:Obj}{es:Array (Int×Value)}{t:SetTable}{js:List Nat}{vs:List Value}(hne:S≠I)(hnp:P≠I)
  (hdS:o.data=.set es ep t) (hf:t.fits es.size=true) (hn:es.size=n) (hdP:op.data=.seq (js.map λi:Nat=>rawInt i).toArray np)
  (hl:js.length=n) (hj:∀(i:Nat) (j:Nat),js[i]?=some j->∃e,es[j]?=some e/\vs[i]?=some e.2):
  Walks prog w A I [I,S,P] [I] n (λi v=>vs[i]?=some v) (λi h=>SIt h I S (.ref P) i n ep/\h.get? S=some o/\h.get? P=some op)where
 sub:=λb hb=>by simp at hb;simp[hb]
 frame:=λ_ _ _ st hk=>⟨st.1.at λo e=>hk I (by simp) o e,hk S (by simp) _ st.2.1,hk P (by simp) _ st.2.2⟩
 item:=λi s Q E hi st hQ=>by
  refine Zgh hh st.1 st.2.1 hdS hf hn st.2.2 hdP (λv hv=>?_) (λq=>?_)
  ·simp only[List.getElem?_toArray,Y06,Y2l]at hv
   obtain⟨j,hj1,rfl⟩:=hv
   obtain⟨e,he,hv⟩:=hj i j hj1
   exact⟨j,e,rfl,he,λh' a1 a2=>hQ _ h' s.toks hv ⟨a1,(a2.2 S hne).trans st.2.1,(a2.2 P hnp).trans st.2.2⟩ λb o hb e=>(a2.2 b (λz=>hb (by simp[z]))).trans e⟩
  ·simp at q
   lia
 done:=λs Q E st hQ=>by
  refine Zgh hh st.1 st.2.1 hdS hf hn st.2.2 hdP (λv hv=>?_) (λ_ h' a=>hQ h' s.toks λb o hb e=>a b o (λz=>hb (by simp[z])) e)
  simp only[List.getElem?_toArray,Y06,Y2l]at hv
  obtain⟨j,hj1,rfl⟩:=hv
  rw[Y1e (by lia)]at hj1
  simp at hj1
 self:=λ_ _ _ _ st hQ=>Zen st.1 hQ
theorem ZhS{α:Type}(es:Array α){js:List Nat}(hp:js.Perm (Y0U es.size)):
  ∃ys:List α,ys.Perm es.toList/\ys.length=js.length/\∀(i:Nat) (j:Nat),js[i]?=some j->∃e,es[j]?=some e/\ys[i]?=some e:=by
 have hin:∀j∈js,j<es.size:=λj hj=>Y1o.mp (hp.mem_iff.mp hj)
 refine⟨js.filterMap λj=>es[j]?,(hp.filterMap _).trans (by rw[filterMap_getElem?_range]),?_⟩
 clear hp
 induction js with
 |nil=>exact⟨rfl,λi j h=>by simp at h⟩
 |cons j js ih=>
  have hj:=hin j Y0v
  obtain⟨h1,h2⟩:=ih λk hk=>hin k (Y0n _ hk)
  rw[List.filterMap_cons_some (b:=es[j]) (by simp[hj])]
  refine⟨by simp[h1],λi k h=>?_⟩
  cases i with
  |zero=>
   simp at h
   subst h
   exact⟨es[j],by simp[hj],rfl⟩
  |succ i=>
   simp at h
   obtain⟨e,he,hy⟩:=h2 i k h
   exact⟨e,he,by simpa using hy⟩
def Zqw(prog:Program)(w:World)(zs:List Str)(s₀:Heap)(S I:Addr)(h':Heap):Prop:=
 ∃(fp:List Addr) (n:Nat) (vs:List Value) (St:Nat->Heap->Prop),
  (∀A':Around,A'.handled=none->Walks prog w A' I fp [I] n (λi v=>vs[i]?=some v) St)/\St 0 h'/\vs.length=n/\(vs.map txt).Perm zs/\(∀v∈vs,∃t,v=Y0F (txt v) t)/\
  (∀b∈fp,b=S\/s₀.objs.size≤b)/\s₀.objs.size≤I
theorem Zd7{p:Array Nat}(h:p.size=1)(j:Nat):Y2L p j=if p[0]'(by lia)<j then 1 else 0:=by
 obtain⟨l⟩:=p
 match l,h with
 |[a],_=>
  show(if 0<1 then(if(#[a]:Array Nat).getD ((0+1)/2) j<j then Y3V #[a] j 0 ((0+1)/2+1) 1 else Y3V #[a] j 0 0 ((0+1)/2))else 0)=if a<j then 1 else 0
  rw[if_pos (by lia)]
  rfl
theorem Zg1{S:Addr}{o:Obj}{zs:List Str}{Q:Value->Shared->Prop}(ho:s.heap.get? S=some o)(hS:WSet prog w o zs)
  (hQ:∀(I:Addr) (h':Heap) d,Zqw prog w zs s.heap S I h'->(∀b o,s.heap.get? b=some o->h'.get? b=some o)->Q (.ref I) {s with heap:=h',drawn:=d}):
  wpAny (model prog w) A (pyIter (.ref S)) Q E s:=by
 obtain⟨hex,es,ep,t,hd,hel,hp,hb,hf,hled,hpl⟩:=id hS
 have hT:s.TypeIs (.ref S) "set":=⟨o,ho,hex.1⟩
 have hSl:S<s.heap.objs.size:=Y0i ho
 have hsz:es.size=zs.length:=by rw[<- hp.length_eq,Y01,Y0k]
 have hst:∀e∈es.toList,∃t,e.2=Y0F (txt e.2) t:=λe he=>by
  obtain⟨⟨k,hk,_⟩,_⟩:=hel e he
  obtain⟨t,ht⟩:=isT.mp hk
  exact⟨t,by rw[ht];rfl⟩
 have hsl:sizeLine=16777216:=by decide
 have hsb:scanBound=4096:=rfl
 refine wpAny_pyIter_slot hT F.slot_set_iter (wpAny_call_entry F.slot_set_iter hT Zay ?_ (F.args_set_iter_1 _))
 show wpAny _ _ (Y2V S >>= _) _ _ s
 refine wpAny_bind (m:=Y2V S) (wpAny_bind (wpAny_setEntries_of ho hd hf (wpAny_pure ?_)))
 refine wpAny_bind (m:=setDrawn S) ?_
 unfold setDrawn
 refine wpAny_bind (wpAny_setState_of ho hd hf ?_)
 refine wpAny_bind (m:=setsByText) (wpAny_bind (wpAny_askSetting (wpAny_pure (wpAny_pure ?_))))
 show wpAny _ _ (if(!w.params.followText "set-order"&&(!t.plain&&decide (es.size>1)))=true then _ else _) _ _ _
 have rest:∀(first:Value) (s₁:Shared) (R:Fin->Shared->Prop),s₁.heap.get? S=some o->
   R (.done (.ret (.ref s₁.heap.objs.size))) {s₁ with heap:=s₁.heap.push {cls:=.type "set_iterator",data:=.fields #[first,.int 0 0,.ref S,.int (es.size:Nat) 0,.int ep 0]} }->
   wpAny (model prog w) A.in1 (do let e<- setEpoch S;let v<- newFields "set_iterator" [first,rawInt 0,.ref S,rawInt (es.size:Nat),rawInt e];ret v) R E s₁:=by
  intro first s₁ R ho₁ h
  refine wpAny_bind (wpAny_setEpoch_of ho₁ hd hf ?_)
  exact wpAny_bind (wpAny_newObj_type (wpAny_pure h))
 have small:∀(Good:Nat->Nat->Prop) (vs:List Value),Good 0 0->vs.length=es.size->(vs.map txt).Perm zs->(∀v∈vs,∃t,v=Y0F (txt v) t)->
   (w.params.followText "set-order"=true\/(es.size≤1/\t.led=true))->
   (∀i sl,Good i sl->(i<es.size->∃x nx,Nx w S es ep t sl i=some (x,nx)/\vs[i]?=some x/\Good (i+1) nx)/\(i=es.size->Nx w S es ep t sl i=none))->
   ∀(s₁:Shared),s₁=s->wpAny (model prog w) A.in1 (do let e<- setEpoch S;let v<- newFields "set_iterator" [rawInt 0,rawInt 0,.ref S,rawInt (es.size:Nat),rawInt e];ret v)
    (fun fin s'=>∃v,fin=Fin.done (Flow.ret v)/\∃T' r,s'.TypeIs v T'/\typeLookup (.type T') "__next__"=pure (some r)/\Q v s') E s₁:=by
  intro Good vs g0 hlv hpv hsv hw hg s₁ e₁
  subst e₁
  refine rest _ _ _ ho ⟨_,rfl,"set_iterator",_,⟨_,Y0e _ rfl,rfl⟩,slot_setiter_next.lookup,?_⟩
  refine hQ _ _ s₁.drawn ⟨[s₁.heap.objs.size,S],es.size,vs,_,λA' hh=>Zmo hh (Y0m hSl) hd hf rfl hw hg,⟨0,g0,⟨_,Y0e _ rfl,rfl,rfl⟩,Y03 _ ho⟩,hlv,hpv,hsv,λb hb=>?_,Y0b _⟩ λb o e=>Y03 _ e
  simp only[Y0f,Y0u,or_false]at hb
  rcases hb with rfl|rfl
  ·exact .inr (Y0b _)
  ·exact .inl rfl
 by_cases hbt:w.params.followText "set-order"=true
 ·rw[hbt]
  simp only[Y2x,Y3E,Y0C,if_false]
  refine wpAny_bind (wpAny_pure ?_)
  have hpk:=Zgx (w.params.setOrder S ep) es
  refine small (λ_ _=>True) ((pickOrder (w.params.setOrder S ep) es).toList.map (·.2)) trivial ?_ ?_ ?_ (.inl hbt) ?_ s rfl
  ·rw[Y01,hpk.length_eq,Y0k]
  ·rw[Y0G]
   exact(hpk.map _).trans hp
  ·intro v hv
   obtain⟨e,he,rfl⟩:=Y0r.mp hv
   exact hst e (hpk.mem_iff.mp he)
  ·intro i sl _
   have hps:(pickOrder (w.params.setOrder S ep) es).size=es.size:=by rw[<- Y0k,hpk.length_eq,Y0k]
   unfold Nx
   rw[if_pos hbt]
   refine⟨λhi=>?_,λhi=>?_⟩
   ·rw[Y14 (by lia)]
    exact⟨_,_,rfl,by simp[hps,hi],trivial⟩
   ·rw[Y2m (by lia)]
    rfl
 ·have hbf:w.params.followText "set-order"=false:=by simpa using hbt
  have hlt:t.led=true:=by rw[hled,hbf];rfl
  rw[hbf]
  simp only[Y2M,Bool.true_and]
  by_cases h1:es.size>1
  ·have hz:zs≠ []:=λz=>by rw[z,List.length_nil]at hsz;lia
   rw[hpl hz,decide_eq_true h1]
   simp only[Y2M,Bool.and_self,if_true]
   refine wpAny_bind (Zkm _ _ _ _ (by simp) λjs d hj=>?_)
   obtain⟨ys,hy1,hy2,hy3⟩:=ZhS es hj
   have hjl:js.length=es.size:=by rw[hj.length_eq,Y2q]
   refine wpAny_bind (wpAny_newTuple ?_ (by rw[Y01];lia))
   refine rest _ _ _ (Y03 _ ho) ⟨_,rfl,"set_iterator",_,⟨_,Y0e _ rfl,rfl⟩,slot_setiter_next.lookup,?_⟩
   have hPne:s.heap.objs.size≠(s.heap.push {cls:=.type "tuple",data:=.seq (js.map fun i:Nat=>rawInt i).toArray}).objs.size:=by rw[Y1f];lia
   have hSne:S≠(s.heap.push {cls:=.type "tuple",data:=.seq (js.map fun i:Nat=>rawInt i).toArray}).objs.size:=by rw[Y1f];exact Y0m (Y1v hSl)
   have hIle:s.heap.objs.size≤(s.heap.push {cls:=.type "tuple",data:=.seq (js.map fun i:Nat=>rawInt i).toArray}).objs.size:=by rw[Y1f];lia
   refine hQ _ _ d ⟨[_,S,s.heap.objs.size],es.size,ys.map (·.2),_,λA' hh=>Zmn hh (S:=S) (P:=s.heap.objs.size) (o:=o) (js:=js)
    (op:={cls:=.type "tuple",data:=.seq (js.map fun i:Nat=>rawInt i).toArray}) hSne hPne hd hf rfl rfl hjl ?_,
    ⟨⟨_,Y0e _ rfl,rfl,rfl⟩,Y03 _ (Y03 _ ho),Y03 _ (Y0e _ rfl)⟩,?_,?_,?_,λb hb=>?_,?_⟩
    λb o e=>Y03 _ (Y03 _ e)
   ·intro i j hij
    obtain⟨e,he,hy⟩:=hy3 i j hij
    exact⟨e,he,by rw[Y06,hy];rfl⟩
   ·rw[Y01,hy2,hjl]
   ·rw[Y0G]
    exact(hy1.map _).trans hp
   ·intro v hv
    obtain⟨e,he,rfl⟩:=Y0r.mp hv
    exact hst e (hy1.mem_iff.mp he)
   ·simp only[Y0f,Y0u,or_false]at hb
    rcases hb with rfl|rfl|rfl
    ·exact .inr hIle
    ·exact .inl rfl
    ·exact .inr (Y0b _)
   ·exact hIle
  ·rw[decide_eq_false h1]
   simp only[Y3G,Y0C,if_false]
   refine wpAny_bind (wpAny_pure ?_)
   have hfp:t.place.size=es.size:=by
    simp only[SetTable.fits,Y0H,beq_iff_eq,decide_eq_true_eq]at hf
    exact hf.1
   refine small (λi sl=>(i=0->sl=0)/\(i=1->∃h:0<t.place.size,sl=t.place[0]+1)) (es.toList.map (·.2)) ⟨λ_=>rfl,λz=>absurd z (by lia)⟩ (by simp) ?_ ?_ (.inr ⟨by lia,hlt⟩) ?_ s rfl
   ·rw[Y0G]
    exact hp
   ·intro v hv
    obtain⟨e,he,rfl⟩:=Y0r.mp hv
    exact hst e he
   ·intro i sl ⟨g0,g1⟩
    unfold Nx
    rw[if_neg hbt]
    refine⟨λhi=>?_,λhi=>?_⟩
    ·have hs1:es.size=1:=by lia
     have hi0:i=0:=by lia
     subst hi0
     have hpz:t.place.size=1:=by lia
     rw[g0 rfl,Zd7 hpz,if_neg (by lia),Y14 (by lia),Y14 (by lia)]
     refine⟨_,_,rfl,?_,λz=>absurd z (by lia),λ_=>⟨by lia,rfl⟩⟩
     simp[hs1]
    ·have hnone:es[Y2L t.place sl]?=none:=by
      by_cases h0:es.size=0
      ·exact Y2m (by lia)
      ·have hs1:es.size=1:=by lia
       obtain⟨hq,e⟩:=g1 (by lia)
       rw[e,Zd7 (by lia),if_pos (by lia)]
       exact Y2m (by lia)
     rw[hnone]
end
end L2
namespace L2
open PySem PySem.Spec PyProof.Rows
section
variable{prog:Program}{w:World}{A:Around}{E:Value->Shared->Prop}{s:Shared}
theorem ZcS{S:Addr}{o:Obj}{zs:List Str}{Q:List Value->Shared->Prop}(hh:A.handled=none)(ho:s.heap.get? S=some o)(hS:WSet prog w o zs)
  (hQ:∀(vs:List Value) (h':Heap) (d:Drawn) (g:Array GenState) tk,(vs.map txt).Perm zs->(∀v∈vs,∃t,v=Y0F (txt v) t)->(∀b o,s.heap.get? b=some o->h'.get? b=some o)->g=s.gens->s.heap.objs.size≤h'.objs.size->
   Q vs {s with heap:=h',drawn:=d,gens:=g,toks:=tk}):wpAny (model prog w) A (collect (.ref S)) Q E s:=by
 obtain⟨hex,es,ep,t,hd,hel,hp,hb,hf,hled,hpl⟩:=id hS
 have hSl:S<s.heap.objs.size:=Y0i ho
 have hsl:sizeLine=16777216:=by decide
 have hsb:scanBound=4096:=rfl
 have hsz:es.size=zs.length:=by rw[<- hp.length_eq,Y01,Y0k]
 unfold collect
 refine wpAny_bind (wpAny_runValue (codeAny_builtin F.entry_proto_collect ?_))
 rw[Y0I F.plain_proto_collect _]
 show wpAny _ A.in1 (newList [] >>= fun l=>again (.builtin "list.__iadd__" ⟨[l,.ref S],[]⟩)) _ _ s
 refine wpAny_bind (wpAny_newObj_type ?_)
 refine wpAny_pure ⟨plainId_quiet F.plain_list_iadd _,codeAny_builtin F.entry_list_iadd ?_⟩
 rw[Y0I F.plain_list_iadd _]
 show wpAny _ A.in1 (Y2B (.ref s.heap.objs.size) (.ref S) (.ref s.heap.objs.size)) _ _ _
 have hne:s.heap.objs.size≠S:=(Y0m hSl).symm
 generalize hL:s.heap.objs.size=L at*
 have hgL:(s.heap.push {cls:=.type "list",data:=.seq ([]:List Value).toArray}).get? L=some {cls:=.type "list",data:=.seq ([]:List Value).toArray}:=by
  rw[<- hL];exact Y0e _ rfl
 have hgS:(s.heap.push {cls:=.type "list",data:=.seq ([]:List Value).toArray}).get? S=some o:=Y03 _ ho
 have hbig:(s.heap.push {cls:=.type "list",data:=.seq ([]:List Value).toArray}).objs.size=L+1:=by rw[Y1f,hL]
 have hold:∀b u,s.heap.get? b=some u->b≠L/\(s.heap.push {cls:=.type "list",data:=.seq ([]:List Value).toArray}).get? b=some u:=fun b u e=>
  ⟨by rw[<- hL];exact Y0m (Y0i e),Y03 _ e⟩
 generalize s.heap.push {cls:=.type "list",data:=.seq ([]:List Value).toArray}=h₁ at*
 have hT:Y2w {s with heap:=h₁} (.ref S) "set":=⟨o,hgS,hex.1⟩
 unfold Y2B
 refine wpAny_bind (wpAny_typeOf hT ?_)
 have e1:Y2W (.ref L) (.ref S)=false:=by simp[Y2W,hne]
 have e2:(Y0w "set"==Y0w "list")=false:=by decide
 have e3:(Y0w "set"==Y0w "tuple")=false:=by decide
 simp only[e1,e2,e3,Bool.or_false,Y0C,if_false]
 refine wpAny_bind (Zg1 (s:={s with heap:=h₁}) hgS hS λI h₂ d hW hk=>?_)
 obtain⟨fp,n,vs,St,hWk,hst,hvn,hvp,hvs,hfp,hI⟩:=hW
 have hk':∀b u,h₁.get? b=some u->h₂.get? b=some u:=hk
 have hT2:Y2w {s with heap:=h₂,drawn:=d} (.ref S) "set":=⟨o,hk' _ _ hgS,hex.1⟩
 refine wpAny_bind (wpAny_holding ?_)
 unfold Builtin.List.listLengthHint
 refine wpAny_bind (wpAny_specialOf hT2 F.slot_set_len.lookup ?_)
 have hsp:splitId "set.__len__"=some ("set","__len__"):=by decide+kernel
 extract_lets j1 j2
 dsimp -zeta only
 rw[hsp]
 dsimp -zeta only
 refine wpAny_bind (wpAny_isInstance hT2 sub_set_self ?_)
 simp only[Y2x,Y0C,if_false]
 show wpAny _ _ (ite (_=true) _ _) _ _ _
 split
 case isFalse hs=>exact absurd (by rfl) hs
 refine wpAny_bind (wpAny_typeOf hT2 ?_)
 refine wpAny_pure ?_
 split
 case isFalse hs=>exact absurd (by rfl) hs
 refine wpAny_bind (wpAny_rule ?_)
 refine wpAny_bind ?_
 have hS₁:h₂.get? L=some {cls:=.type "list",data:=.seq ([]:List Value).toArray}:=hk' _ _ hgL
 show wpAny _ A.in1 (updateSeq L (·.push .none)>>= λ_=>updateSeq L (·.pop)) _ _ _
 refine wpAny_bind (wpAny_updateSeq hS₁ rfl ?_)
 have hS₂:=Y12 (Y2f (·.push Y0o)) hS₁ rfl
 refine wpAny_updateSeq hS₂ rfl ?_
 have hS₃:=Y12 (Y2f (·.pop)) hS₂ rfl
 have oth:∀b o,b≠L->h₂.get? b=some o->((h₂.update L (Y2f (·.push Y0o))).update L (Y2f (·.pop))).get? b=some o:=
  λb o hb e=>(Y0T _ _ (Y2d hb)).trans ((Y0T _ _ (Y2d hb)).trans e)
 have hLf:L∉fp:=λz=>by
  rcases hfp L z with e|e
  ·exact hne e
  ·have:L+1≤L:=hbig▸e
   lia
 have hin:A.in1.handled=none:=by simp[hh]
 have W:=(hWk A.in1 hin).toS
 have hn:n≤sizeLine:=by
  have:n=zs.length:=by rw[<- hvn,<- hvp.length_eq,Y01]
  lia
 refine wpAny_pure ⟨plainId_quiet F.plain_extend_loop _,codeAny_extend_loopS W hn L hLf _ n 0 _ _ _ rfl (Y17 _)
  (W.frame 0 ({s with heap:=h₂,drawn:=d}:Shared) _ s.toks hst (Y0b _) λb hb o e=>oth b o (λz=>hLf (z▸hb)) e) hS₃ (ItemsOf.nil _) λs' acc' c' hm hS' hacc=>?_⟩
 show wpAny _ A (load L >>= _) _ _ s'
 refine wpAny_bind (wpAny_load hS' ?_)
 have hav:acc'.toList=vs:=by
  refine Y2X λi=>?_
  by_cases hi:i<acc'.size
  ·have e:=hacc.2 i acc'[i] (by simp[hi])
   rw[e]
   simp[hi]
  ·rw[Y1e (by simp;lia),Y1e (by have:=hacc.1;lia)]
 obtain⟨h',g',d',tk',os'⟩:=s'
 have eg:g'=s.gens:=hm.gens
 have ed:d'=d:=hm.drawn
 have eo:os'=s.os:=hm.os
 subst ed;subst eo
 refine wpAny_pure ?_
 show Q acc'.toList _
 rw[hav]
 refine hQ vs h' _ g' tk' hvp hvs (λb u e=>?_) eg (Y3l (Y0i hS'))
 have hbL:=hold b u e
 refine hm.heap b u ?_ (oth b u hbL.1 (hk' b u hbL.2))
 simp only[Y0f,Y0u,or_false,not_or]
 refine⟨hbL.1,λz=>?_⟩
 have h1:L+1≤I:=Y0M (Y2I hbig.symm) hI
 have h2:b<L:=by rw[<- hL];exact Y0i e
 rw[z]at h2
 exact absurd h1 (Nat.not_le_of_lt (Y1v h2))
theorem Zdp{S:Addr}{o:Obj}{zs:List Str}{Q:Value->Shared->Prop}(hh:A.handled=none)(ho:s.heap.get? S=some o)(hS:WSet prog w o zs)(h64:zs.length<64)
  (h:∀(p:Addr) (h':Heap) (d:Drawn) tk (out:List Value) (ss:List Str) (e:Nat),s.heap.objs.size≤p->(∀b o,s.heap.get? b=some o->h'.get? b=some o)->h'.get? p=some (seqObj "list" out.toArray e)->
   StrsAre out ss->ss.Perm zs->sortedS ss=true->Q (.ref p) {s with heap:=h',drawn:=d,toks:=tk}):
  wpAny (model prog w) A (call (.builtin "sorted") [.ref S]) Q E s:=by
 refine Calls.call_function_entry kind_sorted plain_sorted entry_sorted (args_sorted1 _) ?_
 unfold Builtin.«sorted»
 refine wpAny_bind (m:=checkCount "sorted" 1 1 _) (wpAny_pure ?_)
 have hsl:sizeLine=16777216:=by decide
 refine wpAny_bind (ZcS (by simp[hh]) ho hS λvs h₁ d g tk hp hv hk hg hle=>?_)
 subst hg
 have hl:vs.length=zs.length:=by rw[<- hp.length_eq,Y01]
 refine wpAny_bind (wpAny_newList ?_ (by lia))
 have hoL:(h₁.push (seqObj "list" vs.toArray 0)).get? h₁.objs.size=some (seqObj "list" vs.toArray 0):=Y0e _ rfl
 have hS':StrsAre vs (vs.map strOf):=strsAre_map vs λv hm=>by obtain⟨t,e⟩:=hv v hm;exact⟨_,t,e⟩
 have hto:vs.map strOf=vs.map txt:=List.map_congr_left λv hm=>by obtain⟨t,e⟩:=hv v hm;rw[e];rfl
 show wpAny _ _ _ _ _ {s with heap:=h₁.push (seqObj "list" vs.toArray 0),drawn:=d,toks:=tk}
 refine wpAny_bind (wpAny_holding (wpAny_call_entry slot_list_sort ⟨_,hoL,rfl⟩ entry_list_sort (list_sort_treeK strKind_oneLt hoL hS'.keysOf (λv₁ v₂ rest e=>keyKind_strs (by rw[<- e];exact hS')) (by lia) λst' a1 a2=>⟨_,rfl,?_⟩) (args_list_sort _)))
 obtain⟨ss',z1,z2,z3⟩:=sorted_out_str hS' a1 a2
 refine wpAny_pure ⟨_,rfl,?_⟩
 obtain⟨e,he⟩:=sortedHeap_at (out:=(arrOf st').map (·.2)) hoL
 refine h h₁.objs.size _ d tk ((arrOf st').map (·.2)).toList ss' e hle (λb o hb=>?_) (by rw[Array.toArray_toList];exact he) z1 (by rw[hto]at z2;exact z2.trans hp) z3
 have hb1:=hk b o hb
 have hlt:b<h₁.objs.size:=Y0i hb1
 rw[sortedHeap_old (Y0m hlt) (by rw[size_push'];exact Y1v hlt)]
 exact Y03 _ hb1
end
end L2
namespace L2
open PySem PySem.Spec PyProof.Rows
theorem Inv.drew{X:Cx}{pins:List (Addr×Obj)}{σ:St}{H:Hp}{s:Shared}(I:Inv X pins σ H s)(d:Drawn):Inv X pins σ H {s with drawn:=d}:=
 ⟨I.ok,I.os,I.bare,I.base,I.loc,I.cell,I.free,I.freeC,I.pin,I.hok,I.len⟩
theorem few{zs:List Str}(nd:zs.Nodup):∀(N:List Str),(∀z∈zs,z∈N)->zs.length≤N.length:=by
 induction zs with
 |nil=>intro N _;exact Y17 _
 |cons z zs ih=>
  intro N h
  rw[Y11]at nd
  have hz:=h z Y0v
  have hp:=List.perm_cons_erase hz
  have:=ih nd.2 (N.erase z) λy hy=>by
   have:=hp.mem_iff.mp (h y (Y0n _ hy))
   rcases Y0f.mp this with e|e
   ·exact absurd (e▸hy) nd.1
   ·exact e
  have hl:=hp.length_eq
  simp only[Y0X]at hl ⊢
  lia
theorem Zc2:∀{vs:List Value} {ss:List Str},StrsAre vs ss->Vals (ss.map V.str) vs
 |_,_,.nil=>.nil
 |_,_,.cons x t h=>.cons ⟨t,rfl⟩ (Zc2 h)
def Zi5(X:Cx)(f g:Value)(r:V->Hp->VK->Prop):Prop:=
 ∀(pins:List (Addr×Obj)) (s:Shared) (σ:St) (H:Hp) (x:V) (u:Value) (Q:VK),Inv X pins σ H s->RelV x u->r x H Q->
  wpAny (model X.prog X.w) X.A (call g [u]) (λv s1=>wpAny (model X.prog X.w) X.A (call f [v]) (EP X pins σ Q) X.xe s1) X.xe s
section
variable{X:Cx}
theorem Zes{x y:Str}{id T:String}{r:V->Hp->VK->Prop}{e:Expr}{t:TE}{p p' pos pos':Pos}(hc:Zi5 X (.builtin id) (.type T) r)
  (hg:Gl X x) (hm:X.mg x=none) (hv:bootBuiltins x=some (.builtin id)) (hg':Gl X y) (hm':X.mg y=none) (hv':bootBuiltins y=some (.type T)) (ha:PE X e t)
  (hn:x≠"__name__") (hdb:(x==("__debug__":Str))=false) (hn':y≠"__name__") (hdb':(y==("__debug__":Str))=false)
  (he:starEach [e] X.env=(false,eval e X.env)::starEach [] X.env):
  PE X (.Call (.Name x p) [.Call (.Name y p') [e] [] pos'] [] pos) (λσ H Q=>t σ H λv H1=>r v H1 Q):=by
 intro pins s σ H Q I h
 refine wpAny_Call_Name_kw (Z4o I hg hm hv ?_ hn hdb)
 refine Y2s ?_ rfl rfl
 show wpAny _ _ (spliced ((false,eval (.Call (.Name y p') [e] [] pos') X.env)::backTo pos (starEach [] X.env))) _ _ s
 refine Y1X ?_
 refine wpAny_Call_Name_kw (Z4o I hg' hm' hv' ?_ hn' hdb')
 refine Y10 ?_ he rfl
 rw[he]
 show wpAny _ _ (spliced ((false,eval e X.env)::backTo pos' (starEach [] X.env))) _ _ s
 refine Y1X (thn (ha pins s σ H _ I h) λu s1 ⟨v,H1,I1,r1,q1⟩=>?_)
 refine Y23 ?_
 exact thn (hc pins s1 σ H1 v u Q I1 r1 q1) λu2 s2 q2=>Y23 q2
theorem ZhJ(hcalm:X.calm=true):Zi5 X (.builtin "sorted") (.type "set") (fun x H Q=>∃(a:Addr) (xs N:List Str),x=.ref a/\SqL X.K H a (xs.map V.str)/\xs.length+1<scanBound/\(∀z∈xs,z∈N)/\N.length<64/\
  ∀p (ys:List Str),H p=none->ys.Nodup->(∀y,y∈ys↔y∈xs)->sortedS ys=true->Q (.ref p) (upd H p (.lst (ys.map V.str)))):=by
 intro pins s σ H x u Q I rx h
 obtain⟨a,xs,N,rfl,ha,hlen,hN,hN64,q⟩:=h
 cases rx
 obtain⟨its,rv,p,hz⟩:=I.list ha
 have hh:=I.ok.hd hcalm
 have hil:its.length=xs.length:=by rw[<- rv.length,Y01]
 have hsz:its.toArray.size=xs.length:=by simp[hil]
 have hi:∀(i:Nat) (v:Value),its.toArray[i]?=some v->∃t,v=Y0F (xs.getD i ⟨#[]⟩) t:=λi v hv=>by
  have hv':its[i]?=some v:=by simpa using hv
  have hlt:i<xs.length:=by rw[<- hil];exact(Y05.mp hv').1
  obtain⟨u,hu,ru⟩:=rv.get (i:=i) (x:=V.str xs[i]) (by simp[hlt])
  rw[hv']at hu
  cases hu
  obtain⟨t,rfl⟩:=ru
  exact⟨t,by simp[Y3Q,hlt]⟩
 have hmem:∀y,y∈met (λi=>xs.getD i ⟨#[]⟩) xs.length↔y∈xs:=λy=>by
  rw[ZgP,List.mem_iff_getElem]
  constructor
  ·rintro⟨j,hj,rfl⟩
   exact⟨j,hj,by simp[Y3Q,hj]⟩
  ·rintro⟨j,hj,rfl⟩
   exact⟨j,hj,by simp[Y3Q,hj]⟩
 refine ZhK (f:=λi=>xs.getD i ⟨#[]⟩) hh p.isList hi (by rw[hsz];exact hlen) λh1 tk1 o ho hS hk=>?_
 rw[hsz]at hS
 have I1:Inv X pins σ H {s with heap:=h1,toks:=tk1}:=I.kept λb u e=>hk b u (Y0i e) e
 have nd:=Zcr (λi=>xs.getD i ⟨#[]⟩) xs.length
 refine Zdp (s:={s with heap:=h1,toks:=tk1}) hh ho hS (Nat.lt_of_le_of_lt (few nd N λz hz=>hN z ((hmem z).mp hz)) hN64) λp2 h2 d tk2 out ss e hp hk2 hp2 ho2 hperm hsort=>?_
 have hlen2:ss.length≤sizeLine:=by
  have hsl:sizeLine=16777216:=by decide
  have:=few nd N λz hz=>hN z ((hmem z).mp hz)
  rw[hperm.length_eq]
  lia
 have I2:=(I1.laid (a:=p2) (t':=tk2) (h':=h2) (o:=.lst (ss.map V.str)) (λb u e=>hk2 b u e) hp
  ⟨by rw[Y01];exact hlen2,out,e,Zc2 ho2,hp2⟩).drew d
 exact⟨.ref p2,_,I2,rfl,q p2 ss (I1.hok.fresh hp) (hperm.nodup_iff.mpr nd) (λy=>(hperm.mem_iff).trans (hmem y)) hsort⟩
end
end L2
namespace L2
open PySem PySem.Spec PyProof.Rows
theorem Zcs:typeLookup (.type "list") "keys"=pure none:=by rw[typeLookup_type,builtinLookup_eq_fast];kernel_rfl
theorem Zct:typeLookup (.type "list") "__getattr__"=pure none:=by rw[typeLookup_type,builtinLookup_eq_fast];kernel_rfl
theorem Z59:isSubtype (.type "AttributeError") (.type "AttributeError")=pure true:=by rw[isSubtype_type];kernel_rfl
section
variable{prog:Program}{w:World}{A:Around}{E:Value->Shared->Prop}{h:Heap}{g:Array GenState}{d:Drawn}{t:Nat}{os:OsState}{a:Addr}{its:Array Value}{n:Nat}
theorem Zfu{tk:Tok}{Q:Fin->Shared->Prop}(hx:h.get? a=some (seqObj "list" its n))(hh:A.handled=none)
  (hE:∀e h' t',(∀b o,h.get? b=some o->h'.get? b=some o)->(∃o,h'.get? e=some o/\o.cls=.type "AttributeError")->E (.ref e) ⟨h',g,d,t',os⟩):
  wpAny (model prog w) A (Builtin.«object.__getattribute__» ⟨[.ref a,.str "keys" tk],[]⟩) Q E ⟨h,g,d,t,os⟩:=by
 have hT:(⟨h,g,d,t,os⟩:Shared).TypeIs (.ref a) "list":=⟨_,hx,rfl⟩
 have f4:=Zcs
 unfold Builtin.«object.__getattribute__»
 repeat (any_goals (first|assumption|wp_step))
 have hmsg:¬(Y0Z (toString "'"++toString ((Y29 "list").elim "list" fun x=>x.tpName)++toString "' object has no attribute '")++Y0Z "keys"++Y0Z "'").length>sizeLine:=by decide+kernel
 generalize(Y0Z (toString "'"++toString ((Y29 "list").elim "list" fun x=>x.tpName)++toString "' object has no attribute '")++Y0Z "keys"++Y0Z "'")=msg at hmsg ⊢
 unfold raiseAttrError
 refine wpAny_bind ?_
 unfold mkStr
 rw[if_neg hmsg]
 repeat (any_goals (first|assumption|wp_step))
 show wpAny _ _ (isSubtype (.type "AttributeError") (.type "AttributeError")) _ _ _
 rw[Z59]
 generalize(if((Y29 "AttributeError").elim false fun t=>t.mro.contains "StopIteration"||t.mro.contains "SystemExit")=true then [Y0F msg t].headD Y0o else Y0o)=fm
 refine wpAny_pure ?_
 simp only[Y2x,Y0C,if_false]
 have hoE:((h.push {cls:=Y0w "tuple",data:=Y26 #[Y0F msg t]}).push {cls:=Y0w "AttributeError",data:=Y1R (#[Y0q h.objs.size,Y0o,Y0o,Y0o,Y15 false,fm]++ownMembersOf (Y0w "AttributeError") [Y0F msg t])}).get? (h.push {cls:=Y0w "tuple",data:=Y26 #[Y0F msg t]}).objs.size=some {cls:=Y0w "AttributeError",data:=Y1R (#[Y0q h.objs.size,Y0o,Y0o,Y0o,Y15 false,fm]++ownMembersOf (Y0w "AttributeError") [Y0F msg t])}:=Y0e _ rfl
 have e6:(#[Y0q h.objs.size,Y0o,Y0o,Y0o,Y15 false,fm]++ownMembersOf (Y0w "AttributeError") [Y0F msg t])[6]?=some (.int 0 0):=rfl
 have e7:(#[Y0q h.objs.size,Y0o,Y0o,Y0o,Y15 false,fm]++ownMembersOf (Y0w "AttributeError") [Y0F msg t])[7]?=some (.int 0 0):=rfl
 have old:∀b o,h.get? b=some o->((h.push {cls:=Y0w "tuple",data:=Y26 #[Y0F msg t]}).push {cls:=Y0w "AttributeError",data:=Y1R (#[Y0q h.objs.size,Y0o,Y0o,Y0o,Y15 false,fm]++ownMembersOf (Y0w "AttributeError") [Y0F msg t])}).get? b=some o/\b<(h.push {cls:=Y0w "tuple",data:=Y26 #[Y0F msg t]}).objs.size:=fun b o e=>
  ⟨Y03 _ (Y03 _ e),by rw[Y1f];exact Y1v (Y0i e)⟩
 generalize(h.push {cls:=Y0w "tuple",data:=Y26 #[Y0F msg t]}).objs.size=ea at*
 generalize((h.push {cls:=Y0w "tuple",data:=Y26 #[Y0F msg t]}).push {cls:=Y0w "AttributeError",data:=Y1R (#[Y0q h.objs.size,Y0o,Y0o,Y0o,Y15 false,fm]++ownMembersOf (Y0w "AttributeError") [Y0F msg t])})=h2 at*
 generalize hvs:#[Y0q h.objs.size,Y0o,Y0o,Y0o,Y15 false,fm]++ownMembersOf (Y0w "AttributeError") [Y0F msg t]=vs at*
 refine wpAny_bind (wpAny_load hoE ?_)
 dsimp only
 rw[e6,e7]
 simp only[Y2u,Y0C,if_false]
 rw[if_neg (by decide)]
 refine wpAny_pure ?_
 simp only[if_true]
 have hT2:(⟨h2,g,d,t+1+1,os⟩:Shared).TypeIs (.ref ea) "AttributeError":=⟨_,hoE,rfl⟩
 refine wpAny_bind (wpAny_rule ?_)
 refine wpAny_bind (wpAny_typeOf hT2 ?_)
 dsimp only
 unfold layMembers
 refine wpAny_bind (wpAny_load hoE ?_)
 dsimp only
 refine wpAny_update hoE ?_
 unfold raiseNew
 refine wpAny_bind (wpAny_handled ?_)
 rw[hh]
 show wpAny _ _ (throw (Y0q ea)) _ _ _
 have hup:=Y12 (Y3P fun vs=>vs.extract 0 6++#[Y0F (Y0Z "keys") (t+1),Y0q a]) hoE (Y2t (Y2k rfl _))
 refine wpAny_throw (hE ea _ _ (λb o e=>?_) ⟨_,hup,Y2U ..⟩)
 have:=old b o e
 exact(Y0T _ _ (Y2e this.2)).trans this.1
theorem Zlr{tk:Tok}{Q:Value->Shared->Prop}(hx:h.get? a=some (seqObj "list" its n))(hh:A.handled=none)
  (hE:∀e h' t',(∀b o,h.get? b=some o->h'.get? b=some o)->(∃o,h'.get? e=some o/\o.cls=.type "AttributeError")->E (.ref e) ⟨h',g,d,t',os⟩):
  wpAny (model prog w) A (getAttrBy (.ref a) (.str "keys" tk) false) Q E ⟨h,g,d,t,os⟩:=by
 have hT:(⟨h,g,d,t,os⟩:Shared).TypeIs (.ref a) "list":=⟨_,hx,rfl⟩
 have f2:=Y1O.lookup
 have f3:=Y1O.bind (.ref a)
 repeat (any_goals (first|assumption|wp_step))
 refine codeAny_call_builtin Y1O.plain F.entry_list_ga (Y1O.check _ _ _ _ _ _ _ _ hT (F.args_list_getattribute_2 _ _) (Zfu hx (by simp[hh]) λe h' t' k ho=>?_))
 have hTe:(⟨h',g,d,t',os⟩:Shared).TypeIs (.ref e) "AttributeError":=ho
 show wpAny _ _ (getattributeRaised _ _ _ _ _ _ _) _ _ _
 unfold getattributeRaised
 refine wpAny_bind (wpAny_isInstance hTe Z59 ?_)
 simp only[if_true]
 unfold hookBehind onTheHeap
 simp only[Y0C,if_false]
 rw[Zct]
 refine wpAny_bind (wpAny_pure ?_)
 unfold hookOrError attributeErrorLeaves
 simp only[Y2M,if_true]
 exact wpAny_bind (wpAny_throw (hE e h' t' k ho))
theorem ZgX{Q:Option Value->Shared->Prop}{s:Shared}(hx:s.heap.get? a=some (seqObj "list" its n))(hh:A.handled=none)
  (hQ:∀h' t',(∀b o,s.heap.get? b=some o->h'.get? b=some o)->Q none {s with heap:=h',toks:=t'}):wpAny (model prog w) A (getAttr? (.ref a) "keys") Q E s:=by
 obtain⟨h,g,d,t,os⟩:=s
 unfold getAttr? getAttrBy? mkText
 refine wpAny_bind (wpAny_bind (wpAny_fresh (wpAny_pure ?_)))
 refine wpAny_bind (wpAny_attempt (Zlr hx hh λe h' t' k ho=>?_))
 have hTe:(⟨h',g,d,t',os⟩:Shared).TypeIs (.ref e) "AttributeError":=ho
 refine wpAny_bind (wpAny_isInstance hTe Z59 ?_)
 simp only[if_true]
 exact wpAny_pure (hQ h' t' k)
end
end L2
namespace L2
open PySem PySem.Spec PyProof.Rows
theorem Z26:entryFor table "dict.update.loop"=some Builtin.«dict.update.loop»:=entryFor_of_tree (by kernel_rfl)
theorem Z0E:plainId "dict.update.loop"=true:=by decide+kernel
section
variable{prog:Program}{w:World}{A:Around}{E:Value->Shared->Prop}{s:Shared}{K:Type} [DecidableEq K] {knd:KeyKind prog w K}
def stTo(ks:Nat->K)(vs:Nat->Value):Nat->List (K×Value)
 |0=>[]
 |i+1=>stored (stTo ks vs i) (ks i) (vs i)
theorem Zdl(kvs:List (K×Value))(k:K)(v:Value):(stored kvs k v).length≤kvs.length+1:=by
 unfold stored
 split<;>simp
theorem Z8V(ks:Nat->K)(vs:Nat->Value):∀i,(stTo ks vs i).length≤i
 |0=>Y0b _
 |i+1=>Y0M (Zdl _ _ _) (Y38 (Z8V ks vs i))
theorem ZcN{R:Result->Shared->Prop}{I:Addr}{fp wr:List Addr}{G:Array GenState->Array GenState->Prop}{n:Nat}{P:Nat->Value->Prop}{St:Nat->Shared->Prop}
  (W:WalksS prog w A.in1 I fp wr G n P St) (D:Addr) (hDf:D∉fp) (ks:Nat->K) (vs:Nat->Value) (hb:n≤sizeLine):
  ∀(k i:Nat) (s:Shared),n - i=k->i≤n->St i s->s.heap.DictOf knd D (stTo ks vs i)->
   (∀j v,P j v->∃q uk np oq,v=.ref q/\q≠D/\q∉wr/\s.heap.get? q=some oq/\oq.cls=.type "tuple"/\oq.data=.seq #[uk,vs j] np/\knd.is (ks j) uk=true)->
   (∀s',Moved (D::wr) G s s'->s'.heap.DictOf knd D (stTo ks vs n)->R (.ok (.ret .none)) s')->
   codeAny (model prog w) A (.builtin "dict.update.loop" ⟨[.ref D,.ref I,rawInt (i:Nat),.none],[]⟩) R s:=by
 have hDw:D∉wr:=λh=>hDf (W.sub _ h)
 have hsub:∀b∈wr,b∈D::wr:=λb hb=>Y0n _ hb
 intro k
 induction k with
 |zero=>
  intro i s hk hi hst hd ht hR
  have hin:i=n:=by lia
  subst hin
  refine codeAny_builtin Z26 ?_
  rw[Y0I Z0E _]
  show wpAny _ A.in1 (pyNext (.ref I)>>= _) _ _ s
  refine wpAny_bind (W.done s _ _ hst λs' hm=>?_)
  refine wpAny_bind (m:=Builtin.Dict.addKeywords D []) (wpAny_pure ?_)
  refine wpAny_pure (hR s' (hm.mono hsub) ?_)
  obtain⟨o,es,ep,ho,r⟩:=hd
  exact⟨o,es,ep,hm.heap D _ hDw ho,r⟩
 |succ k ih=>
  intro i s hk hi hst hd ht hR
  have hlt:i<n:=by lia
  refine codeAny_builtin Z26 ?_
  rw[Y0I Z0E _]
  show wpAny _ A.in1 (pyNext (.ref I)>>= _) _ _ s
  refine wpAny_bind (W.item i s _ _ hlt hst λv s' hP hst' hm=>?_)
  obtain⟨q,uk,np,oq,rfl,hqD,hqw,hq,hqc,hqd,hkey⟩:=ht i v hP
  have hq':=hm.heap q _ hqw hq
  have hd':s'.heap.DictOf knd D (stTo ks vs i):=by
   obtain⟨o,es,ep,ho,r⟩:=hd
   exact⟨o,es,ep,hm.heap D _ hDw ho,r⟩
  have hT:s'.TypeIs (.ref q) "tuple":=⟨_,hq',hqc⟩
  show wpAny _ A.in1 (holding [Y0q q] _ >>= _) _ _ s'
  refine wpAny_bind (wpAny_holding ?_)
  refine wpAny_bind (wpAny_tryCatch ?_)
  unfold Builtin.Dict.pairItems
  refine wpAny_bind (wpAny_typeOf hT ?_)
  have e2:(Y0w "tuple"==Y0w "tuple")=true:=rfl
  rw[e2,Y3w,if_pos rfl]
  refine wpAny_bind (wpAny_seqItems hq' hqd (wpAny_pure ?_))
  show wpAny _ A.in1 (holding [uk,vs i] (dictSet D uk (vs i))) _ _ s'
  refine wpAny_holding ?_
  have hl:=Z8V ks vs i
  refine wpAny_dictSet_pairs (knd:=knd) hkey hd' (λh' hd2 hsb=>?_) (by lia)
  refine wpAny_pure ⟨plainId_quiet Z0E _,?_⟩
  have:=ih (i+1) {s' with heap:=h',toks:=s'.toks+1} (by lia) hlt (W.frame _ s' _ _ hst' (Y1D _) λb hb o e=>?_) hd2 (λj v hPj=>?_) λs'' hm'' hd''=>?_
  ·exact this
  ·rw[hsb.2 b (λz:b=D=>hDf (by rw[<- z];exact hb))];exact e
  ·obtain⟨q,uk,np,oq,rfl,a1,a2,a3,a4⟩:=ht j v hPj
   exact⟨q,uk,np,oq,rfl,a1,a2,(hsb.2 q a1).trans (hm.heap q _ a2 a3),a4⟩
  ·refine hR s'' (Moved.trans W.gtrans ((hm.mono hsub).then_heap (Y1D _) λb o hb e=>?_) hm'') hd''
   rw[hsb.2 b (λz:b=D=>hb (by rw[z];exact Y0v))];exact e
theorem ZfR{l:Addr}{items:Array Value}{nl:Nat}{ks:Nat->K}{vs:Nat->Value}{Q:Value->Shared->Prop}(hh:A.handled=none)(hl:s.heap.get? l=some (seqObj "list" items nl))(hn:items.size≤sizeLine)
  (ht:∀(j:Nat) v,items[j]?=some v->∃q uk np oq,v=.ref q/\s.heap.get? q=some oq/\oq.cls=.type "tuple"/\oq.data=.seq #[uk,vs j] np/\knd.is (ks j) uk=true)
  (h:∀h' tk,h'.DictOf knd s.heap.objs.size (stTo ks vs items.size)->(∀b o,b<s.heap.objs.size->s.heap.get? b=some o->h'.get? b=some o)->Q (.ref s.heap.objs.size) {s with heap:=h',toks:=tk}):
  wpAny (model prog w) A (call (.type "dict") [.ref l]) Q E s:=by
 refine callType_codes (Q₁:=fun obj s₁=>obj=.ref s.heap.objs.size/\s₁={s with heap:=s.heap.push {cls:=.type "dict",data:=.dict #[]} }) F.kt_called_dict (F.kt_typeCall_dict_1 _) F.entry_dict_init (kt_code_dict_new _ ⟨rfl,rfl⟩) ?_
 rintro obj s₁ ⟨rfl,rfl⟩
 have hnew:(s.heap.push {cls:=.type "dict",data:=.dict #[]}).DictOf knd s.heap.objs.size []:=Y3p s.heap
 have hl':(s.heap.push {cls:=.type "dict",data:=.dict #[]}).get? l=some (seqObj "list" items nl):=Y03 _ hl
 have hT:Y2w {s with heap:=s.heap.push {cls:=.type "dict",data:=.dict #[]} } (.ref l) "list":=⟨_,hl',rfl⟩
 refine⟨hnew.typeIs,F.args_dict_init_2 _ _,?_⟩
 unfold Builtin.«dict.__init__»
 refine wpAny_bind ?_
 unfold Y2Y
 refine wpAny_bind (wpAny_notOrdered_dict hnew.typeIs ?_)
 show wpAny _ _ (pure (s.heap.objs.size,[Y0q l])) _ _ _
 refine wpAny_pure ?_
 show wpAny _ _ (Y1S "dict.__init__" s.heap.objs.size (.ref l) [] .none) _ _ _
 unfold Y1S
 refine wpAny_bind (wpAny_typeOf hT ?_)
 rw[if_pos (by decide)]
 refine wpAny_bind (ZgX (s:={s with heap:=s.heap.push {cls:=.type "dict",data:=.dict #[]} }) hl' (by simp[hh]) fun h1 t1 hk1=>?_)
 simp only[Option.isNone_none,if_true]
 refine wpAny_bind (wpAny_rule ?_)
 have hl1:h1.get? l=some (seqObj "list" items nl):=hk1 _ _ hl'
 have hL1:h1.IsList l items:=⟨_,hl1,rfl,nl,rfl⟩
 have hlS:l<s.heap.objs.size:=Y0i hl
 have hbig:s.heap.objs.size<h1.objs.size:=by
  obtain⟨o,es,ep,ho,_⟩:=hnew
  exact Y0i (hk1 _ _ ho)
 refine wpAny_bind (wpAny_pyIter_list (s:={s with heap:=h1,toks:=t1}) hL1 ?_)
 have hneI:l≠h1.objs.size:=Y0m (Y2g hlS hbig)
 refine wpAny_pure ⟨plainId_quiet Z0E _,?_⟩
 refine ZcN (knd:=knd) (n:=items.size) ((Y3U (A:=A.in1.in1) (by simp[hh]) h1.objs.size l hneI items).toS) s.heap.objs.size ?_ ks vs hn items.size 0 _ rfl (Y17 _)
  ⟨⟨_,Y0e _ rfl,rfl,rfl⟩,hL1.push _⟩ ?_ ?_ ?_
 ·simp only[Y0f,Y0u,or_false,not_or]
  exact⟨Y0m hbig,Y2e hlS⟩
 ·obtain⟨o,es,ep,ho,r⟩:=hnew
  exact⟨o,es,ep,Y03 _ (hk1 _ _ ho),r⟩
 ·intro j v hv
  obtain⟨q,uk,np,oq,rfl,a1,a2⟩:=ht j v hv
  have hqS:q<s.heap.objs.size:=Y0i a1
  refine⟨q,uk,np,oq,rfl,Y0m hqS,?_,Y03 _ (hk1 _ _ (Y03 _ a1)),a2⟩
  simp only[Y0z]
  exact Y0m (Y2g hqS hbig)
 ·intro s' hm hd
  obtain⟨h',g',d',tk',os'⟩:=s'
  have eg:g'=s.gens:=hm.gens
  have ed:d'=s.drawn:=hm.drawn
  have eo:os'=s.os:=hm.os
  subst eg;subst ed;subst eo
  refine⟨rfl,h h' tk' hd λb o hb e=>?_⟩
  refine hm.heap b o ?_ (Y03 _ (hk1 _ _ (Y03 _ e)))
  simp only[Y0f,Y0u,or_false,not_or]
  exact⟨Y0m hb,Y0m (Y2g hb hbig)⟩
end
end L2
namespace L2
open PySem PySem.Spec PyProof.Rows
def Zi1(H:Hp):List (Key×V)->List V->Prop:=Paired fun(p:Key×V) (v:V)=>∃q,v=.ref q/\H q=some (.tup [kV p.1,p.2])
def Z5t(ps:List (Key×V)):List (Key×V):=ps.foldl (λc z=>putK c z.1 z.2) []
theorem Paired.at{α β:Type}{R:α->β->Prop}:∀{xs:List α} {ys:List β},Paired R xs ys->∀(i:Nat) (y:β),ys[i]?=some y->∃x,xs[i]?=some x/\R x y
 |_,_,.nil,i,y,h=>by simp at h
 |_,_,.cons r _,0,y,h=>by simp at h;subst h;exact⟨_,rfl,r⟩
 |_,_,.cons _ t,i+1,y,h=>by simp at h;obtain⟨x,hx,r⟩:=Paired.at t i y h;exact⟨x,by simpa using hx,r⟩
section
variable{X:Cx}
theorem ZfQ(hcalm:X.calm=true):CallR X (.type "dict") (fun xs H Q=>∃(a:Addr) (ps:List (Key×V)) (qs:List V),xs=[.ref a]/\H a=some (.lst qs)/\Zi1 H ps qs/\∀p,H p=none->Q (.ref p) (upd H p (.dK (Z5t ps)))):=by
 intro pins s σ H xs us Q I r h
 obtain⟨a,ps,qs,rfl,ha,hp,q⟩:=h
 obtain⟨u,rfl,ru⟩:=Z6k r
 cases ru
 obtain⟨hz,its,nl,rv,hl⟩:=(show ObjOk X.prog X.w H s.heap a (.lst qs)from I.hok a _ ha)
 have hh:=I.ok.hd hcalm
 have hlen:its.length=ps.length:=by rw[<- rv.length,hp.length]
 have hpair:∀(j:Nat) v,its.toArray[j]?=some v->∃q uk uv np oq,v=.ref q/\s.heap.get? q=some oq/\oq.cls=.type "tuple"/\oq.data=.seq #[uk,uv] np/\∃p,ps[j]?=some p/\RelV (kV p.1) uk/\RelV p.2 uv:=fun j v hv=>by
  have hv':its[j]?=some v:=by simpa using hv
  obtain⟨y,hy,ry⟩:=Paired.at rv j v hv'
  obtain⟨p,hpj,q,rfl,hq⟩:=Paired.at hp j y hy
  cases ry
  obtain⟨_,ts,rt,ht⟩:=(show ObjOk X.prog X.w H s.heap q (.tup [kV p.1,p.2])from I.hok q _ hq)
  obtain⟨uk,uv,rfl,r1,r2⟩:=Zf6 rt
  obtain⟨oq,ho,hc,n,hd⟩:=ht.1
  exact⟨q,uk,uv,n,oq,rfl,ho,hc,hd,p,hpj,r1,r2⟩
 obtain⟨vs,hvs⟩:∃vs:Nat->Value,∀(j:Nat) v,its.toArray[j]?=some v->∃q uk np oq,v=.ref q/\s.heap.get? q=some oq/\oq.cls=.type "tuple"/\oq.data=.seq #[uk,vs j] np/\∃p,ps[j]?=some p/\RelV (kV p.1) uk/\RelV p.2 (vs j):=by
  refine⟨λj=>if h:j<its.length then(hpair j its[j] (by simp[h])).choose_spec.choose_spec.choose else .none,λj v hv=>?_⟩
  have hv':its[j]?=some v:=by simpa using hv
  obtain⟨hj,rfl⟩:=Y05.mp hv'
  dsimp only
  rw[dif_pos hj]
  have z:=(hpair j its[j] (by simp[hj]))
  exact⟨z.choose,z.choose_spec.choose,z.choose_spec.choose_spec.choose_spec⟩
 refine ZfR (knd:=Z19 X.prog X.w) (ks:=λj=>(ps.getD j (.inl 0,.non)).1) (vs:=vs) hh hl (by simpa [<- rv.length]using hz) (λj v hv=>?_) λh' tk hd hk=>?_
 ·obtain⟨q,uk,np,oq,e1,e2,e3,e4,p,hpj,r1,r2⟩:=hvs j v hv
  refine⟨q,uk,np,oq,e1,e2,e3,e4,ZdG ?_⟩
  rw[Y0j,hpj]
  exact r1
 have kv:∀i,i≤ps.length->KV ((ps.take i).foldl (λc z=>putK c z.1 z.2) []) (stTo (λj=>(ps.getD j (.inl 0,.non)).1) vs i):=by
  intro i
  induction i with
  |zero=>intro _;exact .nil
  |succ i ih=>
   intro hi
   have hlt:i<its.length:=by lia
   obtain⟨q,uk,np,oq,e1,e2,e3,e4,p,hpj,r1,r2⟩:=hvs i its[i] (by simp[hlt])
   rw[Y0S,hpj,Y2J,Y1P]
   show KV (putK _ p.1 p.2) (stored _ (ps.getD i (.inl 0,.non)).1 _)
   have ek:(ps.getD i (.inl 0,.non)).1=p.1:=by rw[Y0j,hpj];rfl
   rw[ek]
   exact(ih (by lia)).put p.1 r2
 have kvn:=kv ps.length (Y0b _)
 rw[Y1i]at kvn
 have hsz:its.toArray.size=ps.length:=by simp[hlen]
 rw[hsz]at hd
 have hpl:ps.length≤sizeLine:=by rw[hp.length];exact hz
 have zl:(Z5t ps).length≤sizeLine:=by
  have:=kvn.length
  have l2:=Z8V (λj=>(ps.getD j (.inl 0,.non)).1) vs ps.length
  unfold Z5t
  lia
 exact⟨.ref s.heap.objs.size,_,I.laid (a:=s.heap.objs.size) (o:=.dK (Z5t ps)) (t':=tk) (λb u e=>hk b u (Y0i e) e) (Y0b _) (ZcL zl (beq_eq_false_iff_ne.mpr (Y2d (Y0m I.big))) kvn hd),rfl,q _ (I.hok.fresh (Y0b _))⟩
end
end L2
namespace L2
open PySem PySem.Spec PyProof.Rows
section
variable{X:Cx}
theorem ZhT:∀(bs:List Bool),((Y0U bs.length).all λi=>bs.getD i true)=bs.all id:=by
 intro bs
 have e:(Y0U bs.length).map (λi=>bs.getD i true)=bs:=by
  refine List.ext_getElem (by simp) λi h1 h2=>?_
  simp[Y3Q,h2]
 conv=>rhs;rw[<- e]
 rw[List.all_map]
 rfl
theorem ZhR(hcalm:X.calm=true):CallR X (.builtin "all") (fun xs H Q=>∃(a:Addr) (bs:List Bool),xs=[.ref a]/\SqL X.K H a (bs.map V.bl)/\Q (.bl (bs.all id)) H):=by
 intro pins s σ H xs us Q I r h
 obtain⟨a,bs,rfl,ha,q⟩:=h
 obtain⟨u,rfl,ru⟩:=Z6k r
 cases ru
 obtain⟨its,rv,p,hz⟩:=I.list ha
 have hh:=I.ok.hd hcalm
 have hil:its.length=bs.length:=by rw[<- rv.length,Y01]
 have hit:∀(i:Nat) (v:Value),its.toArray[i]?=some v->v=.bool (bs.getD i true):=λi v hv=>by
  have hv':its[i]?=some v:=by simpa using hv
  have hlt:i<bs.length:=by rw[<- hil];exact(Y05.mp hv').1
  obtain⟨u,hu,ru⟩:=rv.get (i:=i) (x:=V.bl bs[i]) (by simp[hlt])
  rw[hv']at hu
  cases hu
  rw[show v=.bool bs[i]from ru]
  simp[Y3Q,hlt]
 have hlS:a<s.heap.objs.size:=by obtain⟨o,n,e,_⟩:=p;exact Y0i e
 refine PySem.call_all_walk (wpAny_pyIter_list p.isList ⟨_,_,_,_,_,_,λi=>bs.getD i true,rfl,Y3U (by simp[hh]) _ a (Y0m hlS) its.toArray,⟨⟨_,Y0e _ rfl,rfl,rfl⟩,p.isList.push _⟩,?_,λh' tk hk=>?_⟩)
 ·intro i v s Q E hP hQ
  rw[hit i v hP]
  exact wpAny_truthy_bool hQ
 ·have hsz:its.toArray.size=bs.length:=by simp[hil]
  rw[hsz,ZhT]
  refine⟨.bl _,H,I.kept (t':=tk) λb o e=>?_,rfl,q⟩
  exact hk b o (by simp only[Y0z];exact Y0m (Y0i e)) (Y03 _ e)
end
end L2
namespace L2
open PySem PySem.Spec PyProof.Rows
def Its(x:Str):It:=⟨λi _=>i<x.cps.size,λi H v H'=>H'=H/\∃c,x.cps[i]?=some c/\v=.str ⟨#[c]⟩,λi _=>x.cps.size≤i⟩
theorem ZfX{P:Program}{w:World}{K:Y02}{tg:Expr}(it:Addr)(x:Str)(t:Tok):Turn P w K tg (Its x) [it] it (fun i h=>h.IsStrIter it "str_ascii_iterator" x t i)where
 mem:=by simp
 obj:=λi h st b hb=>by
  have e:b=it:=by simpa using hb
  subst e
  obtain⟨o,e,c,d⟩:=st
  exact⟨o,e,λv z=>by rw[d]at z;cases z⟩
 keep:=λi h h' st k=>by
  obtain⟨o,e,c,d⟩:=st
  exact⟨o,k it (by simp) o e,c,d⟩
 item:=by
  intro X hP hw hK hc i pins s σ H E I hf st hg
  subst hP hw hK
  have hg:i<x.cps.size:=hg
  obtain⟨f0,f1,f2,f3,f4,f5⟩:=hf it (by simp)
  refine wpAny_pyNext_ascii_item st (c:=x.cps[i]) (by simp[hg]) λh' st' sb=>?_
  have I1:Inv X pins σ H {s with heap:=h',toks:=s.toks+1}:=I.turned (λb o hb e=>(sb.2 b hb).trans e) f0 f1 f3 f4 f5
  obtain⟨o,e,c,d⟩:=id st'
  exact⟨_,rfl,ZdW (s:={s with heap:=h',toks:=s.toks+1}) e c d (by decide) ⟨.str ⟨#[x.cps[i]]⟩,H,I1,⟨_,rfl⟩,⟨rfl,_,by simp[hg],rfl⟩,st',λb hb=>(hf b hb).1⟩⟩
 done:=by
  intro X hP hw hK hc i pins s σ H E I hf st hg
  subst hP hw hK
  have hg:x.cps.size≤i:=hg
  obtain⟨f0,f1,f2,f3,f4,f5⟩:=hf it (by simp)
  exact wpAny_pyNext_ascii_end (I.ok.hd hc) st (by simp[hg]) λh' eb=>⟨rfl,I.turned (t':=s.toks) (λb o hb e=>eb b o hb e) f0 f1 f3 f4 f5⟩
 self:=λ_ _ _ _ _ st h=>wpAny_pyIter_striter_ascii st h
theorem ZfW{P:Program}{w:World}{K:Y02}{tg:Expr}(it:Addr)(x:Str)(t:Tok):Turn P w K tg (Its x) [it] it (fun i h=>h.IsStrIter it "str_iterator" x t i)where
 mem:=by simp
 obj:=λi h st b hb=>by
  have e:b=it:=by simpa using hb
  subst e
  obtain⟨o,e,c,d⟩:=st
  exact⟨o,e,λv z=>by rw[d]at z;cases z⟩
 keep:=λi h h' st k=>by
  obtain⟨o,e,c,d⟩:=st
  exact⟨o,k it (by simp) o e,c,d⟩
 item:=by
  intro X hP hw hK hc i pins s σ H E I hf st hg
  subst hP hw hK
  have hg:i<x.cps.size:=hg
  obtain⟨f0,f1,f2,f3,f4,f5⟩:=hf it (by simp)
  refine wpAny_pyNext_wide_item st (c:=x.cps[i]) (by simp[hg]) λh' st' sb=>?_
  have I1:Inv X pins σ H {s with heap:=h',toks:=s.toks+1}:=I.turned (λb o hb e=>(sb.2 b hb).trans e) f0 f1 f3 f4 f5
  obtain⟨o,e,c,d⟩:=id st'
  exact⟨_,rfl,ZdW (s:={s with heap:=h',toks:=s.toks+1}) e c d (by decide) ⟨.str ⟨#[x.cps[i]]⟩,H,I1,⟨_,rfl⟩,⟨rfl,_,by simp[hg],rfl⟩,st',λb hb=>(hf b hb).1⟩⟩
 done:=by
  intro X hP hw hK hc i pins s σ H E I hf st hg
  subst hP hw hK
  have hg:x.cps.size≤i:=hg
  obtain⟨f0,f1,f2,f3,f4,f5⟩:=hf it (by simp)
  exact wpAny_pyNext_wide_end (I.ok.hd hc) st (by simp[hg]) λh' eb=>⟨rfl,I.turned (t':=s.toks) (λb o hb e=>eb b o hb e) f0 f1 f3 f4 f5⟩
 self:=λ_ _ _ _ _ st h=>wpAny_pyIter_striter_wide st h
section
variable{X:Cx}{pins:List (Addr×Obj)}{σ:St}{H:Hp}{s:Shared}
theorem ZkV{tg:Expr}{R:It->Hp->Prop}{E:Value->Shared->Prop}{x:Str}{t:Tok}(I:Inv X pins σ H s)(q:R (Its x) H):wpAny (model X.prog X.w) X.A (pyIter (.str x t)) (PIE X pins σ tg R) E s:=by
 have fp:∀b∈ [s.heap.objs.size],FpOk X pins H b:=λb hb=>by
  have e:b=s.heap.objs.size:=by simpa using hb
  subst e
  exact I.fpOk (Y0b _) (I.hok.fresh (Y0b _))
 cases ha:x.cps.all (·<128)
 ·exact wpAny_pyIter_wide ha ⟨s.heap.objs.size,[s.heap.objs.size],_,_,H,rfl,I.kept (t':=s.toks) λb o e=>Y03 _ e,ZfW _ x t,⟨_,Y0e _ rfl,rfl,rfl⟩,fp,q⟩
 ·exact wpAny_pyIter_ascii ha ⟨s.heap.objs.size,[s.heap.objs.size],_,_,H,rfl,I.kept (t':=s.toks) λb o e=>Y03 _ e,ZfX _ x t,⟨_,Y0e _ rfl,rfl,rfl⟩,fp,q⟩
def Zq6(X:Cx)(tl:TE):TI:=λσ H R=>tl σ H λx H1=>(∃a,x=.ref a/\((∃xs,SqL X.K H1 a xs/\R (Itl X.K a) H1)\/(∃xs,SqT X.K H1 a xs/\R (Itt X.K a) H1)\/∃kvs,H1 a=some (.dK kvs)/\∀o,(∀o' u',X.H₀ a≠some (.frz o' u'))->R (Itd a o) (upd H1 a (.frz o (.dK kvs)))))\/
 ∃z,x=.str z/\R (Its z) H1
theorem ZkW{tg l:Expr}{tl:TE}(hl:PE X l tl):PI X tg l (Zq6 X tl):=by
 intro pins s σ H R I h
 refine thn (hl pins s σ H _ I h) λv s1 ⟨x,H1,I1,r1,q1⟩=>?_
 rcases q1 with⟨a,e,q⟩|⟨z,e,q⟩
 ·subst e
  cases r1
  rcases q with⟨xs,hq,q⟩|⟨xs,hq,q⟩|⟨kvs,hq,q⟩
  ·obtain⟨its,rv,p,hz⟩:=I1.list hq
   refine wpAny_pyIter_list p.isList ?_
   refine⟨s1.heap.objs.size,[s1.heap.objs.size],_,_,H1,rfl,I1.kept (t':=s1.toks) λb o e=>Y03 _ e,ZfY a _,⟨_,Y0e _ rfl,rfl,rfl⟩,λb hb=>?_,q⟩
   have e:b=s1.heap.objs.size:=by simpa using hb
   subst e
   exact I1.fpOk (Y0b _) (I1.hok.fresh (Y0b _))
  ·obtain⟨its,rv,p,hz⟩:=I1.tuple hq
   refine wpAny_pyIter_tuple (show s1.heap.IsTuple a its.toArray from p) ?_
   refine⟨s1.heap.objs.size,[s1.heap.objs.size],_,_,H1,rfl,I1.kept (t':=s1.toks) λb o e=>Y03 _ e,Zf7 a _,⟨_,Y0e _ rfl,rfl,rfl⟩,λb hb=>?_,q⟩
   have e:b=s1.heap.objs.size:=by simpa using hb
   subst e
   exact I1.fpOk (Y0b _) (I1.hok.fresh (Y0b _))
  ·exact Ziu I1 hq q
 ·subst e
  obtain⟨t,rfl⟩:=r1
  exact ZkV I1 q
theorem ZdM{M:Model}{A:Around}{E:Value->Shared->Prop}{s:Shared}{Q:Value->Shared->Prop}{v:Value}{b:Bool}(hv:∀i,v≠.builtin i)(h:Q (.bool (v==.bool b)) s):wpAny M A (compareOp .Is v (.bool b)) Q E s:=by
 cases v<;>first|exact wpAny_pure h|exact absurd rfl (hv _)
theorem Zas{M:Model}{A:Around}{E:Value->Shared->Prop}{s:Shared}{Q:Value->Shared->Prop}{v:Value}{b:Bool}(hv:∀i,v≠.builtin i)(h:Q (.bool (!(v==.bool b))) s):wpAny M A (compareOp .IsNot v (.bool b)) Q E s:=by
 cases v<;>first|exact wpAny_pure h|exact absurd rfl (hv _)
theorem Zch{x:V}{v:Value}(r:RelV x v):∀i,v≠.builtin i:=λi e=>by
 subst e
 cases x<;>first|(cases r;done)|(obtain⟨t,e⟩:=r;cases e)
theorem Zeo{x:V}{v:Value}{b:Bool}(r:RelV x v):decide (x=.bl b)=(v==Y15 b):=by
 cases x<;>first
  |(cases r;rename_i c;cases b<;>cases c<;>rfl)
  |(cases r;rfl)
  |(obtain⟨t,rfl⟩:=r;rfl)
theorem Zl6:OpR X (compareOp .Is) (λx y H Q=>∃b,y=.bl b/\Q (.bl (decide (x=.bl b))) H):=by
 intro pins s σ H x y v u Q I rx ry h
 obtain⟨b,rfl,q⟩:=h
 cases ry
 exact ZdM (Zch rx) (Z0x I q (Zeo rx))
theorem ZiB:OpR X (compareOp .IsNot) (λx y H Q=>∃b,y=.bl b/\Q (.bl (!decide (x=.bl b))) H):=by
 intro pins s σ H x y v u Q I rx ry h
 obtain⟨b,rfl,q⟩:=h
 cases ry
 exact Zas (Zch rx) (Z0x I q (by rw[Zeo rx]))
theorem Zfx{A:Around}{E:Value->Shared->Prop}{Q:Value->Shared->Prop}{x:V}{u t c d:Value}{b b':Bool}{tp:Addr}{dd:Option Addr}{n:Nat}{sl:Array (Option Value)}(I:Inv X pins σ H s)(rx:RelV x u)(ty:TyOf X.K H x t)(e:Y1U X.K t c=some b)(e':Y1U X.K t d=some b')
  (htp:s.heap.get? tp=some ⟨.type "tuple",dd,.seq [c,d].toArray n,sl⟩) (h:∀tk,Q (.bool (b||b')) {s with toks:=tk}):wpAny (model X.prog X.w) A (call (.builtin "isinstance") [u,.ref tp]) Q E s:=by
 have ea:Y2N X.K t [c,d]=some (b||b'):=by
  unfold Y2N
  rw[e]
  cases b with
  |true=>rfl
  |false=>
   show Y2N X.K t [d]=some b'
   unfold Y2N
   rw[e']
   cases b'<;>rfl
 cases ty with
 |non=>cases(show u=Y0o from rx);exact Y1a PySem.W.kitx_none I.kIn Y1k htp ea (λz=>nomatch z) h
 |bl y=>cases(show u=Y15 y from rx);exact Y1a PySem.W.kitx_bool I.kIn Y1k htp ea (λz=>nomatch z) h
 |int i=>obtain⟨t,q⟩:=(show∃t,u=Y3M i t from rx);cases q;exact Y1a PySem.W.kitx_int I.kIn Y1k htp ea (λz=>nomatch z) h
 |str y=>obtain⟨t,q⟩:=(show∃t,u=Y0F y t from rx);cases q;exact Y1a PySem.W.kitx_str I.kIn Y1k htp ea (λz=>nomatch z) h
 |flt y=>obtain⟨t,q⟩:=(show∃t,u=Value.float y t from rx);cases q;exact Y1a PySem.W.kitx_float I.kIn Y1k htp ea (λz=>nomatch z) h
 | @lst a xs ea'=>
  cases(show u=Y0q a from rx)
  obtain⟨_,_,n,_,h1⟩:=(show ObjOk X.prog X.w H s.heap a (.lst xs)from I.hok a _ ea')
  exact Y1a Y2n I.kIn ⟨_,h1,rfl⟩ htp ea (λz=>nomatch z) h
 | @frz a ob xs ea'=>
  cases(show u=Y0q a from rx)
  obtain⟨_,_,_,n,_,h1⟩:=(show ObjOk X.prog X.w H s.heap a (.frz ob (.lst xs))from I.hok a _ ea')
  exact Y1a Y2n I.kIn ⟨_,h1,rfl⟩ htp ea (λz=>nomatch z) h
 | @tup a xs ea'=>
  cases(show u=Y0q a from rx)
  obtain⟨_,_,_,p⟩:=(show ObjOk X.prog X.w H s.heap a (.tup xs)from I.hok a _ ea')
  obtain⟨o,h1,h2,_⟩:=p.1
  exact Y1a PySem.W.kitx_tuple I.kIn ⟨o,h1,h2⟩ htp ea (λz=>nomatch z) h
 | @dK a kvs ea'=>
  cases(show u=Y0q a from rx)
  obtain⟨_,_,vs,_,p⟩:=(show ObjOk X.prog X.w H s.heap a (.dK kvs)from I.hok a _ ea')
  obtain⟨o,es,ep,h1,h2,_⟩:=p
  exact Y1a Y2o I.kIn ⟨o,h1,h2.1⟩ htp ea (λz=>nomatch z) h
 | @dT a kvs ea'=>
  cases(show u=Y0q a from rx)
  obtain⟨_,_,xs,_,o,es,ep,h1,h2,_⟩:=(show ObjOk X.prog X.w H s.heap a (.dT kvs)from I.hok a _ ea')
  exact Y1a Y2o I.kIn ⟨o,h1,h2.1⟩ htp ea (λz=>nomatch z) h
 | @ins a C dx fs ea' cl ha hn htk hm=>
  cases(show u=Y0q a from rx)
  obtain⟨mA,O,_⟩:=Zhe I.hok ea'
  obtain⟨od,J,_⟩:=O.look
  exact Y1a (PySem.W.kitx_own (cl.get _) cl.hd ha hn htk hm) I.kIn J htp ea (λz=>nomatch z) h
theorem Zd0:CallR X (.builtin "isinstance") (fun xs H Q=>∃x a c d t b b',xs=[x,.ref a]/\H a=some (.tup [.ty c,.ty d])/\TyOf X.K H x t/\Y1U X.K t (.type c)=some b/\Y1U X.K t (.type d)=some b'/\Q (.bl (b||b')) H):=by
 intro pins s σ H xs us Q I r h
 obtain⟨x,a,c,d,t,b,b',rfl,ha,ty,e,e',q⟩:=h
 obtain⟨u,w',rfl,ru,rw'⟩:=Zf6 r
 cases rw'
 obtain⟨its,rv,p,_⟩:=I.tuple (SqT.of (K:=X.K) ha)
 obtain⟨⟨cls,dd,data,sl⟩,ho,hc,n,hd⟩:=id p
 simp only at hc hd
 subst hc hd
 cases rv with
 |cons r1 r2=>
  cases r2 with
  |cons r3 r4=>
   cases r4
   cases r1
   cases r3
   exact Zfx I ru ty e e' ho λtk=>⟨.bl (b||b'),H,I.tok tk,rfl,q⟩
end
end L2
namespace L2
open PySem PySem.Spec PyProof.Rows
def Zh7(z:Str):Value->Bool
 |.str y _=>y==z
 |_=>false
def ZoV:V->List V->Hp->VK->Prop:=λx vs H Q=>∃(l:Addr) (zs:List Str) (z:Str),x=.ref l/\vs=[.str z]/\H l=some (.lst (zs.map V.str))/\z∈zs/\Q .non (upd H l (.lst ((zs.erase z).map V.str)))
theorem Z58:∀{zs:List Str} {its:List Value},Vals (zs.map V.str) its->∀(i:Nat) (h:i<its.length),∃(z:Str) (t:Tok),zs[i]?=some z/\its[i]=.str z t
 |[],_,r,i,h=>by rw[Y0N]at r;cases r;simp at h
 |z::zs,_,r,i,h=>by
  rw[Y0h]at r
  cases r with
  |cons r1 r2=>
   obtain⟨t,rfl⟩:=r1
   cases i with
   |zero=>exact⟨z,t,rfl,rfl⟩
   |succ i=>
    obtain⟨y,u,h1,h2⟩:=Z58 r2 i (by simpa using h)
    exact⟨y,u,by simpa using h1,by simpa using h2⟩
theorem Zj0{zs:List Str}{z:Str}(h:z∈zs):∃j,zs[j]?=some z/\(∀m,m<j->zs[m]?≠some z)/\zs.erase z=zs.eraseIdx j:=by
 induction zs with
 |nil=>cases h
 |cons a r ih=>
  by_cases e:a=z
  ·subst e
   exact⟨0,rfl,λm hm=>absurd hm (Y3s _),by simp⟩
  ·have hr:z∈r:=by
    rcases Y0f.mp h with q|q
    ·exact absurd q.symm e
    ·exact q
   obtain⟨j,h1,h2,h3⟩:=ih hr
   refine⟨j+1,by simpa using h1,λm hm=>?_,?_⟩
   ·cases m with
    |zero=>simpa using e
    |succ m=>simpa using h2 m (by lia)
   ·rw[List.erase_cons,if_neg (by simpa using e),h3]
    rfl
section
variable{X:Cx}
theorem Zli:MtM X "list.remove" ZoV:=by
 intro pins s σ H x vs v us Q I rx rv h
 obtain⟨l,zs,z,rfl,rfl,hH,hz,q⟩:=h
 cases rx
 obtain⟨u,rfl,ru⟩:=rv.one
 obtain⟨t,rfl⟩:=ru
 obtain⟨sz,its,n,r,hl,e⟩:=I.lstM hH
 obtain⟨j,j1,j2,j3⟩:=Zj0 hz
 have hlen:its.length=zs.length:=by rw[<- r.length,Y01]
 have hj:j<its.length:=by rw[hlen];exact(Y05.mp j1).1
 have hsz:its.toArray.size≤sizeLine:=by rw[Y0g];lia
 refine call_meets F.slot_list_remove ⟨_,e,rfl⟩ F.entry_list_remove (F.args_list_remove_2 _ _)
  (MeetsSeq.list_remove l its.toArray n (.str z t) (Zh7 z) (λy hy=>?_) j (by rw[Y0g];exact hj) ?_ (λm hm hlt=>?_) hsz) ⟨e,?_⟩
 ·have hy:y∈its:=by simpa using hy
  obtain⟨i,hi,rfl⟩:=Y0x hy
  obtain⟨y,u,_,h2⟩:=Z58 r i hi
  rw[h2]
  exact λ_ _ _ _ _ _ h=>PyProof.Rows.eqBool_str h
 ·obtain⟨y,u,h1,h2⟩:=Z58 r j hj
  rw[j1]at h1
  cases h1
  show Zh7 z (its.toArray[j]'(by rw[Y0g];exact hj))=true
  rw[List.getElem_toArray,h2]
  simp[Zh7]
 ·have hm':m<its.length:=by simpa using hm
  obtain⟨y,u,h1,h2⟩:=Z58 r m hm'
  show Zh7 z (its.toArray[m]'hm)=false
  rw[List.getElem_toArray,h2]
  have:=j2 m hlt
  rw[h1]at this
  simpa [Zh7]using this
 ·rw[j3]at q
  have em:(zs.eraseIdx j).map V.str=(zs.map V.str).eraseIdx j:=by rw[Y1m,Y1m,Y0A,List.map_take,List.map_drop]
  rw[em]at q
  refine⟨.non,_,I.lset (its':=its.eraseIdx j) hH e ?_ (r.eraseIdx j) ?_,rfl,q⟩
  ·show its.toArray.eraseIdxIfInBounds j=(its.eraseIdx j).toArray
   rw[List.eraseIdxIfInBounds_toArray]
  ·have:=Zcu (zs.map V.str) j
   lia
end
end L2
namespace L2
open PySem PySem.Spec PyProof.Rows
theorem ZbF:typeLookup (.type "tuple") "keys"=pure none:=by rw[typeLookup_type,builtinLookup_eq_fast];kernel_rfl
theorem ZbG:typeLookup (.type "tuple") "__getattr__"=pure none:=by rw[typeLookup_type,builtinLookup_eq_fast];kernel_rfl
section
variable{prog:Program}{w:World}{A:Around}{E:Value->Shared->Prop}{h:Heap}{g:Array GenState}{d:Drawn}{t:Nat}{os:OsState}{a:Addr}{its:Array Value}{n:Nat}{sl:Array (Option Value)}
theorem ZdF{tk:Tok}{Q:Fin->Shared->Prop}(hx:h.get? a=some (⟨.type "tuple",none,.seq its n,sl⟩))(hh:A.handled=none)
  (hE:∀e h' t',(∀b o,h.get? b=some o->h'.get? b=some o)->(∃o,h'.get? e=some o/\o.cls=.type "AttributeError")->E (.ref e) ⟨h',g,d,t',os⟩):
  wpAny (model prog w) A (Builtin.«object.__getattribute__» ⟨[.ref a,.str "keys" tk],[]⟩) Q E ⟨h,g,d,t,os⟩:=by
 have hT:(⟨h,g,d,t,os⟩:Shared).TypeIs (.ref a) "tuple":=⟨_,hx,rfl⟩
 have f4:=ZbF
 unfold Builtin.«object.__getattribute__»
 repeat (any_goals (first|assumption|wp_step))
 have hmsg:¬(Y0Z (toString "'"++toString ((Y29 "tuple").elim "tuple" fun x=>x.tpName)++toString "' object has no attribute '")++Y0Z "keys"++Y0Z "'").length>sizeLine:=by decide+kernel
 generalize(Y0Z (toString "'"++toString ((Y29 "tuple").elim "tuple" fun x=>x.tpName)++toString "' object has no attribute '")++Y0Z "keys"++Y0Z "'")=msg at hmsg ⊢
 unfold raiseAttrError
 refine wpAny_bind ?_
 unfold mkStr
 rw[if_neg hmsg]
 repeat (any_goals (first|assumption|wp_step))
 show wpAny _ _ (isSubtype (.type "AttributeError") (.type "AttributeError")) _ _ _
 rw[Z59]
 generalize(if((Y29 "AttributeError").elim false fun t=>t.mro.contains "StopIteration"||t.mro.contains "SystemExit")=true then [Y0F msg t].headD Y0o else Y0o)=fm
 refine wpAny_pure ?_
 simp only[Y2x,Y0C,if_false]
 have hoE:((h.push {cls:=Y0w "tuple",data:=Y26 #[Y0F msg t]}).push {cls:=Y0w "AttributeError",data:=Y1R (#[Y0q h.objs.size,Y0o,Y0o,Y0o,Y15 false,fm]++ownMembersOf (Y0w "AttributeError") [Y0F msg t])}).get? (h.push {cls:=Y0w "tuple",data:=Y26 #[Y0F msg t]}).objs.size=some {cls:=Y0w "AttributeError",data:=Y1R (#[Y0q h.objs.size,Y0o,Y0o,Y0o,Y15 false,fm]++ownMembersOf (Y0w "AttributeError") [Y0F msg t])}:=Y0e _ rfl
 have e6:(#[Y0q h.objs.size,Y0o,Y0o,Y0o,Y15 false,fm]++ownMembersOf (Y0w "AttributeError") [Y0F msg t])[6]?=some (.int 0 0):=rfl
 have e7:(#[Y0q h.objs.size,Y0o,Y0o,Y0o,Y15 false,fm]++ownMembersOf (Y0w "AttributeError") [Y0F msg t])[7]?=some (.int 0 0):=rfl
 have old:∀b o,h.get? b=some o->((h.push {cls:=Y0w "tuple",data:=Y26 #[Y0F msg t]}).push {cls:=Y0w "AttributeError",data:=Y1R (#[Y0q h.objs.size,Y0o,Y0o,Y0o,Y15 false,fm]++ownMembersOf (Y0w "AttributeError") [Y0F msg t])}).get? b=some o/\b<(h.push {cls:=Y0w "tuple",data:=Y26 #[Y0F msg t]}).objs.size:=fun b o e=>
  ⟨Y03 _ (Y03 _ e),by rw[Y1f];exact Y1v (Y0i e)⟩
 generalize(h.push {cls:=Y0w "tuple",data:=Y26 #[Y0F msg t]}).objs.size=ea at*
 generalize((h.push {cls:=Y0w "tuple",data:=Y26 #[Y0F msg t]}).push {cls:=Y0w "AttributeError",data:=Y1R (#[Y0q h.objs.size,Y0o,Y0o,Y0o,Y15 false,fm]++ownMembersOf (Y0w "AttributeError") [Y0F msg t])})=h2 at*
 generalize hvs:#[Y0q h.objs.size,Y0o,Y0o,Y0o,Y15 false,fm]++ownMembersOf (Y0w "AttributeError") [Y0F msg t]=vs at*
 refine wpAny_bind (wpAny_load hoE ?_)
 dsimp only
 rw[e6,e7]
 simp only[Y2u,Y0C,if_false]
 rw[if_neg (by decide)]
 refine wpAny_pure ?_
 simp only[if_true]
 have hT2:(⟨h2,g,d,t+1+1,os⟩:Shared).TypeIs (.ref ea) "AttributeError":=⟨_,hoE,rfl⟩
 refine wpAny_bind (wpAny_rule ?_)
 refine wpAny_bind (wpAny_typeOf hT2 ?_)
 dsimp only
 unfold layMembers
 refine wpAny_bind (wpAny_load hoE ?_)
 dsimp only
 refine wpAny_update hoE ?_
 unfold raiseNew
 refine wpAny_bind (wpAny_handled ?_)
 rw[hh]
 show wpAny _ _ (throw (Y0q ea)) _ _ _
 have hup:=Y12 (Y3P fun vs=>vs.extract 0 6++#[Y0F (Y0Z "keys") (t+1),Y0q a]) hoE (Y2t (Y2k rfl _))
 refine wpAny_throw (hE ea _ _ (λb o e=>?_) ⟨_,hup,Y2U ..⟩)
 have:=old b o e
 exact(Y0T _ _ (Y2e this.2)).trans this.1
theorem ZiM{tk:Tok}{Q:Value->Shared->Prop}(hx:h.get? a=some (⟨.type "tuple",none,.seq its n,sl⟩))(hh:A.handled=none)
  (hE:∀e h' t',(∀b o,h.get? b=some o->h'.get? b=some o)->(∃o,h'.get? e=some o/\o.cls=.type "AttributeError")->E (.ref e) ⟨h',g,d,t',os⟩):
  wpAny (model prog w) A (getAttrBy (.ref a) (.str "keys" tk) false) Q E ⟨h,g,d,t,os⟩:=by
 have hT:(⟨h,g,d,t,os⟩:Shared).TypeIs (.ref a) "tuple":=⟨_,hx,rfl⟩
 have f2:=Y1F.lookup
 have f3:=Y1F.bind (.ref a)
 repeat (any_goals (first|assumption|wp_step))
 refine codeAny_call_builtin Y1F.plain F.entry_tuple_ga (Y1F.check _ _ _ _ _ _ _ _ hT (F.args_tuple_getattribute_2 _ _) (ZdF hx (by simp[hh]) λe h' t' k ho=>?_))
 have hTe:(⟨h',g,d,t',os⟩:Shared).TypeIs (.ref e) "AttributeError":=ho
 show wpAny _ _ (getattributeRaised _ _ _ _ _ _ _) _ _ _
 unfold getattributeRaised
 refine wpAny_bind (wpAny_isInstance hTe Z59 ?_)
 simp only[if_true]
 unfold hookBehind onTheHeap
 simp only[Y0C,if_false]
 rw[ZbG]
 refine wpAny_bind (wpAny_pure ?_)
 unfold hookOrError attributeErrorLeaves
 simp only[Y2M,if_true]
 exact wpAny_bind (wpAny_throw (hE e h' t' k ho))
theorem Zfv{Q:Option Value->Shared->Prop}{s:Shared}(hx:s.heap.get? a=some (⟨.type "tuple",none,.seq its n,sl⟩))(hh:A.handled=none)
  (hQ:∀h' t',(∀b o,s.heap.get? b=some o->h'.get? b=some o)->Q none {s with heap:=h',toks:=t'}):wpAny (model prog w) A (getAttr? (.ref a) "keys") Q E s:=by
 obtain⟨h,g,d,t,os⟩:=s
 unfold getAttr? getAttrBy? mkText
 refine wpAny_bind (wpAny_bind (wpAny_fresh (wpAny_pure ?_)))
 refine wpAny_bind (wpAny_attempt (ZiM hx hh λe h' t' k ho=>?_))
 have hTe:(⟨h',g,d,t',os⟩:Shared).TypeIs (.ref e) "AttributeError":=ho
 refine wpAny_bind (wpAny_isInstance hTe Z59 ?_)
 simp only[if_true]
 exact wpAny_pure (hQ h' t' k)
end
section
variable{prog:Program}{w:World}{A:Around}{E:Value->Shared->Prop}{s:Shared}{K:Type} [DecidableEq K] {knd:KeyKind prog w K}
theorem ZfP{l:Addr}{items:Array Value}{nl:Nat}{sl:Array (Option Value)}{ks:Nat->K}{vs:Nat->Value}{Q:Value->Shared->Prop}(hh:A.handled=none)(hl:s.heap.get? l=some (⟨.type "tuple",none,.seq items nl,sl⟩))(hn:items.size≤sizeLine)
  (ht:∀(j:Nat) v,items[j]?=some v->∃q uk np oq,v=.ref q/\s.heap.get? q=some oq/\oq.cls=.type "tuple"/\oq.data=.seq #[uk,vs j] np/\knd.is (ks j) uk=true)
  (h:∀h' tk,h'.DictOf knd s.heap.objs.size (stTo ks vs items.size)->(∀b o,b<s.heap.objs.size->s.heap.get? b=some o->h'.get? b=some o)->Q (.ref s.heap.objs.size) {s with heap:=h',toks:=tk}):
  wpAny (model prog w) A (call (.type "dict") [.ref l]) Q E s:=by
 refine callType_codes (Q₁:=fun obj s₁=>obj=.ref s.heap.objs.size/\s₁={s with heap:=s.heap.push {cls:=.type "dict",data:=.dict #[]} }) F.kt_called_dict (F.kt_typeCall_dict_1 _) F.entry_dict_init (kt_code_dict_new _ ⟨rfl,rfl⟩) ?_
 rintro obj s₁ ⟨rfl,rfl⟩
 have hnew:(s.heap.push {cls:=.type "dict",data:=.dict #[]}).DictOf knd s.heap.objs.size []:=Y3p s.heap
 have hl':(s.heap.push {cls:=.type "dict",data:=.dict #[]}).get? l=some (⟨.type "tuple",none,.seq items nl,sl⟩):=Y03 _ hl
 have hT:Y2w {s with heap:=s.heap.push {cls:=.type "dict",data:=.dict #[]} } (.ref l) "tuple":=⟨_,hl',rfl⟩
 refine⟨hnew.typeIs,F.args_dict_init_2 _ _,?_⟩
 unfold Builtin.«dict.__init__»
 refine wpAny_bind ?_
 unfold Y2Y
 refine wpAny_bind (wpAny_notOrdered_dict hnew.typeIs ?_)
 show wpAny _ _ (pure (s.heap.objs.size,[Y0q l])) _ _ _
 refine wpAny_pure ?_
 show wpAny _ _ (Y1S "dict.__init__" s.heap.objs.size (.ref l) [] .none) _ _ _
 unfold Y1S
 refine wpAny_bind (wpAny_typeOf hT ?_)
 rw[if_pos (by decide)]
 refine wpAny_bind (Zfv (s:={s with heap:=s.heap.push {cls:=.type "dict",data:=.dict #[]} }) hl' (by simp[hh]) fun h1 t1 hk1=>?_)
 simp only[Option.isNone_none,if_true]
 refine wpAny_bind (wpAny_rule ?_)
 have hl1:h1.get? l=some (⟨.type "tuple",none,.seq items nl,sl⟩):=hk1 _ _ hl'
 have hL1:h1.IsTuple l items:=⟨_,hl1,rfl,nl,rfl⟩
 have hlS:l<s.heap.objs.size:=Y0i hl
 have hbig:s.heap.objs.size<h1.objs.size:=by
  obtain⟨o,es,ep,ho,_⟩:=hnew
  exact Y0i (hk1 _ _ ho)
 refine wpAny_bind (wpAny_pyIter_tuple (s:={s with heap:=h1,toks:=t1}) hL1 ?_)
 have hneI:l≠h1.objs.size:=Y0m (Y2g hlS hbig)
 refine wpAny_pure ⟨plainId_quiet Z0E _,?_⟩
 refine ZcN (knd:=knd) (n:=items.size) ((Walks.tuple (A:=A.in1.in1) (by simp[hh]) h1.objs.size l hneI items).toS) s.heap.objs.size ?_ ks vs hn items.size 0 _ rfl (Y17 _)
  ⟨⟨_,Y0e _ rfl,rfl,rfl⟩,hL1.push _⟩ ?_ ?_ ?_
 ·simp only[Y0f,Y0u,or_false,not_or]
  exact⟨Y0m hbig,Y2e hlS⟩
 ·obtain⟨o,es,ep,ho,r⟩:=hnew
  exact⟨o,es,ep,Y03 _ (hk1 _ _ ho),r⟩
 ·intro j v hv
  obtain⟨q,uk,np,oq,rfl,a1,a2⟩:=ht j v hv
  have hqS:q<s.heap.objs.size:=Y0i a1
  refine⟨q,uk,np,oq,rfl,Y0m hqS,?_,Y03 _ (hk1 _ _ (Y03 _ a1)),a2⟩
  simp only[Y0z]
  exact Y0m (Y2g hqS hbig)
 ·intro s' hm hd
  obtain⟨h',g',d',tk',os'⟩:=s'
  have eg:g'=s.gens:=hm.gens
  have ed:d'=s.drawn:=hm.drawn
  have eo:os'=s.os:=hm.os
  subst eg;subst ed;subst eo
  refine⟨rfl,h h' tk' hd λb o hb e=>?_⟩
  refine hm.heap b o ?_ (Y03 _ (hk1 _ _ (Y03 _ e)))
  simp only[Y0f,Y0u,or_false,not_or]
  exact⟨Y0m hb,Y0m (Y2g hb hbig)⟩
end
section
variable{X:Cx}
theorem Ze9(hcalm:X.calm=true):CallR X (.type "dict") (fun xs H Q=>∃(a:Addr) (ps:List (Key×V)) (qs:List V),xs=[.ref a]/\H a=some (.tup qs)/\Zi1 H ps qs/\∀p,H p=none->Q (.ref p) (upd H p (.dK (Z5t ps)))):=by
 intro pins s σ H xs us Q I r h
 obtain⟨a,ps,qs,rfl,ha,hp,q⟩:=h
 obtain⟨u,rfl,ru⟩:=Z6k r
 cases ru
 obtain⟨hz,its,rv,⟨ol,hl,hlc,nl,hld⟩,ol2,hl2,hdn⟩:=(show ObjOk X.prog X.w H s.heap a (.tup qs)from I.hok a _ ha)
 have hh:=I.ok.hd hcalm
 rw[hl]at hl2
 cases hl2
 obtain⟨lc,ldc,ld,lsl⟩:=ol
 cases hlc;cases hld;cases hdn
 have hlen:its.length=ps.length:=by rw[<- rv.length,hp.length]
 have hpair:∀(j:Nat) v,its.toArray[j]?=some v->∃q uk uv np oq,v=.ref q/\s.heap.get? q=some oq/\oq.cls=.type "tuple"/\oq.data=.seq #[uk,uv] np/\∃p,ps[j]?=some p/\RelV (kV p.1) uk/\RelV p.2 uv:=fun j v hv=>by
  have hv':its[j]?=some v:=by simpa using hv
  obtain⟨y,hy,ry⟩:=Paired.at rv j v hv'
  obtain⟨p,hpj,q,rfl,hq⟩:=Paired.at hp j y hy
  cases ry
  obtain⟨_,ts,rt,ht⟩:=(show ObjOk X.prog X.w H s.heap q (.tup [kV p.1,p.2])from I.hok q _ hq)
  obtain⟨uk,uv,rfl,r1,r2⟩:=Zf6 rt
  obtain⟨oq,ho,hc,n,hd⟩:=ht.1
  exact⟨q,uk,uv,n,oq,rfl,ho,hc,hd,p,hpj,r1,r2⟩
 obtain⟨vs,hvs⟩:∃vs:Nat->Value,∀(j:Nat) v,its.toArray[j]?=some v->∃q uk np oq,v=.ref q/\s.heap.get? q=some oq/\oq.cls=.type "tuple"/\oq.data=.seq #[uk,vs j] np/\∃p,ps[j]?=some p/\RelV (kV p.1) uk/\RelV p.2 (vs j):=by
  refine⟨λj=>if h:j<its.length then(hpair j its[j] (by simp[h])).choose_spec.choose_spec.choose else .none,λj v hv=>?_⟩
  have hv':its[j]?=some v:=by simpa using hv
  obtain⟨hj,rfl⟩:=Y05.mp hv'
  dsimp only
  rw[dif_pos hj]
  have z:=(hpair j its[j] (by simp[hj]))
  exact⟨z.choose,z.choose_spec.choose,z.choose_spec.choose_spec.choose_spec⟩
 refine ZfP (knd:=Z19 X.prog X.w) (ks:=λj=>(ps.getD j (.inl 0,.non)).1) (vs:=vs) hh hl (by simpa [<- rv.length]using hz) (λj v hv=>?_) λh' tk hd hk=>?_
 ·obtain⟨q,uk,np,oq,e1,e2,e3,e4,p,hpj,r1,r2⟩:=hvs j v hv
  refine⟨q,uk,np,oq,e1,e2,e3,e4,ZdG ?_⟩
  rw[Y0j,hpj]
  exact r1
 have kv:∀i,i≤ps.length->KV ((ps.take i).foldl (λc z=>putK c z.1 z.2) []) (stTo (λj=>(ps.getD j (.inl 0,.non)).1) vs i):=by
  intro i
  induction i with
  |zero=>intro _;exact .nil
  |succ i ih=>
   intro hi
   have hlt:i<its.length:=by lia
   obtain⟨q,uk,np,oq,e1,e2,e3,e4,p,hpj,r1,r2⟩:=hvs i its[i] (by simp[hlt])
   rw[Y0S,hpj,Y2J,Y1P]
   show KV (putK _ p.1 p.2) (stored _ (ps.getD i (.inl 0,.non)).1 _)
   have ek:(ps.getD i (.inl 0,.non)).1=p.1:=by rw[Y0j,hpj];rfl
   rw[ek]
   exact(ih (by lia)).put p.1 r2
 have kvn:=kv ps.length (Y0b _)
 rw[Y1i]at kvn
 have hsz:its.toArray.size=ps.length:=by simp[hlen]
 rw[hsz]at hd
 have hpl:ps.length≤sizeLine:=by rw[hp.length];exact hz
 have zl:(Z5t ps).length≤sizeLine:=by
  have:=kvn.length
  have l2:=Z8V (λj=>(ps.getD j (.inl 0,.non)).1) vs ps.length
  unfold Z5t
  lia
 exact⟨.ref s.heap.objs.size,_,I.laid (a:=s.heap.objs.size) (o:=.dK (Z5t ps)) (t':=tk) (λb u e=>hk b u (Y0i e) e) (Y0b _) (ZcL zl (beq_eq_false_iff_ne.mpr (Y2d (Y0m I.big))) kvn hd),rfl,q _ (I.hok.fresh (Y0b _))⟩
end
end L2
namespace L2
open PySem PySem.Spec PyProof.Rows
def cutS(x:Str)(lo hi:Option Int):Str:=⟨((x.cps.toList.drop (HT.sIx x.cps.toList.length 0 lo)).take (HT.sIx x.cps.toList.length x.cps.toList.length hi - HT.sIx x.cps.toList.length 0 lo)).toArray⟩
theorem Zj4(x:Str)(lo hi:Option Int):(cutS x lo hi).length≤x.length:=by
 unfold cutS Y3T
 simp only[Y0g,Y0J,Y2b,Y0k]
 lia
theorem Zdk(x:Str)(lo hi:Option Int):((Y1y lo hi 1 x.length).filterMap (x.cps[·]?)).toArray=(cutS x lo hi).cps:=by
 obtain⟨h1,h2,h3⟩:=Z4h lo hi x.length
 have e:Y1y lo hi 1 x.length=sliceRange (sliceBounds lo hi none x.length).1 (sliceBounds lo hi none x.length).2.1 (sliceBounds lo hi none x.length).2.2:=rfl
 have el:x.cps.toList.length=x.length:=by simp[Y3T]
 rw[e,h1,h2,h3,sliceRange_one,pick_run]
 unfold cutS
 rw[el]
theorem ZfE{x:Str}{lo hi:Option Int}(h:(Y1y lo hi 1 x.length).length=x.length):cutS x lo hi=x:=by
 obtain⟨h1,h2,h3⟩:=Z4h lo hi x.length
 have e:Y1y lo hi 1 x.length=sliceRange (sliceBounds lo hi none x.length).1 (sliceBounds lo hi none x.length).2.1 (sliceBounds lo hi none x.length).2.2:=rfl
 have el:x.cps.toList.length=x.length:=by simp[Y3T]
 rw[e,h1,h2,h3,sliceRange_one,Y01,Y2q]at h
 unfold cutS
 rw[el]
 have hb:HT.sIx x.length x.length hi≤x.length:=by
  unfold HT.sIx
  cases hi with
  |none=>exact Y0b _
  |some i=>dsimp only;split<;>lia
 obtain⟨cps⟩:=x
 congr 1
 have e0:∀(n a b:Nat),b≤n->b - a=n->n=0\/a=0:=by lia
 rcases e0 _ _ _ hb h with z|z
 ·have:cps.toList=[]:=by
   rw[<- Y1u];rw[Y0k];exact z
  simp[this]
  have:cps=#[]:=by apply Array.toList_inj.mp;simpa using this
  rw[this]
 ·rw[h,z,List.drop_zero,Y1z (by rw[Y0k];exact Y0b _)]
section
variable{X:Cx}
def rSlS:V->Option Int->Option Int->Hp->VK->Prop:=λx lo hi H Q=>∃z:Str,x=.str z/\z.length≤sizeLine/\Q (.str (cutS z lo hi)) H
theorem ZaZ{v:Value}{o:Option Int}(h:IsPart v o):∃l:Option (Int×Tok),v=partValue l/\l.map (·.1)=o:=by
 cases h with
 |none=>exact⟨none,rfl,rfl⟩
 |int i t=>exact⟨some (i,t),rfl,rfl⟩
theorem Zmu:SlR X rSlS:=by
 intro pins s σ H x v vl vu lo hi sl Q I rx hs pl pu h
 obtain⟨z,rfl,hz,q⟩:=h
 obtain⟨t,rfl⟩:=rx
 obtain⟨l,rfl,rfl⟩:=ZaZ pl
 obtain⟨u,rfl,rfl⟩:=ZaZ pu
 refine⟨"str",_,slot_str_getitem.lookup,typeIs_str s z t,?_⟩
 refine wpAny_getItem_str_slice (l:=l) (u:=u) (st:=none) hs rfl ?_
 unfold sliceMade
 by_cases hc:(((none:Option (Int×Tok)).map (·.1)).getD 1==1&&(slicePicked z l u none).length==z.length)=true
 ·rw[if_pos hc]
  have e:cutS z (l.map (·.1)) (u.map (·.1))=z:=by
   refine ZfE ?_
   rw[Y0H]at hc
   exact eq_of_beq hc.2
  rw[e]at q
  exact⟨.str z,H,I,⟨_,rfl⟩,q⟩
 ·rw[if_neg hc]
  have e:(⟨((slicePicked z l u none).filterMap (z.cps[·]?)).toArray⟩:Str)=cutS z (l.map (·.1)) (u.map (·.1)):=by
   have:=Zdk z (l.map (·.1)) (u.map (·.1))
   unfold slicePicked
   rw[show((none:Option (Int×Tok)).map (·.1)).getD 1=(1:Int)from rfl,this]
  rw[e]
  exact⟨Y0M (Zj4 _ _ _) hz,.str _,H,I.tok _,⟨_,rfl⟩,q⟩
end
end L2
namespace L2
open PySem PySem.Spec PyProof.Rows
theorem ZfV:∀{xs:List V} {vs:List Value},xs.length=vs.length->(∀(j:Nat) x v,xs[j]?=some x->vs[j]?=some v->RelV x v)->Vals xs vs
 |[],[],_,_=>.nil
 |[],_::_,h,_=>by cases h
 |_::_,[],h,_=>by cases h
 |x::xs,v::vs,h,r=>.cons (r 0 x v rfl rfl) (ZfV (by simpa using h) λj a b ha hb=>r (j+1) a b (by simpa using ha) (by simpa using hb))
theorem ZdL{acc:Array Value}{n:Nat}(h:ItemsOf (λi v=>∃t,v=.int (0+i*1) t) acc n):Vals ((Y0U n).map λi=>V.int (i:Nat)) acc.toList:=by
 refine ZfV (by rw[Y01,Y2q,Y0k];exact h.1.symm) λj x v hx hv=>?_
 obtain⟨t,rfl⟩:=h.2 j v (by simpa using hv)
 rw[Y06]at hx
 cases e:(Y0U n)[j]? with
 |none=>rw[e]at hx;cases hx
 |some k=>
  rw[e]at hx
  have hk:k=j:=by
   have:=Y05.mp e
   obtain⟨_,z⟩:=this
   simpa using z.symm
  subst hk
  cases hx
  exact⟨t,by rw[Int.zero_add,Int.mul_one]⟩
section
variable{X:Cx}{tg:Expr}
theorem ZhP(hcalm:X.calm=true):Zi5 X (.type "list") (.type "range") (fun x H Q=>∃n:Nat,x=.int n/\n≤1000000/\∀p,H p=none->Q (.ref p) (upd H p (.lst ((Y0U n).map fun i=>V.int (i:Nat))))):=by
 intro pins s σ H x u Q I rx h
 obtain⟨n,rfl,hn,q⟩:=h
 obtain⟨t,rfl⟩:=rx
 refine call_range_1 ?_
 have hl:((Y0U n).map λi=>V.int (i:Nat)).length≤sizeLine:=by rw[Y01,Y2q];exact Y0M hn (by decide)
 have hh:=I.ok.hd hcalm
 refine call_list_range (n:=n) hh (Y3Z ..) ?_ ?_ (by lia) λh' tk acc' c' kp e it=>?_
 ·exact small_one (by decide) (by decide) (by lia) (by lia)
 ·rw[rangeSize_one];split<;>lia
 have I1:=I.kept (h':=s.heap.push {cls:=.type "range",data:=.fields #[.int 0 s.toks,.int (n:Int) t,.int 1 (s.toks+1)]}) (t':=s.toks+1+1) fun b o e=>Y03 _ e
 exact⟨.ref _,_,I1.laid (t':=tk) kp (Y0b _) (show ObjOk X.prog X.w _ h' _ (.lst ((Y0U n).map λi=>V.int (i:Nat)))from⟨hl,acc'.toList,c',ZdL it,by simpa using e⟩),rfl,q _ (I1.hok.fresh (Y0b _))⟩
theorem ZgD{x y:Str}{id T:String}{r:V->Hp->VK->Prop}{e:Expr}{t:TE}{p p' pos pos':Pos}(hc:Zi5 X (.type id) (.type T) r)
  (hg:Gl X x) (hm:X.mg x=none) (hv:bootBuiltins x=some (.type id)) (hg':Gl X y) (hm':X.mg y=none) (hv':bootBuiltins y=some (.type T)) (ha:PE X e t)
  (hn:x≠"__name__") (hdb:(x==("__debug__":Str))=false) (hn':y≠"__name__") (hdb':(y==("__debug__":Str))=false)
  (he:starEach [e] X.env=(false,eval e X.env)::starEach [] X.env):
  PE X (.Call (.Name x p) [.Call (.Name y p') [e] [] pos'] [] pos) (λσ H Q=>t σ H λv H1=>r v H1 Q):=by
 intro pins s σ H Q I h
 refine wpAny_Call_Name_kw (Z4o I hg hm hv ?_ hn hdb)
 refine Y10 ?_ rfl rfl
 show wpAny _ _ (spliced ((false,eval (.Call (.Name y p') [e] [] pos') X.env)::backTo pos (starEach [] X.env))) _ _ s
 refine Y1X ?_
 refine wpAny_Call_Name_kw (Z4o I hg' hm' hv' ?_ hn' hdb')
 refine Y10 ?_ he rfl
 rw[he]
 show wpAny _ _ (spliced ((false,eval e X.env)::backTo pos' (starEach [] X.env))) _ _ s
 refine Y1X (thn (ha pins s σ H _ I h) λu s1 ⟨v,H1,I1,r1,q1⟩=>?_)
 refine Y23 ?_
 exact thn (hc pins s1 σ H1 v u Q I1 r1 q1) λu2 s2 q2=>Y23 q2
def Itrs(lo st:Int)(n:Nat):It:=⟨λi _=>i<n,λi H x H'=>H'=H/\x=.int (lo+i*st),λi _=>n≤i⟩
theorem Zdi{P:Program}{w:World}{K:Y02}{tg:Expr}(it:Addr)(lo sp:Int)(n:Nat):Turn P w K tg (Itrs lo sp n) [it] it (λi h=>IsRangeIter h it (lo+(i:Nat)*sp) ((n:Int) - (i:Nat)) sp)where
 mem:=by simp
 obj:=λi h st b hb=>by
  have e:b=it:=by simpa using hb
  subst e
  exact⟨_,st,λv z=>by
   have z':Y1R _=Data.cell v:=z
   cases z'⟩
 keep:=λi h h' st k=>k it (by simp) _ st
 item:=by
  intro X hP hw hK hc i pins s σ H E I hf st hg
  subst hP hw hK
  obtain⟨f0,f1,f2,f3,f4,f5⟩:=hf it (by simp)
  have W:=Walks.range (prog:=X.prog) (w:=X.w) (I.ok.hd hc) it lo sp n
  refine W.item i s _ _ hg st λv h' tk hv st' kk=>?_
  obtain⟨t,rfl⟩:=hv
  have I1:Inv X pins σ H {s with heap:=h',toks:=tk}:=I.turned (λb o hb e=>kk b o (by simpa using hb) e) f0 f1 f3 f4 f5
  exact⟨_,rfl,ZdW (s:={s with heap:=h',toks:=tk}) (n:="range_iterator") st' rfl rfl (by decide) ⟨.int (lo+i*sp),H,I1,⟨t,rfl⟩,⟨rfl,rfl⟩,st',fun b hb=>(hf b hb).1⟩⟩
 done:=by
  intro X hP hw hK hc i pins s σ H E I hf st hg
  subst hP hw hK
  obtain⟨f0,f1,f2,f3,f4,f5⟩:=hf it (by simp)
  exact wpAny_pyNext_range_end (I.ok.hd hc) st (by have:n≤i:=hg;lia) λh' eb=>⟨rfl,I.turned (t':=s.toks) (λb o hb e=>eb b o hb e) f0 f1 f3 f4 f5⟩
 self:=λ_ _ _ _ _ st h=>wpAny_pyIter_rangeiter st h
def len2(lo hi:Int):Nat:=(Y1g lo hi 2).toNat
theorem ZoJ(lo hi:Int):((len2 lo hi:Nat):Int)=Y1g lo hi 2:=by
 unfold len2 Y1g
 simp only[show(2:Int)>0 by decide,if_true]
 split<;>lia
theorem Zgf{a b:Int}(ha:0≤a)(ha':a<2^60)(hb:0≤b)(hb':b<2^60):Y3L a b 2=true:=by
 unfold Y3L Y1g
 simp only[Builtin.Range.rangeFitsLong,Y0H,Y3r,decide_eq_true_eq,beq_iff_eq,show(2:Int)>0 by decide,if_true]
 split<;>lia
theorem Zgr{pins:List (Addr×Obj)}{σ:St}{H:Hp}{s:Shared}{R:It->Hp->Prop}{E:Value->Shared->Prop}{lo hi:Int}{t u v:Tok}{tk:Nat}(I:Inv X pins σ H s)(h1:0≤lo)(h2:lo<2^60)(h3:0≤hi)(h4:hi<2^60)
  (q:R (Itrs lo 2 (len2 lo hi)) H):wpAny (model X.prog X.w) X.A (pyIter (.ref s.heap.objs.size)) (PIE X pins σ tg R) E {s with heap:=s.heap.push {cls:=.type "range",data:=.fields #[.int lo t,.int hi u,.int 2 v]},toks:=tk}:=by
 refine wpAny_pyIter_range (Y3Z ..) (Zgf h1 h2 h3 h4) ?_
 have I1:Inv X pins σ H {s with heap:=s.heap.push {cls:=.type "range",data:=.fields #[.int lo t,.int hi u,.int 2 v]},toks:=tk}:=I.kept fun b o e=>Y03 _ e
 refine⟨(s.heap.push {cls:=.type "range",data:=.fields #[.int lo t,.int hi u,.int 2 v]}).objs.size,[(s.heap.push {cls:=.type "range",data:=.fields #[.int lo t,.int hi u,.int 2 v]}).objs.size],_,_,H,rfl,
  I1.kept (t':=tk) λb o e=>Y03 _ e,Zdi _ lo 2 (len2 lo hi),?_,λb hb=>?_,q⟩
 ·have e1:lo+((0:Nat):Int)*2=lo:=by simp
  have e2:((len2 lo hi:Nat):Int) - ((0:Nat):Int)=Y1g lo hi 2:=by rw[ZoJ];simp
  show IsRangeIter _ _ (lo+((0:Nat):Int)*2) (((len2 lo hi:Nat):Int) - ((0:Nat):Int)) 2
  rw[e1,e2]
  exact Y0e _ rfl
 ·have e:b=(s.heap.push {cls:=.type "range",data:=.fields #[.int lo t,.int hi u,.int 2 v]}).objs.size:=by simpa using hb
  subst e
  exact I1.fpOk (Y0b _) (I1.hok.fresh (Y0b _))
def Zq7(ta:TA):TI:=λσ H R=>ta σ H λvs H1=>∃i j:Int,vs=[.int i,.int j,.int 2]/\(0≤i/\i<2^60/\0≤j/\j<2^60)/\R (Itrs i 2 (len2 i j)) H1
theorem Zgy{a b c:Expr}{ta:TA}{p pos:Pos}(hg:Gl X "range")(hm:X.mg "range"=none)(ha:PA X [a,b,c] ta)(hs:starEach [a,b,c] X.env=[(false,eval a X.env),(false,eval b X.env),(false,eval c X.env)]:=by rfl)(hs2:starEach [b,c] X.env=[(false,eval b X.env),(false,eval c X.env)]:=by rfl):
  PI X tg (.Call (.Name "range" p) [a,b,c] [] pos) (Zq7 ta):=by
 intro pins s σ H R I h
 refine Call_ (Z4o I hg hm boot_range (Y10 (thn (ha pos pins s σ H _ I h) λus s1 ⟨vs,H1,I1,r1,q1⟩=>?_) (by rw[hs,hs2]) (by rw[hs2];rfl)))
 obtain⟨i,j,e,⟨q1,q2,q3,q4⟩,q⟩:=q1
 subst e
 cases r1 with
 |cons r rr=>
  cases rr with
  |cons r' rr=>
   cases rr with
   |cons r'' rr=>
    cases rr
    obtain⟨t,rfl⟩:=r
    obtain⟨t',rfl⟩:=r'
    obtain⟨t'',rfl⟩:=r''
    exact call_range_3 (by decide) (Zgr (tk:=s1.toks) I1 q1 q2 q3 q4 q) (.inl (PyProof.noPylong_small (by decide)))
end
end L2
namespace L2
open PySem PySem.Spec PyProof.Rows
section
variable{prog:Program}{w:World}{A:Around}{R:Result->Shared->Prop}{I:Addr}{fp wr:List Addr}{n:Nat}{P:Nat->Value->Prop}{St:Nat->Heap->Prop}
theorem ZiJ:(toString "max"++toString ".loop":String)="max.loop":=by decide
theorem Zq3(W:Walks prog w A.in1 I fp wr n P St){bt:Nat->Nat->Bool}(cm:CmpOf prog w A.in1 .Gt P bt){S:Addr}(fS:S∉fp)(kw:List (Str×Value)):
  ∀(m j:Nat) (s:Shared) (b:Value) (c:Nat),n=j+1+m->St (j+1) s.heap->P (argBest bt j) b->s.heap.get? S=some {cls:=.type "list",dict:=none,data:=.seq #[b,b] c,slots:=#[]}->
  (∀v g tk,P (argBest bt (n - 1)) v->(∀a o,a∉wr->a≠S->s.heap.get? a=some o->g.get? a=some o)->R (.ok (.ret v)) {s with heap:=g,toks:=tk})->
  codeAny (model prog w) A (.builtin "max.loop" ⟨[.ref I,.none,.ref S],kw⟩) R s:=by
 have wS:S∉wr:=λh=>fS (W.sub _ h)
 intro m
 induction m with
 |zero=>
  intro j s b c e st pb gS q
  refine codeAny_builtin Y39 ?_;rw[Y0I Y1B _]
  show wpAny _ _ (seqItems? (.ref S)>>= _) _ _ s;refine wpAny_bind (wpAny_seqItems gS rfl ?_)
  show wpAny _ _ (tryCatch (pyNext (.ref I)) _ >>= _) _ _ s
  refine wpAny_bind (wpAny_tryCatch (W.done s _ _ (by rw[e];exact st) λg tk kp=>?_))
  show wpAny _ _ (updateSeq S (λ_=>#[])>>= _) _ _ _
  refine wpAny_bind ?_;refine wpAny_updateSeq (kp S _ wS gS) rfl (wpAny_bind (wpAny_letGo (wpAny_pure ?_)))
  exact q b _ tk (by rw[e];exact pb) λa o ha ne ho=>(Y0T _ _ (Y2d ne)).trans (kp a o ha ho)
 |succ m ih=>
  intro j s b c e st pb gS q
  refine codeAny_builtin Y39 ?_;rw[Y0I Y1B _]
  show wpAny _ _ (seqItems? (.ref S)>>= _) _ _ s;refine wpAny_bind (wpAny_seqItems gS rfl ?_)
  show wpAny _ _ (tryCatch (pyNext (.ref I)) _ >>= _) _ _ s
  refine wpAny_bind (wpAny_tryCatch (W.item (j+1) s _ _ (by lia) st λv g tk pv st1 kp=>?_))
  have gS1:=kp S _ wS gS
  show wpAny _ _ (tryCatch (holding [v,v] (richCompare .Gt v b >>= _)) _ >>= _) _ _ _
  refine wpAny_bind (wpAny_tryCatch (wpAny_holding (wpAny_bind (cm (j+1) (argBest bt j) v b _ _ _ pv pb ?_))))
  refine wpAny_bind (wpAny_holding (wpAny_truthy_bool ?_));refine wpAny_bind (wpAny_letGo (wpAny_pure ?_))
  cases hb:bt (j+1) (argBest bt j)with
  |true=>
   rw[if_pos rfl]
   refine wpAny_bind ?_;refine wpAny_updateSeq gS1 rfl (wpAny_bind (wpAny_letGo ?_));rw[ZiJ]
   refine wpAny_pure ⟨plainId_quiet Y1B _,ih (j+1) _ v _ (by lia) (W.frame _ _ _ st1 λa ha o ho=>?_) (by rw[argBest,if_pos hb];exact pv) (Y12 _ gS1 rfl) λv' g' tk' pv' kp'=>?_⟩
   ·exact(Y0T _ _ (λz:S=a=>fS (by rw[z];exact ha))).trans ho
   ·exact q v' g' tk' pv' λa o ha ne ho=>kp' a o ha ne ((Y0T _ _ (Y2d ne)).trans (kp a o ha ho))
  |false=>
   rw[if_neg (by simp)]
   refine wpAny_bind (wpAny_letGo ?_);rw[ZiJ]
   refine wpAny_pure ⟨plainId_quiet Y1B _,ih (j+1) _ b c (by lia) st1 (by rw[argBest,hb,if_neg (by simp)];exact pb) gS1 λv' g' tk' pv' kp'=>?_⟩
   exact q v' g' tk' pv' λa o ha ne ho=>kp' a o ha ne (kp a o ha ho)
theorem Zq4(W:Walks prog w A.in1 I fp wr n P St){bt:Nat->Nat->Bool}(cm:CmpOf prog w A.in1 .Gt P bt){S:Addr}(fS:S∉fp)(d:Value){s:Shared}{c:Nat}(st:St 0 s.heap)
  (gS:s.heap.get? S=some {cls:=.type "list",dict:=none,data:=.seq #[] c,slots:=#[]})
  (q:∀v g tk,(n=0/\v=d\/0<n/\P (argBest bt (n - 1)) v)->(∀a o,a∉wr->a≠S->s.heap.get? a=some o->g.get? a=some o)->R (.ok (.ret v)) {s with heap:=g,toks:=tk}):
  codeAny (model prog w) A (.builtin "max.loop" ⟨[.ref I,.none,.ref S],[("default",d)]⟩) R s:=by
 have wS:S∉wr:=λh=>fS (W.sub _ h)
 refine codeAny_builtin Y39 ?_;rw[Y0I Y1B _]
 show wpAny _ _ (seqItems? (.ref S)>>= _) _ _ s;refine wpAny_bind (wpAny_seqItems gS rfl ?_)
 show wpAny _ _ (tryCatch (pyNext (.ref I)) _ >>= _) _ _ s
 by_cases hn:n=0
 ·subst hn
  refine wpAny_bind (wpAny_tryCatch (W.done s _ _ st λg tk kp=>?_))
  show wpAny _ _ (rule _ >>= _) _ _ _
  refine wpAny_bind (wpAny_rule (wpAny_pure ?_))
  exact q d g tk (.inl ⟨rfl,rfl⟩) λa o ha ne ho=>kp a o ha ho
 ·refine wpAny_bind (wpAny_tryCatch (W.item 0 s _ _ (by lia) st λv g tk pv st1 kp=>?_))
  have gS1:=kp S _ wS gS
  show wpAny _ _ (updateSeq S (λ_=>#[v,v])>>= _) _ _ _
  refine wpAny_bind ?_;refine wpAny_updateSeq gS1 rfl ?_;rw[ZiJ]
  refine wpAny_pure ⟨plainId_quiet Y1B _,Zq3 W cm fS _ (n - 1) 0 _ v _ (by lia) (W.frame _ _ _ st1 λa ha o ho=>?_) pv (Y12 _ gS1 rfl) λv' g' tk' pv' kp'=>?_⟩
  ·exact(Y0T _ _ (λz:S=a=>fS (by rw[z];exact ha))).trans ho
  ·exact q v' g' tk' (.inr ⟨by lia,pv'⟩) λa o ha ne ho=>kp' a o ha ne ((Y0T _ _ (Y2d ne)).trans (kp a o ha ho))
end
theorem Zjm(a d:Value):argsOk "max" ⟨[a],[("default",d)]⟩:=by unfold argsOk;kernel_rfl
section
variable{prog:Program}{w:World}{A:Around}{E:Value->Shared->Prop}{s:Shared}
theorem Zja{l:Addr}{xs:Array (Int×Tok)}{d:Value}{Q:Value->Shared->Prop}(hh:A.handled=none)(hl:s.heap.IsList l (intItems xs))
  (q:∀v h' tk,(xs.size=0/\v=d\/0<xs.size/\(intItems xs)[argBest (λi j=>decide (numAt xs i>numAt xs j)) (xs.size - 1)]?=some v)->(∀b o,s.heap.get? b=some o->h'.get? b=some o)->Q v {s with heap:=h',toks:=tk}):
  wpAny (model prog w) A (call (.builtin "max") [.ref l] [("default",d)]) Q E s:=by
 have hz:(intItems xs).size=xs.size:=by simp[intItems]
 refine wpAny_call (codeAny_call_builtin F.plain_max F.entry_max ?_)
 simp only[checkBuiltinCall,F.kind_max]
 have ok:=Zjm (.ref l) d
 cases hsig:Manifest.signature? "max"
 case' some sig=>have ha':Bind.checkArgs "max" sig ⟨[.ref l],[("default",d)]⟩=pure ():=by simpa only[argsOk,hsig]using ok
 case' some=>simp only[ha']
 all_goals
  refine wpAny_pure ?_
  show wpAny _ A.in1 (Y2C "max" ["key","default"] 0 ⟨[],[("default",d)]⟩>>= _) _ _ s
  refine wpAny_bind (wpAny_of_eq (show Y2C "max" ["key","default"] 0 ⟨[],[("default",d)]⟩=pure [none,some d]from rfl) ?_)
  refine wpAny_bind (wpAny_pure ?_)
  refine wpAny_bind (iter_intList hl λs₂ e st hfp hlI=>?_)
  subst e
  refine wpAny_bind (wpAny_newObj_type ?_)
  rw[ZiJ]
  have W:=Y3U (prog:=prog) (w:=w) (A:=A.in1) hh _ l hlI (intItems xs)
  refine wpAny_pure ⟨plainId_quiet Y1B _,Zq4 W (CmpOf.ints_gt (numAt xs) (λ_ _=>intItems_at)) (λhm=>Y22 _ (hfp _ hm)) d (W.frame _ _ _ st λb _ o e=>Y03 _ e) (Y0e _ rfl) λv h' tk hv hk=>?_⟩
  refine q v h' tk (by rw[hz]at hv;exact hv) (old_kept (l:=l) λb o hb e=>?_)
  exact hk b o hb (Y0m (Y0i e)) (Y03 _ e)
end
section
variable{X:Cx}{x k:Str}{p pos kp:Pos}{e e0:Expr}{te:TE}
def rMxd(K:Y02)(vs:List V)(H:Hp)(Q:VK):Prop:=∃(a:Addr) (ns:List Int),vs=[.ref a]/\SqL K H a (ns.map V.int)/\∀m,(ns=[]/\m=0\/m∈ns/\∀i∈ns,i≤m)->Q (.int m) H
def tMxd(K:Y02)(te:TE):TE:=λσ H Q=>te σ H λv H1=>rMxd K [v] H1 Q
theorem Znw(hc:X.calm=true)(hg:Gl X "max")(hm:X.mg "max"=none)(ha:PE X e te)(hz:PE X e0 (tC (.int 0)))(he:starEach [e] X.env=(false,eval e X.env)::starEach [] X.env):
  PE X (.Call (.Name "max" p) [e] [⟨some "default",e0,kp⟩] pos) (tMxd X.K te):=by
 intro pins s σ H Q I h
 refine wpAny_Call_Name_kw (Z4o (u:=.builtin "max") I hg hm (by decide+kernel) ?_ (by decide) (by decide))
 refine callWith_kw ?_ (by rw[he];rfl) (by rw[he];rfl)
 refine thn (Z3f ha pa_nil he pos pins s σ H (λvs H1=>rMxd X.K vs H1 Q) I h) λus s1 ⟨vs,H1,I1,r,q⟩=>?_
 obtain⟨a,ns,rfl,hq,q⟩:=q
 obtain⟨u,rfl,ru⟩:=Z6k r
 cases ru
 refine kws_cons (thn (hz pins s1 σ H1 (λv H2=>v=.int 0/\H2=H1) I1 ⟨rfl,rfl⟩) λu s2 ⟨v,H2,I2,r2,ev,eh⟩=>kws_nil ?_)
 subst ev eh
 obtain⟨t0,rfl⟩:=r2
 obtain⟨its,rv,pl,hzl⟩:=I2.list hq
 have hi:IntsAre its ns:=Z7L rv
 obtain⟨xs,e⟩:=hi.allInts.items
 have hns:ns=xs.toList.map (·.1):=by rw[<- hi.numsOf,<- nums_intItems,<- e]
 have hl:=pl.isList
 rw[e]at hl
 refine Zja (I2.ok.hd hc) hl λv h' tk hv hk=>?_
 rcases hv with⟨z,rfl⟩|⟨z,hv⟩
 ·refine⟨.int 0,_,I2.kept hk,⟨t0,rfl⟩,q _ (.inl ⟨?_,rfl⟩)⟩
  rw[hns,List.map_eq_nil_iff,<- Y1u,Y0k];exact z
 ·obtain⟨t,rfl⟩:=intItems_at hv
  obtain⟨h1,h2⟩:=argBest_gt (numAt xs) (xs.size - 1)
  refine⟨.int _,_,I2.kept hk,⟨t,rfl⟩,q _ (.inr ⟨?_,λa ha=>?_⟩)⟩
  ·rw[hns,numAt_eq];exact getD_mem (by rw[Y01,Y0k];lia)
  ·rw[hns]at ha
   obtain⟨j,hj,rfl⟩:=mem_getD ha
   rw[Y01,Y0k]at hj
   rw[<- numAt_eq];exact h2 j (by lia)
end
end L2
namespace L2
open PySem PySem.Spec PyProof.Rows
inductive Ty7 where|int|bool|str|list|tuple|dict|none
  deriving DecidableEq
def Ty7.name:Ty7->String
 |.int=>"int"|.bool=>"bool"|.str=>"str"|.list=>"list"|.tuple=>"tuple"|.dict=>"dict"|.none=>"NoneType"
inductive MV where
 |non|bl (b:Bool)|int (i:Int)|str (x:Str)|tup (xs:List MV)|frl (xs:List MV)|ref (a:Addr)|ty (n:Ty7)
def Zo8:HO->Bool
 |.tup _=>true
 |.frz _ (.lst _)=>true
 |_=>false
def Kp(H H':Hp):Prop:=∀a o,H a=some o->Zo8 o=true->H' a=some o
theorem Kp.refl(H:Hp):Kp H H:=λ_ _ h _=>h
theorem Kp.trans{H H1 H2:Hp}(a:Kp H H1)(b:Kp H1 H2):Kp H H2:=λc o h f=>b c o (a c o h f) f
theorem Kp.new{H:Hp}{p:Addr}(h:H p=none)(o:HO):Kp H (upd H p o):=λa u e _=>by rw[Z0y (Z2b e h)];exact e
theorem Kp.upd{H:Hp}{p:Addr}{o:HO}(h:H p=some o)(f:Zo8 o=false)(o':HO):Kp H (upd H p o'):=λa u e g=>by
 rw[Z0y (ZnR e h (by intro z;rw[z,f]at g;cases g))];exact e
def FrL(K:Y02)(H:Hp)(a:Addr)(vs:List V):Prop:=(∃o,H a=some (.frz o (.lst vs)))\/
 ∃(o:Obj) (its:Array Value) (n:Nat),K.lookup a=some o/\o.cls=.type "list"/\o.dict=none/\o.data=.seq its n/\its.size≤sizeLine/\Vals vs its.toList
theorem FrL.sq{K:Y02}{H:Hp}{a:Addr}{vs:List V}(h:FrL K H a vs):SqL K H a vs:=by
 rcases h with⟨o,h⟩|h
 ·exact .inl (.inr ⟨o,h⟩)
 ·exact .inr h
mutual
inductive RM (K:Y02) (H:Hp):MV->V->Prop
 |non:RM K H .non .non
 |bl (b:Bool):RM K H (.bl b) (.bl b)
 |int (i:Int):RM K H (.int i) (.int i)
 |str (x:Str):RM K H (.str x) (.str x)
 |ref (a:Addr):RM K H (.ref a) (.ref a)
 |ty (n:Ty7):RM K H (.ty n) (.ty n.name)
 |tup {a:Addr} {xs:List MV} {vs:List V}:H a=some (.tup vs)->RMs K H xs vs->RM K H (.tup xs) (.ref a)
 |frl {a:Addr} {xs:List MV} {vs:List V}:FrL K H a vs->RMs K H xs vs->RM K H (.frl xs) (.ref a)
inductive RMs (K:Y02) (H:Hp):List MV->List V->Prop
 |nil:RMs K H [] []
 |cons {x:MV} {v:V} {xs:List MV} {vs:List V}:RM K H x v->RMs K H xs vs->RMs K H (x::xs) (v::vs)
end
mutual
theorem RM.mono{K:Y02}{H H':Hp}(k:Kp H H'):∀{m:MV} {v:V},RM K H m v->RM K H' m v
 |_,_,.non=>.non
 |_,_,.bl b=>.bl b
 |_,_,.int i=>.int i
 |_,_,.str x=>.str x
 |_,_,.ref a=>.ref a
 |_,_,.ty n=>.ty n
 |_,_,.tup h r=>.tup (k _ _ h rfl) (RMs.mono k r)
 |_,_,.frl h r=>.frl (by
   rcases h with⟨o,h⟩|h
   ·exact .inl ⟨o,k _ _ h rfl⟩
   ·exact .inr h) (RMs.mono k r)
theorem RMs.mono{K:Y02}{H H':Hp}(k:Kp H H'):∀{m:List MV} {v:List V},RMs K H m v->RMs K H' m v
 |_,_,.nil=>.nil
 |_,_,.cons a b=>.cons (RM.mono k a) (RMs.mono k b)
end
theorem RMs.length{K:Y02}{H:Hp}:∀{m:List MV} {v:List V},RMs K H m v->m.length=v.length
 |_,_,.nil=>rfl
 |_,_,.cons _ b=>by rw[Y0X,Y0X,b.length]
theorem RMs.get{K:Y02}{H:Hp}:∀{m:List MV} {v:List V} {i:Nat} {x:MV},RMs K H m v->m[i]?=some x->∃u,v[i]?=some u/\RM K H x u
 |_,_,_,_,.nil,e=>by simp at e
 |_,_,0,_,.cons r _,e=>by simp at e;subst e;exact⟨_,rfl,r⟩
 |_,_,i+1,x,.cons _ t,e=>by
  obtain⟨u,h1,h2⟩:=RMs.get (i:=i) (x:=x) t (by simpa using e)
  exact⟨u,by simpa using h1,h2⟩
theorem RMs.get'{K:Y02}{H:Hp}:∀{m:List MV} {v:List V} {i:Nat} {u:V},RMs K H m v->v[i]?=some u->∃x,m[i]?=some x/\RM K H x u
 |_,_,_,_,.nil,e=>by simp at e
 |_,_,0,_,.cons r _,e=>by simp at e;subst e;exact⟨_,rfl,r⟩
 |_,_,i+1,x,.cons _ t,e=>by
  obtain⟨u,h1,h2⟩:=RMs.get' (i:=i) (u:=x) t (by simpa using e)
  exact⟨u,by simpa using h1,h2⟩
theorem RMs.append{K:Y02}{H:Hp}:∀{m m':List MV} {v v':List V},RMs K H m v->RMs K H m' v'->RMs K H (m++m') (v++v')
 |_,_,_,_,.nil,s=>s
 |_,_,_,_,.cons r t,s=>.cons r (t.append s)
theorem RMs.take{K:Y02}{H:Hp}:∀{m:List MV} {v:List V} (n:Nat),RMs K H m v->RMs K H (m.take n) (v.take n)
 |_,_,0,_=>.nil
 |_,_,_+1,.nil=>.nil
 |_,_,n+1,.cons r t=>.cons r (t.take n)
theorem RMs.drop{K:Y02}{H:Hp}:∀{m:List MV} {v:List V} (n:Nat),RMs K H m v->RMs K H (m.drop n) (v.drop n)
 |_,_,0,r=>r
 |_,_,_+1,.nil=>.nil
 |_,_,n+1,.cons _ t=>t.drop n
theorem RMs.set{K:Y02}{H:Hp}{x:MV}{u:V}(r:RM K H x u):∀{m:List MV} {v:List V} (i:Nat),RMs K H m v->RMs K H (m.set i x) (v.set i u)
 |_,_,_,.nil=>.nil
 |_,_,0,.cons _ t=>.cons r t
 |_,_,i+1,.cons q t=>.cons q (t.set r i)
theorem RMs.ints{K:Y02}{H:Hp}:∀ns:List Int,RMs K H (ns.map MV.int) (ns.map V.int)
 |[]=>.nil
 |n::r=>.cons (.int n) (RMs.ints r)
theorem RMs.ints_of{K:Y02}{H:Hp}:∀{ns:List Int} {vs:List V},RMs K H (ns.map MV.int) vs->vs=ns.map V.int
 |[],_,.nil=>rfl
 |n::r,_,.cons (.int _) t=>by rw[t.ints_of];rfl
inductive MO where
 |lst (xs:List MV)|dic (kvs:List (Key×MV))|ins (c:Str) (fs:List (Str×MV))
 |fdic (o:Obj) (kvs:List (Key×MV))
abbrev MH:=Addr->Option MO
def updM(M:MH)(a:Addr)(o:MO):MH:=λb=>if b=a then some o else M b
@[seval]theorem Z02{M:MH}{a:Addr}{o:MO}:updM M a o a=some o:=by unfold updM;rw[if_pos rfl]
theorem Z06{M:MH}{a b:Addr}{o:MO}(h:b≠a):updM M a o b=M b:=by unfold updM;rw[if_neg h]
theorem Z6H{M:MH}{a:Addr}{o u:MO}:updM (updM M a o) a u=updM M a u:=by funext b;unfold updM;split<;>rfl
inductive RKs {κ:Type} (K:Y02) (H:Hp):List (κ×MV)->List (κ×V)->Prop
 |nil:RKs K H [] []
 |cons {k:κ} {x:MV} {v:V} {xs:List (κ×MV)} {vs:List (κ×V)}:RM K H x v->RKs K H xs vs->RKs K H ((k,x)::xs) ((k,v)::vs)
theorem RKs.mono{κ:Type}{K:Y02}{H H':Hp}(k:Kp H H'):∀{m:List (κ×MV)} {v:List (κ×V)},RKs K H m v->RKs K H' m v
 |_,_,.nil=>.nil
 |_,_,.cons a b=>.cons (a.mono k) (b.mono k)
theorem RKs.length{κ:Type}{K:Y02}{H:Hp}:∀{m:List (κ×MV)} {v:List (κ×V)},RKs K H m v->m.length=v.length
 |_,_,.nil=>rfl
 |_,_,.cons _ b=>by rw[Y0X,Y0X,b.length]
section
variable{κ:Type} [DecidableEq κ]
def valM(kvs:List (κ×MV))(k:κ):Option MV:=match kvs with
 |[]=>none
 |(j,v)::r=>if j=k then some v else valM r k
def putM(kvs:List (κ×MV))(k:κ)(v:MV):List (κ×MV):=match kvs with
 |[]=>[(k,v)]
 |(j,u)::r=>if j=k then(j,v)::r else(j,u)::putM r k v
end
def RO(K:Y02)(H:Hp):MO->HO->Prop
 |.lst xs,.lst vs=>RMs K H xs vs
 |.dic kvs,.dK vs=>RKs K H kvs vs/\(kvs.map (·.1)).Nodup
 |.ins c fs,.ins C _ vs=>Y07 K mainGlobals c=some (some (.ref C))/\RKs K H fs vs
 |.fdic o kvs,.frz o' (.dK vs)=>o=o'/\RKs K H kvs vs/\(kvs.map (·.1)).Nodup
 |_,_=>False
theorem RO.mono{K:Y02}{H H':Hp}(k:Kp H H'){o:MO}{u:HO}(h:RO K H o u):RO K H' o u:=by
 cases o with
 |lst xs=>cases u<;>first|exact RMs.mono k h|exact h.elim
 |dic kvs=>cases u<;>first|exact⟨h.1.mono k,h.2⟩|exact h.elim
 |ins c fs=>cases u<;>first|exact⟨h.1,h.2.mono k⟩|exact h.elim
 |fdic ob kvs=>
  cases u with
  |frz o' u=>cases u<;>first|exact⟨h.1,h.2.1.mono k,h.2.2⟩|exact h.elim
  |_=>exact h.elim
def RH(K:Y02)(M:MH)(H:Hp):Prop:=∀a o,M a=some o->∃u,H a=some u/\RO K H o u
theorem RH.free{K:Y02}{M:MH}{H:Hp}(r:RH K M H){p:Addr}(h:H p=none):M p=none:=by
 cases e:M p with
 |none=>rfl
 |some o=>obtain⟨u,hu,_⟩:=r p o e;rw[hu]at h;cases h
theorem RH.lst{K:Y02}{M:MH}{H:Hp}(r:RH K M H){p:Addr}{xs:List MV}(h:M p=some (.lst xs)):∃vs,H p=some (.lst vs)/\RMs K H xs vs:=by
 obtain⟨u,hu,ro⟩:=r p _ h
 cases u<;>try exact ro.elim
 exact⟨_,hu,ro⟩
theorem RH.dic{K:Y02}{M:MH}{H:Hp}(r:RH K M H){p:Addr}{xs:List (Key×MV)}(h:M p=some (.dic xs)):∃vs,H p=some (.dK vs)/\RKs K H xs vs/\(xs.map (·.1)).Nodup:=by
 obtain⟨u,hu,ro⟩:=r p _ h
 cases u<;>try exact ro.elim
 exact⟨_,hu,ro.1,ro.2⟩
theorem RH.fdic{K:Y02}{M:MH}{H:Hp}(r:RH K M H){p:Addr}{o:Obj}{xs:List (Key×MV)}(h:M p=some (.fdic o xs)):∃vs,H p=some (.frz o (.dK vs))/\RKs K H xs vs/\(xs.map (·.1)).Nodup:=by
 obtain⟨u,hu,ro⟩:=r p _ h
 cases u with
 |frz o' u=>
  cases u<;>try exact ro.elim
  obtain⟨rfl,r1,r2⟩:=ro
  exact⟨_,hu,r1,r2⟩
 |_=>exact ro.elim
theorem RH.ins{K:Y02}{M:MH}{H:Hp}(r:RH K M H){p:Addr}{c:Str}{fs:List (Str×MV)}(h:M p=some (.ins c fs)):∃C dx vs,H p=some (.ins C dx vs)/\Y07 K mainGlobals c=some (some (.ref C))/\RKs K H fs vs:=by
 obtain⟨u,hu,ro⟩:=r p _ h
 cases u<;>try exact ro.elim
 exact⟨_,_,_,hu,ro.1,ro.2⟩
theorem RH.put{K:Y02}{M:MH}{H:Hp}(r:RH K M H){p:Addr}{u:HO}{o:MO}(k:Kp H (upd H p u))(ro:RO K (upd H p u) o u):RH K (updM M p o) (upd H p u):=by
 intro a o' e
 by_cases h:a=p
 ·subst h
  rw[Z02]at e
  cases e
  exact⟨u,Z1G,ro⟩
 ·rw[Z06 h]at e
  obtain⟨v,hv,rv⟩:=r a o' e
  exact⟨v,by rw[Z0y h];exact hv,rv.mono k⟩
theorem RH.kept{K:Y02}{M:MH}{H:Hp}(r:RH K M H){p:Addr}(hp:H p=none)(u:HO):RH K M (upd H p u):=by
 intro a o' e
 obtain⟨v,hv,rv⟩:=r a o' e
 exact⟨v,by rw[Z0y (Z2b hv hp)];exact hv,rv.mono (Kp.new hp u)⟩
abbrev Sm:=List (Option MV)
abbrev QM:=MV->MH->Prop
abbrev TEm:=Sm->MH->QM->Prop
abbrev TAm:=Sm->MH->(List MV->MH->Prop)->Prop
def RS(K:Y02)(H:Hp)(σm:Sm)(σ:St):Prop:=σm.length=σ.length/\∀(i:Nat) (m:MV),σm[i]?=some (some m)->∃v,σ[i]?=some (some v)/\RM K H m v
theorem RS.mono{K:Y02}{H H':Hp}(k:Kp H H'){σm:Sm}{σ:St}(h:RS K H σm σ):RS K H' σm σ:=⟨h.1,λi m e=>by
 obtain⟨v,hv,r⟩:=h.2 i m e
 exact⟨v,hv,r.mono k⟩⟩
theorem RS.set{K:Y02}{H:Hp}{σm:Sm}{σ:St}(h:RS K H σm σ){m:MV}{v:V}(r:RM K H m v)(i:Nat):RS K H (σm.set i (some m)) (σ.set i (some v)):=by
 refine⟨by simp[h.1],λj x e=>?_⟩
 rw[Y27]at e
 by_cases hij:i=j
 ·subst hij
  rw[if_pos rfl]at e
  split at e
  ·cases e
   exact⟨v,by rw[Y27,if_pos rfl,if_pos (by rw[<- h.1];assumption)],r⟩
  ·cases e
 ·rw[if_neg hij]at e
  obtain⟨u,hu,ru⟩:=h.2 j x e
  exact⟨u,by rw[Y27,if_neg hij];exact hu,ru⟩
def Dn(K:Y02)(H:Hp)(Q:VK):QM:=λm M=>∀v H',Kp H H'->RM K H' m v->RH K M H'->Q v H'
theorem Dn.on{K:Y02}{H H1:Hp}{Q:VK}(k:Kp H H1){m:MV}{M:MH}(h:Dn K H Q m M):Dn K H1 Q m M:=λv H' k' r rh=>h v H' (k.trans k') r rh
def liE(K:Y02)(t:TEm):TE:=λσ H Q=>∃σm M,RS K H σm σ/\RH K M H/\t σm M (Dn K H Q)
def liA(K:Y02)(t:TAm):TA:=λσ H Q=>∃σm M,RS K H σm σ/\RH K M H/\t σm M (λms M'=>∀vs H',Kp H H'->RMs K H' ms vs->RH K M' H'->Q vs H')
def MonE(t:TEm):Prop:=∀{σ M} {Q Q':QM},(∀m M',Q m M'->Q' m M')->t σ M Q->t σ M Q'
def MonA(t:TAm):Prop:=∀{σ M} {Q Q':List MV->MH->Prop},(∀m M',Q m M'->Q' m M')->t σ M Q->t σ M Q'
abbrev W1:=MV->MH->QM->Prop
abbrev W2:=MV->MV->MH->QM->Prop
abbrev WA:=List MV->MH->QM->Prop
def Mon1(w:W1):Prop:=∀{x M} {Q Q':QM},(∀m M',Q m M'->Q' m M')->w x M Q->w x M Q'
def Mon2(w:W2):Prop:=∀{x y M} {Q Q':QM},(∀m M',Q m M'->Q' m M')->w x y M Q->w x y M Q'
def MonW(w:WA):Prop:=∀{xs M} {Q Q':QM},(∀m M',Q m M'->Q' m M')->w xs M Q->w xs M Q'
def li1(K:Y02)(w:W1):V->Hp->VK->Prop:=λx H Q=>∃mx M,RM K H mx x/\RH K M H/\w mx M (Dn K H Q)
def li2(K:Y02)(w:W2):R2:=λx y H Q=>∃mx my M,RM K H mx x/\RM K H my y/\RH K M H/\w mx my M (Dn K H Q)
def liW(K:Y02)(w:WA):List V->Hp->VK->Prop:=λxs H Q=>∃ms M,RMs K H ms xs/\RH K M H/\w ms M (Dn K H Q)
section
variable{K:Y02}
theorem Zlo{ta tb:TEm}{w:W2}(ma:MonE ta)(mb:MonE tb)(mw:Mon2 w){σ:St}{H:Hp}{Q:VK}
  (h:liE K (λσ M Q=>ta σ M λx M1=>tb σ M1 λy M2=>w x y M2 Q) σ H Q):tOp (li2 K w) (liE K ta) (liE K tb) σ H Q:=by
 obtain⟨σm,M,rs,rh,h⟩:=h
 refine⟨σm,M,rs,rh,ma (λx M1 h1=>?_) h⟩
 intro v H1 k1 r1 rh1
 refine⟨σm,M1,rs.mono k1,rh1,mb (λy M2 h2=>?_) h1⟩
 intro u H2 k2 r2 rh2
 exact⟨x,y,M2,r1.mono k2,r2,rh2,mw (λm M' hq=>hq.on (k1.trans k2)) h2⟩
end
theorem PE.weak{X:Cx}{e:Expr}{t t':TE}(h:PE X e t)(i:∀σ H Q,t' σ H Q->t σ H Q):PE X e t':=λpins s σ H Q I q=>h pins s σ H Q I (i _ _ _ q)
theorem PT.weak{X:Cx}{e:Expr}{t t':TT}(h:PT X e t)(i:∀σ H Q,t' σ H Q->t σ H Q):PT X e t':=λpins s σ H Q I q=>h pins s σ H Q I (i _ _ _ q)
theorem PW.weak{X:Cx}{e:Expr}{t t':TT}(h:PW X e t)(i:∀σ H Q,t' σ H Q->t σ H Q):PW X e t':=λwh pins s σ H Q I q=>h wh pins s σ H Q I (i _ _ _ q)
theorem PA.weak{X:Cx}{e:List Expr}{t t':TA}(h:PA X e t)(i:∀σ H Q,t' σ H Q->t σ H Q):PA X e t':=λpos pins s σ H Q I q=>h pos pins s σ H Q I (i _ _ _ q)
theorem PS.weak{X:Cx}{e:Stmt}{t t':TS}(h:PS X e t)(i:∀D σ H,t' D σ H->t D σ H):PS X e t':=λpins s σ H D I q=>h pins s σ H D I (i _ _ _ q)
theorem PSs.weak{X:Cx}{e:List Stmt}{t t':TS}(h:PSs X e t)(i:∀D σ H,t' D σ H->t D σ H):PSs X e t':=λpins s σ H D I q=>h pins s σ H D I (i _ _ _ q)
end L2
namespace L2
open PySem PySem.Spec PyProof.Rows
def wBin(op:Operator)(x y:MV)(M:MH)(Q:QM):Prop:=match op,x,y with
 |.Add,.int i,.int j=>Q (.int (i+j)) M
 |.Sub,.int i,.int j=>Q (.int (i - j)) M
 |.Mult,.int i,.int j=>CMul i j/\Q (.int (i*j)) M
 |.FloorDiv,.int i,.int j=>Zi6 i j/\Q (.int (i/j)) M
 |.Mod,.int i,.int j=>0<j/\Q (.int (i%j)) M
 |.Pow,.int i,.int j=>CPow i j/\Q (.int (i^j.toNat)) M
 |.Add,.str i,.str j=>i.length+j.length≤sizeLine/\Q (.str (i++j)) M
 |.Mult,.str z,.int i=>z.length≤16/\ -1000≤i/\i≤1000/\Q (.str (Txt.mul z i)) M
 |.Add,.tup xs,.tup ys=>xs≠ []/\xs.length+ys.length≤sizeLine/\Q (.tup (xs++ys)) M
 |.Add,.ref a,.ref b=>∃xs ys,M a=some (.lst xs)/\M b=some (.lst ys)/\xs.length+ys.length≤sizeLine/\∀p,M p=none->Q (.ref p) (updM M p (.lst (xs++ys)))
 |.Add,.frl xs,.ref b=>∃ys,M b=some (.lst ys)/\xs.length+ys.length≤sizeLine/\∀p,M p=none->Q (.ref p) (updM M p (.lst (xs++ys)))
 |.Mult,.tup xs,.int k=>xs≠ []/\1≤k/\xs.length*k.toNat≤1000000/\Q (.tup (Y0l k.toNat xs).flatten) M
 |.Mult,.ref a,.int k=>∃xs,M a=some (.lst xs)/\ -(2^63)≤k/\k<2^63/\xs.length*k.toNat≤sizeLine/\∀p,M p=none->Q (.ref p) (updM M p (.lst (Y0l k.toNat xs).flatten))
 |_,_,_=>False
theorem ZgO(op:Operator):Mon2 (wBin op):=by
 intro x y M Q Q' hq h
 unfold wBin at h ⊢
 split at h
 all_goals first
  |exact hq _ _ h
  |exact h.elim
  |exact⟨h.1,hq _ _ h.2⟩
  |exact⟨h.1,h.2.1,hq _ _ h.2.2⟩
  |exact⟨h.1,h.2.1,h.2.2.1,hq _ _ h.2.2.2⟩
  |(obtain⟨xs,ys,h1,h2,h3,h4⟩:=h
    exact⟨xs,ys,h1,h2,h3,λp hp=>hq _ _ (h4 p hp)⟩)
  |(obtain⟨ys,h2,h3,h4⟩:=h
    exact⟨ys,h2,h3,λp hp=>hq _ _ (h4 p hp)⟩)
  |(obtain⟨ys,h2,h3,h4,h5,h6⟩:=h
    exact⟨ys,h2,h3,h4,h5,λp hp=>hq _ _ (h6 p hp)⟩)
theorem RMs.rep{K:Y02}{H:Hp}{xs:List MV}{vs:List V}(q:RMs K H xs vs):∀k:Nat,RMs K H (Y0l k xs).flatten (Y0l k vs).flatten
 |0=>.nil
 |k+1=>by
  rw[Y13,Y13,Y1L,Y1L]
  exact q.append (q.rep k)
section
variable{X:Cx}
theorem ZnJ(op:Operator):OpR X (binaryOp op) (li2 X.K (wBin op)):=by
 intro pins s σ H x y v u Q I rx ry h
 obtain⟨mx,my,M,r1,r2,rh,h⟩:=h
 unfold wBin at h
 split at h
 ·cases r1;cases r2;exact ZnK pins s σ H _ _ v u Q I rx ry ⟨_,_,rfl,rfl,h _ _ (Kp.refl _) (.int _) rh⟩
 ·cases r1;cases r2;exact ZnA pins s σ H _ _ v u Q I rx ry ⟨_,_,rfl,rfl,h _ _ (Kp.refl _) (.int _) rh⟩
 ·cases r1;cases r2;exact ZnE pins s σ H _ _ v u Q I rx ry ⟨_,_,rfl,rfl,h.1,h.2 _ _ (Kp.refl _) (.int _) rh⟩
 ·cases r1;cases r2;exact ZiD pins s σ H _ _ v u Q I rx ry ⟨_,_,rfl,rfl,h.1,h.2 _ _ (Kp.refl _) (.int _) rh⟩
 ·cases r1;cases r2;exact ZnF pins s σ H _ _ v u Q I rx ry ⟨_,_,rfl,rfl,h.1,h.2 _ _ (Kp.refl _) (.int _) rh⟩
 ·cases r1;cases r2;exact ZnC pins s σ H _ _ v u Q I rx ry ⟨_,_,rfl,rfl,h.1,h.2 _ _ (Kp.refl _) (.int _) rh⟩
 ·cases r1;cases r2;exact Zfj pins s σ H _ _ v u Q I rx ry ⟨_,_,rfl,rfl,h.1,h.2 _ _ (Kp.refl _) (.str _) rh⟩
 ·cases r1;cases r2;exact Zl5 pins s σ H _ _ v u Q I rx ry ⟨_,_,rfl,rfl,h.1,h.2.1,h.2.2.1,h.2.2.2 _ _ (Kp.refl _) (.str _) rh⟩
 ·rename_i xs ys
  cases r1 with
  |tup h1 q1=>
   rename_i a vs
   cases r2 with
   |tup h2 q2=>
    rename_i b us
    obtain⟨h3,h4,h5⟩:=h
    refine Zl7 pins s σ H _ _ v u Q I rx ry ⟨_,_,vs,us,rfl,rfl,SqT.of h1,SqT.of h2,λz=>h3 ?_,by rw[<- q1.length,<- q2.length];exact h4,λz=>?_,λz p hp=>?_⟩
    ·subst z;cases q1;rfl
    ·subst z;cases q2
     rw[Y2i]at h5
     exact h5 _ _ (Kp.refl _) (.tup h1 q1) rh
    ·have k:=Kp.new hp (.tup (vs++us))
     exact h5 _ _ k (.tup Z1G ((q1.append q2).mono k)) (rh.kept hp _)
 ·cases r1;cases r2
  obtain⟨xs,ys,h1,h2,h3,h4⟩:=h
  obtain⟨vs,e1,q1⟩:=rh.lst h1
  obtain⟨us,e2,q2⟩:=rh.lst h2
  refine ZnI pins s σ H _ _ v u Q I rx ry ⟨_,_,vs,us,rfl,rfl,e1,e2,by rw[<- q1.length,<- q2.length];exact h3,λp hp=>?_⟩
  have k:=Kp.new hp (.lst (vs++us))
  exact h4 p (rh.free hp) _ _ k (.ref p) (rh.put k ((q1.append q2).mono k))
 ·cases r2
  cases r1 with
  |frl e1 q1=>
   rename_i vs
   obtain⟨ys,h2,h3,h4⟩:=h
   obtain⟨us,e2,q2⟩:=rh.lst h2
   refine Zl8 pins s σ H _ _ v u Q I rx ry ⟨_,_,vs,us,rfl,rfl,e1.sq,SqL.of e2,by rw[<- q1.length,<- q2.length];exact h3,λp hp=>?_⟩
   have k:=Kp.new hp (.lst (vs++us))
   exact h4 p (rh.free hp) _ _ k (.ref p) (rh.put k ((q1.append q2).mono k))
 ·rename_i xs k
  cases r2
  cases r1 with
  |tup h1 q1=>
   rename_i a vs
   obtain⟨h3,h4,h5,h6⟩:=h
   refine Zl4 pins s σ H _ _ v u Q I rx ry ⟨_,_,vs,rfl,rfl,SqT.of h1,λz=>h3 ?_,h4,by rw[<- q1.length];exact h5,λz=>?_,λz p hp=>?_⟩
   ·subst z;cases q1;rfl
   ·subst z
    have e:(Y0l (1:Int).toNat xs).flatten=xs:=by simp
    rw[e]at h6
    exact h6 _ _ (Kp.refl _) (.tup h1 q1) rh
   ·have kk:=Kp.new hp (.tup (Y0l k.toNat vs).flatten)
    exact h6 _ _ kk (.tup Z1G ((q1.rep k.toNat).mono kk)) (rh.kept hp _)
 ·rename_i a k
  cases r1;cases r2
  obtain⟨xs,h1,h2,h3,h4,h5⟩:=h
  obtain⟨vs,e1,q1⟩:=rh.lst h1
  refine ZnB pins s σ H _ _ v u Q I rx ry ⟨_,_,vs,rfl,rfl,e1,h2,h3,by rw[<- q1.length];exact h4,λp hp=>?_⟩
  have kk:=Kp.new hp (.lst (Y0l k.toNat vs).flatten)
  exact h5 p (rh.free hp) _ _ kk (.ref p) (rh.put kk ((q1.rep k.toNat).mono kk))
 ·exact h.elim
end
mutual
inductive DM (M:MH):MV->PyData->Prop
 |non:DM M .non .none
 |bl (b:Bool):DM M (.bl b) (.bool b)
 |int (i:Int):DM M (.int i) (.int i)
 |str (x:Str):DM M (.str x) (.str x)
 |lst {a:Addr} {xs:List MV} {ds:List PyData}:M a=some (.lst xs)->DMs M xs ds->DM M (.ref a) (.list ds)
 |frl {xs:List MV} {ds:List PyData}:DMs M xs ds->DM M (.frl xs) (.list ds)
 |tup {xs:List MV} {ds:List PyData}:DMs M xs ds->DM M (.tup xs) (.tuple ds)
inductive DMs (M:MH):List MV->List PyData->Prop
 |nil:DMs M [] []
 |cons {x:MV} {xs:List MV} {d:PyData} {ds:List PyData}:DM M x d->DMs M xs ds->DMs M (x::xs) (d::ds)
end
mutual
theorem DM.dp{K:Y02}{M:MH}{H:Hp}(rh:RH K M H):∀{m:MV} {d:PyData} {v:V},DM M m d->RM K H m v->Dp K H v d
 |_,_,_,.non,.non=>.non
 |_,_,_,.bl b,.bl _=>.bl b
 |_,_,_,.int i,.int _=>.int i
 |_,_,_,.str x,.str _=>.str x
 |_,_,_,.lst h q,r=>by
  cases r
  obtain⟨vs,e,r⟩:=rh.lst h
  exact .lst (SqL.of e) (DMs.dp rh q r)
 |_,_,_,.frl q,.frl h r=>.lst h.sq (DMs.dp rh q r)
 |_,_,_,.tup q,.tup h r=>.tup (SqT.of h) (DMs.dp rh q r)
theorem DMs.dp{K:Y02}{M:MH}{H:Hp}(rh:RH K M H):∀{m:List MV} {d:List PyData} {v:List V},DMs M m d->RMs K H m v->DpAll K H v d
 |_,_,_,.nil,.nil=>.nil
 |_,_,_,.cons a b,.cons c d=>.cons (DM.dp rh a c) (DMs.dp rh b d)
end
def eqS:MV->MV->Option Bool
 |.int i,.int j=>some (decide (i=j))
 |.str i,.str j=>some (decide (i=j))
 |.bl i,.bl j=>some (decide (i=j))
 |.non,.non=>some true
 |.non,.int _=>some false|.int _,.non=>some false|.non,.bl _=>some false|.bl _,.non=>some false|.non,.str _=>some false|.str _,.non=>some false
 |.int _,.str _=>some false|.str _,.int _=>some false|.bl _,.str _=>some false|.str _,.bl _=>some false
 |_,_=>none
theorem Zkc{K:Y02}{H:Hp}{x y:MV}{u v:V}{b:Bool}(h:eqS x y=some b)(r:RM K H x u)(q:RM K H y v):scal u v=true/\decide (u=v)=b:=by
 unfold eqS at h
 split at h<;>cases h<;>cases r<;>cases q<;>refine⟨rfl,?_⟩
 ·rw[decide_eq_decide];exact⟨V.int.inj,λe=>by rw[e]⟩
 ·rw[decide_eq_decide];exact⟨V.str.inj,λe=>by rw[e]⟩
 ·rw[decide_eq_decide];exact⟨V.bl.inj,λe=>by rw[e]⟩
 all_goals rfl
inductive DHits (M:MH) (kb:List (Key×MV)):List (Key×MV)->Bool->Prop
 |nil:DHits M kb [] true
 |miss {k:Key} {v:MV} {r:List (Key×MV)}:valM kb k=none->DHits M kb ((k,v)::r) false
 |hit {k:Key} {v y:MV} {d e:PyData} {r:List (Key×MV)} {b:Bool}:valM kb k=some y->DM M v d->DM M y e->Y20 d=true->Y20 e=true->DHits M kb r b->DHits M kb ((k,v)::r) (PyData.eqv d e&&b)
def LstM(M:MH)(x:MV)(xs:List MV):Prop:=x=.frl xs\/∃a,x=.ref a/\M a=some (.lst xs)
def Z3X:MV->Bool
 |.non=>true|.bl _=>true|.int _=>true|.str _=>true|_=>false
def Alike(M:MH):Nat->MV->MV->Prop
 |0,x,y=>Z3X x=true/\x=y
 |n+1,x,y=>(Z3X x=true/\x=y)\/(∃xs ys,x=.tup xs/\y=.tup ys/\xs.length=ys.length/\∀(i:Nat) u v,xs[i]?=some u->ys[i]?=some v->Alike M n u v)\/
  (∃xs ys,LstM M x xs/\LstM M y ys/\xs.length=ys.length/\∀(i:Nat) u v,xs[i]?=some u->ys[i]?=some v->Alike M n u v)\/
  ∃a b ka kb,x=.ref a/\y=.ref b/\M a=some (.dic ka)/\M b=some (.dic kb)/\ka.length=kb.length/\∀k u,(k,u)∈ka->∃v,valM kb k=some v/\Alike M n u v
def wEq(x y:MV)(M:MH)(k:Bool->Prop):Prop:=match eqS x y with
 |some b=>k b
 |none=>(∃n≤60,Alike M n x y/\k true)\/(∃a b xs,x=.ref a/\y=.ref b/\M a=some (.lst xs)/\M b=some (.lst [])/\k xs.isEmpty)\/(∃d e,DM M x d/\DM M y e/\Y20 d=true/\Y20 e=true/\k (PyData.eqv d e))\/
  ∃a b ka kb r,x=.ref a/\y=.ref b/\M a=some (.dic ka)/\M b=some (.dic kb)/\DHits M kb ka r/\k (ka.length==kb.length&&r)
def toV:MV->V
 |.non=>.non|.bl b=>.bl b|.int i=>.int i|.str x=>.str x|_=>.non
theorem Z3W{K:Y02}{H:Hp}{m:MV}{v:V}(f:Z3X m=true)(r:RM K H m v):v=toV m/\Zax v=true:=by
 cases r<;>first|exact⟨rfl,rfl⟩|cases f
theorem Z3V{K:Y02}{H:Hp}:∀{m:List MV} {v:List V},m.all Z3X=true->RMs K H m v->v=m.map toV/\v.all Zax=true
 |_,_,_,.nil=>⟨rfl,rfl⟩
 |_,_,f,.cons r t=>by
  rw[Y24,Y0H]at f
  obtain⟨e,g⟩:=Z3W f.1 r
  obtain⟨e2,g2⟩:=Z3V f.2 t
  subst e e2
  exact⟨rfl,by rw[Y24,g,g2];rfl⟩
def keyM:MV->Option Key
 |.int i=>some (.inl i)
 |.str x=>some (.inr x)
 |_=>none
theorem Zcv{K:Y02}{H:Hp}{m:MV}{v:V}{k:Key}(e:keyM m=some k)(r:RM K H m v):v=kV k:=by
 cases r<;>cases e<;>rfl
theorem Z4f{K:Y02}{H:Hp}{k:Key}:∀{m:List (Key×MV)} {v:List (Key×V)},RKs K H m v->(valM m k=none/\valV v k=none)\/∃x u,valM m k=some x/\valV v k=some u/\RM K H x u
 |_,_,.nil=>.inl ⟨rfl,rfl⟩
 |_,_,.cons (k:=j) (x:=x) (v:=u) r t=>by
  by_cases e:j=k
  ·refine .inr ⟨x,u,?_,Z8T (p:=(j,u)) e,r⟩
   unfold valM;rw[if_pos e]
  ·have:=Z4f (k:=k) t
   unfold valM;rw[if_neg e,Z8U (p:=(j,u)) e]
   exact this
theorem ZjE{K:Y02}{H:Hp}{k:Key}:∀{m:List (Key×MV)} {v:List (Key×V)},RKs K H m v->(v.any λkv=>decide (kv.1=k))=(m.any λkv=>decide (kv.1=k))
 |_,_,.nil=>rfl
 |_,_,.cons r t=>by rw[Y1t,Y1t,ZjE t]
theorem Zgo{K:Y02}{H:Hp}{k:Key}{x:MV}{u:V}(r:RM K H x u):∀{m:List (Key×MV)} {v:List (Key×V)},RKs K H m v->
  RKs K H (m.map λkv=>if kv.1=k then(kv.1,x)else kv) (v.map λkv=>if kv.1=k then(kv.1,u)else kv)
 |_,_,.nil=>.nil
 |_,_,.cons (k:=j) q t=>by
  rw[Y0h,Y0h]
  by_cases e:j=k
  ·rw[if_pos e,if_pos e];exact .cons r (Zgo r t)
  ·rw[if_neg e,if_neg e];exact .cons q (Zgo r t)
theorem ZjD{κ:Type}{K:Y02}{H:Hp}:∀{m m':List (κ×MV)} {v v':List (κ×V)},RKs K H m v->RKs K H m' v'->RKs K H (m++m') (v++v')
 |_,_,_,_,.nil,s=>s
 |_,_,_,_,.cons r t,s=>.cons r (ZjD t s)
theorem ZjW{κ:Type} [DecidableEq κ] {k:κ}{x:MV}:∀{m:List (κ×MV)},¬k∈m.map (·.1)->(m.map λkv=>if kv.1=k then(kv.1,x)else kv)=m
 |[],_=>rfl
 |(j,y)::r,h=>by
  rw[Y0h,if_neg (λe=>h (by simp[show j=k from e])),ZjW (λe=>h (by simp[e]))]
theorem Zgt{κ:Type} [DecidableEq κ] {k:κ}{x:MV}:∀{m:List (κ×MV)},(m.map (·.1)).Nodup->putM m k x=if(m.any λkv=>decide (kv.1=k))=true then m.map (λkv=>if kv.1=k then(kv.1,x)else kv)else m++[(k,x)]
 |[],_=>rfl
 |(j,y)::r,h=>by
  rw[Y0h,Y11]at h
  unfold putM
  rw[Y1t]
  by_cases e:j=k
  ·subst e
   rw[if_pos rfl,if_pos (by simp),Y0h,if_pos rfl,ZjW h.1]
  ·rw[if_neg e,Zgt h.2,show decide ((j,y).1=k)=false from decide_eq_false e,Bool.false_or,Y0h,if_neg (show¬(j,y).1=k from e)]
   split<;>rfl
theorem Zci{κ:Type} [DecidableEq κ] {k:κ}{x:MV}:∀(m:List (κ×MV)),((putM m k x).map (·.1))=if k∈m.map (·.1)then m.map (·.1)else m.map (·.1)++[k]
 |[]=>rfl
 |(j,y)::r=>by
  unfold putM
  by_cases e:j=k
  ·subst e;simp
  ·rw[if_neg e,Y0h,Zci r,Y0h]
   have e':k≠j:=λz=>e z.symm
   by_cases m:k∈r.map (·.1)
   ·rw[if_pos m,if_pos (Y0f.mpr (.inr m))]
   ·rw[if_neg m,if_neg (λz=>(Y0f.mp z).elim e' m)];rfl
theorem Zgs{K:Y02}{H:Hp}{k:Key}{x:MV}{u:V}(r:RM K H x u){m:List (Key×MV)}{v:List (Key×V)}(nd:(m.map (·.1)).Nodup)(h:RKs K H m v):
  RKs K H (putM m k x) (putK v k u)/\((putM m k x).map (·.1)).Nodup:=by
 refine⟨?_,?_⟩
 ·rw[Zgt nd]
  unfold putK
  rw[ZjE h]
  split
  ·exact Zgo r h
  ·exact ZjD h (.cons r .nil)
 ·rw[Zci]
  split
  ·exact nd
  ·exact ZgJ nd (by assumption)
def wIn(x y:MV)(M:MH)(k:Bool->Prop):Prop:=match y with
 |.tup xs=>Z3X x=true/\xs.all Z3X=true/\k (inV (toV x) (xs.map toV))
 |.frl xs=>Z3X x=true/\xs.all Z3X=true/\k (inV (toV x) (xs.map toV))
 |.ref a=>(∃xs,M a=some (.lst xs)/\Z3X x=true/\xs.all Z3X=true/\k (inV (toV x) (xs.map toV)))\/∃kvs kk,M a=some (.dic kvs)/\keyM x=some kk/\k (valM kvs kk).isSome
 |_=>False
def Z8M:MV->Bool
 |.non=>true|_=>false
def isBl(b:Bool):MV->Bool
 |.bl c=>decide (c=b)
 |_=>false
def wCmp(op:CmpOp)(x y:MV)(M:MH)(Q:QM):Prop:=match op with
 |.Lt=>∃i j,x=.int i/\y=.int j/\Q (.bl (decide (i<j))) M
 |.LtE=>(∃i j,x=.int i/\y=.int j/\Q (.bl (decide (i≤j))) M)\/∃i j,x=.str i/\y=.str j/\Q (.bl (!decide (j.cps.toList<i.cps.toList))) M
 |.Gt=>∃i j,x=.int i/\y=.int j/\Q (.bl (decide (j<i))) M
 |.GtE=>∃i j,x=.int i/\y=.int j/\Q (.bl (decide (j≤i))) M
 |.Eq=>wEq x y M λb=>Q (.bl b) M
 |.NotEq=>wEq x y M λb=>Q (.bl (!b)) M
 |.In=>wIn x y M λb=>Q (.bl b) M
 |.NotIn=>wIn x y M λb=>Q (.bl (!b)) M
 |.Is=>(y=.non/\Q (.bl (Z8M x)) M)\/∃b,y=.bl b/\Q (.bl (isBl b x)) M
 |.IsNot=>(y=.non/\Q (.bl (!Z8M x)) M)\/∃b,y=.bl b/\Q (.bl (!isBl b x)) M
theorem ZjT{x y:MV}{M:MH}{k k':Bool->Prop}(hk:∀b,k b->k' b)(h:wEq x y M k):wEq x y M k':=by
 unfold wEq at h ⊢
 split
 ·rename_i b e;rw[e]at h;exact hk _ h
 ·rename_i e;rw[e]at h
  rcases h with⟨n,h1,h2,h3⟩|⟨a,b,xs,h1,h2,h3,h4,h5⟩|⟨d,e,h1,h2,h3,h4,h5⟩|⟨a,b,ka,kb,r,h1,h2,h3,h4,h5,h6⟩
  ·exact .inl ⟨n,h1,h2,hk _ h3⟩
  ·exact .inr (.inl ⟨a,b,xs,h1,h2,h3,h4,hk _ h5⟩)
  ·exact .inr (.inr (.inl ⟨d,e,h1,h2,h3,h4,hk _ h5⟩))
  ·exact .inr (.inr (.inr ⟨a,b,ka,kb,r,h1,h2,h3,h4,h5,hk _ h6⟩))
theorem ZjS{x y:MV}{M:MH}{k k':Bool->Prop}(hk:∀b,k b->k' b)(h:wIn x y M k):wIn x y M k':=by
 unfold wIn at h ⊢
 split at h
 ·exact⟨h.1,h.2.1,hk _ h.2.2⟩
 ·exact⟨h.1,h.2.1,hk _ h.2.2⟩
 ·rcases h with⟨xs,h1,h2,h3,h4⟩|⟨kvs,kk,h1,h2,h3⟩
  ·exact .inl ⟨xs,h1,h2,h3,hk _ h4⟩
  ·exact .inr ⟨kvs,kk,h1,h2,hk _ h3⟩
 ·exact h.elim
theorem Z7C(op:CmpOp):Mon2 (wCmp op):=by
 intro x y M Q Q' hq h
 cases op
 ·exact ZjT (k:=λb=>Q (.bl b) M) (k':=λb=>Q' (.bl b) M) (λb h=>hq _ _ h) h
 ·exact ZjT (k:=λb=>Q (.bl (!b)) M) (k':=λb=>Q' (.bl (!b)) M) (λb h=>hq _ _ h) h
 ·obtain⟨i,j,h1,h2,h3⟩:=h;exact⟨i,j,h1,h2,hq _ _ h3⟩
 ·rcases h with⟨i,j,h1,h2,h3⟩|⟨i,j,h1,h2,h3⟩
  ·exact .inl ⟨i,j,h1,h2,hq _ _ h3⟩
  ·exact .inr ⟨i,j,h1,h2,hq _ _ h3⟩
 ·obtain⟨i,j,h1,h2,h3⟩:=h;exact⟨i,j,h1,h2,hq _ _ h3⟩
 ·obtain⟨i,j,h1,h2,h3⟩:=h;exact⟨i,j,h1,h2,hq _ _ h3⟩
 ·rcases h with h|⟨b,e,h⟩
  ·exact .inl ⟨h.1,hq _ _ h.2⟩
  ·exact .inr ⟨b,e,hq _ _ h⟩
 ·rcases h with h|⟨b,e,h⟩
  ·exact .inl ⟨h.1,hq _ _ h.2⟩
  ·exact .inr ⟨b,e,hq _ _ h⟩
 ·exact ZjS (k:=λb=>Q (.bl b) M) (k':=λb=>Q' (.bl b) M) (λb h=>hq _ _ h) h
 ·exact ZjS (k:=λb=>Q (.bl (!b)) M) (k':=λb=>Q' (.bl (!b)) M) (λb h=>hq _ _ h) h
section
variable{X:Cx}
theorem Zh8{K:Y02}{H:Hp}{m:MV}{v:V}{b:Bool}(r:RM K H m v):decide (v=.bl b)=isBl b m:=by
 cases r<;>first|rfl|(rename_i c;cases b<;>cases c<;>rfl)
theorem ZeO{K:Y02}{H:Hp}{m:MV}{v:V}(r:RM K H m v):decide (v=.non)=Z8M m:=by cases r<;>rfl
theorem Zo0{kvs:List (Key×V)}{vs:List (Key×Value)}{k:Key}{v:V}(r:KV kvs vs)(h:valV kvs k=some v):∃u,valueAt vs k=some u/\RelV v u:=by
 have q:=r.val k
 rw[h]at q
 exact RelO.some_of q
theorem Zq5{kvs:List (Key×V)}{vs:List (Key×Value)}{k:Key}(r:KV kvs vs)(h:valV kvs k=none):valueAt vs k=none:=by
 have q:=r.val k
 rw[h]at q
 exact RelO.none_of q
theorem DHits.hits{pins:List (Addr×Obj)}{s:Shared}{σ:St}{H:Hp}{M:MH}(I:Inv X pins σ H s)(rh:RH X.K M H)(hu:X.A.in1.units+64<cLine){kb:List (Key×MV)}{vb:List (Key×V)}{ub:List (Key×Value)}(rb:RKs X.K H kb vb)(qb:KV vb ub):
  ∀{ka:List (Key×MV)} {r:Bool},DHits M kb ka r->∀{va:List (Key×V)} {ua:List (Key×Value)},RKs X.K H ka va->KV va ua->PySem.W.KeqHits X.A.in1 s ub ua r:=by
 intro ka r h
 induction h with
 |nil=>
  intro va ua ra qa
  cases ra
  cases qa
  exact .nil
 | @miss k v r hn=>
  intro va ua ra qa
  cases ra with
  |cons r1 r2=>
   cases qa with
   | @cons _ p _ _ q1 q2=>
    obtain⟨pk,pv⟩:=p
    have e:k=pk:=q1.1
    subst e
    rcases Z4f (k:=k) rb with⟨z1,z2⟩|⟨x',u',z1,z2,_⟩
    ·exact .miss (Zq5 qb z2)
    ·rw[hn]at z1;cases z1
 | @hit k v y d e r b hy hd he sd se _ ih=>
  intro va ua ra qa
  cases ra with
  |cons r1 r2=>
   cases qa with
   | @cons _ p _ _ q1 q2=>
    obtain⟨pk,pv⟩:=p
    have e:k=pk:=q1.1
    subst e
    rcases Z4f (k:=k) rb with⟨z1,z2⟩|⟨x',u',z1,z2,r3⟩
    ·rw[hy]at z1;cases z1
    ·rw[hy]at z1;cases z1
     obtain⟨w',hw,rw'⟩:=Zo0 qb z2
     obtain⟨as,a1⟩:=(hd.dp rh r1).reads I q1.2
     obtain⟨bs,b1⟩:=(he.dp rh r3).reads I rw'
     exact .hit hw (PySem.W.keq_at a1 b1 sd se hu) (ih r2 q2)
theorem LstM.sq{M:MH}{H:Hp}(rh:RH X.K M H){x:MV}{xs:List MV}{u:V}(h:LstM M x xs)(r:RM X.K H x u):∃a vs,u=.ref a/\SqL X.K H a vs/\RMs X.K H xs vs:=by
 rcases h with rfl|⟨a,rfl,h⟩
 ·cases r with
  |frl h1 q1=>exact⟨_,_,rfl,h1.sq,q1⟩
 ·cases r
  obtain⟨vs,e,q⟩:=rh.lst h
  exact⟨a,vs,rfl,SqL.of e,q⟩
theorem Z8S{xs:List V}{us:List Value}(r:Vals xs us){i:Nat}{u:Value}(h:us[i]?=some u):∃x,xs[i]?=some x/\RelV x u:=by
 induction r generalizing i with
 |nil=>cases h
 |cons q _ ih=>
  cases i with
  |zero=>cases h;exact⟨_,rfl,q⟩
  |succ i=>exact ih (i:=i) h
theorem ZnX{kvs:List (Key×V)}{vs:List (Key×Value)}(r:KV kvs vs){k:Key}{u:Value}(h:(k,u)∈vs):∃x,(k,x)∈kvs/\RelV x u:=by
 induction r with
 |nil=>cases h
 | @cons p p' _ _ q _ ih=>
  obtain⟨k1,x1⟩:=p
  obtain⟨k2,x2⟩:=p'
  rcases Y0f.mp h with e|h
  ·cases e
   have e1:k1=k:=q.1
   subst e1
   exact⟨x1,Y0v,q.2⟩
  ·obtain⟨x,m,rx⟩:=ih h
   exact⟨x,Y0n _ m,rx⟩
theorem ZjB{K:Y02}{H:Hp}{k:Key}{v:V}:∀{m:List (Key×MV)} {vs:List (Key×V)},RKs K H m vs->(k,v)∈vs->∃x,(k,x)∈m/\RM K H x v
 |_,_,.nil,h=>by cases h
 |_,_,.cons r t,h=>by
  rcases Y0f.mp h with e|h
  ·cases e;exact⟨_,Y0v,r⟩
  ·obtain⟨x,m,q⟩:=ZjB t h
   exact⟨x,Y0n _ m,q⟩
theorem Alike.inn{pins:List (Addr×Obj)}{s:Shared}{σ:St}{H:Hp}{M:MH}(I:Inv X pins σ H s)(rh:RH X.K M H){n:Nat}{A:Around}(hu:A.units<cLine)
  (ih:∀{x y:MV} {u v:V} {u' v':Value},Alike M n x y->RM X.K H x u->RM X.K H y v->RelV u u'->RelV v v'->AliP X.prog X.w A.in1 s u' v')
  {x y:MV} {u v:V} {u' v':Value} (h:Alike M (n+1) x y) (r1:RM X.K H x u) (r2:RM X.K H y v) (q1:RelV u u') (q2:RelV v v'):
  (Z3X x=true/\x=y)\/∃a b,u'=.ref a/\v'=.ref b/\RcP X.prog X.w A s (.ref a) (.ref b)/\RnP X.prog X.w A s (.ref a) (.ref b):=by
 rw[Alike]at h
 rcases h with h|⟨xs,ys,rfl,rfl,e,h⟩|⟨xs,ys,h1,h2,e,h⟩|⟨a,b,ka,kb,rfl,rfl,h1,h2,e,h⟩
 ·exact .inl h
 ·cases r1 with
  |tup g1 w1=>
   cases r2 with
   |tup g2 w2=>
    rename_i a vs b us
    obtain rfl:u'=Y0q a:=q1
    obtain rfl:v'=Y0q b:=q2
    obtain⟨i1,p1,t1,_⟩:=I.tuple (SqT.of g1)
    obtain⟨i2,p2,t2,_⟩:=I.tuple (SqT.of g2)
    have z:i1.toArray.size=i2.toArray.size:=by rw[Y0g,Y0g,<- p1.length,<- p2.length,<- w1.length,<- w2.length];exact e
    have he:∀p∈i1.toArray.toList.zip i2.toArray.toList,AliP X.prog X.w A.in1 s p.1 p.2:=by
     intro p hp
     obtain⟨i,hi⟩:=List.mem_iff_getElem?.mp hp
     rw[Y2a]at hi
     obtain⟨x1,c1,d1⟩:=Z8S p1 hi.1
     obtain⟨x2,c2,d2⟩:=Z8S p2 hi.2
     obtain⟨m1,c3,d3⟩:=w1.get' c1
     obtain⟨m2,c4,d4⟩:=w2.get' c2
     exact ih (h i m1 m2 c3 c4) d3 d4 d1 d2
    exact .inr ⟨_,_,rfl,rfl,ZmH t1 t2 z hu he,Zld t1 t2 z hu he⟩
 ·obtain⟨a,vs,rfl,g1,w1⟩:=h1.sq rh r1
  obtain⟨b,us,rfl,g2,w2⟩:=h2.sq rh r2
  obtain rfl:u'=Y0q a:=q1
  obtain rfl:v'=Y0q b:=q2
  obtain⟨i1,p1,⟨o1,n1,t1,t2,_,t3⟩,_⟩:=I.list g1
  obtain⟨i2,p2,⟨o2,n2,t4,t5,_,t6⟩,_⟩:=I.list g2
  have z:i1.toArray.size=i2.toArray.size:=by rw[Y0g,Y0g,<- p1.length,<- p2.length,<- w1.length,<- w2.length];exact e
  have he:∀j (h1:j<i1.toArray.size) (h2:j<i2.toArray.size),AliP X.prog X.w A.in1 s i1.toArray[j] i2.toArray[j]:=by
   intro i l1 l2
   obtain⟨x1,c1,d1⟩:=Z8S p1 (i:=i) (u:=i1.toArray[i]) (by simp[Y00 (show i<i1.length by simpa using l1)])
   obtain⟨x2,c2,d2⟩:=Z8S p2 (i:=i) (u:=i2.toArray[i]) (by simp[Y00 (show i<i2.length by simpa using l2)])
   obtain⟨m1,c3,d3⟩:=w1.get' c1
   obtain⟨m2,c4,d4⟩:=w2.get' c2
   exact ih (h i m1 m2 c3 c4) d3 d4 d1 d2
  exact .inr ⟨_,_,rfl,rfl,ZmI ⟨o1,t1,t2,n1,t3⟩ ⟨o2,t4,t5,n2,t6⟩ z hu he,Zle ⟨o1,t1,t2,n1,t3⟩ ⟨o2,t4,t5,n2,t6⟩ z hu he⟩
 ·cases r1;cases r2
  obtain rfl:u'=Y0q a:=q1
  obtain rfl:v'=Y0q b:=q2
  obtain⟨va,ea,wa,_⟩:=rh.dic h1
  obtain⟨vb,eb,wb,_⟩:=rh.dic h2
  obtain⟨_,na,ua,pa,da⟩:=ZcK I.hok ea
  obtain⟨_,nb,ub,pb,db⟩:=ZcK I.hok eb
  have z:ua.length=ub.length:=by rw[<- Paired.length pa,<- wa.length,<- Paired.length pb,<- wb.length];exact e
  have he:∀p∈ua,∃y,valueAt ub p.1=some y/\AliP X.prog X.w A.in1 s p.2 y:=by
   rintro⟨k,u1⟩ hp
   obtain⟨x1,c1,d1⟩:=ZnX pa hp
   obtain⟨m1,c2,d2⟩:=ZjB wa c1
   obtain⟨m2,c3,c4⟩:=h k m1 c2
   rcases Z4f (k:=k) wb with⟨z1,z2⟩|⟨x',u2,z1,z2,r3⟩
   ·rw[c3]at z1;cases z1
   ·rw[c3]at z1;cases z1
    obtain⟨w',hw,rw'⟩:=Zo0 pb z2
    exact⟨w',hw,ih c4 d2 r3 d1 rw'⟩
  exact .inr ⟨_,_,rfl,rfl,ZmJ na nb da db hu z he,Zlf na nb da db hu z he⟩
theorem Zbd{K:Y02}{H:Hp}{A:Around}{s:Shared}{P:Program}{w:World}{x:MV}{u v:V}{u' v':Value}(f:Z3X x=true)(r1:RM K H x u)(r2:RM K H x v)(q1:RelV u u')(q2:RelV v v'):AliP P w A s u' v':=by
 obtain⟨rfl,f1⟩:=Z3W f r1
 obtain⟨rfl,f2⟩:=Z3W f r2
 have h:=Zkd (A:=A) (s:=s) q1 q2 f1 f2
 have e:eqV (toV x) (toV x)=true:=by cases x<;>first|(cases f;done)|simp[toV,eqV]
 rw[e]at h
 exact .of_at h
theorem Alike.ok{pins:List (Addr×Obj)}{s:Shared}{σ:St}{H:Hp}{M:MH}(I:Inv X pins σ H s)(rh:RH X.K M H):∀(n:Nat) {A:Around} {x y:MV} {u v:V} {u' v':Value},A.units+n<cLine->Alike M n x y->RM X.K H x u->RM X.K H y v->RelV u u'->RelV v v'->AliP X.prog X.w A s u' v'
 |0,A,x,y,u,v,u',v',hu,h,r1,r2,q1,q2=>by
  rw[Alike]at h
  obtain⟨f,rfl⟩:=h
  exact Zbd f r1 r2 q1 q2
 |n+1,A,x,y,u,v,u',v',hu,h,r1,r2,q1,q2=>by
  rcases Alike.inn I rh (A:=A) (by lia) (λh r1 r2 q1 q2=>Alike.ok I rh n (show A.units+1+n<cLine by lia) h r1 r2 q1 q2) h r1 r2 q1 q2 with⟨f,rfl⟩|⟨a,b,rfl,rfl,h,_⟩
  ·exact Zbd f r1 r2 q1 q2
  ·exact .refs h
theorem Alike.top{pins:List (Addr×Obj)}{s:Shared}{σ:St}{H:Hp}{M:MH}(I:Inv X pins σ H s)(rh:RH X.K M H){n:Nat}{x y:MV}{u v:V}{u' v':Value}(h:Alike M n x y)(hu:X.A.units+n<cLine)(ns:eqS x y=none)(r1:RM X.K H x u)(r2:RM X.K H y v)(q1:RelV u u')(q2:RelV v v'):
  RcP X.prog X.w X.A s u' v'/\RnP X.prog X.w X.A s u' v':=by
 have no:¬(Z3X x=true/\x=y):=by
  rintro⟨f,rfl⟩
  cases x<;>first|(cases f;done)|(cases ns;done)
 cases n with
 |zero=>rw[Alike]at h;exact(no h).elim
 |succ n=>
  rcases Alike.inn I rh (A:=X.A) (by lia) (λh r1 r2 q1 q2=>Alike.ok I rh n (show X.A.units+1+n<cLine by lia) h r1 r2 q1 q2) h r1 r2 q1 q2 with f|⟨a,b,rfl,rfl,h,h'⟩
  ·exact(no f).elim
  ·exact⟨h,h'⟩
theorem ZaK(hu:X.A.units+70<cLine)(op:CmpOp):OpR X (compareOp op) (li2 X.K (wCmp op)):=by
 intro pins s σ H x y v u Q I rx ry h
 obtain⟨mx,my,M,r1,r2,rh,h⟩:=h
 have hb:∀b,Dn X.K H Q (.bl b) M->Q (.bl b) H:=λb h=>h _ _ (Kp.refl _) (.bl b) rh
 have hu1:X.A.units+1<cLine:=by lia
 have hu64:X.A.units+64<cLine:=by lia
 have huI:X.A.in1.units+64<cLine:=by show X.A.units+1+64<cLine;lia
 have hu0:X.A.units<cLine:=by lia
 cases op with
 |Lt=>obtain⟨i,j,rfl,rfl,h⟩:=h;cases r1;cases r2;exact ZpY pins s σ H _ _ v u Q I rx ry ⟨_,_,rfl,rfl,hb _ h⟩
 |LtE=>
  rcases h with⟨i,j,rfl,rfl,h⟩|⟨i,j,rfl,rfl,h⟩
  ·cases r1;cases r2;exact ZpZ pins s σ H _ _ v u Q I rx ry ⟨_,_,rfl,rfl,hb _ h⟩
  ·cases r1
   cases r2
   obtain⟨t1,rfl⟩:=rx
   obtain⟨t2,rfl⟩:=ry
   exact PySem.P.le_str ⟨.bl _,H,I,rfl,hb _ h⟩
 |Gt=>obtain⟨i,j,rfl,rfl,h⟩:=h;cases r1;cases r2;exact Zq0 pins s σ H _ _ v u Q I rx ry ⟨_,_,rfl,rfl,hb _ h⟩
 |GtE=>obtain⟨i,j,rfl,rfl,h⟩:=h;cases r1;cases r2;exact Zq1 pins s σ H _ _ v u Q I rx ry ⟨_,_,rfl,rfl,hb _ h⟩
 |Is=>
  rcases h with⟨rfl,h⟩|⟨b,rfl,h⟩
  ·cases r2;exact ZnG pins s σ H _ _ v u Q I rx ry ⟨rfl,by rw[ZeO r1];exact hb _ h⟩
  ·cases r2;exact Zl6 pins s σ H _ _ v u Q I rx ry ⟨b,rfl,by rw[Zh8 r1];exact hb _ h⟩
 |IsNot=>
  rcases h with⟨rfl,h⟩|⟨b,rfl,h⟩
  ·cases r2;exact Zl3 pins s σ H _ _ v u Q I rx ry ⟨rfl,by rw[ZeO r1];exact hb _ h⟩
  ·cases r2;exact ZiB pins s σ H _ _ v u Q I rx ry ⟨b,rfl,by rw[Zh8 r1];exact hb _ h⟩
 |Eq=>
  have h:wEq mx my M λb=>Dn X.K H Q (.bl b) M:=h
  unfold wEq at h
  split at h
  ·rename_i b e
   obtain⟨e1,e2⟩:=Zkc e r1 r2
   exact Zq2 pins s σ H _ _ v u Q I rx ry ⟨e1,by rw[e2];exact hb _ h⟩
  ·rcases h with⟨n,h1,h2,h3⟩|⟨a,b,xs,rfl,rfl,h3,h4,h5⟩|⟨d,e,h1,h2,h3,h4,h5⟩|⟨a,b,ka,kb,r,rfl,rfl,h3,h4,h5,h6⟩
   ·exact(h2.top I rh (by lia) (by assumption) r1 r2 rx ry).1 _ _ ⟨.bl true,H,I,rfl,hb _ h3⟩
   ·cases r1;cases r2
    obtain⟨vs,e1,q1⟩:=rh.lst h3
    obtain⟨us,e2,q2⟩:=rh.lst h4
    cases q2
    refine ZiE hu0 pins s σ H _ _ v u Q I rx ry ⟨_,_,vs,rfl,rfl,SqL.of e1,SqL.of e2,?_⟩
    have:vs.isEmpty=xs.isEmpty:=by cases q1<;>rfl
    rw[this];exact hb _ h5
   ·exact ZnH hu64 pins s σ H _ _ v u Q I rx ry ⟨d,e,h1.dp rh r1,h2.dp rh r2,h3,h4,hb _ h5⟩
   ·cases r1;cases r2
    obtain⟨va,ea,qa,_⟩:=rh.dic h3
    obtain⟨vb,eb,qb,_⟩:=rh.dic h4
    obtain⟨_,na,ua,ka',da⟩:=ZcK I.hok ea
    obtain⟨_,nb,ub,kb',db⟩:=ZcK I.hok eb
    obtain rfl:v=Y0q _:=rx
    obtain rfl:u=Y0q _:=ry
    refine PySem.W.keq_eq na nb da db hu0 (λ_=>h5.hits I rh huI qb kb' qa ka') ⟨.bl _,H,I,rfl,?_⟩
    have e1:ua.length=ka.length:=by rw[<- Paired.length ka',qa.length]
    have e2:ub.length=kb.length:=by rw[<- Paired.length kb',qb.length]
    rw[e1,e2]
    exact hb _ h6
 |NotEq=>
  have h:wEq mx my M λb=>Dn X.K H Q (.bl (!b)) M:=h
  unfold wEq at h
  split at h
  ·rename_i b e
   obtain⟨e1,e2⟩:=Zkc e r1 r2
   exact ZpX pins s σ H _ _ v u Q I rx ry ⟨e1,by rw[e2];exact hb _ h⟩
  ·rcases h with⟨n,h1,h2,h3⟩|⟨a,b,xs,rfl,rfl,h3,h4,h5⟩|⟨d,e,h1,h2,h3,h4,h5⟩|⟨a,b,ka,kb,r,rfl,rfl,h3,h4,h5,h6⟩
   ·exact(h2.top I rh (by lia) (by assumption) r1 r2 rx ry).2 _ _ ⟨.bl false,H,I,rfl,hb _ h3⟩
   ·cases r1;cases r2
    obtain⟨vs,e1,q1⟩:=rh.lst h3
    obtain⟨us,e2,q2⟩:=rh.lst h4
    cases q2
    refine ZiC hu0 pins s σ H _ _ v u Q I rx ry ⟨_,_,vs,rfl,rfl,SqL.of e1,SqL.of e2,?_⟩
    have:vs.isEmpty=xs.isEmpty:=by cases q1<;>rfl
    rw[this];exact hb _ h5
   ·exact ZnD hu64 pins s σ H _ _ v u Q I rx ry ⟨d,e,h1.dp rh r1,h2.dp rh r2,h3,h4,hb _ h5⟩
   ·cases r1;cases r2
    obtain⟨va,ea,qa,_⟩:=rh.dic h3
    obtain⟨vb,eb,qb,_⟩:=rh.dic h4
    obtain⟨_,na,ua,ka',da⟩:=ZcK I.hok ea
    obtain⟨_,nb,ub,kb',db⟩:=ZcK I.hok eb
    obtain rfl:v=Y0q _:=rx
    obtain rfl:u=Y0q _:=ry
    refine PySem.W.keq_ne na nb da db hu0 (λ_=>h5.hits I rh huI qb kb' qa ka') ⟨.bl _,H,I,rfl,?_⟩
    have e1:ua.length=ka.length:=by rw[<- Paired.length ka',qa.length]
    have e2:ub.length=kb.length:=by rw[<- Paired.length kb',qb.length]
    rw[e1,e2]
    exact hb _ h6
 |In=>
  have h:wIn mx my M λb=>Dn X.K H Q (.bl b) M:=h
  unfold wIn at h
  split at h
  ·cases r2 with
   |tup h1 q1=>
    obtain⟨f1,f2,h⟩:=h
    obtain⟨e1,g1⟩:=Z3W f1 r1
    obtain⟨e2,g2⟩:=Z3V f2 q1
    exact Z9d pins s σ H _ _ v u Q I rx ry ⟨_,_,rfl,.inr (SqT.of h1),g1,g2,by rw[e1,e2];exact hb _ h⟩
  ·cases r2 with
   |frl h1 q1=>
    obtain⟨f1,f2,h⟩:=h
    obtain⟨e1,g1⟩:=Z3W f1 r1
    obtain⟨e2,g2⟩:=Z3V f2 q1
    exact Z9d pins s σ H _ _ v u Q I rx ry ⟨_,_,rfl,.inl h1.sq,g1,g2,by rw[e1,e2];exact hb _ h⟩
  ·cases r2
   rcases h with⟨xs,h1,f1,f2,h⟩|⟨kvs,kk,h1,h2,h⟩
   ·obtain⟨vs,e,q1⟩:=rh.lst h1
    obtain⟨e1,g1⟩:=Z3W f1 r1
    obtain⟨e2,g2⟩:=Z3V f2 q1
    exact Z9d pins s σ H _ _ v u Q I rx ry ⟨_,_,rfl,.inl (SqL.of e),g1,g2,by rw[e1,e2];exact hb _ h⟩
   ·obtain⟨vs,e,q1,_⟩:=rh.dic h1
    have:=Zcv h2 r1
    subst this
    obtain rfl:u=Y0q _:=ry
    refine d_in hu1 I (DGet.k (k:=kk) e) rx λs3 I3=>⟨.bl _,H,I3,rfl,?_⟩
    rcases Z4f (k:=kk) q1 with⟨z1,z2⟩|⟨x',u',z1,z2,_⟩
    ·rw[z2];rw[z1]at h;exact hb _ h
    ·rw[z2];rw[z1]at h;exact hb _ h
  ·exact h.elim
 |NotIn=>
  have h:wIn mx my M λb=>Dn X.K H Q (.bl (!b)) M:=h
  unfold wIn at h
  split at h
  ·cases r2 with
   |tup h1 q1=>
    obtain⟨f1,f2,h⟩:=h
    obtain⟨e1,g1⟩:=Z3W f1 r1
    obtain⟨e2,g2⟩:=Z3V f2 q1
    exact Z4j pins s σ H _ _ v u Q I rx ry ⟨_,_,rfl,.inr (SqT.of h1),g1,g2,by rw[e1,e2];exact hb _ h⟩
  ·cases r2 with
   |frl h1 q1=>
    obtain⟨f1,f2,h⟩:=h
    obtain⟨e1,g1⟩:=Z3W f1 r1
    obtain⟨e2,g2⟩:=Z3V f2 q1
    exact Z4j pins s σ H _ _ v u Q I rx ry ⟨_,_,rfl,.inl h1.sq,g1,g2,by rw[e1,e2];exact hb _ h⟩
  ·cases r2
   rcases h with⟨xs,h1,f1,f2,h⟩|⟨kvs,kk,h1,h2,h⟩
   ·obtain⟨vs,e,q1⟩:=rh.lst h1
    obtain⟨e1,g1⟩:=Z3W f1 r1
    obtain⟨e2,g2⟩:=Z3V f2 q1
    exact Z4j pins s σ H _ _ v u Q I rx ry ⟨_,_,rfl,.inl (SqL.of e),g1,g2,by rw[e1,e2];exact hb _ h⟩
   ·obtain⟨vs,e,q1,_⟩:=rh.dic h1
    have:=Zcv h2 r1
    subst this
    obtain rfl:u=Y0q _:=ry
    refine ZlU hu1 I (DGet.k (k:=kk) e) rx λs3 I3=>⟨.bl _,H,I3,rfl,?_⟩
    rcases Z4f (k:=kk) q1 with⟨z1,z2⟩|⟨x',u',z1,z2,_⟩
    ·rw[z2];rw[z1]at h;exact hb _ h
    ·rw[z2];rw[z1]at h;exact hb _ h
  ·exact h.elim
end
end L2
namespace L2
open PySem PySem.Spec PyProof.Rows
def wIx(x y:MV)(M:MH)(Q:QM):Prop:=match x with
 |.tup xs=>∃i v,y=.int i/\atI xs i=some v/\Q v M
 |.frl xs=>∃i v,y=.int i/\atI xs i=some v/\Q v M
 |.str z=>∃i c,y=.int i/\z.length≤sizeLine/\atI z.cps.toList i=some c/\Q (.str ⟨#[c]⟩) M
 |.ref a=>(∃xs i v,M a=some (.lst xs)/\y=.int i/\atI xs i=some v/\Q v M)\/(∃kvs kk v,M a=some (.dic kvs)/\keyM y=some kk/\valM kvs kk=some v/\Q v M)\/∃o kvs kk v,M a=some (.fdic o kvs)/\keyM y=some kk/\valM kvs kk=some v/\Q v M
 |_=>False
theorem ZjR:Mon2 wIx:=by
 intro x y M Q Q' hq h
 unfold wIx at h ⊢
 split at h
 ·obtain⟨i,v,h1,h2,h3⟩:=h;exact⟨i,v,h1,h2,hq _ _ h3⟩
 ·obtain⟨i,v,h1,h2,h3⟩:=h;exact⟨i,v,h1,h2,hq _ _ h3⟩
 ·obtain⟨i,v,h1,h2,h3,h4⟩:=h;exact⟨i,v,h1,h2,h3,hq _ _ h4⟩
 ·rcases h with⟨xs,i,v,h1,h2,h3,h4⟩|⟨kvs,kk,v,h1,h2,h3,h4⟩|⟨o,kvs,kk,v,h1,h2,h3,h4⟩
  ·exact .inl ⟨xs,i,v,h1,h2,h3,hq _ _ h4⟩
  ·exact .inr (.inl ⟨kvs,kk,v,h1,h2,h3,hq _ _ h4⟩)
  ·exact .inr (.inr ⟨o,kvs,kk,v,h1,h2,h3,hq _ _ h4⟩)
 ·exact h.elim
theorem RMs.atI{K:Y02}{H:Hp}{m:List MV}{v:List V}{i:Int}{x:MV}(r:RMs K H m v)(e:atI m i=some x):∃u,atI v i=some u/\RM K H x u:=by
 unfold L2.atI at e ⊢
 rw[<- r.length]
 cases q:ixN m.length i with
 |none=>rw[q]at e;cases e
 |some j=>rw[q]at e;exact r.get e
section
variable{X:Cx}
theorem Zh1(hu:X.A.units+1<cLine):IxR X (λx y H Q=>∃a v,x=.ref a/\DGet H a y (some v)/\Q v H):=by
 intro value slice pins s σ H x y v u Q I rx ry h hs
 obtain⟨a,w',rfl,g,q⟩:=h
 obtain rfl:v=Y0q a:=rx
 exact tail_any (Ze0 I g) PySem.F.slot_dict_getitem.lookup (ZhD hu I g ry λw2 s3 I3 rw'=>⟨w',H,I3,rw',q⟩) hs
theorem Zo7(hu:X.A.units+1<cLine):IxR X (li2 X.K wIx):=by
 intro value slice pins s σ H x y v u Q I rx ry h hs
 obtain⟨mx,my,M,r1,r2,rh,h⟩:=h
 unfold wIx at h
 split at h
 ·obtain⟨i,v',rfl,h2,h3⟩:=h
  cases r2
  cases r1 with
  |tup h1 q1=>
   obtain⟨u',e,r⟩:=q1.atI h2
   exact Zo5 value slice pins s σ H _ _ v u Q I rx ry ⟨_,_,_,u',rfl,rfl,SqT.of h1,e,h3 _ _ (Kp.refl _) r rh⟩ hs
 ·obtain⟨i,v',rfl,h2,h3⟩:=h
  cases r2
  cases r1 with
  |frl h1 q1=>
   obtain⟨u',e,r⟩:=q1.atI h2
   exact Zh0 value slice pins s σ H _ _ v u Q I rx ry ⟨_,_,_,u',rfl,rfl,h1.sq,e,h3 _ _ (Kp.refl _) r rh⟩ hs
 ·obtain⟨i,c,rfl,h2,h3,h4⟩:=h
  cases r1;cases r2
  exact Zo6 value slice pins s σ H _ _ v u Q I rx ry ⟨_,_,c,rfl,rfl,h2,h3,h4 _ _ (Kp.refl _) (.str _) rh⟩ hs
 ·cases r1
  rcases h with⟨xs,i,v',h1,rfl,h3,h4⟩|⟨kvs,kk,v',h1,h2,h3,h4⟩|⟨o,kvs,kk,v',h1,h2,h3,h4⟩
  ·cases r2
   obtain⟨vs,e,q1⟩:=rh.lst h1
   obtain⟨u',e2,r⟩:=q1.atI h3
   exact Zh0 value slice pins s σ H _ _ v u Q I rx ry ⟨_,_,_,u',rfl,rfl,SqL.of e,e2,h4 _ _ (Kp.refl _) r rh⟩ hs
  ·obtain⟨vs,e,q1,_⟩:=rh.dic h1
   have ek:=Zcv h2 r2
   rcases Z4f (k:=kk) q1 with⟨z1,z2⟩|⟨x',u',z1,z2,r'⟩
   ·rw[z1]at h3;cases h3
   ·rw[z1]at h3;cases h3
    have g:=DGet.k (k:=kk) e
    rw[z2]at g
    subst ek
    exact Zh1 hu value slice pins s σ H _ _ v u Q I rx ry ⟨_,u',rfl,g,h4 _ _ (Kp.refl _) r' rh⟩ hs
  ·obtain⟨vs,e,q1,_⟩:=rh.fdic h1
   have ek:=Zcv h2 r2
   rcases Z4f (k:=kk) q1 with⟨z1,z2⟩|⟨x',u',z1,z2,r'⟩
   ·rw[z1]at h3;cases h3
   ·rw[z1]at h3;cases h3
    have g:DGet H _ (kV kk) (valV vs kk):=.inl ⟨vs,kk,.inr ⟨o,e⟩,rfl,rfl⟩
    rw[z2]at g
    subst ek
    exact Zh1 hu value slice pins s σ H _ _ v u Q I rx ry ⟨_,u',rfl,g,h4 _ _ (Kp.refl _) r' rh⟩ hs
 ·exact h.elim
end
def cutM(xs:List MV)(lo hi:Option Int):List MV:=(xs.drop (HT.sIx xs.length 0 lo)).take (HT.sIx xs.length xs.length hi - HT.sIx xs.length 0 lo)
theorem RMs.cut{K:Y02}{H:Hp}{m:List MV}{v:List V}(r:RMs K H m v)(lo hi:Option Int):RMs K H (cutM m lo hi) (cutV v lo hi):=by
 unfold cutM cutV
 rw[<- r.length]
 exact(r.drop _).take _
abbrev WS:=MV->Option Int->Option Int->MH->QM->Prop
def wSl:WS:=λx lo hi M Q=>match x with
 |.tup xs=>¬(HT.sIx xs.length 0 lo=0/\HT.sIx xs.length xs.length hi=xs.length)/\Q (.tup (cutM xs lo hi)) M
 |.frl xs=>∀p,M p=none->Q (.ref p) (updM M p (.lst (cutM xs lo hi)))
 |.ref a=>∃xs,M a=some (.lst xs)/\∀p,M p=none->Q (.ref p) (updM M p (.lst (cutM xs lo hi)))
 |.str z=>z.length≤sizeLine/\Q (.str (cutS z lo hi)) M
 |_=>False
theorem ZjQ{x:MV}{lo hi:Option Int}{M:MH}{Q Q':QM}(hq:∀m M',Q m M'->Q' m M')(h:wSl x lo hi M Q):wSl x lo hi M Q':=by
 unfold wSl at h ⊢
 split at h
 ·exact⟨h.1,hq _ _ h.2⟩
 ·exact λp hp=>hq _ _ (h p hp)
 ·obtain⟨xs,h1,h2⟩:=h;exact⟨xs,h1,λp hp=>hq _ _ (h2 p hp)⟩
 ·exact⟨h.1,hq _ _ h.2⟩
 ·exact h.elim
def liS(K:Y02)(w:WS):V->Option Int->Option Int->Hp->VK->Prop:=λx lo hi H Q=>∃mx M,RM K H mx x/\RH K M H/\w mx lo hi M (Dn K H Q)
section
variable{X:Cx}
theorem Zmv:SlR X (liS X.K wSl):=by
 intro pins s σ H x v vl vu lo hi sl Q I rx hs pl pu h
 obtain⟨mx,M,r1,rh,h⟩:=h
 unfold wSl at h
 split at h
 ·cases r1 with
  |tup h1 q1=>
   rename_i vs
   obtain⟨h2,h3⟩:=h
   refine Zmt pins s σ H _ v vl vu lo hi sl Q I rx hs pl pu ⟨_,_,rfl,SqT.of h1,by rw[<- q1.length];exact h2,λp hp=>?_⟩
   have k:=Kp.new hp (.tup (cutV vs lo hi))
   exact h3 _ _ k (.tup Z1G ((q1.cut lo hi).mono k)) (rh.kept hp _)
 ·cases r1 with
  |frl h1 q1=>
   rename_i vs
   refine Zgg pins s σ H _ v vl vu lo hi sl Q I rx hs pl pu ⟨_,_,rfl,h1.sq,λp hp=>?_⟩
   have k:=Kp.new hp (.lst (cutV vs lo hi))
   exact h p (rh.free hp) _ _ k (.ref p) (rh.put k ((q1.cut lo hi).mono k))
 ·cases r1
  obtain⟨xs,h1,h⟩:=h
  obtain⟨vs,e,q1⟩:=rh.lst h1
  refine Zgg pins s σ H _ v vl vu lo hi sl Q I rx hs pl pu ⟨_,_,rfl,SqL.of e,λp hp=>?_⟩
  have k:=Kp.new hp (.lst (cutV vs lo hi))
  exact h p (rh.free hp) _ _ k (.ref p) (rh.put k ((q1.cut lo hi).mono k))
 ·cases r1
  exact Zmu pins s σ H _ v vl vu lo hi sl Q I rx hs pl pu ⟨_,rfl,h.1,h.2 _ _ (Kp.refl _) (.str _) rh⟩
 ·exact h.elim
end
def tyM(M:MH):MV->Option Ty7
 |.non=>some .none|.bl _=>some .bool|.int _=>some .int|.str _=>some .str|.tup _=>some .tuple
 |.ref a=>match M a with|some (.lst _)=>some .list|some (.dic _)=>some .dict|_=>none
 |_=>none
def isTy:Ty7->Ty7->Bool
 |.bool,.int=>true
 |a,b=>decide (a=b)
theorem ZgW(K:Y02)(T c:Ty7)(hc:c≠.none):Y1U K (.type T.name) (.type c.name)=some (isTy T c):=by
 cases T<;>cases c<;>first|exact absurd rfl hc|with_unfolding_all rfl
theorem Zjw{K:Y02}{M:MH}{H:Hp}{m:MV}{v:V}{T:Ty7}(rh:RH K M H)(r:RM K H m v)(e:tyM M m=some T):TyOf K H v (.type T.name):=by
 cases r with
 |non=>cases e;exact .non
 |bl b=>cases e;exact .bl b
 |int i=>cases e;exact .int i
 |str x=>cases e;exact .str x
 |tup h _=>cases e;exact .tup h
 |frl _ _=>cases e
 |ty _=>cases e
 |ref a=>
  unfold tyM at e
  dsimp only at e
  cases q:M a with
  |none=>rw[q]at e;cases e
  |some o=>
   rw[q]at e
   cases o with
   |lst xs=>cases e;obtain⟨vs,h,_⟩:=rh.lst q;exact .lst h
   |dic kvs=>cases e;obtain⟨vs,h,_⟩:=rh.dic q;exact .dK h
   |ins _ _=>cases e
   |fdic _ _=>cases e
inductive BI where|len|isinst|max|min|sum|abs|int|list|tuple|dict|sorted|dictL|all
  deriving DecidableEq
def bLen(vs:List MV)(M:MH)(Q:QM):Prop:=match vs with
 |[.tup xs]=>Q (.int xs.length) M
 |[.frl xs]=>Q (.int xs.length) M
 |[.str z]=>z.length≤sizeLine/\Q (.int z.length) M
 |[.ref a]=>(∃xs,M a=some (.lst xs)/\Q (.int xs.length) M)\/∃kvs,M a=some (.dic kvs)/\Q (.int kvs.length) M
 |_=>False
def bIsi(vs:List MV)(M:MH)(Q:QM):Prop:=match vs with
 |[x,.ty c]=>∃T,tyM M x=some T/\c≠.none/\Q (.bl (isTy T c)) M
 |[x,.tup [.ty c,.ty d]]=>∃T,tyM M x=some T/\c≠.none/\d≠.none/\Q (.bl (isTy T c||isTy T d)) M
 |_=>False
def bMax(vs:List MV)(M:MH)(Q:QM):Prop:=match vs with
 |[.int i,.int j]=>Q (.int (if j>i then j else i)) M
 |[.ref a]=>∃ns:List Int,M a=some (.lst (ns.map MV.int))/\0<ns.length/\∀m,m∈ns->(∀x∈ns,x≤m)->Q (.int m) M
 |_=>False
def bMin(vs:List MV)(M:MH)(Q:QM):Prop:=match vs with
 |[.int i,.int j]=>Q (.int (if j<i then j else i)) M
 |[.ref a]=>∃ns:List Int,M a=some (.lst (ns.map MV.int))/\0<ns.length/\∀m,m∈ns->(∀x∈ns,m≤x)->Q (.int m) M
 |_=>False
def bAbs(vs:List MV)(M:MH)(Q:QM):Prop:=match vs with
 |[.int i]=>Q (.int (if i<0 then -i else i)) M
 |_=>False
def bInt(vs:List MV)(M:MH)(Q:QM):Prop:=match vs with
 |[.int i]=>Q (.int i) M
 |[.bl k]=>Q (.int (if k then 1 else 0)) M
 |_=>False
def bLst(vs:List MV)(M:MH)(Q:QM):Prop:=match vs with
 |[.tup xs]=>∀p,M p=none->Q (.ref p) (updM M p (.lst xs))
 |[.frl xs]=>∀p,M p=none->Q (.ref p) (updM M p (.lst xs))
 |[.ref a]=>∃xs,M a=some (.lst xs)/\∀p,M p=none->Q (.ref p) (updM M p (.lst xs))
 |_=>False
def bTup(vs:List MV)(M:MH)(Q:QM):Prop:=match vs with
 |[.tup xs]=>Q (.tup xs) M
 |[.frl xs]=>Q (.tup xs) M
 |[.ref a]=>∃xs,M a=some (.lst xs)/\Q (.tup xs) M
 |_=>False
def prM(p:Key×MV):MV:=.tup [match p.1 with|.inl i=>.int i|.inr x=>.str x,p.2]
def Z2K(ps:List (Key×MV)):List (Key×MV):=ps.foldl (λc z=>putM c z.1 z.2) []
def bDic(vs:List MV)(M:MH)(Q:QM):Prop:=match vs with
 |[.ref a]=>∃kvs,M a=some (.dic kvs)/\∀p,M p=none->Q (.ref p) (updM M p (.dic kvs))
 |[.tup xs]=>∃ps:List (Key×MV),xs=ps.map prM/\∀p,M p=none->Q (.ref p) (updM M p (.dic (Z2K ps)))
 |_=>False
def bDcl(vs:List MV)(M:MH)(Q:QM):Prop:=match vs with
 |[.ref a]=>∃ps:List (Key×MV),M a=some (.lst (ps.map prM))/\∀p,M p=none->Q (.ref p) (updM M p (.dic (Z2K ps)))
 |_=>False
theorem Zbx{K:Y02}{H:Hp}:∀{ps:List (Key×MV)} {vs:List V},RMs K H (ps.map prM) vs->∃ps':List (Key×V),Zi1 H ps' vs/\RKs K H ps ps'
 |[],_,.nil=>⟨[],.nil,.nil⟩
 |(k,x)::r,_,.cons (.tup e t) u=>by
  obtain⟨ps',h1,h2⟩:=Zbx u
  cases t with
  |cons t1 t2=>
   cases t2 with
   |cons t3 t4=>
    cases t4
    rename_i v1 v2
    refine⟨(k,v2)::ps',.cons ⟨_,rfl,?_⟩ h1,.cons t3 h2⟩
    rw[e]
    cases k<;>cases t1<;>rfl
theorem Z9b{K:Y02}{H:Hp}:∀{ps:List (Key×MV)} {ps':List (Key×V)} {c:List (Key×MV)} {c':List (Key×V)},RKs K H ps ps'->RKs K H c c'->(c.map (·.1)).Nodup->
  RKs K H (ps.foldl (λc z=>putM c z.1 z.2) c) (ps'.foldl (λc z=>putK c z.1 z.2) c')/\((ps.foldl (λc z=>putM c z.1 z.2) c).map (·.1)).Nodup
 |_,_,_,_,.nil,h,nd=>⟨h,nd⟩
 |_,_,_,_,.cons r t,h,nd=>by
  obtain⟨a,b⟩:=Zgs r nd h
  have z:=Z9b t a b
  exact z
def bAll(vs:List MV)(M:MH)(Q:QM):Prop:=match vs with
 |[.ref a]=>∃bs:List Bool,M a=some (.lst (bs.map MV.bl))/\Q (.bl (bs.all id)) M
 |_=>False
theorem RMs.bls_of{K:Y02}{H:Hp}:∀{bs:List Bool} {vs:List V},RMs K H (bs.map MV.bl) vs->vs=bs.map V.bl
 |[],_,.nil=>rfl
 |n::r,_,.cons (.bl _) t=>by rw[t.bls_of];rfl
def wBi(f:BI)(vs:List MV)(M:MH)(Q:QM):Prop:=match f with
 |.len=>bLen vs M Q
 |.isinst=>bIsi vs M Q
 |.max=>bMax vs M Q
 |.min=>bMin vs M Q
 |.sum=>False
 |.abs=>bAbs vs M Q
 |.int=>bInt vs M Q
 |.list=>bLst vs M Q
 |.tuple=>bTup vs M Q
 |.dict=>bDic vs M Q
 |.sorted=>False
 |.dictL=>bDcl vs M Q
 |.all=>bAll vs M Q
theorem Zlm:MonW bLen:=by
 intro vs M Q Q' hq h
 unfold bLen at h ⊢
 split at h
 ·exact hq _ _ h
 ·exact hq _ _ h
 ·exact⟨h.1,hq _ _ h.2⟩
 ·rcases h with⟨xs,h1,h2⟩|⟨xs,h1,h2⟩
  ·exact .inl ⟨xs,h1,hq _ _ h2⟩
  ·exact .inr ⟨xs,h1,hq _ _ h2⟩
 ·exact h.elim
theorem ZjU(f:BI):MonW (wBi f):=by
 intro vs M Q Q' hq h
 cases f
 ·exact Zlm hq h
 ·have h:bIsi vs M Q:=h
  show bIsi vs M Q'
  unfold bIsi at h ⊢
  split at h
  ·obtain⟨T,h1,h2,h3⟩:=h;exact⟨T,h1,h2,hq _ _ h3⟩
  ·obtain⟨T,h1,h2,h3,h4⟩:=h;exact⟨T,h1,h2,h3,hq _ _ h4⟩
  ·exact h.elim
 ·have h:bMax vs M Q:=h
  show bMax vs M Q'
  unfold bMax at h ⊢
  split at h
  ·exact hq _ _ h
  ·obtain⟨ns,h1,h2,h3⟩:=h;exact⟨ns,h1,h2,λm a b=>hq _ _ (h3 m a b)⟩
  ·exact h.elim
 ·have h:bMin vs M Q:=h
  show bMin vs M Q'
  unfold bMin at h ⊢
  split at h
  ·exact hq _ _ h
  ·obtain⟨ns,h1,h2,h3⟩:=h;exact⟨ns,h1,h2,λm a b=>hq _ _ (h3 m a b)⟩
  ·exact h.elim
 ·exact Y1c h
 ·have h:bAbs vs M Q:=h
  show bAbs vs M Q'
  unfold bAbs at h ⊢
  split at h
  ·exact hq _ _ h
  ·exact h.elim
 ·have h:bInt vs M Q:=h
  show bInt vs M Q'
  unfold bInt at h ⊢
  split at h
  ·exact hq _ _ h
  ·exact hq _ _ h
  ·exact h.elim
 ·have h:bLst vs M Q:=h
  show bLst vs M Q'
  unfold bLst at h ⊢
  split at h
  ·exact λp hp=>hq _ _ (h p hp)
  ·exact λp hp=>hq _ _ (h p hp)
  ·obtain⟨xs,h1,h2⟩:=h;exact⟨xs,h1,λp hp=>hq _ _ (h2 p hp)⟩
  ·exact h.elim
 ·have h:bTup vs M Q:=h
  show bTup vs M Q'
  unfold bTup at h ⊢
  split at h
  ·exact hq _ _ h
  ·exact hq _ _ h
  ·obtain⟨xs,h1,h2⟩:=h;exact⟨xs,h1,hq _ _ h2⟩
  ·exact h.elim
 ·have h:bDic vs M Q:=h
  show bDic vs M Q'
  unfold bDic at h ⊢
  split at h
  ·obtain⟨xs,h1,h2⟩:=h;exact⟨xs,h1,λp hp=>hq _ _ (h2 p hp)⟩
  ·obtain⟨xs,h1,h2⟩:=h;exact⟨xs,h1,λp hp=>hq _ _ (h2 p hp)⟩
  ·exact h.elim
 ·exact Y1c h
 ·have h:bDcl vs M Q:=h
  show bDcl vs M Q'
  unfold bDcl at h ⊢
  split at h
  ·obtain⟨ps,h1,h2⟩:=h;exact⟨ps,h1,λp hp=>hq _ _ (h2 p hp)⟩
  ·exact h.elim
 ·have h:bAll vs M Q:=h
  show bAll vs M Q'
  unfold bAll at h ⊢
  split at h
  ·obtain⟨bs,h1,h2⟩:=h;exact⟨bs,h1,hq _ _ h2⟩
  ·exact h.elim
def BI.val:BI->Value
 |.len=>.builtin "len"|.isinst=>.builtin "isinstance"|.max=>.builtin "max"|.min=>.builtin "min"|.sum=>.builtin "sum"|.abs=>.builtin "abs"
 |.int=>.type "int"|.list=>.type "list"|.tuple=>.type "tuple"|.dict=>.type "dict"|.sorted=>.builtin "sorted"|.dictL=>.type "dict"|.all=>.builtin "all"
section
variable{X:Cx}
theorem RMs.one{K:Y02}{H:Hp}{m:MV}{vs:List V}(r:RMs K H [m] vs):∃v,vs=[v]/\RM K H m v:=by
 cases r with
 |cons a b=>cases b;exact⟨_,rfl,a⟩
theorem RMs.two{K:Y02}{H:Hp}{m n:MV}{vs:List V}(r:RMs K H [m,n] vs):∃v w,vs=[v,w]/\RM K H m v/\RM K H n w:=by
 cases r with
 |cons a b=>obtain⟨w,rfl,c⟩:=b.one;exact⟨_,_,rfl,a,c⟩
theorem Zd2:CallR X (.type "dict") (fun xs H Q=>∃a kvs,xs=[.ref a]/\H a=some (.dK kvs)/\∀p,H p=none->Q (.ref p) (upd H p (.dK kvs))):=by
 intro pins s σ H xs us Q I r h
 obtain⟨a,kvs,rfl,ha,q⟩:=h
 obtain⟨u,rfl,ru⟩:=Z6k r
 cases ru
 exact Zj3 I (.inl ha) λp s' hp I'=>⟨.ref p,_,I',rfl,q p hp⟩
theorem Zm1(hc:X.calm=true)(f:BI):CallR X f.val (liW X.K (wBi f)):=by
 intro pins s σ H xs us Q I r h
 obtain⟨ms,M,r1,rh,h⟩:=h
 cases f with
 |len=>
  have h:bLen ms M (Dn X.K H Q):=h
  unfold bLen at h
  split at h
  ·obtain⟨v,rfl,a⟩:=r1.one
   cases a with
   |tup h1 q1=>exact Z53 pins s σ H _ us Q I r ⟨_,_,rfl,.inr (SqT.of h1),by rw[<- q1.length];exact h _ _ (Kp.refl _) (.int _) rh⟩
  ·obtain⟨v,rfl,a⟩:=r1.one
   cases a with
   |frl h1 q1=>exact Z53 pins s σ H _ us Q I r ⟨_,_,rfl,.inl h1.sq,by rw[<- q1.length];exact h _ _ (Kp.refl _) (.int _) rh⟩
  ·obtain⟨v,rfl,a⟩:=r1.one
   cases a
   exact ZcZ pins s σ H _ us Q I r ⟨_,rfl,h.1,h.2 _ _ (Kp.refl _) (.int _) rh⟩
  ·obtain⟨v,rfl,a⟩:=r1.one
   cases a
   rcases h with⟨xs,h1,h⟩|⟨kvs,h1,h⟩
   ·obtain⟨vs,e,q1⟩:=rh.lst h1
    exact Z53 pins s σ H _ us Q I r ⟨_,_,rfl,.inl (SqL.of e),by rw[<- q1.length];exact h _ _ (Kp.refl _) (.int _) rh⟩
   ·obtain⟨vs,e,q1,_⟩:=rh.dic h1
    exact ZhQ pins s σ H _ us Q I r ⟨_,_,rfl,e,by rw[<- q1.length];exact h _ _ (Kp.refl _) (.int _) rh⟩
  ·exact h.elim
 |isinst=>
  have h:bIsi ms M (Dn X.K H Q):=h
  unfold bIsi at h
  split at h
  ·obtain⟨v,w,rfl,a,b⟩:=r1.two
   cases b
   obtain⟨T,h1,h2,h3⟩:=h
   exact Ze8 pins s σ H _ us Q I r ⟨_,_,_,_,rfl,Zjw rh a h1,ZgW _ _ _ h2,h3 _ _ (Kp.refl _) (.bl _) rh⟩
  ·obtain⟨v,w,rfl,a,b⟩:=r1.two
   obtain⟨T,h1,h2,h3,h4⟩:=h
   cases b with
   |tup ht qt=>
    cases qt with
    |cons q1 q2=>
     cases q2 with
     |cons q3 q4=>
      cases q4
      cases q1
      cases q3
      exact Zd0 pins s σ H _ us Q I r ⟨_,_,_,_,_,_,_,rfl,ht,Zjw rh a h1,ZgW _ _ _ h2,ZgW _ _ _ h3,h4 _ _ (Kp.refl _) (.bl _) rh⟩
  ·exact h.elim
 |max=>
  have h:bMax ms M (Dn X.K H Q):=h
  unfold bMax at h
  split at h
  ·obtain⟨v,w,rfl,a,b⟩:=r1.two
   cases a;cases b
   exact ZhO hc pins s σ H _ us Q I r ⟨_,_,rfl,h _ _ (Kp.refl _) (.int _) rh⟩
  ·obtain⟨v,rfl,a⟩:=r1.one
   cases a
   obtain⟨ns,h1,h2,h3⟩:=h
   obtain⟨vs,e,q1⟩:=rh.lst h1
   have:=q1.ints_of
   subst this
   exact ZhN hc pins s σ H _ us Q I r ⟨_,ns,rfl,SqL.of e,h2,λm a b=>h3 m a b _ _ (Kp.refl _) (.int _) rh⟩
  ·exact h.elim
 |min=>
  have h:bMin ms M (Dn X.K H Q):=h
  unfold bMin at h
  split at h
  ·obtain⟨v,w,rfl,a,b⟩:=r1.two
   cases a;cases b
   exact ZhM hc pins s σ H _ us Q I r ⟨_,_,rfl,h _ _ (Kp.refl _) (.int _) rh⟩
  ·obtain⟨v,rfl,a⟩:=r1.one
   cases a
   obtain⟨ns,h1,h2,h3⟩:=h
   obtain⟨vs,e,q1⟩:=rh.lst h1
   have:=q1.ints_of
   subst this
   exact ZhL hc pins s σ H _ us Q I r ⟨_,ns,rfl,SqL.of e,h2,λm a b=>h3 m a b _ _ (Kp.refl _) (.int _) rh⟩
  ·exact h.elim
 |sum=>exact Y1c h
 |abs=>
  have h:bAbs ms M (Dn X.K H Q):=h
  unfold bAbs at h
  split at h
  ·obtain⟨v,rfl,a⟩:=r1.one
   cases a
   exact Zjb pins s σ H _ us Q I r ⟨_,rfl,h _ _ (Kp.refl _) (.int _) rh⟩
  ·exact h.elim
 |int=>
  have h:bInt ms M (Dn X.K H Q):=h
  unfold bInt at h
  split at h
  ·obtain⟨v,rfl,a⟩:=r1.one
   cases a
   exact Zd1 pins s σ H _ us Q I r (.inl ⟨_,rfl,h _ _ (Kp.refl _) (.int _) rh⟩)
  ·obtain⟨v,rfl,a⟩:=r1.one
   cases a
   exact Zd1 pins s σ H _ us Q I r (.inr ⟨_,rfl,h _ _ (Kp.refl _) (.int _) rh⟩)
  ·exact h.elim
 |list=>
  have h:bLst ms M (Dn X.K H Q):=h
  unfold bLst at h
  split at h
  ·obtain⟨v,rfl,a⟩:=r1.one
   cases a with
   |tup h1 q1=>
    refine Z52 pins s σ H _ us Q I r ⟨_,_,rfl,.inr (SqT.of h1),λp hp=>?_⟩
    have k:=λz=>Kp.new hp (.lst z)
    exact h p (rh.free hp) _ _ (k _) (.ref p) (rh.put (k _) (q1.mono (k _)))
  ·obtain⟨v,rfl,a⟩:=r1.one
   cases a with
   |frl h1 q1=>
    refine Z52 pins s σ H _ us Q I r ⟨_,_,rfl,.inl h1.sq,λp hp=>?_⟩
    have k:=λz=>Kp.new hp (.lst z)
    exact h p (rh.free hp) _ _ (k _) (.ref p) (rh.put (k _) (q1.mono (k _)))
  ·obtain⟨v,rfl,a⟩:=r1.one
   cases a
   obtain⟨xs,h1,h⟩:=h
   obtain⟨vs,e,q1⟩:=rh.lst h1
   refine Z52 pins s σ H _ us Q I r ⟨_,_,rfl,.inl (SqL.of e),λp hp=>?_⟩
   have k:=Kp.new hp (.lst vs)
   exact h p (rh.free hp) _ _ k (.ref p) (rh.put k (q1.mono k))
  ·exact h.elim
 |tuple=>
  have h:bTup ms M (Dn X.K H Q):=h
  unfold bTup at h
  split at h
  ·obtain⟨v,rfl,a⟩:=r1.one
   cases a with
   |tup h1 q1=>exact Z3Y pins s σ H _ us Q I r ⟨_,_,rfl,.inr ⟨SqT.of h1,h _ _ (Kp.refl _) (.tup h1 q1) rh⟩⟩
  ·obtain⟨v,rfl,a⟩:=r1.one
   cases a with
   |frl h1 q1=>
    refine Z3Y pins s σ H _ us Q I r ⟨_,_,rfl,.inl ⟨h1.sq,λp hp=>?_⟩⟩
    have k:=λz=>Kp.new hp (.tup z)
    exact h _ _ (k _) (.tup Z1G (q1.mono (k _))) (rh.kept hp _)
  ·obtain⟨v,rfl,a⟩:=r1.one
   cases a
   obtain⟨xs,h1,h⟩:=h
   obtain⟨vs,e,q1⟩:=rh.lst h1
   refine Z3Y pins s σ H _ us Q I r ⟨_,_,rfl,.inl ⟨SqL.of e,λp hp=>?_⟩⟩
   have k:=Kp.new hp (.tup vs)
   exact h _ _ k (.tup Z1G (q1.mono k)) (rh.kept hp _)
  ·exact h.elim
 |dict=>
  have h:bDic ms M (Dn X.K H Q):=h
  unfold bDic at h
  split at h
  ·obtain⟨v,rfl,a⟩:=r1.one
   cases a
   obtain⟨kvs,h1,h⟩:=h
   obtain⟨vs,e,q1,nd⟩:=rh.dic h1
   refine Zd2 pins s σ H _ us Q I r ⟨_,_,rfl,e,λp hp=>?_⟩
   have k:=Kp.new hp (.dK vs)
   exact h p (rh.free hp) _ _ k (.ref p) (rh.put k ⟨q1.mono k,nd⟩)
  ·obtain⟨v,rfl,a⟩:=r1.one
   obtain⟨ps,rfl,h2⟩:=h
   cases a with
   |tup e q1=>
    obtain⟨ps',pv,rk⟩:=Zbx q1
    refine Ze9 hc pins s σ H _ us Q I r ⟨_,ps',_,rfl,e,pv,λp hp=>?_⟩
    have k:=Kp.new hp (.dK (Z5t ps'))
    obtain⟨z1,z2⟩:=Z9b rk (.nil:RKs X.K H [] []) (by simp)
    exact h2 p (rh.free hp) _ _ k (.ref p) (rh.put k ⟨z1.mono k,z2⟩)
  ·exact h.elim
 |sorted=>exact Y1c h
 |dictL=>
  have h:bDcl ms M (Dn X.K H Q):=h
  unfold bDcl at h
  split at h
  ·obtain⟨v,rfl,a⟩:=r1.one
   cases a
   obtain⟨ps,h1,h2⟩:=h
   obtain⟨vs,e,q1⟩:=rh.lst h1
   obtain⟨ps',pv,rk⟩:=Zbx q1
   refine ZfQ hc pins s σ H _ us Q I r ⟨_,ps',vs,rfl,e,pv,λp hp=>?_⟩
   have k:=Kp.new hp (.dK (Z5t ps'))
   obtain⟨z1,z2⟩:=Z9b rk (.nil:RKs X.K H [] []) (by simp)
   exact h2 p (rh.free hp) _ _ k (.ref p) (rh.put k ⟨z1.mono k,z2⟩)
  ·exact h.elim
 |all=>
  have h:bAll ms M (Dn X.K H Q):=h
  unfold bAll at h
  split at h
  ·obtain⟨v,rfl,a⟩:=r1.one
   cases a
   obtain⟨bs,h1,h2⟩:=h
   obtain⟨vs,e,q1⟩:=rh.lst h1
   have:=q1.bls_of
   subst this
   exact ZhR hc pins s σ H _ us Q I r ⟨_,bs,rfl,SqL.of e,h2 _ _ (Kp.refl _) (.bl _) rh⟩
  ·exact h.elim
end
theorem RMs.strs{K:Y02}{H:Hp}:∀ns:List Str,RMs K H (ns.map MV.str) (ns.map V.str)
 |[]=>.nil
 |n::r=>.cons (.str n) (RMs.strs r)
theorem RMs.strs_of{K:Y02}{H:Hp}:∀{ns:List Str} {vs:List V},RMs K H (ns.map MV.str) vs->vs=ns.map V.str
 |[],_,.nil=>rfl
 |n::r,_,.cons (.str _) t=>by rw[t.strs_of];rfl
theorem ZjA{K:Y02}{H:Hp}(f:Nat->Int):∀l:List Nat,RMs K H (l.map λi=>MV.int (f i)) (l.map λi=>V.int (f i))
 |[]=>.nil
 |_::r=>.cons (.int _) (ZjA f r)
theorem Zgn{K:Y02}{H:Hp}(n:Nat):RMs K H ((Y0U n).map λi=>MV.int (i:Nat)) ((Y0U n).map λi=>V.int (i:Nat)):=ZjA (λi=>(i:Int)) _
inductive B2 where|ssrt|lset|lrng
  deriving DecidableEq
def B2.out:B2->String
 |.ssrt=>"sorted"
 |.lset=>"len"
 |.lrng=>"list"
def B2.inn:B2->String
 |.ssrt=>"set"
 |.lset=>"set"
 |.lrng=>"range"
def B2.outV:B2->Value
 |.ssrt=>.builtin "sorted"
 |.lset=>.builtin "len"
 |.lrng=>.type "list"
def wB2(f:B2)(v:MV)(M:MH)(Q:QM):Prop:=match f with
 |.ssrt=>∃(a:Addr) (xs N:List Str),v=.ref a/\M a=some (.lst (xs.map MV.str))/\xs.length+1<scanBound/\(∀z∈xs,z∈N)/\N.length<64/\
   ∀p (ys:List Str),M p=none->ys.Nodup->(∀y,y∈ys↔y∈xs)->sortedS ys=true->Q (.ref p) (updM M p (.lst (ys.map MV.str)))
 |.lset=>False
 |.lrng=>∃n:Nat,v=.int n/\n≤1000000/\∀p,M p=none->Q (.ref p) (updM M p (.lst ((Y0U n).map λi=>MV.int (i:Nat))))
theorem ZjV(f:B2):Mon1 (wB2 f):=by
 intro v M Q Q' hq h
 cases f with
 |ssrt=>
  obtain⟨a,xs,N,h1,h2,h3,h4,h5,h6⟩:=h
  exact⟨a,xs,N,h1,h2,h3,h4,h5,λp ys a1 a2 a3 a4=>hq _ _ (h6 p ys a1 a2 a3 a4)⟩
 |lset=>exact Y1c h
 |lrng=>
  obtain⟨n,h1,h2,h3⟩:=h
  exact⟨n,h1,h2,λp hp=>hq _ _ (h3 p hp)⟩
section
variable{X:Cx}
theorem Zm2(hc:X.calm=true)(f:B2):Zi5 X f.outV (.type f.inn) (li1 X.K (wB2 f)):=by
 intro pins s σ H x u Q I r h
 obtain⟨m,M,r1,rh,h⟩:=h
 cases f with
 |ssrt=>
  obtain⟨a,xs,N,rfl,h2,h3,h4,h5,h6⟩:=h
  cases r1
  obtain⟨vs,e,q1⟩:=rh.lst h2
  have:=q1.strs_of
  subst this
  refine ZhJ hc pins s σ H _ u Q I r ⟨_,xs,N,rfl,SqL.of e,h3,h4,h5,λp ys hp a1 a2 a3=>?_⟩
  have k:=Kp.new hp (.lst (ys.map V.str))
  exact h6 p ys (rh.free hp) a1 a2 a3 _ _ k (.ref p) (rh.put k (RMs.strs ys))
 |lset=>exact Y1c h
 |lrng=>
  obtain⟨n,rfl,h2,h3⟩:=h
  cases r1
  refine ZhP hc pins s σ H _ u Q I r ⟨n,rfl,h2,λp hp=>?_⟩
  have k:=Kp.new hp (.lst ((Y0U n).map λi=>V.int (i:Nat)))
  exact h3 p (rh.free hp) _ _ k (.ref p) (rh.put k (Zgn n))
end
inductive MT where|append|extend|reverse|clear|pop|popAt|dclear|dget|dgetD|join|remove
  deriving DecidableEq
def wMt(m:MT)(a:Addr)(vs:List MV)(M:MH)(Q:QM):Prop:=∃xs,M a=some (.lst xs)/\match m,vs with
 |.append,[y]=>xs.length<sizeLine/\Q .non (updM M a (.lst (xs++[y])))
 |.extend,[.ref b]=>∃ys,M b=some (.lst ys)/\xs.length+ys.length≤sizeLine/\Q .non (updM M a (.lst (xs++ys)))
 |.remove,[.str z]=>∃zs:List Str,xs=zs.map MV.str/\z∈zs/\Q .non (updM M a (.lst ((zs.erase z).map MV.str)))
 |_,_=>False
def wMl(m:MT)(x:MV)(vs:List MV)(M:MH)(Q:QM):Prop:=match x with
 |.ref a=>wMt m a vs M Q
 |_=>False
def wMd(m:MT)(x:MV)(vs:List MV)(M:MH)(Q:QM):Prop:=match m with
 |.dclear=>∃a kvs,x=.ref a/\M a=some (.dic kvs)/\vs=[]/\Q .non (updM M a (.dic []))
 |_=>False
def MT.isL:MT->Bool
 |.dclear=>false|.dget=>false|.dgetD=>false|.join=>false|_=>true
def MT.ty:MT->String
 |.dclear=>"dict"|.dget=>"dict"|.dgetD=>"dict"|.join=>"str"|_=>"list"
def mtOk(m:MT)(x:MV)(M:MH):Prop:=match m with
 |.dclear=>∃a kvs,x=.ref a/\M a=some (.dic kvs)
 |.dget=>∃a kvs,x=.ref a/\M a=some (.dic kvs)
 |.dgetD=>∃a kvs,x=.ref a/\M a=some (.dic kvs)
 |.join=>∃z,x=.str z
 |_=>∃a xs,x=.ref a/\M a=some (.lst xs)
def wMts(m:MT)(x:MV)(vs:List MV)(M:MH)(Q:QM):Prop:=match m with
 |.dclear=>wMd .dclear x vs M Q
 |.dget=>wMd .dget x vs M Q
 |.dgetD=>wMd .dgetD x vs M Q
 |.join=>wMd .join x vs M Q
 |m=>wMl m x vs M Q
theorem Zjt{m:MT}{x:MV}{vs:List MV}{M:MH}{Q:QM}(h:m.isL=true):wMts m x vs M Q=wMl m x vs M Q:=by cases m<;>first|rfl|cases h
theorem Zju{m:MT}{x:MV}{vs:List MV}{M:MH}{Q:QM}(h:m.isL=false):wMts m x vs M Q=wMd m x vs M Q:=by cases m<;>first|rfl|cases h
theorem ZnT{m:MT}{a:MV}{vs:List MV}{M:MH}{Q Q':QM}(hq:∀m M',Q m M'->Q' m M')(h:wMl m a vs M Q):wMl m a vs M Q':=by
 cases a<;>try exact h.elim
 obtain⟨xs,h1,h⟩:=h
 refine⟨xs,h1,?_⟩
 split at h
 ·exact⟨h.1,hq _ _ h.2⟩
 ·obtain⟨ys,a,b,c⟩:=h;exact⟨ys,a,b,hq _ _ c⟩
 ·obtain⟨zs,a,b,c⟩:=h;exact⟨zs,a,b,hq _ _ c⟩
 ·exact h.elim
theorem ZnU{m:MT}{x:MV}{vs:List MV}{M:MH}{Q Q':QM}(hq:∀m M',Q m M'->Q' m M')(h:wMd m x vs M Q):wMd m x vs M Q':=by
 cases m<;>try exact h.elim
 ·obtain⟨a,kvs,h1,h2,h3,h4⟩:=h;exact⟨a,kvs,h1,h2,h3,hq _ _ h4⟩
theorem ZgN{m:MT}{a:MV}{vs:List MV}{M:MH}{Q Q':QM}(hq:∀m M',Q m M'->Q' m M')(h:wMts m a vs M Q):wMts m a vs M Q':=by
 cases e:m.isL
 ·rw[Zju e]at h ⊢;exact ZnU hq h
 ·rw[Zjt e]at h ⊢;exact ZnT hq h
def MT.id:MT->String
 |.dclear=>"dict.clear"|.dget=>"dict.get"|.dgetD=>"dict.get"|.join=>"str.join"
 |.append=>"list.append"|.extend=>"list.extend"|.reverse=>"list.reverse"|.clear=>"list.clear"|.pop=>"list.pop"|.popAt=>"list.pop"|.remove=>"list.remove"
def liM(K:Y02)(w:MV->List MV->MH->QM->Prop):V->List V->Hp->VK->Prop:=λx xs H Q=>∃mx ms M,RM K H mx x/\RMs K H ms xs/\RH K M H/\w mx ms M (Dn K H Q)
theorem RMs.erase{K:Y02}{H:Hp}{m:List MV}{v:List V}(r:RMs K H m v)(k:Nat):RMs K H (m.eraseIdx k) (v.eraseIdx k):=by
 rw[Y1m,Y1m];exact(r.take _).append (r.drop _)
section
variable{X:Cx}
theorem Zlj(m:MT):MtR X m.id (liM X.K (wMl m)):=by
 intro pins s σ H x xs v us Q I rx rs h
 obtain⟨mx,ms,M,r1,r2,rh,h⟩:=h
 cases r1<;>try exact h.elim
 obtain⟨ys,h1,h⟩:=h
 obtain⟨vs,e,q1⟩:=rh.lst h1
 have ku:∀o,Kp H (upd H _ o):=λo=>Kp.upd e rfl o
 split at h
 ·obtain⟨w,rfl,r3⟩:=r2.one
  exact Zcp pins s σ H _ _ v us Q I rx rs ⟨_,vs,w,rfl,rfl,e,by rw[<- q1.length];exact h.1,h.2 _ _ (ku _) .non (rh.put (ku _) ((q1.append (.cons r3 .nil)).mono (ku _)))⟩
 ·obtain⟨w,rfl,r3⟩:=r2.one
  cases r3
  obtain⟨zs,a,b,c⟩:=h
  obtain⟨ws,e2,q2⟩:=rh.lst a
  exact ZgK pins s σ H _ _ v us Q I rx rs ⟨_,_,vs,ws,rfl,rfl,e,e2,by rw[<- q1.length,<- q2.length];exact b,c _ _ (ku _) .non (rh.put (ku _) ((q1.append q2).mono (ku _)))⟩
 ·obtain⟨zs,rfl,hz,f⟩:=h
  obtain⟨u,rfl,ru⟩:=r2.one
  cases ru
  obtain rfl:=q1.strs_of
  exact Zli pins s σ H _ _ v us Q I rx rs ⟨_,zs,_,rfl,rfl,e,hz,f _ _ (ku _) .non (rh.put (ku _) ((RMs.strs _).mono (ku _)))⟩
 ·exact h.elim
theorem Zlk(hu:X.A.units+1<cLine)(m:MT):MtR X m.id (liM X.K (wMd m)):=by
 intro pins s σ H x xs v us Q I rx rs h
 obtain⟨mx,ms,M,r1,r2,rh,h⟩:=h
 cases m<;>try exact h.elim
 ·obtain⟨a,kvs,rfl,h2,rfl,h4⟩:=h
  cases r1;cases r2
  obtain⟨vs,e,q,nd⟩:=rh.dic h2
  have k:=Kp.upd e rfl (.dK [])
  exact ZgL pins s σ H _ _ v us Q I rx rs ⟨a,vs,rfl,rfl,e,h4 _ _ k .non (rh.put k ⟨.nil,Y3J⟩)⟩
theorem ZjP(hu:X.A.units+1<cLine)(m:MT):MtR X m.id (liM X.K (wMts m)):=by
 intro pins s σ H x xs v us Q I rx rs h
 obtain⟨mx,ms,M,r1,r2,rh,h⟩:=h
 cases e:m.isL
 ·rw[Zju e]at h;exact Zlk hu m pins s σ H x xs v us Q I rx rs ⟨mx,ms,M,r1,r2,rh,h⟩
 ·rw[Zjt e]at h;exact Zlj m pins s σ H x xs v us Q I rx rs ⟨mx,ms,M,r1,r2,rh,h⟩
end
def wPut(o i v:MV)(M:MH)(Q:MH->Prop):Prop:=match o with
 |.ref a=>(∃xs k j,M a=some (.lst xs)/\i=.int k/\ixN xs.length k=some j/\Q (updM M a (.lst (xs.set j v))))\/∃kvs kk,M a=some (.dic kvs)/\keyM i=some kk/\kvs.length<sizeLine/\Q (updM M a (.dic (putM kvs kk v)))
 |_=>False
theorem ZgM{o i v:MV}{M:MH}{Q Q':MH->Prop}(hq:∀M',Q M'->Q' M')(h:wPut o i v M Q):wPut o i v M Q':=by
 cases o<;>try exact h.elim
 rcases h with⟨xs,k,j,h1,h2,h3,h4⟩|⟨kvs,kk,h1,h2,h3,h4⟩
 ·exact .inl ⟨xs,k,j,h1,h2,h3,hq _ h4⟩
 ·exact .inr ⟨kvs,kk,h1,h2,h3,hq _ h4⟩
def DnH(K:Y02)(H:Hp)(Q:Hp->Prop):MH->Prop:=λM=>∀H',Kp H H'->RH K M H'->Q H'
def ZnW(K:Y02):TSet:=λo i v H Q=>∃mo mi mv M,RM K H mo o/\RM K H mi i/\RM K H mv v/\RH K M H/\wPut mo mi mv M (DnH K H Q)
section
variable{X:Cx}
theorem Zks(hu:X.A.units+1<cLine):PSet X (ZnW X.K):=by
 intro pins s σ H o i v ov iv u Q I ro ri rv h
 obtain⟨mo,mi,mv,M,r1,r2,r3,rh,h⟩:=h
 cases r1<;>try exact h.elim
 rcases h with⟨xs,k,j,h1,rfl,h3,h4⟩|⟨kvs,kk,h1,h2,h3,h4⟩
 ·cases r2
  obtain⟨vs,e,q1⟩:=rh.lst h1
  have k:=Kp.upd e rfl (.lst (vs.set j v))
  exact Zii pins s σ H _ _ v ov iv u Q I ro ri rv ⟨_,vs,_,j,rfl,rfl,e,by rw[<- q1.length];exact h3,h4 _ k (rh.put k ((q1.set r3 j).mono k))⟩
 ·obtain⟨vs,e,q1,nd⟩:=rh.dic h1
  have ek:=Zcv h2 r2
  subst ek
  obtain rfl:ov=Y0q _:=ro
  have k:=Kp.upd e rfl (.dK (putK vs kk v))
  obtain⟨q2,nd2⟩:=Zgs (k:=kk) r3 nd q1
  exact ZhC hu I (DPut.k (k:=kk) e (by rw[<- q1.length];exact h3)) ri rv λs4 I4=>⟨_,I4,h4 _ k (rh.put k ⟨q2.mono k,nd2⟩)⟩
end
end L2
namespace L2
set_option genInjectivity false
open PySem PySem.Spec PyProof.Rows
mutual
inductive ITg where|nm (i:Nat)|tup (ts:ITgs)
inductive ITgs where|nil|cons (t:ITg) (ts:ITgs)
end
mutual
inductive IE where
 |var (i:Nat)
 |int (i:Int)|str (x:Str)|bl (b:Bool)|non
 |glb (x:Str) (i:Int)
 |ty (c:Ty7)
 |bin (op:Operator) (a b:IE)
 |neg (a:IE)
 |not (a:IE)
 |cmp (op:CmpOp) (a b:IE)
 |chn (op op':CmpOp) (a b c:IE)
 |and (a b:IE)
 |or (a b:IE)
 |ife (c a b:IE)
 |tup (es:IEs)
 |lst (es:IEs)
 |dic
 |ix (a b:IE)
 |sl (a:IE) (lo hi:IO)
 |call (j:Nat) (e:IE) (es:IEs)
 |bi (f:BI) (e:IE) (es:IEs)
 |b2 (f:B2) (e:IE)
 |mt (m:MT) (o:IE) (es:IEs)
 |comp (own:List Str) (fr:List Nat) (src:ISr) (tg:ITg) (test:IO) (elt:IE)
 |fld (c:Str) (o:IE) (f:Str)
 |mcall (j:Nat) (c m:Str) (o:IE) (es:IEs)
 |make (j:Nat) (c:Str) (e:IE) (es:IEs)
 |disp (ps:IPs)
 |mxd (e:IE)
inductive IPs where|nil|cons (k v:IE) (r:IPs)
inductive IEs where|nil|cons (e:IE) (es:IEs)
inductive IO where|none|some (e:IE)
inductive ISr where|seq (e:IE)|rng (e:IE)|rng2 (a b:IE)|rng3 (a b c:IE)
end
def wMxd(v:MV)(M:MH)(Q:QM):Prop:=∃(a:Addr) (ns:List Int),v=.ref a/\M a=some (.lst (ns.map MV.int))/\∀m,(ns=[]/\m=0\/m∈ns/\∀i∈ns,i≤m)->Q (.int m) M
theorem Zll{v:MV}{M:MH}{Q Q':QM}(hq:∀v M,Q v M->Q' v M)(h:wMxd v M Q):wMxd v M Q':=by
 obtain⟨a,ns,h1,h2,h3⟩:=h
 exact⟨a,ns,h1,h2,λm hm=>hq _ _ (h3 m hm)⟩
inductive Src where|tup (xs:List MV)|lst (a:Addr) (xs:List MV)|rng (lo:Int) (n:Nat)|rst (lo st:Int) (n:Nat)|dic (a:Addr) (o:Obj) (kvs:List (Key×MV))|str (x:Str)
def kM:Key->MV
 |.inl i=>.int i
 |.inr x=>.str x
def Src.items:Src->List MV
 |.tup xs=>xs
 |.lst _ xs=>xs
 |.rng lo n=>(Y0U n).map λi=>.int (lo+(i:Nat))
 |.rst lo st n=>(Y0U n).map λi=>.int (lo+(i:Nat)*st)
 |.dic _ _ kvs=>kvs.map λp=>kM p.1
 |.str x=>x.cps.toList.map λc=>.str ⟨#[c]⟩
def Src.ok(M:MH):Src->Prop
 |.lst a xs=>M a=some (.lst xs)
 |.dic a o kvs=>M a=some (.fdic o kvs)
 |_=>True
def Src.okF(M:MH):Src->Prop
 |.lst a xs=>M a=some (.lst xs)
 |.dic _ _ _=>False
 |_=>True
def Src.okT(M:MH):Src->Prop
 |.dic a o kvs=>M a=some (.fdic o kvs)
 |_=>True
def Src.thaw(M:MH):Src->MH
 |.dic a _ kvs=>updM M a (.dic kvs)
 |_=>M
def Src.len:Src->Nat
 |.tup xs=>xs.length
 |.lst _ xs=>xs.length
 |.rng _ n=>n
 |.rst _ _ n=>n
 |.dic _ _ kvs=>kvs.length
 |.str x=>x.cps.size
theorem Src.items_len(S:Src):S.items.length=S.len:=by cases S<;>simp[Src.items,Src.len]
abbrev SpM:=List MV->MH->QM->Prop
abbrev TSm:=Sm->MH->(Src->MH->Prop)->Prop
mutual
def wTg:ITg->MV->Sm->(Sm->Prop)->Prop
 |.nm i,v,σ,Q=>Q (σ.set i (some v))
 |.tup ts,v,σ,Q=>∃xs,v=.tup xs/\wTgs ts xs σ Q
def wTgs:ITgs->List MV->Sm->(Sm->Prop)->Prop
 |.nil,xs,σ,Q=>xs=[]/\Q σ
 |.cons t ts,xs,σ,Q=>∃v r,xs=v::r/\wTg t v σ λσ'=>wTgs ts r σ' Q
end
def sCm(own:List Str)(fr:List Nat)(σ:Sm):Sm:=own.map (λ_=>none)++fr.map (λi=>σ.getD i none)
def onV(o:Option (Option MV))(k:MV->Prop):Prop:=match o with
 |some (some v)=>k v
 |_=>False
theorem ZnL{o:Option (Option MV)}{k:MV->Prop}:onV o k=∃v,o=some (some v)/\k v:=by
 refine propext ⟨λh=>?_,fun⟨v,e,h⟩=>by subst e;exact h⟩
 match o,h with
 |some (some v),h=>exact⟨v,rfl,h⟩
def onB(x:MV)(k:Bool->Prop):Prop:=match x with
 |.bl c=>k c
 |_=>False
theorem ZaL{x:MV}{k:Bool->Prop}:onB x k=∃c,x=.bl c/\k c:=by
 refine propext ⟨λh=>?_,fun⟨v,e,h⟩=>by subst e;exact h⟩
 cases x<;>first|exact⟨_,rfl,h⟩|exact h.elim
def onF(o:Option (Str×SpM))(k:SpM->Prop):Prop:=match o with
 |some p=>k p.2
 |none=>False
theorem ZnM{o:Option (Str×SpM)}{k:SpM->Prop}:onF o k=∃f sp,o=some (f,sp)/\k sp:=by
 refine propext ⟨λh=>?_,fun⟨f,v,e,h⟩=>by subst e;exact h⟩
 match o,h with
 |some (f,sp),h=>exact⟨f,sp,rfl,h⟩
mutual
def wE(Φ:List (Str×SpM)):IE->TEm
 |.var i,σ,M,Q=>onV σ[i]? λv=>Q v M
 |.int i,_,M,Q=>Q (.int i) M
 |.str x,_,M,Q=>Q (.str x) M
 |.bl b,_,M,Q=>Q (.bl b) M
 |.non,_,M,Q=>Q .non M
 |.glb _ i,_,M,Q=>Q (.int i) M
 |.ty c,_,M,Q=>Q (.ty c) M
 |.bin op a b,σ,M,Q=>wE Φ a σ M λx M1=>wE Φ b σ M1 λy M2=>wBin op x y M2 Q
 |.neg a,σ,M,Q=>wE Φ a σ M λx M1=>∃i,x=.int i/\Q (.int (-i)) M1
 |.not a,σ,M,Q=>wE Φ a σ M λx M1=>onB x λb=>Q (.bl (!b)) M1
 |.cmp op a b,σ,M,Q=>wE Φ a σ M λx M1=>wE Φ b σ M1 λy M2=>wCmp op x y M2 Q
 |.chn op op' a b c,σ,M,Q=>wE Φ a σ M λx M1=>wE Φ b σ M1 λy M2=>wCmp op x y M2 λz M3=>onB z λk=>(if k=true then wE Φ c σ M3 λw M4=>wCmp op' y w M4 Q else Q (.bl false) M3)
 |.and a b,σ,M,Q=>wE Φ a σ M λx M1=>onB x λc=>(if c=true then wE Φ b σ M1 Q else Q (.bl false) M1)
 |.or a b,σ,M,Q=>wE Φ a σ M λx M1=>onB x λc=>(if c=true then Q (.bl true) M1 else wE Φ b σ M1 Q)
 |.ife c a b,σ,M,Q=>wE Φ c σ M λx M1=>onB x λk=>(if k=true then wE Φ a σ M1 Q else wE Φ b σ M1 Q)
 |.tup es,σ,M,Q=>wEs Φ es σ M λvs M1=>vs.length≤sizeLine/\Q (.tup vs) M1
 |.lst es,σ,M,Q=>wEs Φ es σ M λvs M1=>vs.length≤sizeLine/\∀p,M1 p=none->Q (.ref p) (updM M1 p (.lst vs))
 |.dic,_,M,Q=>∀p,M p=none->Q (.ref p) (updM M p (.dic []))
 |.ix a b,σ,M,Q=>wE Φ a σ M λx M1=>wE Φ b σ M1 λy M2=>wIx x y M2 Q
 |.sl a lo hi,σ,M,Q=>wE Φ a σ M λx M1=>wO Φ lo σ M1 λl M2=>wO Φ hi σ M2 λh M3=>wSl x l h M3 Q
 |.call j e es,σ,M,Q=>wE Φ e σ M λv M1=>wEs Φ es σ M1 λvs M2=>onF Φ[j]? λsp=>sp (v::vs) M2 Q
 |.bi f e es,σ,M,Q=>wE Φ e σ M λv M1=>wEs Φ es σ M1 λvs M2=>wBi f (v::vs) M2 Q
 |.b2 f e,σ,M,Q=>wE Φ e σ M λv M1=>wB2 f v M1 Q
 |.mxd e,σ,M,Q=>wE Φ e σ M λv M1=>wMxd v M1 Q
 |.mt m o es,σ,M,Q=>wE Φ o σ M λx M1=>mtOk m x M1/\wEs Φ es σ M1 λvs M2=>wMts m x vs M2 Q
 |.comp own fr src tg test elt,σ,M,Q=>wSr Φ src σ M λS M1=>S.len<sizeLine/\∀D,M1 D=none->∃J:Nat->List MV->MH->Prop,J 0 [] (updM M1 D (.lst []))/\
   (∀i ys M2,J i ys M2->M2 D=some (.lst ys)/\ys.length≤i/\S.ok M2)/\
   (∀i x ys M2,S.items[i]?=some x->J i ys M2->wTg tg x (sCm own fr σ) λσ2=>wI Φ test σ2 M2 λb M4=>
    if b=true then wE Φ elt σ2 M4 λy M5=>M5 D=some (.lst ys)/\J (i+1) (ys++[y]) (updM M5 D (.lst (ys++[y])))else J (i+1) ys M4)/\
   ∀ys M2,J S.len ys M2->Q (.ref D) (S.thaw M2)
 |.fld c o f,σ,M,Q=>wE Φ o σ M λx M1=>∃a fs v,x=.ref a/\M1 a=some (.ins c fs)/\valM fs f=some v/\Q v M1
 |.mcall j c m o es,σ,M,Q=>wE Φ o σ M λx M1=>∃a fs,x=.ref a/\M1 a=some (.ins c fs)/\valM fs m=none/\wEs Φ es σ M1 λvs M2=>∃f sp,Φ[j]?=some (f,sp)/\sp (.ref a::vs) M2 Q
 |.make j c e es,σ,M,Q=>wE Φ e σ M λv M1=>wEs Φ es σ M1 λvs M2=>∃f sp,Φ[j]?=some (f,sp)/\∀p,M2 p=none->sp (.ref p::v::vs) (updM M2 p (.ins c [])) λu M3=>u=.non/\Q (.ref p) M3
 |.disp ps,σ,M,Q=>∀p,M p=none->wPs Φ ps σ (updM M p (.dic [])) λl M2=>M2 p=some (.dic [])/\l.length≤15/\Q (.ref p) (updM M2 p (.dic (Z2K l)))
def wPs(Φ:List (Str×SpM)):IPs->Sm->MH->(List (Key×MV)->MH->Prop)->Prop
 |.nil,_,M,Q=>Q [] M
 |.cons k v r,σ,M,Q=>wE Φ k σ M λx M1=>∃kk,keyM x=some kk/\wE Φ v σ M1 λy M2=>wPs Φ r σ M2 λl M3=>Q ((kk,y)::l) M3
def wEs(Φ:List (Str×SpM)):IEs->TAm
 |.nil,_,M,Q=>Q [] M
 |.cons e es,σ,M,Q=>wE Φ e σ M λv M1=>wEs Φ es σ M1 λvs M2=>Q (v::vs) M2
def wO(Φ:List (Str×SpM)):IO->Sm->MH->(Option Int->MH->Prop)->Prop
 |.none,_,M,Q=>Q none M
 |.some e,σ,M,Q=>wE Φ e σ M λv M1=>∃i,v=.int i/\Q (some i) M1
def wI(Φ:List (Str×SpM)):IO->Sm->MH->(Bool->MH->Prop)->Prop
 |.none,_,M,Q=>Q true M
 |.some e,σ,M,Q=>wE Φ e σ M λv M1=>∃b,v=.bl b/\Q b M1
def wSr(Φ:List (Str×SpM)):ISr->TSm
 |.seq e,σ,M,Q=>wE Φ e σ M λv M1=>(∃xs,(v=.tup xs\/v=.frl xs)/\Q (.tup xs) M1)\/(∃a xs,v=.ref a/\M1 a=some (.lst xs)/\Q (.lst a xs) M1)\/(∃a kvs,v=.ref a/\M1 a=some (.dic kvs)/\∀o,Q (.dic a o kvs) (updM M1 a (.fdic o kvs)))\/∃z,v=.str z/\Q (.str z) M1
 |.rng e,σ,M,Q=>wE Φ e σ M λv M1=>∃j,v=.int j/\ -(2^62)≤j/\j<2^62/\Q (.rng 0 j.toNat) M1
 |.rng2 a b,σ,M,Q=>wE Φ a σ M λx M1=>wE Φ b σ M1 λy M2=>∃i j,x=.int i/\y=.int j/\(-(2^62)≤i/\i<2^62/\ -(2^62)≤j/\j<2^62)/\Q (.rng i (j - i).toNat) M2
 |.rng3 a b c,σ,M,Q=>wE Φ a σ M λx M1=>wE Φ b σ M1 λy M2=>wE Φ c σ M2 λz M3=>∃i j,x=.int i/\y=.int j/\z=.int 2/\(0≤i/\i<2^60/\0≤j/\j<2^60)/\Q (.rst i 2 (len2 i j)) M3
end
section
variable{Φ:List (Str×SpM)}{σ:Sm}{M:MH}{Q:QM}
theorem Zmi{i:Nat}:wE Φ (.var i) σ M Q=∃v,σ[i]?=some (some v)/\Q v M:=ZnL
theorem Zkk{a:IE}:wE Φ (.not a) σ M Q=wE Φ a σ M λx M1=>∃b,x=.bl b/\Q (.bl (!b)) M1:=congrArg (wE Φ a σ M) (funext λ_=>funext λ_=>ZaL)
theorem Zml{op op':CmpOp}{a b c:IE}:wE Φ (.chn op op' a b c) σ M Q=wE Φ a σ M λx M1=>wE Φ b σ M1 λy M2=>wCmp op x y M2 λz M3=>∃k,z=.bl k/\(if k=true then wE Φ c σ M3 λw M4=>wCmp op' y w M4 Q else Q (.bl false) M3):=congrArg (wE Φ a σ M) (funext λ_=>funext λ_=>congrArg (wE Φ b σ _) (funext λ_=>funext λ_=>congrArg (wCmp op _ _ _) (funext λ_=>funext λ_=>ZaL)))
theorem Zkl{a b:IE}:wE Φ (.and a b) σ M Q=wE Φ a σ M λx M1=>∃c,x=.bl c/\(if c=true then wE Φ b σ M1 Q else Q (.bl false) M1):=congrArg (wE Φ a σ M) (funext λ_=>funext λ_=>ZaL)
theorem x_or{a b:IE}:wE Φ (.or a b) σ M Q=wE Φ a σ M λx M1=>∃c,x=.bl c/\(if c=true then Q (.bl true) M1 else wE Φ b σ M1 Q):=congrArg (wE Φ a σ M) (funext λ_=>funext λ_=>ZaL)
theorem Zmk{a b c:IE}:wE Φ (.ife c a b) σ M Q=wE Φ c σ M λx M1=>∃k,x=.bl k/\(if k=true then wE Φ a σ M1 Q else wE Φ b σ M1 Q):=congrArg (wE Φ c σ M) (funext λ_=>funext λ_=>ZaL)
theorem Zjs{j:Nat}{e:IE}{es:IEs}:wE Φ (.call j e es) σ M Q=wE Φ e σ M λv M1=>wEs Φ es σ M1 λvs M2=>∃f sp,Φ[j]?=some (f,sp)/\sp (v::vs) M2 Q:=congrArg (wE Φ e σ M) (funext λ_=>funext λ_=>congrArg (wEs Φ es σ _) (funext λ_=>funext λ_=>ZnM))
end
mutual
theorem Z5v:∀(t:ITg) {v:MV} {σ:Sm} {Q Q':Sm->Prop},(∀σ,Q σ->Q' σ)->wTg t v σ Q->wTg t v σ Q'
 |.nm i,v,σ,Q,Q',hq,h=>by exact hq _ h
 |.tup ts,v,σ,Q,Q',hq,h=>by
  obtain⟨xs,e,h⟩:=h
  exact⟨xs,e,mon_tgs ts hq h⟩
theorem mon_tgs:∀(t:ITgs) {v:List MV} {σ:Sm} {Q Q':Sm->Prop},(∀σ,Q σ->Q' σ)->wTgs t v σ Q->wTgs t v σ Q'
 |.nil,v,σ,Q,Q',hq,h=>by exact⟨h.1,hq _ h.2⟩
 |.cons t ts,v,σ,Q,Q',hq,h=>by
  obtain⟨x,r,e,h⟩:=h
  exact⟨x,r,e,Z5v t (λσ' h'=>mon_tgs ts hq h') h⟩
end
theorem Z23{c:Prop} [Decidable c] {A B A' B':Prop}(ha:A->A')(hb:B->B')(h:if c then A else B):if c then A' else B':=by
 split at h
 ·rw[if_pos (by assumption)];exact ha h
 ·rw[if_neg (by assumption)];exact hb h
mutual
theorem Z09{Φ:List (Str×SpM)}(hΦ:∀(j:Nat) f sp,Φ[j]?=some (f,sp)->MonW sp):∀e:IE,MonE (wE Φ e)
 |.var i,σ,M,Q,Q',hq,h=>by rw[Zmi]at h ⊢;obtain⟨v,e,h⟩:=h;exact⟨v,e,hq _ _ h⟩
 |.int _,σ,M,Q,Q',hq,h=>by exact hq _ _ h
 |.str _,σ,M,Q,Q',hq,h=>by exact hq _ _ h
 |.bl _,σ,M,Q,Q',hq,h=>by exact hq _ _ h
 |.non,σ,M,Q,Q',hq,h=>by exact hq _ _ h
 |.glb _ _,σ,M,Q,Q',hq,h=>by exact hq _ _ h
 |.ty _,σ,M,Q,Q',hq,h=>by exact hq _ _ h
 |.bin op a b,σ,M,Q,Q',hq,h=>by
  exact Z09 hΦ a (λx M1 h1=>Z09 hΦ b (λy M2 h2=>ZgO op hq h2) h1) h
 |.neg a,σ,M,Q,Q',hq,h=>by
  exact Z09 hΦ a (λx M1 ⟨i,e,h1⟩=>⟨i,e,hq _ _ h1⟩) h
 |.not a,σ,M,Q,Q',hq,h=>by
  rw[Zkk]at h ⊢
  exact Z09 hΦ a (λx M1 ⟨i,e,h1⟩=>⟨i,e,hq _ _ h1⟩) h
 |.cmp op a b,σ,M,Q,Q',hq,h=>by
  exact Z09 hΦ a (λx M1 h1=>Z09 hΦ b (λy M2 h2=>Z7C op hq h2) h1) h
 |.chn op op' a b c,σ,M,Q,Q',hq,h=>by
  rw[Zml]at h ⊢
  exact Z09 hΦ a (λx M1 h1=>Z09 hΦ b (λy M2 h2=>Z7C op (λz M3 ⟨k,e,h3⟩=>⟨k,e,Z23 (Z09 hΦ c λw M4 h4=>Z7C op' hq h4) (hq _ _) h3⟩) h2) h1) h
 |.and a b,σ,M,Q,Q',hq,h=>by
  rw[Zkl]at h ⊢
  exact Z09 hΦ a (λx M1 ⟨c,e,h1⟩=>⟨c,e,Z23 (Z09 hΦ b hq) (hq _ _) h1⟩) h
 |.or a b,σ,M,Q,Q',hq,h=>by
  rw[x_or]at h ⊢
  exact Z09 hΦ a (λx M1 ⟨c,e,h1⟩=>⟨c,e,Z23 (hq _ _) (Z09 hΦ b hq) h1⟩) h
 |.ife c a b,σ,M,Q,Q',hq,h=>by
  rw[Zmk]at h ⊢
  exact Z09 hΦ c (λx M1 ⟨k,e,h1⟩=>⟨k,e,Z23 (Z09 hΦ a hq) (Z09 hΦ b hq) h1⟩) h
 |.tup es,σ,M,Q,Q',hq,h=>by
  exact mon_es hΦ es (λvs M1 ⟨e,h1⟩=>⟨e,hq _ _ h1⟩) h
 |.lst es,σ,M,Q,Q',hq,h=>by
  exact mon_es hΦ es (λvs M1 ⟨e,h1⟩=>⟨e,λp hp=>hq _ _ (h1 p hp)⟩) h
 |.dic,σ,M,Q,Q',hq,h=>by
  exact λp hp=>hq _ _ (h p hp)
 |.ix a b,σ,M,Q,Q',hq,h=>by
  exact Z09 hΦ a (λx M1 h1=>Z09 hΦ b (λy M2 h2=>ZjR hq h2) h1) h
 |.sl a lo hi,σ,M,Q,Q',hq,h=>by
  exact Z09 hΦ a (λx M1 h1=>mon_o hΦ lo (λy M2 h2=>mon_o hΦ hi (λz M3 h3=>ZjQ hq h3) h2) h1) h
 |.call j e es,σ,M,Q,Q',hq,h=>by
  rw[Zjs]at h ⊢
  exact Z09 hΦ e (λx M1 h1=>mon_es hΦ es (λy M2 ⟨f,sp,e,h2⟩=>⟨f,sp,e,hΦ _ _ _ e hq h2⟩) h1) h
 |.bi f e es,σ,M,Q,Q',hq,h=>by
  exact Z09 hΦ e (λx M1 h1=>mon_es hΦ es (λy M2 h2=>ZjU f hq h2) h1) h
 |.b2 f e,σ,M,Q,Q',hq,h=>by
  exact Z09 hΦ e (λx M1 h1=>ZjV f hq h1) h
 |.mxd e,σ,M,Q,Q',hq,h=>by
  exact Z09 hΦ e (λx M1 h1=>Zll hq h1) h
 |.mt m o es,σ,M,Q,Q',hq,h=>by
  exact Z09 hΦ o (λx M1 ⟨h0,h1⟩=>⟨h0,mon_es hΦ es (λy M2 h2=>ZgN hq h2) h1⟩) h
 |.comp own fr src tg test elt,σ,M,Q,Q',hq,h=>by
  exact mon_sr hΦ src (λS M1 ⟨hz,h1⟩=>⟨hz,λD hD=>by
   obtain⟨J,j0,j1,j2,j3⟩:=h1 D hD
   exact⟨J,j0,j1,j2,λys M2 hj=>hq _ _ (j3 ys M2 hj)⟩⟩) h
 |.fld c o f,σ,M,Q,Q',hq,h=>by
  exact Z09 hΦ o (λx M1 ⟨a,fs,v,e,e2,e3,h1⟩=>⟨a,fs,v,e,e2,e3,hq _ _ h1⟩) h
 |.mcall j c m o es,σ,M,Q,Q',hq,h=>by
  exact Z09 hΦ o (λx M1 ⟨a,fs,e,e2,e3,h1⟩=>⟨a,fs,e,e2,e3,mon_es hΦ es (λy M2 ⟨f,sp,e,h2⟩=>⟨f,sp,e,hΦ _ _ _ e hq h2⟩) h1⟩) h
 |.make j c e es,σ,M,Q,Q',hq,h=>by
  exact Z09 hΦ e (λx M1 h1=>mon_es hΦ es (λy M2 ⟨f,sp,e,h2⟩=>⟨f,sp,e,λp hp=>hΦ _ _ _ e (λm M' z=>⟨z.1,hq _ _ z.2⟩) (h2 p hp)⟩) h1) h
 |.disp ps,σ,M,Q,Q',hq,h=>by
  exact λp hp=>mon_ps hΦ ps (λl M2 ⟨e,e2,h1⟩=>⟨e,e2,hq _ _ h1⟩) (h p hp)
theorem mon_ps{Φ:List (Str×SpM)}(hΦ:∀(j:Nat) f sp,Φ[j]?=some (f,sp)->MonW sp):∀(e:IPs) {σ M} {Q Q':List (Key×MV)->MH->Prop},(∀m M',Q m M'->Q' m M')->wPs Φ e σ M Q->wPs Φ e σ M Q'
 |.nil,σ,M,Q,Q',hq,h=>by exact hq _ _ h
 |.cons k v r,σ,M,Q,Q',hq,h=>by
  exact Z09 hΦ k (λx M1 ⟨kk,e,h1⟩=>⟨kk,e,Z09 hΦ v (λy M2 h2=>mon_ps hΦ r (λl M3 h3=>hq _ _ h3) h2) h1⟩) h
theorem mon_es{Φ:List (Str×SpM)}(hΦ:∀(j:Nat) f sp,Φ[j]?=some (f,sp)->MonW sp):∀e:IEs,MonA (wEs Φ e)
 |.nil,σ,M,Q,Q',hq,h=>by exact hq _ _ h
 |.cons e es,σ,M,Q,Q',hq,h=>by
  exact Z09 hΦ e (λx M1 h1=>mon_es hΦ es (λy M2 h2=>hq _ _ h2) h1) h
theorem mon_o{Φ:List (Str×SpM)}(hΦ:∀(j:Nat) f sp,Φ[j]?=some (f,sp)->MonW sp):∀(e:IO) {σ M} {Q Q':Option Int->MH->Prop},(∀m M',Q m M'->Q' m M')->wO Φ e σ M Q->wO Φ e σ M Q'
 |.none,σ,M,Q,Q',hq,h=>by exact hq _ _ h
 |.some e,σ,M,Q,Q',hq,h=>by
  exact Z09 hΦ e (λx M1 ⟨i,e,h1⟩=>⟨i,e,hq _ _ h1⟩) h
theorem mon_i{Φ:List (Str×SpM)}(hΦ:∀(j:Nat) f sp,Φ[j]?=some (f,sp)->MonW sp):∀(e:IO) {σ M} {Q Q':Bool->MH->Prop},(∀m M',Q m M'->Q' m M')->wI Φ e σ M Q->wI Φ e σ M Q'
 |.none,σ,M,Q,Q',hq,h=>by exact hq _ _ h
 |.some e,σ,M,Q,Q',hq,h=>by
  exact Z09 hΦ e (λx M1 ⟨i,e,h1⟩=>⟨i,e,hq _ _ h1⟩) h
theorem mon_sr{Φ:List (Str×SpM)}(hΦ:∀(j:Nat) f sp,Φ[j]?=some (f,sp)->MonW sp):∀(e:ISr) {σ M} {Q Q':Src->MH->Prop},(∀m M',Q m M'->Q' m M')->wSr Φ e σ M Q->wSr Φ e σ M Q'
 |.seq e,σ,M,Q,Q',hq,h=>by
  exact Z09 hΦ e (λx M1 h1=>by
   rcases h1 with⟨xs,e,h1⟩|⟨a,xs,e,e2,h1⟩|⟨a,xs,e,e2,h1⟩|⟨z,e,h1⟩
   ·exact .inl ⟨xs,e,hq _ _ h1⟩
   ·exact .inr (.inl ⟨a,xs,e,e2,hq _ _ h1⟩)
   ·exact .inr (.inr (.inl ⟨a,xs,e,e2,λo=>hq _ _ (h1 o)⟩))
   ·exact .inr (.inr (.inr ⟨z,e,hq _ _ h1⟩))) h
 |.rng e,σ,M,Q,Q',hq,h=>by
  exact Z09 hΦ e (λx M1 ⟨j,e,a,b,h1⟩=>⟨j,e,a,b,hq _ _ h1⟩) h
 |.rng2 a b,σ,M,Q,Q',hq,h=>by
  exact Z09 hΦ a (λx M1 h1=>Z09 hΦ b (λy M2 ⟨i,j,e,e2,c,h2⟩=>⟨i,j,e,e2,c,hq _ _ h2⟩) h1) h
 |.rng3 a b c,σ,M,Q,Q',hq,h=>by
  exact Z09 hΦ a (λx M1 h1=>Z09 hΦ b (λy M2 h2=>Z09 hΦ c (λz M3 ⟨i,j,e,e2,e3,c,h3⟩=>⟨i,j,e,e2,e3,c,hq _ _ h3⟩) h2) h1) h
end
end L2
namespace L2
open PySem PySem.Spec PyProof.Rows
structure GI where
 bl:List Str
 gl:List (Str×Int)
 fns:List Str
 mts:List (Nat×Str×Str):=[]
 mks:List (Nat×Str):=[]
 cls:List (Str×Str):=[]
def visB(sc:Scope)(x:Str):Bool:=match sc.names.lookup x with
 |some .local=>true|some .cell=>true|some .free=>true|_=>false
def locB(sc:Scope)(x:Str):Bool:=match sc.names.lookup x with
 |some .local=>true|some .cell=>true|_=>false
def glB(sc:Scope)(x:Str):Bool:=decide (sc.names.lookup x=some .globalImplicit)&& !(x==("__debug__":Str))&&decide (x≠"__name__")
def Zfg(scope osc:Scope):Scope:={scope with names:=scope.names.map fun(n,k)=>if(k==.free&&osc.kind==.function&&osc.names.lookup n==some .cell)then(n,.cell)else(n,k)}
def BI.name:BI->String
 |.len=>"len"|.isinst=>"isinstance"|.max=>"max"|.min=>"min"|.sum=>"sum"|.abs=>"abs"|.int=>"int"|.list=>"list"|.tuple=>"tuple"|.dict=>"dict"|.sorted=>"sorted"|.dictL=>"dict"|.all=>"all"
def MT.name:MT->String
 |.dclear=>"clear"|.dget=>"get"|.dgetD=>"get"|.join=>"join"
 |.append=>"append"|.extend=>"extend"|.reverse=>"reverse"|.clear=>"clear"|.pop=>"pop"|.popAt=>"pop"|.remove=>"remove"
def ZgI:Expr->Bool
 |.Slice ..=>false|_=>true
def Zcn:Expr->Bool
 |.Set ..=>false|_=>true
def tok:IE->Bool
 |.ife ..=>false
 |.not a=>tok a
 |.and a b=>tok a&&tok b
 |.or a b=>tok a&&tok b
 |_=>true
def Z36:Expr->Option Str|.Name x _=>some x|_=>none
def Z6F:Expr->Option Const|.Constant c _ _=>some c|_=>none
def Zmc:Expr->Option (Expr×Operator×Expr)|.BinOp l o r _=>some (l,o,r)|_=>none
def asUn:Expr->Option (UnaryOp×Expr)|.UnaryOp o x _=>some (o,x)|_=>none
def Zjh:Expr->Option (Expr×List CmpOp×List Expr)|.Compare l o r _=>some (l,o,r)|_=>none
def Zji:Expr->Option (BoolOp×List Expr×Pos)|.BoolOp o vs p=>some (o,vs,p)|_=>none
def asIf:Expr->Option (Expr×Expr×Expr)|.IfExp t x y _=>some (t,x,y)|_=>none
def ZhV:Expr->Option (List Expr)|.Tuple xs _ _=>some xs|_=>none
def Zm7:Expr->Option (List Expr)|.List xs _=>some xs|_=>none
def Zmb:Expr->Option (List (Option Expr)×List Expr)|.Dict ks vs _=>some (ks,vs)|_=>none
def ZhW:Expr->Option (Expr×Expr)|.Subscript x y _=>some (x,y)|_=>none
def asSl:Expr->Option (Option Expr×Option Expr×Option Expr)|.Slice l u s _=>some (l,u,s)|_=>none
def Z54:Expr->Option (Expr×List Expr×List Keyword×Pos)|.Call f xs ks p=>some (f,xs,ks,p)|_=>none
def Zmd:Expr->Option (Expr×Str×Pos)|.Attribute o n p=>some (o,n,p)|_=>none
def asLC:Expr->Option (Expr×List Comprehension×Scope)|.ListComp e gs sc _=>some (e,gs,sc)|_=>none
def the1{α:Type}:List α->Option α|[x]=>some x|_=>none
def the3{α:Type}:List α->Option (α×α×α)|[x,y,z]=>some (x,y,z)|_=>none
def the2{α:Type}:List α->Option (α×α)|[x,y]=>some (x,y)|_=>none
def hd1{α:Type}:List α->Option (α×List α)|x::r=>some (x,r)|_=>none
def hd2{α:Type}:List α->Option (α×α×List α)|x::y::r=>some (x,y,r)|_=>none
def non0{α:Type}:List α->Bool|[]=>true|_=>false
def isDf(k:Keyword):Bool:=decide (k.arg=some ("default":Str))&&(Z6F k.value).any fun c=>decide (c=.int 0)
theorem Z07{α:Type}{o:Option α}{p:α->Bool}(h:o.any p=true):∃x,o=some x/\p x=true:=by
 cases o with
 |none=>cases h
 |some x=>exact⟨x,rfl,h⟩
section
variable{e:Expr}
theorem Z16{x:Str}(h:Z36 e=some x):∃p,e=.Name x p:=by cases e<;>cases h;exact⟨_,rfl⟩
theorem Z3I{x:Const}(h:Z6F e=some x):∃k p,e=.Constant x k p:=by cases e<;>cases h;exact⟨_,_,rfl⟩
theorem Zjj{x:Expr×Operator×Expr}(h:Zmc e=some x):∃p,e=.BinOp x.1 x.2.1 x.2.2 p:=by cases e<;>cases h;exact⟨_,rfl⟩
theorem Zm5{x:UnaryOp×Expr}(h:asUn e=some x):∃p,e=.UnaryOp x.1 x.2 p:=by cases e<;>cases h;exact⟨_,rfl⟩
theorem Zf1{x:Expr×List CmpOp×List Expr}(h:Zjh e=some x):∃p,e=.Compare x.1 x.2.1 x.2.2 p:=by cases e<;>cases h;exact⟨_,rfl⟩
theorem Zf2{x:BoolOp×List Expr×Pos}(h:Zji e=some x):e=.BoolOp x.1 x.2.1 x.2.2:=by cases e<;>cases h;rfl
theorem Zm9{x:Expr×Expr×Expr}(h:asIf e=some x):∃p,e=.IfExp x.1 x.2.1 x.2.2 p:=by cases e<;>cases h;exact⟨_,rfl⟩
theorem ZbX{x:List Expr}(h:ZhV e=some x):∃k p,e=.Tuple x k p:=by cases e<;>cases h;exact⟨_,_,rfl⟩
theorem Zjd{x:List Expr}(h:Zm7 e=some x):∃p,e=.List x p:=by cases e<;>cases h;exact⟨_,rfl⟩
theorem Zjg{x:List (Option Expr)×List Expr}(h:Zmb e=some x):∃p,e=.Dict x.1 x.2 p:=by cases e<;>cases h;exact⟨_,rfl⟩
theorem ZbY{x:Expr×Expr}(h:ZhW e=some x):∃p,e=.Subscript x.1 x.2 p:=by cases e<;>cases h;exact⟨_,rfl⟩
theorem Zm6{x:Option Expr×Option Expr×Option Expr}(h:asSl e=some x):∃p,e=.Slice x.1 x.2.1 x.2.2 p:=by cases e<;>cases h;exact⟨_,rfl⟩
theorem Z25{x:Expr×List Expr×List Keyword×Pos}(h:Z54 e=some x):e=.Call x.1 x.2.1 x.2.2.1 x.2.2.2:=by cases e<;>cases h;rfl
theorem Zjk{x:Expr×Str×Pos}(h:Zmd e=some x):e=.Attribute x.1 x.2.1 x.2.2:=by cases e<;>cases h;rfl
theorem Zm8{x:Expr×List Comprehension×Scope}(h:asLC e=some x):∃p,e=.ListComp x.1 x.2.1 x.2.2 p:=by cases e<;>cases h;exact⟨_,rfl⟩
theorem Z2t{α:Type}{l:List α}{x:α}(h:the1 l=some x):l=[x]:=by
 match l,h with
 |[_],h=>cases h;rfl
theorem Zdj{α:Type}{l:List α}{x:α×α}(h:the2 l=some x):l=[x.1,x.2]:=by
 match l,h with
 |[_,_],h=>cases h;rfl
theorem Zkn{α:Type}{l:List α}{x:α×α×α}(h:the3 l=some x):l=[x.1,x.2.1,x.2.2]:=by
 match l,h with
 |[_,_,_],h=>cases h;rfl
theorem Z8A{α:Type}{l:List α}{x:α×List α}(h:hd1 l=some x):l=x.1::x.2:=by
 match l,h with
 |_::_,h=>cases h;rfl
theorem Zk9{α:Type}{l:List α}{x:α×α×List α}(h:hd2 l=some x):l=x.1::x.2.1::x.2.2:=by
 match l,h with
 |_::_::_,h=>cases h;rfl
theorem Z1j{α:Type}{l:List α}(h:non0 l=true):l=[]:=by
 match l,h with
 |[],_=>rfl
end
def ZjI(e:Expr):Bool:=(Z36 e).isSome||(Z6F e).isSome||(Zmc e).isSome||(asUn e).isSome||(Zjh e).isSome||(Zji e).isSome||(asIf e).isSome||(ZhV e).isSome||(Zm7 e).isSome||(Zmb e).isSome||(ZhW e).isSome||(Z54 e).isSome||(asLC e).isSome||(Zmd e).isSome
mutual
def Z8Q(sc:Scope)(N:List Str)(lim:Nat)(all:Bool):ITg->Expr->Bool
 |.nm i,e=>(Z36 e).any λx=>decide (N[i]?=some x)&&decide (i<lim)&&(if all then locB sc x else decide (sc.names.lookup x=some .local))
 |.tup ts,e=>(ZhV e).any λes=>chkTgs sc N lim all ts es
def chkTgs(sc:Scope)(N:List Str)(lim:Nat)(all:Bool):ITgs->List Expr->Bool
 |.nil,l=>non0 l
 |.cons t ts,l=>(hd1 l).any λq=>Z8Q sc N lim all t q.1&&chkTgs sc N lim all ts q.2
end
mutual
def chkE(G:GI):IE->Scope->List Str->Expr->Bool
 |.var i,sc,N,e=>(Z36 e).any fun x=>decide (N[i]?=some x)&&visB sc x&& !(x==("__debug__":Str))&& !(x==("__classdict__":Str))
 |.int i,_,_,e=>(Z6F e).any λc=>decide (c=.int i)
 |.str x,_,_,e=>(Z6F e).any λc=>decide (c=.str x)
 |.bl b,_,_,e=>(Z6F e).any λc=>decide (c=.bool b)
 |.non,_,_,e=>(Z6F e).any λc=>decide (c=.none)
 |.glb x i,sc,_,e=>(Z36 e).any λy=>decide (x=y)&&decide (G.gl.lookup x=some i)&&glB sc x
 |.ty c,sc,_,e=>(Z36 e).any λy=>decide (y=(c.name:Str))&&decide (c≠.none)&&G.bl.contains y&&glB sc y
 |.bin op a b,sc,N,e=>(Zmc e).any λq=>decide (op=q.2.1)&&chkE G a sc N q.1&&chkE G b sc N q.2.2
 |.neg a,_,_,_=>false
 |.not a,sc,N,e=>(asUn e).any λq=>decide (q.1=.Not)&&chkE G a sc N q.2
 |.cmp op a b,sc,N,e=>(Zjh e).any λq=>(the1 q.2.1).any λo=>(the1 q.2.2).any λr=>decide (op=o)&&chkE G a sc N q.1&&chkE G b sc N r&& !behindInMarks op r
 |.chn op op' a b c,sc,N,e=>(Zjh e).any λq=>(the2 q.2.1).any λo=>(the2 q.2.2).any λr=>decide (op=o.1)&&decide (op'=o.2)&&chkE G a sc N q.1&&chkE G b sc N r.1&&chkE G c sc N r.2&& !lastMarks [op,op'] [r.1,r.2]
 |.and a b,sc,N,e=>(Zji e).any λq=>(hd2 q.2.1).any λv=>decide (q.1=.And)&&chkE G a sc N v.1&&chkE G b sc N (if non0 v.2.2 then v.2.1 else .BoolOp .And (v.2.1::v.2.2) q.2.2)
 |.or a b,sc,N,e=>(Zji e).any λq=>(hd2 q.2.1).any λv=>decide (q.1=.Or)&&chkE G a sc N v.1&&chkE G b sc N (if non0 v.2.2 then v.2.1 else .BoolOp .Or (v.2.1::v.2.2) q.2.2)
 |.ife c a b,sc,N,e=>(asIf e).any λq=>tok c&&chkE G c sc N q.1&&chkE G a sc N q.2.1&&chkE G b sc N q.2.2
 |.tup es,sc,N,e=>(ZhV e).any λxs=>chkEs G es sc N xs
 |.lst es,sc,N,e=>(Zm7 e).any λxs=>chkEs G es sc N xs
 |.dic,_,_,e=>(Zmb e).any λq=>non0 q.1&&non0 q.2
 |.ix a b,sc,N,e=>(ZhW e).any λq=>chkE G a sc N q.1&&chkE G b sc N q.2&&ZgI q.2
 |.sl a lo hi,sc,N,e=>(ZhW e).any λq=>(asSl q.2).any λs=>chkE G a sc N q.1&&chkO G lo sc N s.1&&chkO G hi sc N s.2.1&& !s.2.2.isSome
 |.call j f es,sc,N,e=>(Z54 e).any λq=>(Z36 q.1).any λg=>(hd1 q.2.1).any λx=>non0 q.2.2.1&&decide (G.fns[j]?=some g)&&glB sc g&&chkE G f sc N x.1&&chkEs G es sc N x.2
 |.bi f a es,sc,N,e=>(Z54 e).any λq=>(Z36 q.1).any λg=>(hd1 q.2.1).any λx=>non0 q.2.2.1&&decide (g=(f.name:Str))&&G.bl.contains g&&glB sc g&&chkE G a sc N x.1&&chkEs G es sc N x.2
 |.b2 f a,sc,N,e=>(Z54 e).any λq=>(Z36 q.1).any λg=>(the1 q.2.1).any λy=>(Z54 y).any λr=>(Z36 r.1).any λk=>(the1 r.2.1).any λx=>non0 q.2.2.1&&non0 r.2.2.1&&decide (g=(f.out:Str))&&decide (k=(f.inn:Str))&&G.bl.contains g&&G.bl.contains k&&glB sc g&&glB sc k&&chkE G a sc N x
 |.mxd a,sc,N,e=>(Z54 e).any fun q=>(Z36 q.1).any fun g=>(the1 q.2.1).any fun x=>(the1 q.2.2.1).any fun k=>decide (g=("max":Str))&&isDf k&&G.bl.contains g&&glB sc g&&chkE G a sc N x
 |.mt m o es,sc,N,e=>(Z54 e).any λq=>(Zmd q.1).any λa=>non0 q.2.2.1&&decide (a.2.1=(m.name:Str))&&(a.2.2.endLine==q.2.2.2.line)&&chkE G o sc N a.1&&chkEs G es sc N q.2.1&&decide (q.2.1.length<20)
 |.comp own fr src tg test elt,sc,N,e=>(asLC e).any λq=>(the1 q.2.1).any λg=>Zbf sc q.2.2 N own fr&&Zcn g.iter&&decide (nC own fr N).Nodup&&chkSr G src sc N g.iter&&Z8Q (Zfg q.2.2 sc) (nC own fr N) own.length false tg g.target&&
   chkI G test (Zfg q.2.2 sc) (nC own fr N) g.ifs&&chkE G elt (Zfg q.2.2 sc) (nC own fr N) q.1&&decide (g.is_async=0)
 |.fld c o f,_,_,_=>false
 |.mcall j c m o es,_,_,_=>false
 |.make j c a es,_,_,_=>false
 |.disp ps,_,_,_=>false
def ZhI(G:GI):IPs->Scope->List Str->List (Option Expr)->List Expr->Bool
 |.nil,_,_,l,r=>non0 l&&non0 r
 |.cons k v ps,sc,N,l,r=>(hd1 l).any λq=>(hd1 r).any λs=>q.1.any λx=>chkE G k sc N x&&chkE G v sc N s.1&&ZhI G ps sc N q.2 s.2
def chkEs(G:GI):IEs->Scope->List Str->List Expr->Bool
 |.nil,_,_,l=>non0 l
 |.cons e es,sc,N,l=>(hd1 l).any λq=>chkE G e sc N q.1&&chkEs G es sc N q.2
def chkO(G:GI):IO->Scope->List Str->Option Expr->Bool
 |.none,_,_,o=>!o.isSome
 |.some e,sc,N,o=>o.any λx=>chkE G e sc N x
def chkI(G:GI):IO->Scope->List Str->List Expr->Bool
 |.none,_,_,l=>non0 l
 |.some e,sc,N,l=>(the1 l).any λx=>tok e&&chkE G e sc N x
def chkSr(G:GI):ISr->Scope->List Str->Expr->Bool
 |.seq a,sc,N,e=>chkE G a sc N e
 |.rng a,sc,N,e=>(Z54 e).any fun q=>(Z36 q.1).any fun f=>(the1 q.2.1).any fun x=>non0 q.2.2.1&&decide (f=("range":Str))&&G.bl.contains f&&glB sc f&&chkE G a sc N x
 |.rng2 a b,sc,N,e=>(Z54 e).any fun q=>(Z36 q.1).any fun f=>(the2 q.2.1).any fun x=>non0 q.2.2.1&&decide (f=("range":Str))&&G.bl.contains f&&glB sc f&&chkE G a sc N x.1&&chkE G b sc N x.2
 |.rng3 a b c,sc,N,e=>(Z54 e).any fun q=>(Z36 q.1).any fun f=>(the3 q.2.1).any fun x=>non0 q.2.2.1&&decide (f=("range":Str))&&G.bl.contains f&&glB sc f&&chkE G a sc N x.1&&chkE G b sc N x.2.1&&chkE G c sc N x.2.2
end
def liSp(K:Y02)(sp:SpM):Sp:=λvs H Q _=>∃ms M,RMs K H ms vs/\RH K M H/\sp ms M (Dn K H Q)
structure Cok (X:Cx) (G:GI) (Φ:List (Str×SpM)):Prop where
 room:X.A.units+70<cLine
 calm:X.calm=true
 nox:X.xe=λ_ _=>False
 blk:X.env.blockKind=.function
 nd:X.N.Nodup
 bls:∀x,G.bl.contains x=true->X.mg x=none
 gls:∀x i,G.gl.lookup x=some i->∃tk,X.mg x=some (.int i tk)
 fnn:∀(j:Nat) f,G.fns[j]?=some f->∃sp,Φ[j]?=some (f,sp)
 mon:∀(j:Nat) f sp,Φ[j]?=some (f,sp)->MonW sp
 fns:∀(j:Nat) f sp,G.fns[j]?=some f->Φ[j]?=some (f,sp)->∃k fa fd ps,Room k X.A/\FnOk X.prog X.w X.K X.mg X.base CX0 k fa fd ps (liSp X.K sp)/\X.mg f=some (.ref fa)/\Y0a X.K (.ref fa)=true/\Binds X.K fd ps []
 mts:∀(j:Nat) c m,G.mts.contains (j,c,m)=true->∃f sp,Φ[j]?=some (f,sp)/\∃k C fa fd ps,Room k X.A/\FnOk X.prog X.w X.K X.mg X.base CX0 k fa fd ps (liSp X.K sp)/\Y07 X.K mainGlobals c=some (some (.ref C))/\Cls X.K C/\Meth X.K C m fa/\Binds X.K fd ps []
 mks:∀(j:Nat) c,G.mks.contains (j,c)=true->∃f sp,Φ[j]?=some (f,sp)/\∃k C fa fd ps,Room (k+1) X.A/\FnOk X.prog X.w X.K X.mg X.base CX0 k fa fd ps (liSp X.K sp)/\Y07 X.K mainGlobals c=some (some (.ref C))/\X.mg c=some (.ref C)/\Mk X.K C fa/\Binds X.K fd ps []
 cls:∀c f,G.cls.contains (c,f)=true->∃C,Y07 X.K mainGlobals c=some (some (.ref C))/\Cls X.K C/\NoAttr X.K C f
section
variable{X:Cx}{G:GI}{Φ:List (Str×SpM)}
theorem Zmp{sc:Scope}{x:Str}(h:visB sc x=true):Vis sc x:=by
 unfold visB at h
 unfold Vis
 cases e:sc.names.lookup x with
 |none=>rw[e]at h;cases h
 |some k=>rw[e]at h;cases k<;>first|exact .inl rfl|exact .inr (.inl rfl)|exact .inr (.inr rfl)|cases h
theorem Zez{sc:Scope}{x:Str}(h:locB sc x=true):Loc sc x:=by
 unfold locB at h
 unfold Loc
 cases e:sc.names.lookup x with
 |none=>rw[e]at h;cases h
 |some k=>rw[e]at h;cases k<;>first|exact .inl rfl|exact .inr rfl|cases h
theorem Zaw{x:Str}(h:glB X.env.scope x=true):Gl X x/\(x==("__debug__":Str))=false/\x≠"__name__":=by
 unfold glB at h
 simp only[Y0H,decide_eq_true_eq,Bool.not_eq_true']at h
 exact⟨h.1.1,h.1.2,h.2⟩
theorem Zm4(f:BI):bootBuiltins (f.name:Str)=some f.val:=by cases f<;>(show bootBuiltins _=some _;decide+kernel)
theorem Zm3{c:Ty7}(h:c≠.none):bootBuiltins (c.name:Str)=some (.type c.name):=by cases c<;>first|exact absurd rfl h|decide+kernel
theorem boot_range:bootBuiltins ("range":Str)=some (.type "range"):=by decide+kernel
theorem ZfO:∀{ie:IE} {sc:Scope} {N:List Str} {e:Expr},chkE G ie sc N e=true->ZjI e=true:=by
 intro ie sc N e h
 cases ie
 all_goals
  first
   |exact absurd h Y09
   |(replace h:=Z07 h
     obtain⟨x,hx,_⟩:=h
     simp only[ZjI,hx,Option.isSome_some,Y3w,Y3o])
theorem Z0F:∀{ie:IE} {sc:Scope} {N:List Str} {e:Expr} {es:List Expr} {env:Env},chkE G ie sc N e=true->starEach (e::es) env=(false,eval e env)::starEach es env:=by
 intro ie sc N e es env h
 cases e<;>first|rfl|cases ZfO h
theorem Z5a:∀{ies:IEs} {sc:Scope} {N:List Str} {es:List Expr} {env:Env} {pos:Pos},chkEs G ies sc N es=true->(starEach es env).all (λx=>!x.1)=true
 |.nil,sc,N,es,_,_,h=>by
  cases Z1j h
  rfl
 |.cons e es,sc,N,xs,env,pos,h=>by
  replace h:=Z07 h
  obtain⟨q,h1,h2⟩:=h
  cases Z8A h1
  rw[Y0H]at h2
  rw[Z0F h2.1,Y24]
  exact Z5a (pos:=pos) h2.2
theorem ZiH:∀{ie:IE} {sc:Scope} {N:List Str} {x:Str} {px p:Pos} {ks:List Keyword},chkE G ie sc N (.Call (.Name x px) [] ks p)=true->False:=by
 intro ie sc N x px p ks h
 cases ie
 all_goals exact absurd h Y09
theorem Zd8{ie:IE}{sc:Scope}{N:List Str}{o:Expr}{nm:Str}{env:Env}(h:chkE G ie sc N o=true):attributeBase o nm env (eval o env)=eval o env:=by
 cases o<;>try rfl
 rename_i fn args kw pos
 cases fn<;>try rfl
 cases args with
 |cons a r=>rfl
 |nil=>exact(ZiH h).elim
theorem Z7o{pos:Pos}{l:List (Bool×Sem Value)}(h:l.all (λx=>!x.1)=true):(backTo pos l).all (λx=>!x.1)=true/\(backTo pos l).any (·.1)=false:=by
 induction l with
 |nil=>exact⟨rfl,rfl⟩
 |cons a r ih=>
  rw[Y24,Y0H]at h
  obtain⟨h1,h2⟩:=ih h.2
  have e:a.1=false:=by simpa using h.1
  unfold backTo at h1 h2 ⊢
  rw[Y0h,Y24,Y1t,h1,h2]
  obtain⟨b,t⟩:=a
  cases e
  exact⟨rfl,rfl⟩
end
end L2
namespace L2
open PySem PySem.Spec PyProof.Rows
def tCW2(own:List Str)(fr:List Nat)(g:TG)(tt:TT)(te:TE)(σ:St)(H1:Hp)(Q:VK)(J:It)(D:Addr):Prop:=∃W:Nat->Nat->List V->Hp->Prop,
 (∃m,W 0 m [] (upd H1 D (.lst [])))/\∀i m ys H2,W i m ys H2->
  ((J.stop i H2/\Q (.ref D) H2)\/(J.go i H2/\∃N:List V->Hp->Prop,(∀ys' H',N ys' H'->∃m',m'<m/\W (i+1) m' ys' H')/\∀x H3,J.yld i H2 x H3->g x (sC own fr σ) H3 λσ2 H4=>Keep (sC own fr σ) σ2/\tt σ2 H4 λb H5=>
   if b=true then te σ2 H5 λy H6=>∃zs,H6 D=some (.lst zs)/\zs.length<sizeLine/\N (zs++[y]) (upd H6 D (.lst (zs++[y])))else N ys H5))
def Zg3(own:List Str)(fr:List Nat)(wi:TI)(g:TG)(tt:TT)(te:TE):TE:=λσ H Q=>wi σ H λJ H1=>∀D,H1 D=none->tCW2 own fr g tt te σ H1 Q J D
section
variable{X:Cx}{pins:List (Addr×Obj)}{σ:St}{H1:Hp}{s2:Shared}{tg elt iter:Expr}{ifs:List Expr}{scope:Scope}{pos:Pos}{own:List Str}{fr:List Nat}{g:TG}{tt:TT}{te:TE}
theorem Zbe{J:It}{fp:List Addr}{it:Addr}{tn:Nat->Heap->Prop}{RR:Value->Addr->Result->Shared->Prop}{Q:VK}{E:Value->Shared->Prop}(hc:X.calm=true)(ok:CompOk X.env.scope scope X.N fr)
  (hg:∀C fp s₃ H₃,PG (cxC X scope own fr C fp s₃ H₃) tg g) (ht:∀C fp s₃ H₃,PTs (cxC X scope own fr C fp s₃ H₃) ifs tt) (he:∀C fp s₃ H₃,PE (cxC X scope own fr C fp s₃ H₃) elt te)
  (I2:Inv X pins σ H1 s2) (T:Turn X.prog X.w X.K tg J fp it tn) (st:tn 0 s2.heap) (hf:∀b∈fp,FpOk X pins H1 b)
  (h:∀D,H1 D=none->tCW2 own fr g tt te σ H1 Q J D)
  (hRR:∀D C H' s',Inv X pins σ H' s'->(∃m,s'.heap.Ns C m)->H' C=none->C≠X.env.locals->X.s₀.heap.objs.size≤C->(∀x c,X.env.cells.lookup x=some c->c≠C)->(∀p∈X.pn++pins,p.1≠C)->Q (.ref D) H'->RR (.ref D) C (.ok .next) s'):
  wpAny (model X.prog X.w) X.A (newList []) (λacc s₃=>wpAny (model X.prog X.w) X.A (newFunctionEnv scope X.env.globals (clOf X.env.cells scope.names []) [] X.env.qual none .none (some X.env)) (λcenv s₄=>
   codeAny (model X.prog X.w) X.A (.compStart (.ListComp elt [⟨tg,iter,ifs,0⟩] scope pos) 0 (.ref it) acc {cenv with scope:=relabel scope X.env}) (RR acc cenv.locals) s₄) E s₃) E s2:=by
 have hD:H1 s2.heap.objs.size=none:=I2.hok.fresh (Y0b _)
 obtain⟨W,⟨m0,w0⟩,step⟩:=h _ hD
 refine wpAny_newObj_type (wpAny_newFunctionEnv ok.nocell (by intro y hy;simp at hy) (λh4 ns4 sb4=>?_) ok.kind)
 dsimp only at ns4 sb4 ⊢
 have I3:Inv X pins σ (upd H1 s2.heap.objs.size (.lst [])) {s2 with heap:=s2.heap.push {cls:=.type "list",dict:=none,data:=.seq ([]:List Value).toArray},toks:=s2.toks}:=
  I2.laid (λb u e=>Y03 _ e) (Y0b _) ⟨Y17 _,[],0,.nil,Y0e _ rfl⟩
 have fpo:∀b∈fp,∃o,s2.heap.get? b=some o:=λb hb=>let⟨o,e,_⟩:=T.obj 0 _ st b hb;⟨o,e⟩
 have fpD:∀b∈fp,b≠s2.heap.objs.size:=λb hb=>let⟨o,e⟩:=fpo b hb;Y0m (Y0i e)
 have hf3:∀b∈fp,FpOk X pins (upd H1 s2.heap.objs.size (.lst [])) b:=λb hb=>⟨by rw[Z0y (fpD b hb)];exact(hf b hb).1,(hf b hb).2⟩
 generalize hs3:({s2 with heap:=s2.heap.push {cls:=.type "list",dict:=none,data:=.seq ([]:List Value).toArray},toks:=s2.toks}:Shared)=s3 at*
 have e3:s2.heap.push {cls:=.type "list",dict:=none,data:=.seq ([]:List Value).toArray}=s3.heap:=by rw[<- hs3]
 rw[e3]at ns4 sb4 ⊢
 have kp:∀b o,s3.heap.get? b=some o->h4.get? b=some o:=λb o e=>(sb4.2 b (Y0m (Y0i e))).trans (Y03 _ e)
 have fpo3:∀b∈fp,∃o,s3.heap.get? b=some o:=λb hb=>let⟨o,e⟩:=fpo b hb;⟨o,by rw[<- e3];exact Y03 _ e⟩
 have I4:=ZfG (own:=own) (scope:=scope) (fr:=fr) (tk:=s2.toks+0) ok I3 rfl hf3 fpo3 ns4 kp
 have st4:tn 0 h4:=T.keep _ _ _ st λb hb o e=>kp b o (by rw[<- e3];exact Y03 _ e)
 have fpC:∀b∈fp,b≠s3.heap.objs.size:=λb hb=>let⟨o,e⟩:=fpo3 b hb;Y0m (Y0i e)
 have stat:∀{H':Hp},(∀b∈fp,H' b=none)->∀b∈fp,FpOk (cxC X scope own fr s3.heap.objs.size fp s3 (upd H1 s2.heap.objs.size (.lst []))) pins H' b:=λhn b hb=>by
  refine⟨hn b hb,fpC b hb,λz=>?_,.inl hb,λx c e=>?_,(hf b hb).2.2.2.2.2⟩
  ·rcases Y0f.mp (I3.stkSub b z)with z|z
   ·exact(hf b hb).2.1 z
   ·exact(hf b hb).2.2.1 z
  ·exact(hf b hb).2.2.2.2.1 x c ((Z50 _ _ _ _ _ e).elim (λz=>by simp at z) id)
 have loop:codeAny (model X.prog X.w) X.A (.compLoop (.ListComp elt [⟨tg,iter,ifs,0⟩] scope pos) 0 (.ref it) (.ref s2.heap.objs.size) (compEnvC scope (clOf X.env.cells scope.names []) s3.heap.objs.size X.env))
   (RR (.ref s2.heap.objs.size) s3.heap.objs.size) {s3 with heap:=h4,toks:=s2.toks+0}:=by
  refine ZcR (λn s'=>∃i ys H',Inv (cxC X scope own fr s3.heap.objs.size fp s3 (upd H1 s2.heap.objs.size (.lst []))) pins (sC own fr σ) H' s'/\tn i s'.heap/\(∀b∈fp,H' b=none)/\W i n ys H') ?_ m0
   ⟨0,[],_,I4,st4,λb hb=>(hf3 b hb).1,w0⟩
  rintro n s5 ⟨i,ys,H5,I5,st5,fr5,w5⟩
  have way:=step i n ys H5 w5
  rcases way with⟨stop,q⟩|⟨go,N,hN,turn⟩
  ·refine thn (T.done (cxC X scope own fr s3.heap.objs.size fp s3 (upd H1 s2.heap.objs.size (.lst []))) rfl rfl rfl hc i pins s5 _ H5 _ I5 (stat fr5) st5 stop) λr s6 ⟨hr,I6⟩=>?_
   subst hr
   have J6:Inv X pins σ H5 s6:=I3.call' I6.os I6.base I6.hok I6.bare λb hb=>⟨(hf b hb).2.2.2.1,(hf b hb).2.1,(hf b hb).2.2.2.2.1,(hf b hb).2.2.2.2.2⟩
   obtain⟨m6,ns6,_⟩:=I6.loc
   refine hRR _ _ H5 s6 J6 ⟨m6,ns6⟩ I6.free (Y2e I3.lt) I3.sz (λx c e=>?_) (λp hp=>?_) q
   ·obtain⟨v,z⟩:=I3.cell x c e
    exact Y0m z.lt
   ·exact Y0m (Y0i (I3.pin p hp).1)
  ·refine thn (T.item (cxC X scope own fr s3.heap.objs.size fp s3 (upd H1 s2.heap.objs.size (.lst []))) rfl rfl rfl hc i pins s5 _ H5 _ I5 (stat fr5) st5 go) λr s6 ⟨u,hr,h6⟩=>?_
   subst hr
   refine thn h6 λ_ s7 ⟨x,H7,I7,r7,y7,st7,fr7⟩=>?_
   have I7':=I7.pinned (stat fr7) (T.obj _ _ st7)
   refine thn (hg _ _ _ _ _ s7 _ H7 x u _ I7' r7 (turn x H7 y7)) λ_ s8 ⟨σ8,H8,I8,kp8,q8⟩=>?_
   have again:∀{H9:Hp} {s9:Shared},Inv (cxC X scope own fr s3.heap.objs.size fp s3 (upd H1 s2.heap.objs.size (.lst []))) (pins++ZaJ fp s7.heap) σ8 H9 s9->∀{ys'},(∃m',m'<n/\W (i+1) m' ys' H9)->
     ∃m,m<n/\∃i ys H',Inv (cxC X scope own fr s3.heap.objs.size fp s3 (upd H1 s2.heap.objs.size (.lst []))) pins (sC own fr σ) H' s9/\tn i s9.heap/\(∀b∈fp,H' b=none)/\W i m ys H':=fun{H9 s9} I9 {ys'} ⟨m',hm,w9⟩=>by
    refine⟨m',hm,i+1,ys',H9,(I9.unpinned).weak kp8.1 kp8.2,T.keep _ _ _ st7 λb hb o e=>(I9.pin (b,o) (Y0Y _ (Y0Y _ (Z5k hb e)))).1,λb hb=>?_,w9⟩
    obtain⟨o,e,d⟩:=T.obj _ _ st7 b hb
    exact(I9.pin (b,o) (Y0Y _ (Y0Y _ (Z5k hb e)))).2.1
   have fin:∀{ok:Bool} {s9:Shared} {H9:Hp},Inv (cxC X scope own fr s3.heap.objs.size fp s3 (upd H1 s2.heap.objs.size (.lst []))) (pins++ZaJ fp s7.heap) σ8 H9 s9->
     (if ok=true then te σ8 H9 λy H6=>∃zs,H6 s2.heap.objs.size=some (.lst zs)/\zs.length<sizeLine/\N (zs++[y]) (upd H6 s2.heap.objs.size (.lst (zs++[y])))else N ys H9)->
     (if ok=true then wpAny (model X.prog X.w) X.A (eval elt (compEnvC scope (clOf X.env.cells scope.names []) s3.heap.objs.size X.env)) (λx s₄=>
      wpAny (model X.prog X.w) X.A (call (.builtin "list.append") [.ref s2.heap.objs.size,x]) (fun _ s₅=>∃m,m<n/\∃i ys H',Inv (cxC X scope own fr s3.heap.objs.size fp s3 (upd H1 s2.heap.objs.size (.lst []))) pins (sC own fr σ) H' s₅/\tn i s₅.heap/\(∀b∈fp,H' b=none)/\W i m ys H') (fun _ _=>False) s₄) (fun _ _=>False) s9
      else∃m,m<n/\∃i ys H',Inv (cxC X scope own fr s3.heap.objs.size fp s3 (upd H1 s2.heap.objs.size (.lst []))) pins (sC own fr σ) H' s9/\tn i s9.heap/\(∀b∈fp,H' b=none)/\W i m ys H'):=fun{ok s9 H9} I9 q9=>by
    cases ok with
    |false=>
     rw[if_neg Y09]at q9 ⊢
     exact again I9 (hN _ _ q9)
    |true=>
     rw[if_pos rfl]at q9 ⊢
     refine thn (he _ _ _ _ _ s9 σ8 H9 _ I9 q9) λv s10 ⟨y,H10,I10,r10,zs,hl10,hz5,w10⟩=>?_
     refine thn (Zcp (X:=cxC X scope own fr s3.heap.objs.size fp s3 (upd H1 s2.heap.objs.size (.lst []))) _ s10 σ8 H10 (.ref s2.heap.objs.size) [y] (.ref s2.heap.objs.size) [v] (λ_ H'=>H'=upd H10 s2.heap.objs.size (.lst (zs++[y]))) I10 rfl (.cons r10 .nil) ⟨_,zs,y,rfl,rfl,hl10,hz5,rfl⟩) λ_ s11 ⟨_,H11,I11,_,e11⟩=>?_
     subst e11
     exact again I11 (hN _ _ w10)
   rcases ht s3.heap.objs.size fp s3 (upd H1 s2.heap.objs.size (.lst []))with⟨e,et⟩|⟨c,e,hcT⟩
   ·subst e et
    exact wpAny_tests_nil (fin (ok:=true) I8 q8)
   ·subst e
    exact wpAny_tests_one (thn (hcT _ s8 σ8 H8 _ I8 q8) λb s9 ⟨H9,I9,q9⟩=>fin I9 q9)
 subst hs3
 exact codeAny_compStart_list loop (T.self _ 0 _ _ _ st4 loop)
theorem Ziy(own:List Str)(fr:List Nat){wi:TI}(hx:∀e s,¬X.xe e s)(hc:X.calm=true)(ok:Zbf X.env.scope scope X.N own fr=true)(hi:PI X tg iter wi)
  (hg:∀C fp s₃ H₃,PG (cxC X scope own fr C fp s₃ H₃) tg g) (ht:∀C fp s₃ H₃,PTs (cxC X scope own fr C fp s₃ H₃) ifs tt) (he:∀C fp s₃ H₃,PE (cxC X scope own fr C fp s₃ H₃) elt te)
  (hs:∀x,foldedSetIterable iter X.env x=pure x:=by intro _;rfl):
  PE X (.ListComp elt [⟨tg,iter,ifs,0⟩] scope pos) (Zg3 own fr wi g tt te):=by
 have ok':=Z3H ok
 intro pins s σ H Q I h
 rw[eval_ListComp]
 refine wpAny_comprehension_free (use:=none) (cl:=clOf X.env.cells scope.names []) rfl hs (Zbg λy hy hk=>I.ok.has y.1 (ok'.has y hy hk)) ok'.kind ok'.names (thn (hi pins s σ H _ I h) λv s1 h1=>thn h1 λitv s2 h2=>?_)
 obtain⟨it,fp,tn,J,H2,e,I2,T,st2,f2,R⟩:=h2
 subst e
 refine Zbe (RR:=λacc C=>compPost (model X.prog X.w) X.A X.xe none (EP X pins σ Q) acc C) (Q:=Q) hc ok' hg ht he I2 T st2 f2 R ?_
 rintro D C H' s' I' ⟨m,ns⟩ c1 c2 c3 c4 c5 q
 refine⟨m,ns,λh' sb=>⟨.ref D,H',?_,rfl,q⟩⟩
 exact I'.turned (t':=s'.toks) (λb o hb e=>(sb.2 b hb).trans e) c1 c2 (.inr c3) c4 c5
theorem Zdv(own:List Str)(fr:List Nat){i:Nat}{y:Str}{py spos:Pos}{wi:TI}(hN:X.N.Nodup)(hi:X.N[i]?=some y) (hy:Loc X.env.scope y) (hx:∀e s,¬X.xe e s) (hc:X.calm=true) (ok:Zbf X.env.scope scope X.N own fr=true) (hit:PI X tg iter wi)
  (hg:∀C fp s₃ H₃,PG (cxC X scope own fr C fp s₃ H₃) tg g) (ht:∀C fp s₃ H₃,PTs (cxC X scope own fr C fp s₃ H₃) ifs tt) (he:∀C fp s₃ H₃,PE (cxC X scope own fr C fp s₃ H₃) elt te)
  (hsw:swapsWith (.ListComp elt [⟨tg,iter,ifs,0⟩] scope pos) (some (.Name y py)) spos.line X.env=pure true:=by rfl) (hs:∀x,foldedSetIterable iter X.env x=pure x:=by intro _;rfl)
  (hf:X.fn y=true\/X.env.scope.names.lookup y=some .local:=by first|exact .inl rfl|exact .inr rfl|assumption):
  PS X (.Assign [.Name y py] (.ListComp elt [⟨tg,iter,ifs,0⟩] scope pos) spos) (tAsg (Zg3 own fr wi g tt te) (ZiZ i)):=by
 have ok':=Z3H ok
 intro pins s σ H D I h
 rw[exec_Assign_Name_used _ _ _ _ hsw]
 refine wpAny_bind (wpAny_standAt (wpAny_bind ?_))
 show wpAny _ X.A (do let _<- comprehension (.ListComp elt [⟨tg,iter,ifs,0⟩] scope pos) scope X.env _ (newList []) false (eval iter X.env) (some (assign (.Name y py) X.env))) _ _ s
 refine wpAny_bind (wpAny_mono (wpAny_comprehension_free (use:=some (assign (.Name y py) X.env)) (cl:=clOf X.env.cells scope.names []) (Q:=λ_ s'=>SP X pins D .next s') rfl hs (Zbg λy hy hk=>I.ok.has y.1 (ok'.has y hy hk)) ok'.kind ok'.names
  (thn (hit pins s σ H _ I h) λv s1 h1=>thn h1 λitv s2 h2=>?_)) (λ_ s' hq=>wpAny_pure (wpAny_pure hq)) λ_ _ e=>e)
 obtain⟨it,fp,tn,J,H2,e,I2,T,st2,f2,R⟩:=h2
 subst e
 refine Zbe (RR:=λacc C=>compPost (model X.prog X.w) X.A X.xe (some (assign (.Name y py) X.env)) (λ_ s'=>SP X pins D .next s') acc C) (Q:=λv H'=>D.nx (σ.set i (some v)) H') hc ok' hg ht he I2 T st2 f2 R ?_
 rintro E C H' s' I' ⟨m,ns⟩ c1 c2 c3 c4 c5 q
 show wpAny _ X.A (assign (.Name y py) X.env (.ref E)) _ _ _
 refine wpAny_assign_Name (Zc5 I' hN hi hy (v:=.ref E) (u:=.ref E) rfl (λs'' I'' sb=>?_) hf)
 obtain⟨a,sb,ha⟩:=sb
 have hCa:C≠a:=by
  rcases ha with z|z
  ·rw[z];exact c2
  ·exact λe=>c4 _ _ z e.symm
 refine⟨m,ns.sameBut sb hCa,λh' sb'=>⟨_,H',?_,q⟩⟩
 exact I''.turned (t':=s''.toks) (λb o hb e=>(sb'.2 b hb).trans e) c1 c2 (.inr c3) c4 c5
end
end L2
namespace L2
open PySem PySem.Spec PyProof.Rows
section
variable{G:GI}{sc:Scope}{N:List Str}{e:Expr}
theorem Z05{a b:Bool}(h:(a&&b)=true):a=true/\b=true:=by rwa [Y0H]at h
theorem Z0Q{p:Prop} [Decidable p] (h:decide p=true):p:=of_decide_eq_true h
theorem not_of{b:Bool}(h:(!b)=true):b=false:=by cases b with|false=>rfl|true=>cases h
theorem Zlu{i:Nat}(h:chkE G (.var i) sc N e=true):∃x p,e=.Name x p/\N[i]?=some x/\visB sc x=true/\(x==("__debug__":Str))=false/\(x==("__classdict__":Str))=false:=by
 replace h:=Z07 h
 obtain⟨x,h1,h⟩:=h
 obtain⟨p,rfl⟩:=Z16 h1
 replace h:=Z05 h
 obtain⟨h,h5⟩:=h
 replace h:=Z05 h
 obtain⟨h,h4⟩:=h
 replace h:=Z05 h
 obtain⟨h2,h3⟩:=h
 exact⟨x,p,rfl,Z0Q h2,h3,not_of h4,not_of h5⟩
theorem ZlC{i:Int}(h:chkE G (.int i) sc N e=true):∃k p,e=.Constant (.int i) k p:=by
 replace h:=Z07 h
 obtain⟨x,h1,h⟩:=h
 obtain⟨k,p,rfl⟩:=Z3I h1
 exact⟨k,p,by rw[Z0Q h]⟩
theorem Zlw{i:Str}(h:chkE G (.str i) sc N e=true):∃k p,e=.Constant (.str i) k p:=by
 replace h:=Z07 h
 obtain⟨x,h1,h⟩:=h
 obtain⟨k,p,rfl⟩:=Z3I h1
 exact⟨k,p,by rw[Z0Q h]⟩
theorem Zoe{i:Bool}(h:chkE G (.bl i) sc N e=true):∃k p,e=.Constant (.bool i) k p:=by
 replace h:=Z07 h
 obtain⟨x,h1,h⟩:=h
 obtain⟨k,p,rfl⟩:=Z3I h1
 exact⟨k,p,by rw[Z0Q h]⟩
theorem Zlz(h:chkE G .non sc N e=true):∃k p,e=.Constant .none k p:=by
 replace h:=Z07 h
 obtain⟨x,h1,h⟩:=h
 obtain⟨k,p,rfl⟩:=Z3I h1
 exact⟨k,p,by rw[Z0Q h]⟩
theorem ZlE{x:Str}{i:Int}(h:chkE G (.glb x i) sc N e=true):∃p,e=.Name x p/\G.gl.lookup x=some i/\glB sc x=true:=by
 replace h:=Z07 h
 obtain⟨y,h1,h⟩:=h
 obtain⟨p,rfl⟩:=Z16 h1
 replace h:=Z05 h
 obtain⟨h,h4⟩:=h
 replace h:=Z05 h
 obtain⟨h2,h3⟩:=h
 obtain rfl:=Z0Q h2
 exact⟨p,rfl,Z0Q h3,h4⟩
theorem Zo9{c:Ty7}(h:chkE G (.ty c) sc N e=true):∃p,e=.Name (c.name:Str) p/\c≠.none/\G.bl.contains (c.name:Str)=true/\glB sc (c.name:Str)=true:=by
 replace h:=Z07 h
 obtain⟨y,h1,h⟩:=h
 obtain⟨p,rfl⟩:=Z16 h1
 replace h:=Z05 h
 obtain⟨h,h5⟩:=h
 replace h:=Z05 h
 obtain⟨h,h4⟩:=h
 replace h:=Z05 h
 obtain⟨h2,h3⟩:=h
 obtain rfl:=Z0Q h2
 exact⟨p,rfl,Z0Q h3,h4,h5⟩
theorem ZlI{op:Operator}{a b:IE}(h:chkE G (.bin op a b) sc N e=true):∃l r p,e=.BinOp l op r p/\chkE G a sc N l=true/\chkE G b sc N r=true:=by
 replace h:=Z07 h
 obtain⟨⟨l,o,r⟩,h1,h⟩:=h
 obtain⟨p,rfl⟩:=Zjj h1
 replace h:=Z05 h
 obtain⟨h,h4⟩:=h
 replace h:=Z05 h
 obtain⟨h2,h3⟩:=h
 obtain rfl:=Z0Q h2
 exact⟨l,r,p,rfl,h3,h4⟩
theorem Zly{a:IE}(h:chkE G (.not a) sc N e=true):∃l p,e=.UnaryOp .Not l p/\chkE G a sc N l=true:=by
 replace h:=Z07 h
 obtain⟨⟨o,l⟩,h1,h⟩:=h
 obtain⟨p,rfl⟩:=Zm5 h1
 replace h:=Z05 h
 obtain⟨h2,h3⟩:=h
 obtain rfl:=Z0Q h2
 exact⟨l,p,rfl,h3⟩
theorem ZlG{op:CmpOp}{a b:IE}(h:chkE G (.cmp op a b) sc N e=true):∃l r p,e=.Compare l [op] [r] p/\chkE G a sc N l=true/\chkE G b sc N r=true/\behindInMarks op r=false:=by
 replace h:=Z07 h
 obtain⟨⟨l,os,rs⟩,h1,h⟩:=h
 obtain⟨p,rfl⟩:=Zf1 h1
 replace h:=Z07 h
 obtain⟨o,h2,h⟩:=h
 replace h:=Z07 h
 obtain⟨r,h3,h⟩:=h
 obtain rfl:=Z2t h2
 obtain rfl:=Z2t h3
 replace h:=Z05 h
 obtain⟨h,h7⟩:=h
 replace h:=Z05 h
 obtain⟨h,h6⟩:=h
 replace h:=Z05 h
 obtain⟨h4,h5⟩:=h
 obtain rfl:=Z0Q h4
 exact⟨l,r,p,rfl,h5,h6,not_of h7⟩
theorem ZlH{op op':CmpOp}{a b c:IE}(h:chkE G (.chn op op' a b c) sc N e=true):∃l m r p,e=.Compare l [op,op'] [m,r] p/\chkE G a sc N l=true/\chkE G b sc N m=true/\chkE G c sc N r=true/\lastMarks [op,op'] [m,r]=false:=by
 replace h:=Z07 h
 obtain⟨⟨l,os,rs⟩,h1,h⟩:=h
 obtain⟨p,rfl⟩:=Zf1 h1
 replace h:=Z07 h
 obtain⟨⟨o,o'⟩,h2,h⟩:=h
 replace h:=Z07 h
 obtain⟨⟨m,r⟩,h3,h⟩:=h
 obtain rfl:=Zdj h2
 obtain rfl:=Zdj h3
 replace h:=Z05 h
 obtain⟨h,h9⟩:=h
 replace h:=Z05 h
 obtain⟨h,h8⟩:=h
 replace h:=Z05 h
 obtain⟨h,h7⟩:=h
 replace h:=Z05 h
 obtain⟨h,h6⟩:=h
 replace h:=Z05 h
 obtain⟨h4,h5⟩:=h
 obtain rfl:=Z0Q h4
 obtain rfl:=Z0Q h5
 exact⟨l,m,r,p,rfl,h6,h7,h8,not_of h9⟩
theorem ZlJ{a b:IE}(h:chkE G (.and a b) sc N e=true):∃l r rest p,e=.BoolOp .And (l::r::rest) p/\chkE G a sc N l=true/\((rest=[]/\chkE G b sc N r=true)\/chkE G b sc N (.BoolOp .And (r::rest) p)=true):=by
 replace h:=Z07 h
 obtain⟨⟨o,vs,p⟩,h1,h⟩:=h
 obtain rfl:=Zf2 h1
 replace h:=Z07 h
 obtain⟨⟨l,r,rest⟩,h2,h⟩:=h
 obtain rfl:=Zk9 h2
 replace h:=Z05 h
 obtain⟨h,h4⟩:=h
 replace h:=Z05 h
 obtain⟨h2,h3⟩:=h
 obtain rfl:=Z0Q h2
 refine⟨l,r,rest,p,rfl,h3,?_⟩
 cases rest with
 |nil=>exact .inl ⟨rfl,h4⟩
 |cons _ _=>exact .inr h4
theorem Zob{a b:IE}(h:chkE G (.or a b) sc N e=true):∃l r rest p,e=.BoolOp .Or (l::r::rest) p/\chkE G a sc N l=true/\((rest=[]/\chkE G b sc N r=true)\/chkE G b sc N (.BoolOp .Or (r::rest) p)=true):=by
 replace h:=Z07 h
 obtain⟨⟨o,vs,p⟩,h1,h⟩:=h
 obtain rfl:=Zf2 h1
 replace h:=Z07 h
 obtain⟨⟨l,r,rest⟩,h2,h⟩:=h
 obtain rfl:=Zk9 h2
 replace h:=Z05 h
 obtain⟨h,h4⟩:=h
 replace h:=Z05 h
 obtain⟨h2,h3⟩:=h
 obtain rfl:=Z0Q h2
 refine⟨l,r,rest,p,rfl,h3,?_⟩
 cases rest with
 |nil=>exact .inl ⟨rfl,h4⟩
 |cons _ _=>exact .inr h4
theorem ZlD{a b c:IE}(h:chkE G (.ife c a b) sc N e=true):∃t x y p,e=.IfExp t x y p/\tok c=true/\chkE G c sc N t=true/\chkE G a sc N x=true/\chkE G b sc N y=true:=by
 replace h:=Z07 h
 obtain⟨⟨t,x,y⟩,h1,h⟩:=h
 obtain⟨p,rfl⟩:=Zm9 h1
 replace h:=Z05 h
 obtain⟨h,h5⟩:=h
 replace h:=Z05 h
 obtain⟨h,h4⟩:=h
 replace h:=Z05 h
 obtain⟨h2,h3⟩:=h
 exact⟨t,x,y,p,rfl,h2,h3,h4,h5⟩
theorem Zlv{es:IEs}(h:chkE G (.tup es) sc N e=true):∃xs k p,e=.Tuple xs k p/\chkEs G es sc N xs=true:=by
 replace h:=Z07 h
 obtain⟨xs,h1,h⟩:=h
 obtain⟨k,p,rfl⟩:=ZbX h1
 exact⟨xs,k,p,rfl,h⟩
theorem ZlB{es:IEs}(h:chkE G (.lst es) sc N e=true):∃xs p,e=.List xs p/\chkEs G es sc N xs=true:=by
 replace h:=Z07 h
 obtain⟨xs,h1,h⟩:=h
 obtain⟨p,rfl⟩:=Zjd h1
 exact⟨xs,p,rfl,h⟩
theorem ZlF(h:chkE G .dic sc N e=true):∃p,e=.Dict [] [] p:=by
 replace h:=Z07 h
 obtain⟨⟨ks,vs⟩,h1,h⟩:=h
 obtain⟨p,rfl⟩:=Zjg h1
 replace h:=Z05 h
 obtain⟨h2,h3⟩:=h
 cases Z1j h2
 cases Z1j h3
 exact⟨p,rfl⟩
theorem Zod{a b:IE}(h:chkE G (.ix a b) sc N e=true):∃x y p,e=.Subscript x y p/\chkE G a sc N x=true/\chkE G b sc N y=true/\ZgI y=true:=by
 replace h:=Z07 h
 obtain⟨⟨x,y⟩,h1,h⟩:=h
 obtain⟨p,rfl⟩:=ZbY h1
 replace h:=Z05 h
 obtain⟨h,h4⟩:=h
 replace h:=Z05 h
 obtain⟨h2,h3⟩:=h
 exact⟨x,y,p,rfl,h2,h3,h4⟩
theorem Zoa{a:IE}{lo hi:IO}(h:chkE G (.sl a lo hi) sc N e=true):∃x l u p p2,e=.Subscript x (.Slice l u none p2) p/\chkE G a sc N x=true/\chkO G lo sc N l=true/\chkO G hi sc N u=true:=by
 replace h:=Z07 h
 obtain⟨⟨x,y⟩,h1,h⟩:=h
 obtain⟨p,rfl⟩:=ZbY h1
 replace h:=Z07 h
 obtain⟨⟨l,u,st⟩,h2,h⟩:=h
 obtain⟨p2,rfl⟩:=Zm6 h2
 replace h:=Z05 h
 obtain⟨h,h6⟩:=h
 replace h:=Z05 h
 obtain⟨h,h5⟩:=h
 replace h:=Z05 h
 obtain⟨h3,h4⟩:=h
 cases st with
 |some _=>cases h6
 |none=>exact⟨x,l,u,p,p2,rfl,h3,h4,h5⟩
theorem ZiR{j:Nat}{a:IE}{es:IEs}(h:chkE G (.call j a es) sc N e=true):∃f p x xs p2,e=.Call (.Name f p) (x::xs) [] p2/\G.fns[j]?=some f/\glB sc f=true/\chkE G a sc N x=true/\chkEs G es sc N xs=true:=by
 replace h:=Z07 h
 obtain⟨⟨f,l,ks,p2⟩,h1,h⟩:=h
 obtain rfl:=Z25 h1
 replace h:=Z07 h
 obtain⟨g,h2,h⟩:=h
 obtain⟨p,rfl⟩:=Z16 h2
 replace h:=Z07 h
 obtain⟨⟨x,xs⟩,h3,h⟩:=h
 obtain rfl:=Z8A h3
 replace h:=Z05 h
 obtain⟨h,h8⟩:=h
 replace h:=Z05 h
 obtain⟨h,h7⟩:=h
 replace h:=Z05 h
 obtain⟨h,h6⟩:=h
 replace h:=Z05 h
 obtain⟨h4,h5⟩:=h
 obtain rfl:=Z1j h4
 exact⟨g,p,x,xs,p2,rfl,Z0Q h5,h6,h7,h8⟩
theorem Zof{f:BI}{a:IE}{es:IEs}(h:chkE G (.bi f a es) sc N e=true):∃p x xs p2,e=.Call (.Name (f.name:Str) p) (x::xs) [] p2/\G.bl.contains (f.name:Str)=true/\glB sc (f.name:Str)=true/\chkE G a sc N x=true/\chkEs G es sc N xs=true:=by
 replace h:=Z07 h
 obtain⟨⟨f',l,ks,p2⟩,h1,h⟩:=h
 obtain rfl:=Z25 h1
 replace h:=Z07 h
 obtain⟨g,h2,h⟩:=h
 obtain⟨p,rfl⟩:=Z16 h2
 replace h:=Z07 h
 obtain⟨⟨x,xs⟩,h3,h⟩:=h
 obtain rfl:=Z8A h3
 replace h:=Z05 h
 obtain⟨h,h9⟩:=h
 replace h:=Z05 h
 obtain⟨h,h8⟩:=h
 replace h:=Z05 h
 obtain⟨h,h7⟩:=h
 replace h:=Z05 h
 obtain⟨h,h6⟩:=h
 replace h:=Z05 h
 obtain⟨h4,h5⟩:=h
 obtain rfl:=Z1j h4
 obtain rfl:=Z0Q h5
 exact⟨p,x,xs,p2,rfl,h6,h7,h8,h9⟩
theorem Zog{f:B2}{a:IE}(h:chkE G (.b2 f a) sc N e=true):∃p p' x p2 p2',e=.Call (.Name (f.out:Str) p) [.Call (.Name (f.inn:Str) p') [x] [] p2'] [] p2/\G.bl.contains (f.out:Str)=true/\G.bl.contains (f.inn:Str)=true/\glB sc (f.out:Str)=true/\glB sc (f.inn:Str)=true/\chkE G a sc N x=true:=by
 replace h:=Z07 h
 obtain⟨⟨f',l,ks,p2⟩,h1,h⟩:=h
 obtain rfl:=Z25 h1
 replace h:=Z07 h
 obtain⟨g,h2,h⟩:=h
 obtain⟨p,rfl⟩:=Z16 h2
 replace h:=Z07 h
 obtain⟨y,h3,h⟩:=h
 obtain rfl:=Z2t h3
 replace h:=Z07 h
 obtain⟨⟨f'',l',ks',p2'⟩,h4,h⟩:=h
 obtain rfl:=Z25 h4
 replace h:=Z07 h
 obtain⟨k,h5,h⟩:=h
 obtain⟨p',rfl⟩:=Z16 h5
 replace h:=Z07 h
 obtain⟨x,h6,h⟩:=h
 obtain rfl:=Z2t h6
 simp only[Y0H]at h
 obtain⟨⟨⟨⟨⟨⟨⟨⟨a1,a2⟩,a3⟩,a4⟩,a5⟩,a6⟩,a7⟩,a8⟩,a9⟩:=h
 obtain rfl:=Z1j a1
 obtain rfl:=Z1j a2
 obtain rfl:=Z0Q a3
 obtain rfl:=Z0Q a4
 exact⟨p,p',x,p2,p2',rfl,a5,a6,a7,a8,a9⟩
theorem ZlA{a:IE}(h:chkE G (.mxd a) sc N e=true):∃p x k0 p0 kp p2,e=.Call (.Name ("max":Str) p) [x] [⟨some ("default":Str),.Constant (.int 0) k0 p0,kp⟩] p2/\G.bl.contains ("max":Str)=true/\glB sc ("max":Str)=true/\chkE G a sc N x=true:=by
 replace h:=Z07 h
 obtain⟨⟨f',l,ks,p2⟩,h1,h⟩:=h
 obtain rfl:=Z25 h1
 replace h:=Z07 h
 obtain⟨g,h2,h⟩:=h
 obtain⟨p,rfl⟩:=Z16 h2
 replace h:=Z07 h
 obtain⟨x,h3,h⟩:=h
 obtain rfl:=Z2t h3
 replace h:=Z07 h
 obtain⟨⟨ka,kv,kp⟩,h4,h⟩:=h
 obtain rfl:=Z2t h4
 simp only[isDf,Y0H]at h
 obtain⟨⟨⟨⟨a1,a2,a3⟩,a4⟩,a5⟩,a6⟩:=h
 obtain rfl:=Z0Q a1
 obtain rfl:=Z0Q a2
 obtain⟨c,b1,b2⟩:=Z07 a3
 obtain rfl:=Z0Q b2
 obtain⟨k0,p0,rfl⟩:=Z3I b1
 exact⟨p,x,k0,p0,kp,p2,rfl,a4,a5,a6⟩
theorem Zoc{m:MT}{o:IE}{es:IEs}(h:chkE G (.mt m o es) sc N e=true):∃ob ap args cp,e=.Call (.Attribute ob (m.name:Str) ap) args [] cp/\(ap.endLine==cp.line)=true/\chkE G o sc N ob=true/\chkEs G es sc N args=true/\args.length<20:=by
 replace h:=Z07 h
 obtain⟨⟨f',args,ks,cp⟩,h1,h⟩:=h
 obtain rfl:=Z25 h1
 replace h:=Z07 h
 obtain⟨⟨ob,nm,ap⟩,h2,h⟩:=h
 obtain rfl:=Zjk h2
 replace h:=Z05 h
 obtain⟨h,h8⟩:=h
 replace h:=Z05 h
 obtain⟨h,h7⟩:=h
 replace h:=Z05 h
 obtain⟨h,h6⟩:=h
 replace h:=Z05 h
 obtain⟨h,h5⟩:=h
 replace h:=Z05 h
 obtain⟨h3,h4⟩:=h
 obtain rfl:=Z1j h3
 obtain rfl:=Z0Q h4
 exact⟨ob,ap,args,cp,rfl,h5,h6,h7,Z0Q h8⟩
theorem ZeP{own:List Str}{fr:List Nat}{src:ISr}{tg:ITg}{test:IO}{elt:IE}(h:chkE G (.comp own fr src tg test elt) sc N e=true):∃x t it ifs scope p,e=.ListComp x [⟨t,it,ifs,0⟩] scope p/\Zbf sc scope N own fr=true/\Zcn it=true/\
  (nC own fr N).Nodup/\chkSr G src sc N it=true/\Z8Q (Zfg scope sc) (nC own fr N) own.length false tg t=true/\chkI G test (Zfg scope sc) (nC own fr N) ifs=true/\chkE G elt (Zfg scope sc) (nC own fr N) x=true:=by
 replace h:=Z07 h
 obtain⟨⟨x,gs,scope⟩,h1,h⟩:=h
 obtain⟨p,rfl⟩:=Zm8 h1
 replace h:=Z07 h
 obtain⟨⟨t,it,ifs,k⟩,h2,h⟩:=h
 obtain rfl:=Z2t h2
 replace h:=Z05 h
 obtain⟨h,h9⟩:=h
 replace h:=Z05 h
 obtain⟨h,h8⟩:=h
 replace h:=Z05 h
 obtain⟨h,h7⟩:=h
 replace h:=Z05 h
 obtain⟨h,h6⟩:=h
 replace h:=Z05 h
 obtain⟨h,h5⟩:=h
 replace h:=Z05 h
 obtain⟨h,h4⟩:=h
 replace h:=Z05 h
 obtain⟨h2,h3⟩:=h
 obtain rfl:=Z0Q h9
 exact⟨x,t,it,ifs,scope,p,rfl,h2,h3,Z0Q h4,h5,h6,h7,h8⟩
theorem Zfy{ks:List (Option Expr)}{vs:List Expr}(h:ZhI G .nil sc N ks vs=true):ks=[]/\vs=[]:=by
 replace h:=Z05 h
 exact⟨Z1j h.1,Z1j h.2⟩
theorem ZdR{k v:IE}{ps:IPs}{ks:List (Option Expr)}{vs:List Expr}(h:ZhI G (.cons k v ps) sc N ks vs=true):∃x ks' y vs',ks=some x::ks'/\vs=y::vs'/\chkE G k sc N x=true/\chkE G v sc N y=true/\ZhI G ps sc N ks' vs'=true:=by
 replace h:=Z07 h
 obtain⟨⟨o,ks'⟩,h1,h⟩:=h
 replace h:=Z07 h
 obtain⟨⟨y,vs'⟩,h2,h⟩:=h
 replace h:=Z07 h
 obtain⟨x,h3,h⟩:=h
 replace h:=Z05 h
 obtain⟨h,h6⟩:=h
 replace h:=Z05 h
 obtain⟨h4,h5⟩:=h
 dsimp only at h3
 subst h3
 exact⟨x,ks',y,vs',Z8A h1,Z8A h2,h4,h5,h6⟩
theorem Zb0{l:List Expr}(h:chkEs G .nil sc N l=true):l=[]:=by
 exact Z1j h
theorem Z9F{a:IE}{es:IEs}{l:List Expr}(h:chkEs G (.cons a es) sc N l=true):∃x xs,l=x::xs/\chkE G a sc N x=true/\chkEs G es sc N xs=true:=by
 replace h:=Z07 h
 obtain⟨⟨x,xs⟩,h1,h⟩:=h
 exact⟨x,xs,Z8A h1,Z05 h⟩
theorem ZfA{o:Option Expr}(h:chkO G .none sc N o=true):o=none:=by
 cases o with
 |none=>rfl
 |some _=>cases h
theorem Zfz{a:IE}{o:Option Expr}(h:chkO G (.some a) sc N o=true):∃x,o=some x/\chkE G a sc N x=true:=by
 exact Z07 h
theorem ZfC{l:List Expr}(h:chkI G .none sc N l=true):l=[]:=by
 exact Z1j h
theorem ZfB{a:IE}{l:List Expr}(h:chkI G (.some a) sc N l=true):∃x,l=[x]/\tok a=true/\chkE G a sc N x=true:=by
 replace h:=Z07 h
 obtain⟨x,h1,h⟩:=h
 exact⟨x,Z2t h1,Z05 h⟩
theorem Zlx{a:IE}(h:chkSr G (.rng a) sc N e=true):∃p x p2,e=.Call (.Name ("range":Str) p) [x] [] p2/\G.bl.contains ("range":Str)=true/\glB sc ("range":Str)=true/\chkE G a sc N x=true:=by
 replace h:=Z07 h
 obtain⟨⟨f',l,ks,p2⟩,h1,h⟩:=h
 obtain rfl:=Z25 h1
 replace h:=Z07 h
 obtain⟨g,h2,h⟩:=h
 obtain⟨p,rfl⟩:=Z16 h2
 replace h:=Z07 h
 obtain⟨x,h3,h⟩:=h
 obtain rfl:=Z2t h3
 replace h:=Z05 h
 obtain⟨h,h8⟩:=h
 replace h:=Z05 h
 obtain⟨h,h7⟩:=h
 replace h:=Z05 h
 obtain⟨h,h6⟩:=h
 replace h:=Z05 h
 obtain⟨h4,h5⟩:=h
 obtain rfl:=Z1j h4
 obtain rfl:=Z0Q h5
 exact⟨p,x,p2,rfl,h6,h7,h8⟩
theorem ZiQ{a b:IE}(h:chkSr G (.rng2 a b) sc N e=true):∃p x y p2,e=.Call (.Name ("range":Str) p) [x,y] [] p2/\G.bl.contains ("range":Str)=true/\glB sc ("range":Str)=true/\chkE G a sc N x=true/\chkE G b sc N y=true:=by
 replace h:=Z07 h
 obtain⟨⟨f',l,ks,p2⟩,h1,h⟩:=h
 obtain rfl:=Z25 h1
 replace h:=Z07 h
 obtain⟨g,h2,h⟩:=h
 obtain⟨p,rfl⟩:=Z16 h2
 replace h:=Z07 h
 obtain⟨⟨x,y⟩,h3,h⟩:=h
 obtain rfl:=Zdj h3
 replace h:=Z05 h
 obtain⟨h,h9⟩:=h
 replace h:=Z05 h
 obtain⟨h,h8⟩:=h
 replace h:=Z05 h
 obtain⟨h,h7⟩:=h
 replace h:=Z05 h
 obtain⟨h,h6⟩:=h
 replace h:=Z05 h
 obtain⟨h4,h5⟩:=h
 obtain rfl:=Z1j h4
 obtain rfl:=Z0Q h5
 exact⟨p,x,y,p2,rfl,h6,h7,h8,h9⟩
theorem ZiP{a b c:IE}(h:chkSr G (.rng3 a b c) sc N e=true):∃p x y z p2,e=.Call (.Name ("range":Str) p) [x,y,z] [] p2/\G.bl.contains ("range":Str)=true/\glB sc ("range":Str)=true/\chkE G a sc N x=true/\chkE G b sc N y=true/\chkE G c sc N z=true:=by
 replace h:=Z07 h
 obtain⟨⟨f',l,ks,p2⟩,h1,h⟩:=h
 obtain rfl:=Z25 h1
 replace h:=Z07 h
 obtain⟨g,h2,h⟩:=h
 obtain⟨p,rfl⟩:=Z16 h2
 replace h:=Z07 h
 obtain⟨⟨x,y,z⟩,h3,h⟩:=h
 obtain rfl:=Zkn h3
 replace h:=Z05 h
 obtain⟨h,h10⟩:=h
 replace h:=Z05 h
 obtain⟨h,h9⟩:=h
 replace h:=Z05 h
 obtain⟨h,h8⟩:=h
 replace h:=Z05 h
 obtain⟨h,h7⟩:=h
 replace h:=Z05 h
 obtain⟨h,h6⟩:=h
 replace h:=Z05 h
 obtain⟨h4,h5⟩:=h
 obtain rfl:=Z1j h4
 obtain rfl:=Z0Q h5
 exact⟨p,x,y,z,p2,rfl,h6,h7,h8,h9,h10⟩
theorem Z9E{lim:Nat}{all:Bool}{i:Nat}(h:Z8Q sc N lim all (.nm i) e=true):∃x p,e=.Name x p/\N[i]?=some x/\i<lim/\(if all then locB sc x else decide (sc.names.lookup x=some .local))=true:=by
 replace h:=Z07 h
 obtain⟨x,h1,h⟩:=h
 obtain⟨p,rfl⟩:=Z16 h1
 replace h:=Z05 h
 obtain⟨h,h4⟩:=h
 replace h:=Z05 h
 obtain⟨h2,h3⟩:=h
 exact⟨x,p,rfl,Z0Q h2,Z0Q h3,h4⟩
theorem Z7K{lim:Nat}{all:Bool}{ts:ITgs}(h:Z8Q sc N lim all (.tup ts) e=true):∃es k p,e=.Tuple es k p/\chkTgs sc N lim all ts es=true:=by
 replace h:=Z07 h
 obtain⟨es,h1,h⟩:=h
 obtain⟨k,p,rfl⟩:=ZbX h1
 exact⟨es,k,p,rfl,h⟩
theorem ZdQ{lim:Nat}{all:Bool}{l:List Expr}(h:chkTgs sc N lim all .nil l=true):l=[]:=by
 exact Z1j h
theorem Z88{lim:Nat}{all:Bool}{t:ITg}{ts:ITgs}{l:List Expr}(h:chkTgs sc N lim all (.cons t ts) l=true):∃x xs,l=x::xs/\Z8Q sc N lim all t x=true/\chkTgs sc N lim all ts xs=true:=by
 replace h:=Z07 h
 obtain⟨⟨x,xs⟩,h1,h⟩:=h
 exact⟨x,xs,Z8A h1,Z05 h⟩
end
end L2
namespace L2
open PySem PySem.Spec PyProof.Rows
def liT(K:Y02)(t:TEm):TT:=λσ H Q=>∃σm M,RS K H σm σ/\RH K M H/\t σm M (λm M'=>∃b,m=.bl b/\∀H',Kp H H'->RH K M' H'->Q b H')
def liO(K:Y02)(t:Sm->MH->(Option Int->MH->Prop)->Prop):TO:=λσ H Q=>∃σm M,RS K H σm σ/\RH K M H/\t σm M (λo M'=>∀H',Kp H H'->RH K M' H'->Q o H')
section
variable{K:Y02}
theorem ZdE{t:TEm}(m:MonE t){σ:St}{H:Hp}{Q:Bool->Hp->Prop}(h:liT K t σ H Q):liE K t σ H λx H'=>∃c,x=.bl c/\Q c H':=by
 obtain⟨σm,M,rs,rh,h⟩:=h
 refine⟨σm,M,rs,rh,m (λx M1 ⟨b,e,h1⟩=>?_) h⟩
 subst e
 intro v H1 k1 r1 rh1
 cases r1
 exact⟨b,rfl,h1 H1 k1 rh1⟩
theorem ZjX{t:TEm}(m:MonE t){σm:Sm}{M:MH}{H H1:Hp}{Q:Bool->Hp->Prop}(k:Kp H H1)(h:t σm M λx M'=>∃b,x=.bl b/\∀H',Kp H H'->RH K M' H'->Q b H'):
  t σm M λx M'=>∃b,x=.bl b/\∀H',Kp H1 H'->RH K M' H'->Q b H':=
 m (λx M' ⟨b,e,q⟩=>⟨b,e,λH' k'=>q H' (k.trans k')⟩) h
theorem Zlp{te:TEm}{t:TAm}(me:MonE te)(mt:MonA t){σ:St}{H:Hp}{Q:List V->Hp->Prop}(h:liA K (λσ M Q=>te σ M λv M1=>t σ M1 λvs M2=>Q (v::vs) M2) σ H Q):Zg2 (liE K te) (liA K t) σ H Q:=by
 obtain⟨σm,M,rs,rh,h⟩:=h
 refine⟨σm,M,rs,rh,me (λx M1 h1=>?_) h⟩
 intro v H1 k1 r1 rh1
 refine⟨σm,M1,rs.mono k1,rh1,mt (λms M2 h2=>?_) h1⟩
 intro vs H2 k2 r2 rh2
 exact h2 (v::vs) H2 (k1.trans k2) (.cons (r1.mono k2) r2) rh2
end
def Zmh(X:Cx)(H:Hp):Src->It->Prop
 |.tup xs,J=>(∃a vs,H a=some (.tup vs)/\RMs X.K H xs vs/\J=Itt X.K a)\/∃a vs,FrL X.K H a vs/\RMs X.K H xs vs/\J=Itl X.K a
 |.lst a _,J=>J=Itl X.K a
 |.rng lo n,J=>J=Itr lo n
 |.rst lo st n,J=>J=Itrs lo st n
 |.dic a o _,J=>J=Itd a o/\∀o' u',X.H₀ a≠some (.frz o' u')
 |.str x,J=>J=Its x
theorem Z8W{X:Cx}{H0 H:Hp}{M:MH}{S:Src}{J:It}(s:Zmh X H0 S J)(rh:RH X.K M H)(ok:S.okT M):∃H',Thw X H H'/\Kp H H'/\RH X.K (S.thaw M) H':=by
 cases S with
 |tup xs=>exact⟨H,.inl rfl,Kp.refl _,rh⟩
 |lst a xs=>exact⟨H,.inl rfl,Kp.refl _,rh⟩
 |rng a xs=>exact⟨H,.inl rfl,Kp.refl _,rh⟩
 |rst a b xs=>exact⟨H,.inl rfl,Kp.refl _,rh⟩
 |str x=>exact⟨H,.inl rfl,Kp.refl _,rh⟩
 |dic a o kvs=>
  obtain⟨vs,e,r,nd⟩:=rh.fdic ok
  have k:=Kp.upd e rfl (.dK vs)
  exact⟨_,.inr ⟨a,o,.dK vs,e,trivial,s.2,rfl⟩,k,rh.put k (o:=.dic kvs) ⟨r.mono k,nd⟩⟩
theorem ZjM{M:MH}{S:Src}(ok:S.ok M):S.okT M:=by
 cases S<;>first|trivial|exact ok
theorem ZjC{K:Y02}{H:Hp}{k:Key}{v:V}:∀{m:List (Key×MV)} {vs:List (Key×V)} {i:Nat},RKs K H m vs->vs[i]?=some (k,v)->∃x,m[i]?=some (k,x)/\RM K H x v
 |_,_,_,.nil,h=>by cases h
 |_,_,0,.cons r _,h=>by cases h;exact⟨_,rfl,r⟩
 |_,_,i+1,.cons _ t,h=>ZjC (i:=i) t h
theorem Zek{X:Cx}{H0 H:Hp}{M:MH}{S:Src}{J:It}(s:Zmh X H0 S J)(k:Kp H0 H)(rh:RH X.K M H)(ok:S.ok M):
  (∀i,i<S.len->J.go i H/\∀x H',J.yld i H x H'->H'=H/\∃m,S.items[i]?=some m/\RM X.K H m x)/\∀i,S.len≤i->J.stop i H:=by
 have seqL:∀{a:Addr} {xs:List MV} {vs:List V},SqL X.K H a vs->RMs X.K H xs vs->(∀i,i<xs.length->(Itl X.K a).go i H/\∀x H',(Itl X.K a).yld i H x H'->H'=H/\∃m,xs[i]?=some m/\RM X.K H m x)/\∀i,xs.length≤i->(Itl X.K a).stop i H:=by
  intro a xs vs hs r
  refine⟨λi hi=>⟨⟨vs,_,hs,Y00 (by rw[<- r.length];exact hi)⟩,λx H' y=>?_⟩,λi hi=>⟨vs,hs,by rw[<- r.length];exact hi⟩⟩
  exact⟨y.1,r.get' (y.2 vs hs)⟩
 cases S with
 |tup xs=>
  rcases s with⟨a,vs,h,r,rfl⟩|⟨a,vs,h,r,rfl⟩
  ·have h:=SqT.of (K:=X.K) (k _ _ h rfl)
   have r:=r.mono k
   refine⟨λi hi=>⟨⟨vs,_,h,Y00 (by rw[<- r.length];exact hi)⟩,λx H' y=>?_⟩,λi hi=>⟨vs,h,by rw[<- r.length];exact hi⟩⟩
   exact⟨y.1,r.get' (y.2 vs h)⟩
  ·refine seqL (FrL.sq ?_) (r.mono k)
   rcases h with⟨o,h⟩|h
   ·exact .inl ⟨o,k _ _ h rfl⟩
   ·exact .inr h
 |lst a xs=>
  cases s
  obtain⟨vs,h,r⟩:=rh.lst ok
  exact seqL (SqL.of h) r
 |rng lo n=>
  cases s
  refine⟨λi hi=>⟨hi,λx H' y=>⟨y.1,.int (lo+(i:Nat)),?_,?_⟩⟩,λi hi=>hi⟩
  ·show((Y0U n).map _)[i]?=_
   rw[Y06,Y00 (by simpa using(show i<n from hi))]
   simp
  ·rw[y.2];exact .int _
 |rst lo st n=>
  cases s
  refine⟨λi hi=>⟨hi,λx H' y=>⟨y.1,.int (lo+(i:Nat)*st),?_,?_⟩⟩,λi hi=>hi⟩
  ·show((Y0U n).map _)[i]?=_
   rw[Y06,Y00 (by simpa using(show i<n from hi))]
   simp
  ·rw[y.2];exact .int _
 |str z=>
  cases s
  refine⟨λi hi=>⟨hi,λx H' y=>?_⟩,λi hi=>hi⟩
  obtain⟨e,c,hc,rfl⟩:=y
  refine⟨e,.str ⟨#[c]⟩,?_,.str _⟩
  show(z.cps.toList.map _)[i]?=_
  rw[Y06,Y3t,hc]
  rfl
 |dic a o kvs=>
  obtain⟨rfl,_⟩:=s
  obtain⟨vs,e,r,nd⟩:=rh.fdic ok
  refine⟨λi hi=>⟨⟨vs,e,by rw[<- r.length];exact hi⟩,λx H' y=>?_⟩,λi hi=>⟨vs,e,by rw[<- r.length];exact hi⟩⟩
  obtain⟨rfl,y⟩:=y
  obtain⟨kk,v,hv,rfl⟩:=y vs e
  obtain⟨x,hx,_⟩:=ZjC r hv
  refine⟨rfl,kM kk,?_,?_⟩
  ·show(kvs.map λp=>kM p.1)[i]?=_
   rw[Y06,hx];rfl
  ·cases kk with
   |inl i=>exact .int i
   |inr x=>exact .str x
def liSr(X:Cx)(t:TSm):TI:=λσ H R=>∃σm M,RS X.K H σm σ/\RH X.K M H/\t σm M (λS M'=>∀J H',Kp H H'->RH X.K M' H'->Zmh X H' S J->R J H')
section
variable{X:Cx}{tg:Expr}
theorem PI.weak{e:Expr}{t t':TI}(h:PI X tg e t)(i:∀σ H R,t' σ H R->t σ H R):PI X tg e t':=λpins s σ H R I q=>h pins s σ H R I (i _ _ _ q)
end
mutual
def gOf(K:Y02):ITg->TG
 |.nm i=>ZiZ i
 |.tup ts=>gTup K (ITgs.len ts) (gsOf K ts)
def gsOf(K:Y02):ITgs->TGs
 |.nil=>gNil
 |.cons t ts=>Zok (gOf K t) (gsOf K ts)
def ITgs.len:ITgs->Nat
 |.nil=>0
 |.cons _ ts=>ts.len+1
end
mutual
theorem sTg{X:Cx}{lim:Nat}{all:Bool}(hc:X.calm=true)(hN:X.N.Nodup)(hf:all=true->∀x,X.fn x=true):∀(t:ITg) {e:Expr},Z8Q X.env.scope X.N lim all t e=true->PG X e (gOf X.K t)
 |.nm i,e,h=>by
  obtain⟨x,p,rfl,h1,h2,h3⟩:=Z9E h
  cases all with
  |true=>
   rw[if_pos rfl]at h3
   exact ZgB hN h1 (Zez h3) (.inl (hf rfl _))
  |false=>
   rw[if_neg Y09,decide_eq_true_eq]at h3
   exact ZgB hN h1 (.inl h3) (.inr h3)
 |.tup ts,e,h=>by
  obtain⟨es,k,p,rfl,h⟩:=Z7K h
  obtain⟨h1,h2,h3⟩:=sTgs hc hN hf ts h
  exact Zns hc h1 h2 h3
theorem sTgs{X:Cx}{lim:Nat}{all:Bool}(hc:X.calm=true)(hN:X.N.Nodup)(hf:all=true->∀x,X.fn x=true):∀(t:ITgs) {es:List Expr},chkTgs X.env.scope X.N lim all t es=true->PGs X es (gsOf X.K t)/\(assignEach es X.env).length=t.len/\(assignEach es X.env).findIdx? (·.1)=none
 |.nil,l,h=>by
  cases ZdQ h
  rw[gsOf,ITgs.len];exact⟨ZkX,rfl,rfl⟩
 |.cons t ts,l,h=>by
  obtain⟨e,es,rfl,ha,hb⟩:=Z88 h
  obtain⟨h1,h2,h3⟩:=sTgs hc hN hf ts hb
  have h4:=sTg hc hN hf t ha
  have e1:assignEach (e::es) X.env=(false,assign e X.env)::assignEach es X.env:=by
   cases t with
   |nm i=>obtain⟨x,p,rfl,_⟩:=Z9E ha;rfl
   |tup ts=>obtain⟨x,k,p,rfl,_⟩:=Z7K ha;rfl
  rw[gsOf,ITgs.len]
  refine⟨Ziv h4 h1 (by rw[e1];rfl),by rw[e1,Y0X,h2],?_⟩
  rw[e1,List.findIdx?_cons,if_neg Y09,h3]
  rfl
end
theorem RMs.len_tgs{K:Y02}:∀{ts:ITgs} {xs:List MV} {σ:Sm} {P:Sm->Prop},wTgs ts xs σ P->xs.length=ts.len
 |.nil,xs,σ,P,h=>by rw[h.1,ITgs.len];rfl
 |.cons t ts,xs,σ,P,h=>by
  obtain⟨v,r,rfl,h⟩:=h
  rw[Y0X,ITgs.len]
  have aux:∀(t:ITg) {v:MV} {σ:Sm},wTg t v σ (λσ'=>wTgs ts r σ' P)->∃σ',wTgs ts r σ' P:=by
   have both:(∀(t:ITg) {v:MV} {σ:Sm} {P:Sm->Prop},wTg t v σ P->∃σ',P σ')/\(∀(t:ITgs) {v:List MV} {σ:Sm} {P:Sm->Prop},wTgs t v σ P->∃σ',P σ'):=by
    refine⟨λt=>?_,λt=>?_⟩
    ·exact ITg.rec (motive_1:=λt=>∀{v:MV} {σ:Sm} {P:Sm->Prop},wTg t v σ P->∃σ',P σ') (motive_2:=λt=>∀{v:List MV} {σ:Sm} {P:Sm->Prop},wTgs t v σ P->∃σ',P σ')
      (λi v σ P h=>⟨_,h⟩) (λts ih v σ P h=>by obtain⟨xs,_,h⟩:=h;exact ih h)
      (fun{v σ P} h=>⟨_,h.2⟩) (λt ts i1 i2 v σ P h=>by obtain⟨x,r,_,h⟩:=h;obtain⟨σ',h⟩:=i1 h;exact i2 h) t
    ·exact ITgs.rec (motive_1:=λt=>∀{v:MV} {σ:Sm} {P:Sm->Prop},wTg t v σ P->∃σ',P σ') (motive_2:=λt=>∀{v:List MV} {σ:Sm} {P:Sm->Prop},wTgs t v σ P->∃σ',P σ')
      (λi v σ P h=>⟨_,h⟩) (λts ih v σ P h=>by obtain⟨xs,_,h⟩:=h;exact ih h)
      (fun{v σ P} h=>⟨_,h.2⟩) (λt ts i1 i2 v σ P h=>by obtain⟨x,r,_,h⟩:=h;obtain⟨σ',h⟩:=i1 h;exact i2 h) t
   exact λt {v σ} h=>both.1 t h
  obtain⟨σ',h'⟩:=aux t h
  rw[RMs.len_tgs (K:=K) h']
mutual
theorem Zic{K:Y02}{H:Hp}{lim:Nat}{sc:Scope}{N:List Str}{all:Bool}{Ψ:St->Prop}(hΨ:∀σ i v,i<lim->Ψ σ->Ψ (σ.set i (some v))):∀(t:ITg) {e:Expr} {mv:MV} {v:V} {σm:Sm} {σ:St} {P:Sm->Prop} {Q:St->Hp->Prop},Z8Q sc N lim all t e=true->
  RM K H mv v->RS K H σm σ->Ψ σ->wTg t mv σm P->(∀σm' σ',P σm'->RS K H σm' σ'->Ψ σ'->Q σ' H)->gOf K t v σ H Q
 |.nm i,e,mv,v,σm,σ,P,Q,hc,r,rs,ps,h,hq=>by
  obtain⟨x,p,rfl,_,hl,_⟩:=Z9E hc
  exact hq _ _ h (rs.set r i) (hΨ _ _ _ hl ps)
 |.tup ts,e,mv,v,σm,σ,P,Q,hc,r,rs,ps,h,hq=>by
  obtain⟨es,k,p,rfl,hc⟩:=Z7K hc
  obtain⟨xs,rfl,h⟩:=h
  cases r with
  |tup h1 q1=>
   exact⟨_,_,rfl,SqT.of h1,by rw[<- q1.length];exact RMs.len_tgs (K:=K) h,tgs_ok hΨ ts hc q1 rs ps h hq⟩
theorem tgs_ok{K:Y02}{H:Hp}{lim:Nat}{sc:Scope}{N:List Str}{all:Bool}{Ψ:St->Prop}(hΨ:∀σ i v,i<lim->Ψ σ->Ψ (σ.set i (some v))):∀(t:ITgs) {es:List Expr} {mvs:List MV} {vs:List V} {σm:Sm} {σ:St} {P:Sm->Prop} {Q:St->Hp->Prop},chkTgs sc N lim all t es=true->
  RMs K H mvs vs->RS K H σm σ->Ψ σ->wTgs t mvs σm P->(∀σm' σ',P σm'->RS K H σm' σ'->Ψ σ'->Q σ' H)->gsOf K t vs σ H Q
 |.nil,es,mvs,vs,σm,σ,P,Q,hc,r,rs,ps,h,hq=>by
  obtain⟨rfl,h⟩:=h
  cases r
  rw[gsOf]
  exact⟨rfl,hq _ _ h rs ps⟩
 |.cons t ts,es,mvs,vs,σm,σ,P,Q,hc,r,rs,ps,h,hq=>by
  obtain⟨e,es,rfl,hc1,hc2⟩:=Z88 hc
  obtain⟨x,rr,rfl,h⟩:=h
  cases r with
  |cons r1 r2=>
   rw[gsOf]
   exact⟨_,_,rfl,Zic hΨ t hc1 r1 rs ps h λσm' σ' h' rs' ps'=>tgs_ok hΨ ts hc2 r2 rs' ps' h' hq⟩
end
end L2
namespace L2
open PySem PySem.Spec PyProof.Rows
theorem ZoT{K:Y02}{H:Hp}{own:List Str}{fr:List Nat}{σm:Sm}{σ:St}(rs:RS K H σm σ):RS K H (sCm own fr σm) (sC own fr σ):=by
 refine⟨by simp[sCm,sC],λi m e=>?_⟩
 unfold sCm at e
 unfold sC
 by_cases hi:i<own.length
 ·rw[Y0P (by simpa using hi),Y06]at e
  cases q:own[i]? with
  |none=>rw[q]at e;cases e
  |some z=>rw[q]at e;cases e
 ·rw[Y0E (by simpa using hi),Y01,Y06]at e
  rw[Y0E (by simpa using hi),Y01,Y06]
  cases q:fr[i - own.length]? with
  |none=>rw[q]at e;cases e
  |some j=>
   rw[q]at e
   have e':σm.getD j none=some m:=Y0K e
   have e2:σm[j]?=some (some m):=by
    rw[Y0j]at e'
    cases q2:σm[j]? with
    |none=>rw[q2]at e';cases e'
    |some o=>rw[q2]at e';rw[show o=some m from e']
   obtain⟨v,hv,r⟩:=rs.2 j m e2
   refine⟨v,?_,r⟩
   show some (σ.getD j none)=_
   rw[Y0j,hv]
   rfl
theorem ZiN{own:List Str}{fr:List Nat}{σ σ':St}{i:Nat}{v:V}(hi:i<own.length)(k:Keep (sC own fr σ) σ'):Keep (sC own fr σ) (σ'.set i (some v)):=by
 refine⟨by rw[Y1K];exact k.1,λj w h=>?_⟩
 by_cases hij:i=j
 ·subst hij
  exfalso
  unfold sC at h
  rw[Y0P (by simpa using hi),Y06]at h
  cases q:own[i]? with
  |none=>rw[q]at h;cases h
  |some z=>rw[q]at h;cases h
 ·rw[Y27,if_neg hij]
  exact k.2 j w h
theorem Zis{y:Expr}(h:ZgI y=true):ZhZ y:=by
 intro o i
 cases y<;>first|rfl|cases h
theorem ZbP{it:Expr}(h:Zcn it=true)(env:Env):∀x,foldedSetIterable it env x=pure x:=by
 intro x
 cases it<;>first|rfl|cases h
theorem Cok.comp{X:Cx}{G:GI}{Φ:List (Str×SpM)}(c:Cok X G Φ){scope:Scope}{own:List Str}{fr:List Nat}{C:Addr}{fp:List Addr}{s₃:Shared}{H₃:Hp}(hk:scope.kind=.function)(nd:(nC own fr X.N).Nodup):Cok (cxC X scope own fr C fp s₃ H₃) G Φ:=
 ⟨c.room,c.calm,rfl,(by show(if scope.kind.isAnnotationScope then Y3R else scope.kind)=.function;rw[hk];rfl),nd,c.bls,c.gls,c.fnn,c.mon,c.fns,c.mts,c.mks,c.cls⟩
def ttOf(K:Y02)(Φ:List (Str×SpM)):IO->TT
 |.none=>tAll
 |.some e=>liT K (wE Φ e)
theorem ZcP{X:Cx}{Φ:List (Str×SpM)}(hΦ:∀(j:Nat) f sp,Φ[j]?=some (f,sp)->MonW sp) {own:List Str} {fr:List Nat} {src:ISr} {tg:ITg} {test:IO} {elt:IE} {sc:Scope} {N:List Str} {t:Expr}
  (h5:Z8Q sc N own.length false tg t=true) {σ:St} {H:Hp} {Q:VK} (hw:liE X.K (wE Φ (.comp own fr src tg test elt)) σ H Q):Zg3 own fr (liSr X (wSr Φ src)) (gOf X.K tg) (ttOf X.K Φ test) (liE X.K (wE Φ elt)) σ H (λv H'=>∃H2,Thw X H' H2/\Q v H2):=by
 obtain⟨σm,M,rs,rh,hw⟩:=hw
 refine⟨σm,M,rs,rh,mon_sr hΦ src (λS M1 ⟨hz,q⟩=>?_) hw⟩
 intro J H1 k1 rh1 sit D hD
 obtain⟨Jm,j0,j1,j2,j3⟩:=q D (rh1.free hD)
 refine⟨λi m ys H2=>m=S.len - i/\i≤S.len/\Kp H1 H2/\∃mys M2,RH X.K M2 H2/\Jm i mys M2,⟨S.len,rfl,Y17 _,Kp.new hD _,[],_,rh1.put (Kp.new hD (.lst [])) (o:=.lst []) RMs.nil,j0⟩,?_⟩
 rintro i m ys H2 ⟨rfl,hi,k2,mys,M2,rh2,hj⟩
 obtain⟨d1,d2,d3⟩:=j1 i mys M2 hj
 obtain⟨goes,stops⟩:=Zek sit k2 rh2 d3
 by_cases hlt:i<S.len
 ·obtain⟨go,yld⟩:=goes i hlt
  refine .inr ⟨go,λys' H'=>Kp H1 H'/\∃mys M',RH X.K M' H'/\Jm (i+1) mys M',λys' H' ⟨a,mys',M',b,c⟩=>⟨S.len - (i+1),by lia,rfl,hlt,a,mys',M',b,c⟩,λx H3 y=>?_⟩
  obtain⟨e3,m,hm,rm⟩:=yld x H3 y
  subst e3
  have ht:=j2 i m mys M2 hm hj
  refine Zic (Ψ:=Keep (sC own fr σ)) (lim:=own.length) (λσ' i v hi k=>ZiN hi k) tg h5 rm (ZoT (rs.mono (k1.trans k2))) ⟨rfl,λ_ _ h=>h⟩ ht λσm' σ' hP rs' keep=>⟨keep,?_⟩
  have eltp:∀{M4:MH} {H5:Hp},Kp H3 H5->RH X.K M4 H5->(wE Φ elt σm' M4 λy M5=>M5 D=some (.lst mys)/\Jm (i+1) (mys++[y]) (updM M5 D (.lst (mys++[y]))))->
    liE X.K (wE Φ elt) σ' H5 λy H6=>∃zs,H6 D=some (.lst zs)/\zs.length<sizeLine/\Kp H1 (upd H6 D (.lst (zs++[y])))/\∃mys M',RH X.K M' (upd H6 D (.lst (zs++[y])))/\Jm (i+1) mys M':=fun{M4 H5} k5 rh5 q=>by
   refine⟨σm',M4,rs'.mono k5,rh5,Z09 hΦ elt (λy M5 ⟨hd,hj'⟩=>?_) q⟩
   intro v H6 k6 r6 rh6
   obtain⟨zs,e,rz⟩:=rh6.lst hd
   have ku:=Kp.upd e rfl (.lst (zs++[v]))
   exact⟨zs,e,by rw[<- rz.length];lia,k2.trans (k5.trans (k6.trans ku)),_,_,rh6.put ku (o:=.lst (mys++[y])) ((rz.append (.cons r6 .nil)).mono ku),hj'⟩
  cases test with
  |none=>
   rw[wI]at hP
   rw[if_pos rfl]at hP
   rw[ttOf]
   refine Zoz ?_
   dsimp only
   rw[if_pos rfl]
   exact eltp (Kp.refl _) rh2 hP
  |some e=>
   refine⟨σm',M2,rs',rh2,Z09 hΦ e (λv M4 ⟨b,eb,q⟩=>⟨b,eb,λH5 k5 rh5=>Z23 (λq=>eltp k5 rh5 q) (λq=>⟨k2.trans k5,_,_,rh5,q⟩) q⟩) hP⟩
 ·refine .inl ⟨stops i (by lia),?_⟩
  have e:i=S.len:=by lia
  subst e
  obtain⟨H',th,k3,rh3⟩:=Z8W sit rh2 (ZjM d3)
  exact⟨H',th,j3 mys M2 hj _ _ (k1.trans (k2.trans k3)) (.ref D) rh3⟩
theorem ZeZ{K:Y02}{Φ:List (Str×SpM)}(hΦ:∀(j:Nat) f sp,Φ[j]?=some (f,sp)->MonW sp) {op op':CmpOp} {a b d:IE} {σ:St} {H:Hp} {Q:VK} (hw:liE K (wE Φ (.chn op op' a b d)) σ H Q):
  Zg4 (li2 K (wCmp op)) (li2 K (wCmp op')) (liE K (wE Φ a)) (liE K (wE Φ b)) (liE K (wE Φ d)) σ H Q:=by
 obtain⟨σm,M,rs,rh,hw⟩:=hw
 rw[Zml]at hw
 refine⟨σm,M,rs,rh,Z09 hΦ a (λx M1 q1=>?_) hw⟩
 intro v H1 k1 r1 rh1
 refine⟨σm,M1,rs.mono k1,rh1,Z09 hΦ b (λy M2 q2=>?_) q1⟩
 intro u H2 k2 r2 rh2
 refine⟨x,y,M2,r1.mono k2,r2,rh2,Z7C op (λz M3 ⟨k,e,q3⟩=>?_) q2⟩
 subst e
 intro z H3 k3 r3 rh3
 cases r3
 refine⟨k,rfl,Z23 (λq=>?_) (λq=>?_) q3⟩
 ·refine⟨σm,M3,rs.mono (k1.trans (k2.trans k3)),rh3,Z09 hΦ d (λw M4 q4=>?_) q⟩
  intro w' H4 k4 r4 rh4
  exact⟨y,w,M4,r2.mono (k3.trans k4),r4,rh4,Z7C op' (λm M' hq=>hq.on (k1.trans (k2.trans (k3.trans k4)))) q4⟩
 ·exact q _ _ (k1.trans (k2.trans k3)) (.bl _) rh3
def trOf(K:Y02)(Φ:List (Str×SpM)):IPs->List (TE×TE)
 |.nil=>[]
 |.cons k v r=>(liE K (wE Φ k),liE K (wE Φ v))::trOf K Φ r
def aob:IE->Bool
 |.and ..=>true
 |.or ..=>true
 |_=>false
structure Snd (X:Cx) (Φ:List (Str×SpM)) (ie:IE) (e:Expr):Prop where
 pe:PE X e (liE X.K (wE Φ ie))
 pt:tok ie=true->PT X e (liT X.K (wE Φ ie))
 pw:tok ie=true->aob ie=true->PW X e (liT X.K (wE Φ ie))
theorem Snd.plain{X:Cx}{G:GI}{Φ:List (Str×SpM)}{ie:IE}{e:Expr}(c:Cok X G Φ)(pe:PE X e (liE X.K (wE Φ ie)))(he:∀whole,isTrue e X.env whole=(do let v<- whole;standAt e.pos;holding [v] (truthy v)))(na:aob ie=false):Snd X Φ ie e:=
 ⟨pe,λ_=>(Znm pe he).weak λσ H Q h=>ZdE (t:=wE Φ ie) (Z09 c.mon ie) h,λ_ h=>by rw[na]at h;cases h⟩
mutual
theorem sE{G:GI}{Φ:List (Str×SpM)}:∀(ie:IE) {X:Cx} {e:Expr},Cok X G Φ->chkE G ie X.env.scope X.N e=true->Snd X Φ ie e
 |.var i,X,e,c,h=>by
  obtain⟨x,p,rfl,h1,h2,h3,h4⟩:=Zlu h
  refine .plain c ?_ (λ_=>rfl) rfl
  refine(ZjJ h1 (Zmp h2) h3 h4).weak λσ H Q hw=>?_
  obtain⟨σm,M,rs,rh,hw⟩:=hw
  rw[Zmi]at hw
  obtain⟨v,e,q⟩:=hw
  obtain⟨u,hu,r⟩:=rs.2 i v e
  exact⟨u,hu,q _ _ (Kp.refl _) r rh⟩
 |.int i,X,e,c,h=>by
  obtain⟨k,p,rfl⟩:=ZlC h
  refine .plain c ?_ (λ_=>rfl) rfl
  refine pe_int.weak λσ H Q hw=>?_
  obtain⟨σm,M,rs,rh,hw⟩:=hw
  exact hw _ _ (Kp.refl _) (.int i) rh
 |.str i,X,e,c,h=>by
  obtain⟨k,p,rfl⟩:=Zlw h
  refine .plain c ?_ (λ_=>rfl) rfl
  refine pe_str.weak λσ H Q hw=>?_
  obtain⟨σm,M,rs,rh,hw⟩:=hw
  exact hw _ _ (Kp.refl _) (.str i) rh
 |.bl i,X,e,c,h=>by
  obtain⟨k,p,rfl⟩:=Zoe h
  refine .plain c ?_ (λ_=>rfl) rfl
  refine pe_bl.weak λσ H Q hw=>?_
  obtain⟨σm,M,rs,rh,hw⟩:=hw
  exact hw _ _ (Kp.refl _) (.bl i) rh
 |.non,X,e,c,h=>by
  obtain⟨k,p,rfl⟩:=Zlz h
  refine .plain c ?_ (λ_=>rfl) rfl
  refine pe_non.weak λσ H Q hw=>?_
  obtain⟨σm,M,rs,rh,hw⟩:=hw
  exact hw _ _ (Kp.refl _) .non rh
 |.glb x i,X,e,c,h=>by
  obtain⟨p,rfl,h1,h2⟩:=ZlE h
  obtain⟨g1,g2,g3⟩:=Zaw h2
  obtain⟨tk,hm⟩:=c.gls x i h1
  refine .plain c ?_ (λ_=>rfl) rfl
  refine(ZkY (v:=.int i) g1 hm ⟨tk,rfl⟩ g2).weak λσ H Q hw=>?_
  obtain⟨σm,M,rs,rh,hw⟩:=hw
  exact hw _ _ (Kp.refl _) (.int i) rh
 |.ty t,X,e,c,h=>by
  obtain⟨p,rfl,h0,h1,h2⟩:=Zo9 h
  obtain⟨g1,g2,g3⟩:=Zaw h2
  refine .plain c ?_ (λ_=>rfl) rfl
  refine(Zl1 (v:=.ty t.name) g1 (c.bls _ h1) (Zm3 h0) rfl g3 g2).weak λσ H Q hw=>?_
  obtain⟨σm,M,rs,rh,hw⟩:=hw
  exact hw _ _ (Kp.refl _) (.ty t) rh
 |.bin op a b,X,e,c,h=>by
  obtain⟨l,r,p,rfl,h1,h2⟩:=ZlI h
  refine .plain c ?_ (λ_=>rfl) rfl
  refine(ZpT (ZnJ op) (sE a c h1).pe (sE b c h2).pe).weak λσ H Q hw=>?_
  have:wE Φ (.bin op a b)=λσ M Q=>wE Φ a σ M λx M1=>wE Φ b σ M1 λy M2=>wBin op x y M2 Q:=rfl
  rw[this]at hw
  exact Zlo (ta:=wE Φ a) (tb:=wE Φ b) (w:=wBin op) (Z09 c.mon a) (Z09 c.mon b) (ZgO op) hw
 |.neg a,X,e,c,h=>absurd h Y09
 |.not a,X,e,c,h=>by
  obtain⟨l,p,rfl,h1⟩:=Zly h
  have ih:=sE a c h1
  refine⟨(Znv ih.pe).weak λσ H Q hw=>?_,λht=>(Znn (ih.pt ht)).weak λσ H Q hw=>?_,λ_ z=>by cases z⟩
  ·obtain⟨σm,M,rs,rh,hw⟩:=hw
   rw[Zkk]at hw
   refine⟨σm,M,rs,rh,Z09 c.mon a (λx M1 ⟨i,e,q⟩=>?_) hw⟩
   subst e
   intro v H1 k1 r1 rh1
   cases r1
   exact⟨i,rfl,q _ _ k1 (.bl _) rh1⟩
  ·obtain⟨σm,M,rs,rh,hw⟩:=hw
   rw[Zkk]at hw
   refine⟨σm,M,rs,rh,Z09 c.mon a (λx M1 ⟨i,e,b,e2,q⟩=>⟨i,e,λH' k rh'=>?_⟩) hw⟩
   cases e2
   exact q H' k rh'
 |.cmp op a b,X,e,c,h=>by
  obtain⟨l,r,p,rfl,h1,h2,h3⟩:=ZlG h
  have rd:∀σ H Q,liE X.K (wE Φ (.cmp op a b)) σ H Q->tOp (li2 X.K (wCmp op)) (liE X.K (wE Φ a)) (liE X.K (wE Φ b)) σ H Q:=λσ H Q hw=>by
   have:wE Φ (.cmp op a b)=λσ M Q=>wE Φ a σ M λx M1=>wE Φ b σ M1 λy M2=>wCmp op x y M2 Q:=rfl
   rw[this]at hw
   exact Zlo (ta:=wE Φ a) (tb:=wE Φ b) (w:=wCmp op) (Z09 c.mon a) (Z09 c.mon b) (Z7C op) hw
  refine⟨(ZkZ (ZaK c.room op) (sE a c h1).pe (sE b c h2).pe h3).weak rd,λ_=>(ZkO (ZaK c.room op) (sE a c h1).pe (sE b c h2).pe h3).weak λσ H Q hw=>?_,λ_ z=>by cases z⟩
  exact rd σ H _ (ZdE (t:=wE Φ (.cmp op a b)) (Z09 c.mon _) hw)
 |.chn op op' a b d,X,e,c,h=>by
  obtain⟨l,m,r,p,rfl,h1,h2,h3,h4⟩:=ZlH h
  refine⟨(Ziz (ZaK c.room op) (ZaK c.room op') (sE a c h1).pe (sE b c h2).pe (sE d c h3).pe h4).weak λσ H Q hw=>ZeZ c.mon hw,
   λ_=>(Zip (ZaK c.room op) (ZaK c.room op') (sE a c h1).pe (sE b c h2).pe (sE d c h3).pe h4).weak λσ H Q hw=>?_,λ_ z=>by cases z⟩
  exact ZeZ c.mon (ZdE (t:=wE Φ (.chn op op' a b d)) (Z09 c.mon _) hw)
 |.and a b,X,e,c,h=>by
  obtain⟨l,r,rest,p,rfl,h1,h2⟩:=ZlJ h
  have ih:=sE a c h1
  have hb:PE X (.BoolOp .And (r::rest) p) (liE X.K (wE Φ b)):=by
   rcases h2 with⟨rfl,h2⟩|h2
   ·exact ZjK (sE b c h2).pe
   ·exact(sE b c h2).pe
  have hw':tok (.and a b)=true->PW X (.BoolOp .And (l::r::rest) p) (liT X.K (wE Φ (.and a b))):=λht=>by
   have ht:(tok a&&tok b)=true:=ht
   rw[Y0H]at ht
   have hb2:PW X (.BoolOp .And (r::rest) p) (liT X.K (wE Φ b)):=by
    rcases h2 with⟨rfl,h2⟩|h2
    ·exact pw_and1 ((sE b c h2).pt ht.2)
    ·refine(sE b c h2).pw ht.2 ?_
     cases b<;>first|rfl|exact absurd h2 Y09
   refine(pw_and (ih.pt ht.1) hb2).weak λσ H Q hw=>?_
   obtain⟨σm,M,rs,rh,hw⟩:=hw
   rw[Zkl]at hw
   refine⟨σm,M,rs,rh,Z09 c.mon a (λx M1 ⟨k,e,q⟩=>⟨k,e,λH1 k1 rh1=>?_⟩) hw⟩
   refine Z23 (λq=>⟨σm,M1,rs.mono k1,rh1,ZjX (t:=wE Φ b) (Z09 c.mon b) k1 q⟩) (λq=>let⟨b,e,q⟩:=q;MV.noConfusion e λeb=>eb▸q H1 k1 rh1) q
  refine⟨(Znz ih.pe hb).weak λσ H Q hw=>?_,λht=>(hw' ht).pt,λht _=>hw' ht⟩
  obtain⟨σm,M,rs,rh,hw⟩:=hw
  rw[Zkl]at hw
  refine⟨σm,M,rs,rh,Z09 c.mon a (λx M1 ⟨k,e,q⟩=>?_) hw⟩
  subst e
  intro v H1 k1 r1 rh1
  cases r1
  refine⟨k,rfl,Z23 (λq=>⟨σm,M1,rs.mono k1,rh1,Z09 c.mon b (λm M' hq=>hq.on k1) q⟩) (λq=>q _ _ k1 (.bl _) rh1) q⟩
 |.or a b,X,e,c,h=>by
  obtain⟨l,r,rest,p,rfl,h1,h2⟩:=Zob h
  have ih:=sE a c h1
  have hb:PE X (.BoolOp .Or (r::rest) p) (liE X.K (wE Φ b)):=by
   rcases h2 with⟨rfl,h2⟩|h2
   ·exact ZjK (sE b c h2).pe
   ·exact(sE b c h2).pe
  have hw':tok (.or a b)=true->PW X (.BoolOp .Or (l::r::rest) p) (liT X.K (wE Φ (.or a b))):=λht=>by
   have ht:(tok a&&tok b)=true:=ht
   rw[Y0H]at ht
   have hb2:PW X (.BoolOp .Or (r::rest) p) (liT X.K (wE Φ b)):=by
    rcases h2 with⟨rfl,h2⟩|h2
    ·exact pw_or1 ((sE b c h2).pt ht.2)
    ·refine(sE b c h2).pw ht.2 ?_
     cases b<;>first|rfl|exact absurd h2 Y09
   refine(pw_or (ih.pt ht.1) hb2).weak λσ H Q hw=>?_
   obtain⟨σm,M,rs,rh,hw⟩:=hw
   rw[x_or]at hw
   refine⟨σm,M,rs,rh,Z09 c.mon a (λx M1 ⟨k,e,q⟩=>⟨k,e,λH1 k1 rh1=>?_⟩) hw⟩
   refine Z23 (λq=>let⟨b,e,q⟩:=q;MV.noConfusion e λeb=>eb▸q H1 k1 rh1) (λq=>⟨σm,M1,rs.mono k1,rh1,ZjX (t:=wE Φ b) (Z09 c.mon b) k1 q⟩) q
  refine⟨(ZpS ih.pe hb).weak λσ H Q hw=>?_,λht=>(hw' ht).pt,λht _=>hw' ht⟩
  obtain⟨σm,M,rs,rh,hw⟩:=hw
  rw[x_or]at hw
  refine⟨σm,M,rs,rh,Z09 c.mon a (λx M1 ⟨k,e,q⟩=>?_) hw⟩
  subst e
  intro v H1 k1 r1 rh1
  cases r1
  refine⟨k,rfl,Z23 (λq=>q _ _ k1 (.bl _) rh1) (λq=>⟨σm,M1,rs.mono k1,rh1,Z09 c.mon b (λm M' hq=>hq.on k1) q⟩) q⟩
 |.ife d a b,X,e,c,h=>by
  obtain⟨t,x,y,p,rfl,h0,h1,h2,h3⟩:=ZlD h
  refine⟨(Zix ((sE d c h1).pt h0) (sE a c h2).pe (sE b c h3).pe).weak λσ H Q hw=>?_,λz=>(by cases z),λz _=>(by cases z)⟩
  obtain⟨σm,M,rs,rh,hw⟩:=hw
  rw[Zmk]at hw
  refine⟨σm,M,rs,rh,Z09 c.mon d (λx M1 ⟨k,e,q⟩=>⟨k,e,λH1 k1 rh1=>?_⟩) hw⟩
  exact Z23 (λq=>⟨σm,M1,rs.mono k1,rh1,Z09 c.mon a (λm M' hq=>hq.on k1) q⟩) (λq=>⟨σm,M1,rs.mono k1,rh1,Z09 c.mon b (λm M' hq=>hq.on k1) q⟩) q
 |.tup es,X,e,c,h=>by
  obtain⟨xs,k,p,rfl,h1⟩:=Zlv h
  refine .plain c ?_ (λ_=>rfl) rfl
  refine(Znu (sA es c h1)).weak λσ H Q hw=>?_
  obtain⟨σm,M,rs,rh,hw⟩:=hw
  refine⟨σm,M,rs,rh,mon_es c.mon es (λms M1 ⟨hz,q⟩=>?_) hw⟩
  intro vs H1 k1 r1 rh1
  refine⟨by rw[<- r1.length];exact hz,λp hp=>?_⟩
  have k2:=Kp.new hp (.tup vs)
  exact q _ _ (k1.trans k2) (.tup Z1G (r1.mono k2)) (rh1.kept hp _)
 |.lst es,X,e,c,h=>by
  obtain⟨xs,p,rfl,h1⟩:=ZlB h
  refine .plain c ?_ (λ_=>rfl) rfl
  refine(Znx (sA es c h1)).weak λσ H Q hw=>?_
  obtain⟨σm,M,rs,rh,hw⟩:=hw
  refine⟨σm,M,rs,rh,mon_es c.mon es (λms M1 ⟨hz,q⟩=>?_) hw⟩
  intro vs H1 k1 r1 rh1
  refine⟨by rw[<- r1.length];exact hz,λp hp=>?_⟩
  have k2:=Kp.new hp (.lst vs)
  exact q p (rh1.free hp) _ _ (k1.trans k2) (.ref p) (rh1.put k2 (r1.mono k2))
 |.dic,X,e,c,h=>by
  obtain⟨p,rfl⟩:=ZlF h
  refine .plain c ?_ (λ_=>rfl) rfl
  refine pe_dnewK.weak λσ H Q hw=>?_
  obtain⟨σm,M,rs,rh,hw⟩:=hw
  intro p hp
  have k2:=Kp.new hp (.dK [])
  exact hw p (rh.free hp) _ _ k2 (.ref p) (rh.put k2 ⟨.nil,Y3J⟩)
 |.ix a b,X,e,c,h=>by
  obtain⟨l,r,p,rfl,h1,h2,h3⟩:=Zod h
  refine .plain c ?_ (λ_=>rfl) rfl
  refine(ZpU (Zo7 (by have:=c.room;lia)) (sE a c h1).pe (sE b c h2).pe (Zis h3)).weak λσ H Q hw=>?_
  have:wE Φ (.ix a b)=λσ M Q=>wE Φ a σ M λx M1=>wE Φ b σ M1 λy M2=>wIx x y M2 Q:=rfl
  rw[this]at hw
  exact Zlo (ta:=wE Φ a) (tb:=wE Φ b) (w:=wIx) (Z09 c.mon a) (Z09 c.mon b) ZjR hw
 |.sl a lo hi,X,e,c,h=>by
  obtain⟨x,l,u,p,p2,rfl,h1,h2,h3⟩:=Zoa h
  refine .plain c ?_ (λ_=>rfl) rfl
  refine(Ziw Zmv (sE a c h1).pe (sO lo c h2) (sO hi c h3)).weak λσ H Q hw=>?_
  obtain⟨σm,M,rs,rh,hw⟩:=hw
  refine⟨σm,M,rs,rh,Z09 c.mon a (λx M1 q1=>?_) hw⟩
  intro v H1 k1 r1 rh1
  refine⟨σm,M1,rs.mono k1,rh1,mon_o c.mon lo (λl M2 q2=>?_) q1⟩
  intro H2 k2 rh2
  refine⟨σm,M2,rs.mono (k1.trans k2),rh2,mon_o c.mon hi (λu M3 q3=>?_) q2⟩
  intro H3 k3 rh3
  exact⟨x,M3,r1.mono (k2.trans k3),rh3,ZjQ (λm M' hq=>hq.on (k1.trans (k2.trans k3))) q3⟩
 |.call j a es,X,e,c,h=>by
  obtain⟨f,p,x,xs,p2,rfl,h1,h2,h3,h4⟩:=ZiR h
  obtain⟨g1,g2,g3⟩:=Zaw h2
  obtain⟨sp,hj⟩:=c.fnn j f h1
  obtain⟨k,fa,fd,ps,hr,F,hm,hk,hb⟩:=c.fns j f sp h1 hj
  have ha:PA X (x::xs) (Zg2 (liE X.K (wE Φ a)) (liA X.K (wEs Φ es))):=Z3f (sE a c h3).pe (sA es c h4) (Z0F h3)
  refine .plain c ?_ (λ_=>rfl) rfl
  refine(Zl0 (E:=E0) F hr g1 hm hk hb .nil ZpW ha g2 (Z0F h3) (Z7o (Z5a (pos:=p2) h4)).2).weak λσ H Q hw=>?_
  obtain⟨σm,M,rs,rh,hw⟩:=hw
  rw[Zjs]at hw
  refine⟨σm,M,rs,rh,Z09 c.mon a (λv M1 q1=>?_) hw⟩
  intro u H1 k1 r1 rh1
  refine⟨σm,M1,rs.mono k1,rh1,mon_es c.mon es (λvs M2 ⟨f',sp',e,q2⟩=>?_) q1⟩
  rw[hj]at e
  cases e
  intro us H2 k2 r2 rh2
  refine⟨v::vs,M2,?_,rh2,c.mon j f sp hj (λm M' hq=>hq.on (k1.trans k2)) q2⟩
  rw[Y2i]
  exact .cons (r1.mono k2) r2
 |.bi f a es,X,e,c,h=>by
  obtain⟨p,x,xs,p2,rfl,h1,h2,h3,h4⟩:=Zof h
  obtain⟨g1,g2,g3⟩:=Zaw h2
  have ha:PA X (x::xs) (Zg2 (liE X.K (wE Φ a)) (liA X.K (wEs Φ es))):=Z3f (sE a c h3).pe (sA es c h4) (Z0F h3)
  have hv:=Zm4 f
  have hcall:=Zm1 (X:=X) c.calm f
  have hp:PE X (.Call (.Name (f.name:Str) p) (x::xs) [] p2) (tCB (liW X.K (wBi f)) (Zg2 (liE X.K (wE Φ a)) (liA X.K (wEs Φ es)))):=by
   cases hf:f.val<;>rw[hf]at hv hcall<;>first
    |exact ZiA hcall g1 (c.bls _ h1) hv ha g3 g2 (Z0F h3) (Z7o (Z5a (pos:=p2) h4)).2
    |exact ZgC hcall g1 (c.bls _ h1) hv ha g3 g2 (Z0F h3) (Z7o (Z5a (pos:=p2) h4)).2
    |(cases f<;>cases hf)
  refine .plain c ?_ (λ_=>rfl) rfl
  refine hp.weak λσ H Q hw=>?_
  obtain⟨σm,M,rs,rh,hw⟩:=hw
  refine⟨σm,M,rs,rh,Z09 c.mon a (λv M1 q1=>?_) hw⟩
  intro u H1 k1 r1 rh1
  refine⟨σm,M1,rs.mono k1,rh1,mon_es c.mon es (λvs M2 q2=>?_) q1⟩
  intro us H2 k2 r2 rh2
  exact⟨v::vs,M2,.cons (r1.mono k2) r2,rh2,ZjU f (λm M' hq=>hq.on (k1.trans k2)) q2⟩
 |.b2 f a,X,e,c,h=>by
  obtain⟨p,p',x,p2,p2',rfl,h1,h2,h3,h4,h5⟩:=Zog h
  obtain⟨g1,g2,g3⟩:=Zaw h3
  obtain⟨k1,k2,k3⟩:=Zaw h4
  have hv:bootBuiltins (f.out:Str)=some f.outV:=by cases f<;>decide+kernel
  have hv':bootBuiltins (f.inn:Str)=some (.type f.inn):=by cases f<;>decide+kernel
  have hp:PE X (.Call (.Name (f.out:Str) p) [.Call (.Name (f.inn:Str) p') [x] [] p2'] [] p2) (λσ H Q=>liE X.K (wE Φ a) σ H λv H1=>li1 X.K (wB2 f) v H1 Q):=by
   have hc:=Zm2 (X:=X) c.calm f
   cases f with
   |lrng=>exact ZgD (p:=p) (p':=p') (pos:=p2) (pos':=p2') hc g1 (c.bls _ h1) hv k1 (c.bls _ h2) hv' (sE a c h5).pe g3 g2 k3 k2 (Z0F h5)
   |ssrt=>exact Zes (p:=p) (p':=p') (pos:=p2) (pos':=p2') hc g1 (c.bls _ h1) hv k1 (c.bls _ h2) hv' (sE a c h5).pe g3 g2 k3 k2 (Z0F h5)
   |lset=>exact Zes (p:=p) (p':=p') (pos:=p2) (pos':=p2') hc g1 (c.bls _ h1) hv k1 (c.bls _ h2) hv' (sE a c h5).pe g3 g2 k3 k2 (Z0F h5)
  refine .plain c ?_ (λ_=>rfl) rfl
  refine hp.weak λσ H Q hw=>?_
  obtain⟨σm,M,rs,rh,hw⟩:=hw
  refine⟨σm,M,rs,rh,Z09 c.mon a (λv M1 q1=>?_) hw⟩
  intro u H1 k1 r1 rh1
  exact⟨v,M1,r1,rh1,ZjV f (λm M' hq=>hq.on k1) q1⟩
 |.mxd a,X,e,c,h=>by
  obtain⟨p,x,k0,p0,kp,p2,rfl,h1,h2,h3⟩:=ZlA h
  obtain⟨g1,g2,g3⟩:=Zaw h2
  refine .plain c ?_ (λ_=>rfl) rfl
  refine(Znw c.calm g1 (c.bls _ h1) (sE a c h3).pe pe_int (Z0F h3)).weak λσ H Q hw=>?_
  obtain⟨σm,M,rs,rh,hw⟩:=hw
  refine⟨σm,M,rs,rh,Z09 c.mon a (λv M1 q1=>?_) hw⟩
  intro u H1 k1 r1 rh1
  obtain⟨b,ns,rfl,hb,q⟩:=q1
  cases r1
  obtain⟨vs,e,q1⟩:=rh1.lst hb
  have:=q1.ints_of
  subst this
  exact⟨_,ns,rfl,SqL.of e,λm hm=>q m hm _ _ k1 (.int _) rh1⟩
 |.mt m o es,X,e,c,h=>by
  obtain⟨ob,ap,args,cp,rfl,h1,h2,h3,h4⟩:=Zoc h
  have slot:PySem.Slot m.ty (m.name:Str) m.id/\typeOf (.builtin m.id)=pure (.type "method_descriptor"):=by
   cases m
   ·exact⟨PySem.F.slot_list_append,PySem.F.type_list_append⟩
   ·exact⟨PySem.F.slot_list_extend,PySem.F.type_list_extend⟩
   ·exact⟨PySem.F.slot_list_reverse,PySem.F.type_list_reverse⟩
   ·exact⟨PySem.F.slot_list_clear,PySem.F.type_list_clear⟩
   ·exact⟨Y3x,Y3y⟩
   ·exact⟨Y3x,Y3y⟩
   ·exact⟨Y34,PySem.F.type_dict_clear⟩
   ·exact⟨Y3z,Y3A⟩
   ·exact⟨Y3z,Y3A⟩
   ·exact⟨PySem.F.slot_str_join,PySem.F.type_str_join⟩
   ·exact⟨PySem.F.slot_list_remove,PySem.F.type_list_remove⟩
  have plain:PlainAttrs m.ty:=by
   cases m<;>first|exact PySem.F.plainAttrs_list|exact PySem.F.plainAttrs_dict|exact PySem.F.plainAttrs_str
  have hu1:X.A.units+1<cLine:=by have:=c.room;lia
  have tyL:∀{H1:Hp} {M1:MH} {mx:MV} {v:V},RH X.K M1 H1->RM X.K H1 mx v->mtOk m mx M1->tyV X.K m.ty v H1:=by
   intro H1 M1 mx v rh r hm
   cases m
   case join=>
    obtain⟨z,rfl⟩:=hm
    cases r
    exact rfl
   case dclear|dget|dgetD=>
    obtain⟨a,kvs,rfl,hm⟩:=hm
    cases r
    obtain⟨vs,e,_⟩:=rh.dic hm
    exact .inr (.inr (.inl ⟨rfl,.inl ⟨vs,e⟩⟩))
   all_goals
    obtain⟨a,xs,rfl,hm⟩:=hm
    cases r
    obtain⟨vs,e,_⟩:=rh.lst hm
    exact .inl ⟨rfl,vs,SqL.of e⟩
  refine .plain c ?_ (λ_=>rfl) rfl
  cases args with
  |nil=>
   refine(Zny plain slot.1 slot.2 (ZjP hu1 m) (sE o c h2).pe (Zd8 h2) h1).weak λσ H Q hw=>?_
   obtain⟨σm,M,rs,rh,hw⟩:=hw
   refine⟨σm,M,rs,rh,Z09 c.mon o (λv M1 ⟨q0,q1⟩=>?_) hw⟩
   intro u H1 k1 r1 rh1
   cases es with
   |cons _ _=>exact absurd h3 Y09
   |nil=>
    exact⟨tyL rh1 r1 q0,v,[],M1,r1,.nil,rh1,ZgN (λm M' hq=>hq.on k1) q1⟩
  |cons x xs=>
   cases es with
   |nil=>cases Zb0 h3
   |cons a es=>
    have h3':=h3
    obtain⟨x',xs',e',h3⟩:=Z9F h3
    cases e'
    have ha:=sA (.cons a es) c h3'
    have hall:=Z7o (pos:=cp) (Z5a (env:=X.env) (pos:=cp) h3')
    refine(ZpV plain slot.1 slot.2 (ZjP hu1 m) (sE o c h2).pe ha (Zd8 h2) ?_ h1 (Z0F h3.1) (Z7o (Z5a (pos:=cp) h3.2)).2).weak λσ H Q hw=>?_
    ·rw[hall.1]
     simp only[Bool.true_and,Y0H,decide_eq_true_eq]
     refine⟨rfl,?_⟩
     simp at h4 ⊢
     lia
    obtain⟨σm,M,rs,rh,hw⟩:=hw
    refine⟨σm,M,rs,rh,Z09 c.mon o (λv M1 ⟨q0,q1⟩=>?_) hw⟩
    intro u H1 k1 r1 rh1
    refine⟨tyL rh1 r1 q0,σm,M1,rs.mono k1,rh1,mon_es c.mon (.cons a es) (λvs M2 q2=>?_) q1⟩
    intro us H2 k2 r2 rh2
    exact⟨v,vs,M2,r1.mono k2,r2,rh2,ZgN (λm M' hq=>hq.on (k1.trans k2)) q2⟩
 |.comp own fr src tg test elt,X,e,c,h=>by
  obtain⟨x,t,it,ifs,scope,p,rfl,h1,h2,h3,h4,h5,h6,h7⟩:=ZeP h
  refine .plain c ?_ (λ_=>rfl) rfl
  refine(Ziy own fr (g:=gOf X.K tg) (te:=liE X.K (wE Φ elt)) (λe s h=>by rw[c.nox]at h;exact h) c.calm h1 (sSr src (tg:=t) c h4) (λC fp s₃ H₃=>sTg (X:=cxC X scope own fr C fp s₃ H₃) (lim:=own.length) (all:=false) c.calm h3 (λz=>by cases z) tg h5) (tt:=ttOf X.K Φ test) (λC fp s₃ H₃=>sI (X:=cxC X scope own fr C fp s₃ H₃) test (c.comp (Z3H h1).kind h3) h6)
   (λC fp s₃ H₃=>(sE (X:=cxC X scope own fr C fp s₃ H₃) elt (c.comp (Z3H h1).kind h3) h7).pe) (ZbP h2 _)).thaw.weak λσ H Q hw=>?_
  exact ZcP c.mon h5 hw
 |.fld cn o f,X,e,c,h=>absurd h Y09
 |.mcall j cn m o es,X,e,c,h=>absurd h Y09
 |.make j cn a es,X,e,c,h=>absurd h Y09
 |.disp ps,X,e,c,h=>absurd h Y09
theorem sP{G:GI}{Φ:List (Str×SpM)}:∀(ps:IPs) {X:Cx} {pos:Pos} {ks:List (Option Expr)} {vs:List Expr},Cok X G Φ->ZhI G ps X.env.scope X.N ks vs=true->PPs X pos ks vs (trOf X.K Φ ps)
 |.nil,X,pos,ks,vs,c,h=>by
  obtain⟨rfl,rfl⟩:=Zfy h
  exact ZkR
 |.cons k v r,X,pos,ks,vs,c,h=>by
  obtain⟨x,ks',y,vs',rfl,rfl,h1,h2,h3⟩:=ZdR h
  exact Zir (sE k c h1).pe (sE v c h2).pe (sP r c h3)
theorem sA{G:GI}{Φ:List (Str×SpM)}:∀(ies:IEs) {X:Cx} {es:List Expr},Cok X G Φ->chkEs G ies X.env.scope X.N es=true->PA X es (liA X.K (wEs Φ ies))
 |.nil,X,es,c,h=>by
  cases es with
  |cons _ _=>cases Zb0 h
  |nil=>
   refine pa_nil.weak λσ H Q hw=>?_
   obtain⟨σm,M,rs,rh,hw⟩:=hw
   exact hw _ _ (Kp.refl _) .nil rh
 |.cons a as,X,es,c,h=>by
  cases es with
  |nil=>cases h
  |cons x xs=>
   obtain⟨x',xs',e',h⟩:=Z9F h
   cases e'
   refine(Z3f (sE a c h.1).pe (sA as c h.2) (Z0F h.1)).weak λσ H Q hw=>?_
   have:wEs Φ (.cons a as)=λσ M Q=>wE Φ a σ M λv M1=>wEs Φ as σ M1 λvs M2=>Q (v::vs) M2:=rfl
   rw[this]at hw
   exact Zlp (te:=wE Φ a) (t:=wEs Φ as) (Z09 c.mon a) (mon_es c.mon as) hw
theorem sO{G:GI}{Φ:List (Str×SpM)}:∀(io:IO) {X:Cx} {e:Option Expr},Cok X G Φ->chkO G io X.env.scope X.N e=true->PO X e (liO X.K (wO Φ io))
 |.none,X,e,c,h=>by
  cases e with
  |some _=>cases ZfA h
  |none=>
   intro pins s σ H Q I hw
   refine ZkT pins s σ H Q I ?_
   obtain⟨σm,M,rs,rh,hw⟩:=hw
   exact hw _ (Kp.refl _) rh
 |.some a,X,e,c,h=>by
  cases e with
  |none=>exact absurd h Y09
  |some x=>
   obtain⟨x',e',h⟩:=Zfz h
   cases e'
   intro pins s σ H Q I hw
   refine ZkS (sE a c h).pe pins s σ H Q I ?_
   obtain⟨σm,M,rs,rh,hw⟩:=hw
   refine⟨σm,M,rs,rh,Z09 c.mon a (λv M1 ⟨i,e,q⟩=>?_) hw⟩
   subst e
   intro u H1 k1 r1 rh1
   cases r1
   exact⟨i,rfl,q H1 k1 rh1⟩
theorem sI{G:GI}{Φ:List (Str×SpM)}:∀(io:IO) {X:Cx} {es:List Expr},Cok X G Φ->chkI G io X.env.scope X.N es=true->PTs X es (ttOf X.K Φ io)
 |.none,X,es,c,h=>by
  cases es with
  |cons _ _=>cases ZfC h
  |nil=>exact .inl ⟨rfl,rfl⟩
 |.some a,X,es,c,h=>by
  obtain⟨x,rfl,h1,h2⟩:=ZfB h
  exact .inr ⟨x,rfl,(sE a c h2).pt h1⟩
theorem sSr{G:GI}{Φ:List (Str×SpM)}:∀(s:ISr) {X:Cx} {tg e:Expr},Cok X G Φ->chkSr G s X.env.scope X.N e=true->PI X tg e (liSr X (wSr Φ s))
 |.seq a,X,tg,e,c,h=>by
  refine(ZkW (sE a c h).pe).weak λσ H R hw=>?_
  obtain⟨σm,M,rs,rh,hw⟩:=hw
  refine⟨σm,M,rs,rh,Z09 c.mon a (λv M1 q=>?_) hw⟩
  intro u H1 k1 r1 rh1
  rcases q with⟨xs,e,q⟩|⟨b,xs,e,hb,q⟩|⟨b,kvs,e,hb,q⟩|⟨z,e,q⟩
  ·rcases e with e|e
   ·subst e
    cases r1 with
    |tup h1 q1=>exact .inl ⟨_,rfl,.inr (.inl ⟨_,SqT.of h1,q _ _ k1 rh1 (.inl ⟨_,_,h1,q1,rfl⟩)⟩)⟩
   ·subst e
    cases r1 with
    |frl h1 q1=>exact .inl ⟨_,rfl,.inl ⟨_,h1.sq,q _ _ k1 rh1 (.inr ⟨_,_,h1,q1,rfl⟩)⟩⟩
  ·subst e
   cases r1
   obtain⟨vs,e2,_⟩:=rh1.lst hb
   exact .inl ⟨_,rfl,.inl ⟨_,SqL.of e2,q _ _ k1 rh1 rfl⟩⟩
  ·subst e
   cases r1
   obtain⟨vs,e2,r2,nd⟩:=rh1.dic hb
   refine .inl ⟨_,rfl,.inr (.inr ⟨vs,e2,λo nf=>?_⟩)⟩
   have k:=Kp.upd e2 rfl (.frz o (.dK vs))
   exact q o _ _ (k1.trans k) (rh1.put k (o:=.fdic o kvs) ⟨rfl,r2.mono k,nd⟩) ⟨rfl,nf⟩
  ·subst e
   cases r1
   exact .inr ⟨z,rfl,q _ _ k1 rh1 rfl⟩
 |.rng a,X,tg,e,c,h=>by
  obtain⟨p,x,p2,rfl,h2,h3,h4⟩:=Zlx h
  refine(ZgA (Zaw h3).1 (c.bls _ h2) (Z3f (sE a c h4).pe pa_nil (Z0F h4)) (Z0F h4)).weak λσ H R hw=>?_
  obtain⟨σm,M,rs,rh,hw⟩:=hw
  refine⟨σm,M,rs,rh,Z09 c.mon a (λv M1 ⟨j,e,q1,q2,q⟩=>?_) hw⟩
  subst e
  intro u H1 k1 r1 rh1
  cases r1
  exact⟨j,rfl,q1,q2,q _ _ k1 rh1 rfl⟩
 |.rng2 a b,X,tg,e,c,h=>by
  obtain⟨p,x,y,p2,rfl,h2,h3,h4,h5⟩:=ZiQ h
  refine(Zgz (Zaw h3).1 (c.bls _ h2) (Z3f (sE a c h4).pe (Z3f (sE b c h5).pe pa_nil (Z0F h5)) (Z0F h4)) (by rw[Z0F h4,Z0F h5];rfl) (Z0F h5)).weak λσ H R hw=>?_
  obtain⟨σm,M,rs,rh,hw⟩:=hw
  refine⟨σm,M,rs,rh,Z09 c.mon a (λv M1 q1=>?_) hw⟩
  intro u H1 k1 r1 rh1
  refine⟨σm,M1,rs.mono k1,rh1,Z09 c.mon b (λw M2 ⟨i,j,e1,e2,hb,q⟩=>?_) q1⟩
  subst e1 e2
  intro u2 H2 k2 r2 rh2
  cases r1
  cases r2
  exact⟨i,j,rfl,hb,q _ _ (k1.trans k2) rh2 rfl⟩
 |.rng3 a b d,X,tg,e,c,h=>by
  obtain⟨p,x,y,z,p2,rfl,h2,h3,h4,h5,h6⟩:=ZiP h
  refine(Zgy (Zaw h3).1 (c.bls _ h2) (Z3f (sE a c h4).pe (Z3f (sE b c h5).pe (Z3f (sE d c h6).pe pa_nil (Z0F h6)) (Z0F h5)) (Z0F h4)) (by rw[Z0F h4,Z0F h5,Z0F h6];rfl) (by rw[Z0F h5,Z0F h6];rfl)).weak λσ H R hw=>?_
  obtain⟨σm,M,rs,rh,hw⟩:=hw
  refine⟨σm,M,rs,rh,Z09 c.mon a (λv M1 q1=>?_) hw⟩
  intro u H1 k1 r1 rh1
  refine⟨σm,M1,rs.mono k1,rh1,Z09 c.mon b (λw M2 q2=>?_) q1⟩
  intro u2 H2 k2 r2 rh2
  refine⟨σm,M2,rs.mono (k1.trans k2),rh2,Z09 c.mon d (λw2 M3 ⟨i,j,e1,e2,e3,hb,q⟩=>?_) q2⟩
  subst e1 e2 e3
  intro u3 H3 k3 r3 rh3
  cases r1
  cases r2
  cases r3
  exact⟨i,j,rfl,hb,q _ _ (k1.trans (k2.trans k3)) rh3 rfl⟩
end
end L2
namespace L2
set_option genInjectivity false
open PySem PySem.Spec PyProof.Rows
mutual
inductive IS where
 |pass|brk|cnt|never
 |ret (e:IE)|retN
 |set (i:Nat) (e:IE)
 |asg (t:ITgs) (e:IE)
 |put (o i e:IE)
 |fset (c:Str) (o:IE) (f:Str) (e:IE)
 |expr (e:IE)
 |ite (c:IE) (a b:ISs)
 |for_ (t:ITg) (s:ISr) (b:ISs)
 |while_ (c:IE) (b:ISs)
inductive ISs where|nil|cons (s:IS) (r:ISs)
end
structure EndM where
 nx:Sm->MH->Prop
 rt:QM
 bk:Sm->MH->Prop:=λ_ _=>False
 ct:Sm->MH->Prop:=λ_ _=>False
mutual
def wS(Φ:List (Str×SpM)):IS->EndM->Sm->MH->Prop
 |.pass,D,σ,M=>D.nx σ M
 |.brk,D,σ,M=>D.bk σ M
 |.cnt,D,σ,M=>D.ct σ M
 |.never,_,_,_=>False
 |.ret e,D,σ,M=>wE Φ e σ M D.rt
 |.retN,D,_,M=>D.rt .non M
 |.set i e,D,σ,M=>wE Φ e σ M λv M1=>D.nx (σ.set i (some v)) M1
 |.asg t e,D,σ,M=>wE Φ e σ M λv M1=>∃xs,v=.tup xs/\wTgs t xs σ λσ'=>D.nx σ' M1
 |.put o i e,D,σ,M=>wE Φ e σ M λv M1=>wE Φ o σ M1 λx M2=>wE Φ i σ M2 λy M3=>wPut x y v M3 λM4=>D.nx σ M4
 |.fset c o f e,D,σ,M=>wE Φ e σ M λv M1=>wE Φ o σ M1 λx M2=>∃a fs,x=.ref a/\M2 a=some (.ins c fs)/\fs.length<1000/\D.nx σ (updM M2 a (.ins c (putM fs f v)))
 |.expr e,D,σ,M=>wE Φ e σ M λ_ M1=>D.nx σ M1
 |.ite c a b,D,σ,M=>wE Φ c σ M λx M1=>onB x λk=>(if k=true then wSs Φ a D σ M1 else wSs Φ b D σ M1)
 |.for_ t s b,D,σ,M=>wSr Φ s σ M λS M1=>∃J:Nat->Sm->MH->Prop,J 0 σ M1/\(∀i σ M,J i σ M->S.ok M)/\
   (∀i x σ M,S.items[i]?=some x->J i σ M->wTg t x σ λσ2=>wSs Φ b {nx:=J (i+1),rt:=λv M=>S.okT M/\D.rt v (S.thaw M),bk:=λσ M=>S.okT M/\D.nx σ (S.thaw M),ct:=J (i+1)} σ2 M)/\∀σ M,J S.len σ M->D.nx σ (S.thaw M)
 |.while_ c b,D,σ,M=>∃J:Nat->Sm->MH->Prop,(∃m,J m σ M)/\∀m σ M,J m σ M->wE Φ c σ M λx M1=>∃k,x=.bl k/\
   (if k=true then wSs Φ b {nx:=λσ' M'=>∃m',m'<m/\J m' σ' M',rt:=D.rt,bk:=D.nx,ct:=λσ' M'=>∃m',m'<m/\J m' σ' M'} σ M1 else D.nx σ M1)
def wSs(Φ:List (Str×SpM)):ISs->EndM->Sm->MH->Prop
 |.nil,D,σ,M=>D.nx σ M
 |.cons s r,D,σ,M=>wS Φ s {nx:=λσ M=>wSs Φ r D σ M,rt:=D.rt,bk:=D.bk,ct:=D.ct} σ M
end
theorem Zmj{Φ:List (Str×SpM)}{c:IE}{a b:ISs}{D:EndM}{σ:Sm}{M:MH}:wS Φ (.ite c a b) D σ M=wE Φ c σ M λx M1=>∃k,x=.bl k/\(if k=true then wSs Φ a D σ M1 else wSs Φ b D σ M1):=by rw[wS];simp only[ZaL]
structure EndM.Le (D D':EndM):Prop where
 nx:∀σ M,D.nx σ M->D'.nx σ M
 rt:∀v M,D.rt v M->D'.rt v M
 bk:∀σ M,D.bk σ M->D'.bk σ M
 ct:∀σ M,D.ct σ M->D'.ct σ M
mutual
theorem ZnS{Φ:List (Str×SpM)}(hΦ:∀(j:Nat) f sp,Φ[j]?=some (f,sp)->MonW sp):∀(s:IS) {D D':EndM} {σ:Sm} {M:MH},D.Le D'->wS Φ s D σ M->wS Φ s D' σ M
 |.pass,D,D',σ,M,l,h=>by exact l.nx _ _ h
 |.brk,D,D',σ,M,l,h=>by exact l.bk _ _ h
 |.cnt,D,D',σ,M,l,h=>by exact l.ct _ _ h
 |.never,D,D',σ,M,l,h=>h.elim
 |.ret e,D,D',σ,M,l,h=>by exact Z09 hΦ e l.rt h
 |.retN,D,D',σ,M,l,h=>by exact l.rt _ _ h
 |.set i e,D,D',σ,M,l,h=>by exact Z09 hΦ e (λv M1 h1=>l.nx _ _ h1) h
 |.asg t e,D,D',σ,M,l,h=>by exact Z09 hΦ e (λv M1 ⟨xs,e,h1⟩=>⟨xs,e,mon_tgs t (λσ' h2=>l.nx _ _ h2) h1⟩) h
 |.put o i e,D,D',σ,M,l,h=>by
  exact Z09 hΦ e (λv M1 h1=>Z09 hΦ o (λx M2 h2=>Z09 hΦ i (λy M3 h3=>ZgM (λM4 h4=>l.nx _ _ h4) h3) h2) h1) h
 |.fset c o f e,D,D',σ,M,l,h=>by
  exact Z09 hΦ e (λv M1 h1=>Z09 hΦ o (λx M2 ⟨a,fs,e1,e2,e3,h2⟩=>⟨a,fs,e1,e2,e3,l.nx _ _ h2⟩) h1) h
 |.expr e,D,D',σ,M,l,h=>by exact Z09 hΦ e (λv M1 h1=>l.nx _ _ h1) h
 |.ite c a b,D,D',σ,M,l,h=>by
  rw[Zmj]at h ⊢
  exact Z09 hΦ c (λx M1 ⟨k,e,h1⟩=>⟨k,e,Z23 (mon_ss hΦ a l) (mon_ss hΦ b l) h1⟩) h
 |.for_ t s b,D,D',σ,M,l,h=>by
  refine mon_sr hΦ s (λS M1 ⟨J,j0,j1,j2,j3⟩=>⟨J,j0,j1,λi x σ M hx hj=>?_,λσ M hj=>l.nx _ _ (j3 σ M hj)⟩) h
  exact Z5v t (λσ2 h2=>by refine mon_ss hΦ b ?_ h2;exact⟨λ_ _ z=>z,λ_ _ z=>⟨z.1,l.rt _ _ z.2⟩,λ_ _ z=>⟨z.1,l.nx _ _ z.2⟩,λ_ _ z=>z⟩) (j2 i x σ M hx hj)
 |.while_ c b,D,D',σ,M,l,h=>by
  obtain⟨J,j0,j1⟩:=h
  refine⟨J,j0,λm σ M hj=>Z09 hΦ c (λx M1 ⟨k,e,h1⟩=>⟨k,e,Z23 (λz=>by refine mon_ss hΦ b ?_ z;exact⟨λ_ _ z=>z,l.rt,l.nx,λ_ _ z=>z⟩) (l.nx _ _) h1⟩) (j1 m σ M hj)⟩
theorem mon_ss{Φ:List (Str×SpM)}(hΦ:∀(j:Nat) f sp,Φ[j]?=some (f,sp)->MonW sp):∀(s:ISs) {D D':EndM} {σ:Sm} {M:MH},D.Le D'->wSs Φ s D σ M->wSs Φ s D' σ M
 |.nil,D,D',σ,M,l,h=>by exact l.nx _ _ h
 |.cons s r,D,D',σ,M,l,h=>by
  refine ZnS hΦ s ?_ h
  exact⟨λσ M h1=>mon_ss hΦ r l h1,l.rt,l.bk,l.ct⟩
end
def ZjO:Expr->Bool
 |.Tuple ..=>false|_=>true
def Z9m:Expr->Bool
 |.ListComp ..=>false|.SetComp ..=>false|.DictComp ..=>false|_=>true
def Zow:Stmt->Option (Option Expr)|.Return v _=>some v|_=>none
def Zjl:Stmt->Option (List Expr×Expr)|.Assign ts v _=>some (ts,v)|_=>none
def asEx:Stmt->Option Expr|.Expr v _=>some v|_=>none
def Zox:Stmt->Option (Expr×List Stmt×List Stmt)|.If t x y _=>some (t,x,y)|_=>none
def Zoy:Stmt->Option (Expr×Expr×List Stmt×List Stmt)|.For t i b r _=>some (t,i,b,r)|_=>none
section
variable{e:Stmt}
theorem Zjc{x:Option Expr}(h:Zow e=some x):∃p,e=.Return x p:=by cases e<;>cases h;exact⟨_,rfl⟩
theorem ZbZ{x:List Expr×Expr}(h:Zjl e=some x):∃p,e=.Assign x.1 x.2 p:=by cases e<;>cases h;exact⟨_,rfl⟩
theorem Zma{x:Expr}(h:asEx e=some x):∃p,e=.Expr x p:=by cases e<;>cases h;exact⟨_,rfl⟩
theorem Zje{x:Expr×List Stmt×List Stmt}(h:Zox e=some x):∃p,e=.If x.1 x.2.1 x.2.2 p:=by cases e<;>cases h;exact⟨_,rfl⟩
theorem Zjf{x:Expr×Expr×List Stmt×List Stmt}(h:Zoy e=some x):∃p,e=.For x.1 x.2.1 x.2.2.1 x.2.2.2 p:=by cases e<;>cases h;exact⟨_,rfl⟩
end
mutual
def chkS(G:GI)(sc:Scope)(N:List Str):IS->Stmt->Bool
 |.pass,_=>false
 |.brk,_=>false
 |.cnt,_=>false
 |.never,_=>true
 |.ret e,s=>(Zow s).any λo=>o.any λx=>chkE G e sc N x
 |.retN,_=>false
 |.set i e,s=>(Zjl s).any λq=>(the1 q.1).any λt=>(Z36 t).any λx=>decide (N[i]?=some x)&&locB sc x&&chkE G e sc N q.2
 |.asg t e,s=>(Zjl s).any λq=>(the1 q.1).any λg=>(ZhV g).any λes=>chkTgs sc N N.length true t es&&chkE G e sc N q.2&&ZjO q.2
 |.put o i e,s=>(Zjl s).any λq=>(the1 q.1).any λt=>(ZhW t).any λa=>chkE G o sc N a.1&&chkE G i sc N a.2&&ZgI a.2&&chkE G e sc N q.2
 |.fset c o f e,_=>false
 |.expr e,s=>(asEx s).any λv=>chkE G e sc N v&&Z9m v
 |.ite c a b,s=>(Zox s).any λq=>tok c&&chkE G c sc N q.1&&chkSs G sc N a q.2.1&&chkSs G sc N b q.2.2
 |.for_ t r b,s=>(Zoy s).any λq=>Z8Q sc N N.length true t q.1&&chkSr G r sc N q.2.1&&Zcn q.2.1&&chkSs G sc N b q.2.2.1&&non0 q.2.2.2
 |.while_ c b,_=>false
def chkSs(G:GI)(sc:Scope)(N:List Str):ISs->List Stmt->Bool
 |.nil,l=>non0 l
 |.cons s r,l=>(hd1 l).any λq=>chkS G sc N s q.1&&chkSs G sc N r q.2
end
def liD(K:Y02)(H:Hp)(D:Ends):EndM where
 nx:=λσm M=>∀σ H',Kp H H'->RS K H' σm σ->RH K M H'->D.nx σ H'
 rt:=Dn K H D.rt
 bk:=λσm M=>∀σ H',Kp H H'->RS K H' σm σ->RH K M H'->D.bk σ H'
 ct:=λσm M=>∀σ H',Kp H H'->RS K H' σm σ->RH K M H'->D.ct σ H'
theorem liD.on{K:Y02}{H H1:Hp}{D:Ends}(k:Kp H H1):(liD K H D).Le (liD K H1 D):=
 ⟨λ_ _ h σ H' k'=>h σ H' (k.trans k'),λ_ _ h=>h.on k,λ_ _ h σ H' k'=>h σ H' (k.trans k'),λ_ _ h σ H' k'=>h σ H' (k.trans k')⟩
def liSt(K:Y02)(t:EndM->Sm->MH->Prop):TS:=λD σ H=>∃σm M,RS K H σm σ/\RH K M H/\t (liD K H D) σm M
theorem Zg8{e:Expr}{x:Str}{p:Pos}{ln:Nat}{env:Env}(h:Z9m e=true):swapsWith e (some (.Name x p)) ln env=pure false:=by cases e<;>first|rfl|cases h
theorem Zg7{e:Expr}{ln:Nat}{env:Env}(h:Z9m e=true):swapsWith e none ln env=pure false:=by cases e<;>first|rfl|cases h
theorem Zie{e:Expr}{es:List Expr}{k:Nat}{p:Pos}{ln:Nat}{env:Env}:swapsWith e (some (.Tuple es k p)) ln env=pure false:=by cases e<;>rfl
theorem Zif{e a b:Expr}{p:Pos}{ln:Nat}{env:Env}:swapsWith e (some (.Subscript a b p)) ln env=pure false:=by cases e<;>rfl
theorem Zg9{elt:Expr}{gs:List Comprehension}{scope:Scope}{pos p:Pos}{x:Str}{ln:Nat}{env:Env}:∃b:Bool,swapsWith (.ListComp elt gs scope pos) (some (.Name x p)) ln env=pure b:=⟨_,rfl⟩
theorem ZlW{G:GI}{ie:IE}{sc:Scope}{N:List Str}{e:Expr}(h:chkE G ie sc N e=true):Z9m e=true\/∃own fr src tg test elt,ie=.comp own fr src tg test elt:=by
 cases e<;>first
  |exact .inl rfl
  |(cases ie<;>first
    |exact .inr ⟨_,_,_,_,_,_,rfl⟩
    |exact absurd h Y09)
section
variable{G:GI}{sc:Scope}{N:List Str}{st:Stmt}
theorem ZiT{e:IE}(h:chkS G sc N (.ret e) st=true):∃x p,st=.Return (some x) p/\chkE G e sc N x=true:=by
 replace h:=Z07 h
 obtain⟨o,h1,h⟩:=h
 obtain⟨p,rfl⟩:=Zjc h1
 replace h:=Z07 h
 obtain⟨x,rfl,h⟩:=h
 exact⟨x,p,rfl,h⟩
theorem ZiS{i:Nat}{e:IE}(h:chkS G sc N (.set i e) st=true):∃x px v p,st=.Assign [.Name x px] v p/\N[i]?=some x/\locB sc x=true/\chkE G e sc N v=true:=by
 replace h:=Z07 h
 obtain⟨⟨ts,v⟩,h1,h⟩:=h
 obtain⟨p,rfl⟩:=ZbZ h1
 replace h:=Z07 h
 obtain⟨t,h2,h⟩:=h
 obtain rfl:=Z2t h2
 replace h:=Z07 h
 obtain⟨x,h3,h⟩:=h
 obtain⟨px,rfl⟩:=Z16 h3
 replace h:=Z05 h
 obtain⟨h,h6⟩:=h
 replace h:=Z05 h
 obtain⟨h4,h5⟩:=h
 exact⟨x,px,v,p,rfl,Z0Q h4,h5,h6⟩
theorem ZiX{t:ITgs}{e:IE}(h:chkS G sc N (.asg t e) st=true):∃es k pt v p,st=.Assign [.Tuple es k pt] v p/\chkTgs sc N N.length true t es=true/\chkE G e sc N v=true/\ZjO v=true:=by
 replace h:=Z07 h
 obtain⟨⟨ts,v⟩,h1,h⟩:=h
 obtain⟨p,rfl⟩:=ZbZ h1
 replace h:=Z07 h
 obtain⟨g,h2,h⟩:=h
 obtain rfl:=Z2t h2
 replace h:=Z07 h
 obtain⟨es,h3,h⟩:=h
 obtain⟨k,pt,rfl⟩:=ZbX h3
 replace h:=Z05 h
 obtain⟨h,h6⟩:=h
 replace h:=Z05 h
 obtain⟨h4,h5⟩:=h
 exact⟨es,k,pt,v,p,rfl,h4,h5,h6⟩
theorem ZiU{o i e:IE}(h:chkS G sc N (.put o i e) st=true):∃a b pt v p,st=.Assign [.Subscript a b pt] v p/\chkE G o sc N a=true/\chkE G i sc N b=true/\ZgI b=true/\chkE G e sc N v=true:=by
 replace h:=Z07 h
 obtain⟨⟨ts,v⟩,h1,h⟩:=h
 obtain⟨p,rfl⟩:=ZbZ h1
 replace h:=Z07 h
 obtain⟨g,h2,h⟩:=h
 obtain rfl:=Z2t h2
 replace h:=Z07 h
 obtain⟨⟨a,b⟩,h3,h⟩:=h
 obtain⟨pt,rfl⟩:=ZbY h3
 replace h:=Z05 h
 obtain⟨h,h7⟩:=h
 replace h:=Z05 h
 obtain⟨h,h6⟩:=h
 replace h:=Z05 h
 obtain⟨h4,h5⟩:=h
 exact⟨a,b,pt,v,p,rfl,h4,h5,h6,h7⟩
theorem Zhd{e:IE}(h:chkS G sc N (.expr e) st=true):∃v p,st=.Expr v p/\chkE G e sc N v=true/\Z9m v=true:=by
 replace h:=Z07 h
 obtain⟨v,h1,h⟩:=h
 obtain⟨p,rfl⟩:=Zma h1
 exact⟨v,p,rfl,Z05 h⟩
theorem ZiV{c:IE}{a b:ISs}(h:chkS G sc N (.ite c a b) st=true):∃t x y p,st=.If t x y p/\tok c=true/\chkE G c sc N t=true/\chkSs G sc N a x=true/\chkSs G sc N b y=true:=by
 replace h:=Z07 h
 obtain⟨⟨t,x,y⟩,h1,h⟩:=h
 obtain⟨p,rfl⟩:=Zje h1
 replace h:=Z05 h
 obtain⟨h,h5⟩:=h
 replace h:=Z05 h
 obtain⟨h,h4⟩:=h
 replace h:=Z05 h
 obtain⟨h2,h3⟩:=h
 exact⟨t,x,y,p,rfl,h2,h3,h4,h5⟩
theorem ZiW{t:ITg}{s:ISr}{b:ISs}(h:chkS G sc N (.for_ t s b) st=true):∃tg it body p,st=.For tg it body [] p/\Z8Q sc N N.length true t tg=true/\chkSr G s sc N it=true/\Zcn it=true/\chkSs G sc N b body=true:=by
 replace h:=Z07 h
 obtain⟨⟨tg,it,body,els⟩,h1,h⟩:=h
 obtain⟨p,rfl⟩:=Zjf h1
 replace h:=Z05 h
 obtain⟨h,h6⟩:=h
 replace h:=Z05 h
 obtain⟨h,h5⟩:=h
 replace h:=Z05 h
 obtain⟨h,h4⟩:=h
 replace h:=Z05 h
 obtain⟨h2,h3⟩:=h
 obtain rfl:=Z1j h6
 exact⟨tg,it,body,p,rfl,h2,h3,h4,h5⟩
theorem Zhc{sts:List Stmt}(h:chkSs G sc N .nil sts=true):sts=[]:=by
 exact Z1j h
theorem ZfD{s:IS}{r:ISs}{sts:List Stmt}(h:chkSs G sc N (.cons s r) sts=true):∃x xs,sts=x::xs/\chkS G sc N s x=true/\chkSs G sc N r xs=true:=by
 replace h:=Z07 h
 obtain⟨⟨x,xs⟩,h1,h⟩:=h
 exact⟨x,xs,Z8A h1,Z05 h⟩
end
mutual
theorem sS{G:GI}{Φ:List (Str×SpM)}:∀(is:IS) {X:Cx} {st:Stmt},Cok X G Φ->(∀x,X.fn x=true)->chkS G X.env.scope X.N is st=true->PS X st (liSt X.K (wS Φ is))
 |.pass,X,st,c,hf,h=>absurd h Y09
 |.brk,X,st,c,hf,h=>absurd h Y09
 |.cnt,X,st,c,hf,h=>absurd h Y09
 |.never,X,st,c,hf,h=>by
  refine ps_never.weak λD σ H hw=>?_
  obtain⟨σm,M,rs,rh,hw⟩:=hw
  exact hw
 |.ret e,X,st,c,hf,h=>by
  obtain⟨v,p,rfl,h⟩:=ZiT h
  refine(Zno (sE e c h).pe).weak λD σ H hw=>?_
  obtain⟨σm,M,rs,rh,hw⟩:=hw
  exact⟨σm,M,rs,rh,hw⟩
 |.retN,X,st,c,hf,h=>absurd h Y09
 |.set i e,X,st,c,hf,h=>by
   obtain⟨x,px,v,p,rfl,h1,h2,h3⟩:=ZiS h
   have rd:∀D σ H,liSt X.K (wS Φ (.set i e)) D σ H->liE X.K (wE Φ e) σ H λv H1=>D.nx (σ.set i (some v)) H1:=λD σ H hw=>by
    obtain⟨σm,M,rs,rh,hw⟩:=hw
    refine⟨σm,M,rs,rh,Z09 c.mon e (λv M1 q=>?_) hw⟩
    intro u H1 k1 r1 rh1
    exact q _ _ k1 ((rs.mono k1).set r1 i) rh1
   rcases ZlW h3 with hn|⟨own,fr,src,tg,test,elt,rfl⟩
   ·exact(ZjG c.nd h1 (Zez h2) (sE e c h3).pe (Zg8 hn) (.inl (hf _))).weak rd
   ·obtain⟨y,t,it,ifs,scope,p3,rfl,i1,i2,i3,i4,i5,i6,i7⟩:=ZeP h3
    obtain⟨b,hb⟩:=Zg9 (elt:=y) (gs:=[⟨t,it,ifs,0⟩]) (scope:=scope) (pos:=p3) (p:=px) (x:=x) (ln:=p.line) (env:=X.env)
    cases b with
    |false=>exact(ZjG c.nd h1 (Zez h2) (sE _ c h3).pe hb (.inl (hf _))).weak rd
    |true=>
     refine(Zdv own fr (g:=gOf X.K tg) (te:=liE X.K (wE Φ elt)) (tt:=ttOf X.K Φ test) c.nd h1 (Zez h2) (λe s h=>by rw[c.nox]at h;exact h) c.calm i1 (sSr src (tg:=t) c i4)
      (λC fp s₃ H₃=>sTg (X:=cxC X scope own fr C fp s₃ H₃) (lim:=own.length) (all:=false) c.calm i3 (λz=>by cases z) tg i5) (λC fp s₃ H₃=>sI (X:=cxC X scope own fr C fp s₃ H₃) test (c.comp (Z3H i1).kind i3) i6)
      (λC fp s₃ H₃=>(sE (X:=cxC X scope own fr C fp s₃ H₃) elt (c.comp (Z3H i1).kind i3) i7).pe) hb (ZbP i2 _) (.inl (hf _))).thaw.weak λD σ H hw=>?_
     exact ZcP c.mon i5 (rd D σ H hw)
 |.asg t e,X,st,c,hf,h=>by
   obtain⟨es,k,pt,v,p,rfl,h1,h2,h3⟩:=ZiX h
   have hT:Z8Q X.env.scope X.N X.N.length true (.tup t) (.Tuple es k pt)=true:=h1
   refine(ZjH (sE e c h2).pe (sTg (lim:=X.N.length) (all:=true) c.calm c.nd (λ_=>hf) (.tup t) hT) (Zie (e:=v) (es:=es) (k:=k) (p:=pt) (ln:=p.line) (env:=X.env)) (by cases v<;>first|rfl|cases h3) rfl).weak λD σ H hw=>?_
   obtain⟨σm,M,rs,rh,hw⟩:=hw
   refine⟨σm,M,rs,rh,Z09 c.mon e (λv M1 ⟨xs,e,q⟩=>?_) hw⟩
   intro u H1 k1 r1 rh1
   refine Zic (Ψ:=λ_=>True) (lim:=X.N.length) (λ_ _ _ _ z=>z) (.tup t) hT r1 (rs.mono k1) trivial (P:=λσ'=>(liD X.K H D).nx σ' M1) ⟨xs,e,q⟩ λσm' σ' q' rs' _=>?_
   exact q' _ _ k1 rs' rh1
 |.put o i e,X,st,c,hf,h=>by
   obtain⟨a,b,pt,v,p,rfl,h1,h2,h3,h4⟩:=ZiU h
   have hg:PG X (.Subscript a b pt) (gSub (liE X.K (wE Φ o)) (liE X.K (wE Φ i)) (ZnW X.K)):=Znt (sE o c h1).pe (sE i c h2).pe (Zks (by have:=c.room;lia)) (by intro v;cases b<;>first|rfl|cases h3)
   refine(ZjH (sE e c h4).pe hg (Zif (e:=v) (a:=a) (b:=b) (p:=pt) (ln:=p.line) (env:=X.env)) rfl rfl).weak λD σ H hw=>?_
   obtain⟨σm,M,rs,rh,hw⟩:=hw
   refine⟨σm,M,rs,rh,Z09 c.mon e (λv M1 q1=>?_) hw⟩
   intro u H1 k1 r1 rh1
   refine⟨σm,M1,rs.mono k1,rh1,Z09 c.mon o (λx M2 q2=>?_) q1⟩
   intro u2 H2 k2 r2 rh2
   refine⟨σm,M2,rs.mono (k1.trans k2),rh2,Z09 c.mon i (λy M3 q3=>?_) q2⟩
   intro u3 H3 k3 r3 rh3
   refine⟨x,y,v,M3,r2.mono k3,r3,r1.mono (k2.trans k3),rh3,ZgM (λM4 q4=>?_) q3⟩
   intro H4 k4 rh4
   have kk:=k1.trans (k2.trans (k3.trans k4))
   exact q4 _ _ kk (rs.mono kk) rh4
 |.fset cn o f e,X,st,c,hf,h=>absurd h Y09
 |.expr e,X,st,c,hf,h=>by
  obtain⟨v,p,rfl,h1,h2⟩:=Zhd h
  refine(ZkP (sE e c h1).pe (Zg7 h2)).weak λD σ H hw=>?_
  obtain⟨σm,M,rs,rh,hw⟩:=hw
  refine⟨σm,M,rs,rh,Z09 c.mon e (λv M1 q=>?_) hw⟩
  intro u H1 k1 r1 rh1
  exact q _ _ k1 (rs.mono k1) rh1
 |.ite d a b,X,st,c,hf,h=>by
  obtain⟨t,x,y,p,rfl,h1,h2,h3,h4⟩:=ZiV h
  refine(ZpR ((sE d c h2).pt h1) (sSs a c hf h3) (sSs b c hf h4)).weak λD σ H hw=>?_
  obtain⟨σm,M,rs,rh,hw⟩:=hw
  rw[Zmj]at hw
  refine⟨σm,M,rs,rh,Z09 c.mon d (λx M1 ⟨k,e,q⟩=>⟨k,e,λH1 k1 rh1=>?_⟩) hw⟩
  exact Z23 (λq=>⟨σm,M1,rs.mono k1,rh1,mon_ss c.mon a (liD.on k1) q⟩) (λq=>⟨σm,M1,rs.mono k1,rh1,mon_ss c.mon b (liD.on k1) q⟩) q
 |.for_ t s b,X,st,c,hf,h=>by
   obtain⟨tg,it,body,p,rfl,h1,h2,h3,h4⟩:=ZiW h
   refine(Znq (by rw[c.nox];exact PassesOwn.never) c.calm (sSr s (tg:=tg) c h2) (sTg (lim:=X.N.length) (all:=true) c.calm c.nd (λ_=>hf) t h1) (sSs b c hf h4) (ZbP h3 _)).thaw.weak λD σ H hw=>?_
   obtain⟨σm,M,rs,rh,hw⟩:=hw
   refine⟨σm,M,rs,rh,mon_sr c.mon s (λS M1 ⟨J,j0,j1,j2,j3⟩=>?_) hw⟩
   intro I H1 k1 rh1 sit
   refine⟨λi m σ' H'=>m=S.len - i/\i≤S.len/\Kp H1 H'/\∃σm' M',RS X.K H' σm' σ'/\RH X.K M' H'/\J i σm' M',⟨_,rfl,Y17 _,Kp.refl _,σm,M1,rs.mono k1,rh1,j0⟩,?_⟩
   rintro i m σ2 H2 ⟨rfl,hi,k2,σm2,M2,rs2,rh2,hj⟩
   obtain⟨goes,stops⟩:=Zek sit k2 rh2 (j1 i σm2 M2 hj)
   by_cases hlt:i<S.len
   ·obtain⟨go,yld⟩:=goes i hlt
    refine .inr ⟨go,λσ' H'=>Kp H1 H'/\∃σm' M',RS X.K H' σm' σ'/\RH X.K M' H'/\J (i+1) σm' M',λσ' H' ⟨a,z⟩=>⟨S.len - (i+1),by lia,rfl,hlt,a,z⟩,λx H' y=>?_⟩
    obtain⟨e,m,hm,rm⟩:=yld x H' y
    subst e
    refine Zic (Ψ:=λ_=>True) (lim:=X.N.length) (λ_ _ _ _ z=>z) t h1 rm rs2 trivial (j2 i m σm2 M2 hm hj) λσm3 σ3 q rs3 _=>?_
    refine⟨σm3,M2,rs3,rh2,?_⟩
    refine mon_ss c.mon b ?_ q
    refine⟨λσ' M' z σv H3 k3 rs' rh'=>⟨k2.trans k3,σ',M',rs',rh',z⟩,λv M' z u H3 k3 r3 rh'=>?_,λσ' M' z σv H3 k3 rs' rh'=>?_,λσ' M' z σv H3 k3 rs' rh'=>⟨k2.trans k3,σ',M',rs',rh',z⟩⟩
    ·obtain⟨H4,th,k4,rh4⟩:=Z8W sit rh' z.1
     exact⟨H4,th,z.2 u H4 (k1.trans (k2.trans (k3.trans k4))) (r3.mono k4) rh4⟩
    ·obtain⟨H4,th,k4,rh4⟩:=Z8W sit rh' z.1
     exact⟨H4,th,z.2 σv H4 (k1.trans (k2.trans (k3.trans k4))) (rs'.mono k4) rh4⟩
   ·have e:i=S.len:=by lia
    subst e
    obtain⟨H4,th,k4,rh4⟩:=Z8W sit rh2 (ZjM (j1 _ σm2 M2 hj))
    exact .inl ⟨stops _ (Y0b _),H4,th,j3 σm2 M2 hj _ _ (k1.trans (k2.trans k4)) (rs2.mono k4) rh4⟩
 |.while_ d b,X,st,c,hf,h=>absurd h Y09
theorem sSs{G:GI}{Φ:List (Str×SpM)}:∀(is:ISs) {X:Cx} {sts:List Stmt},Cok X G Φ->(∀x,X.fn x=true)->chkSs G X.env.scope X.N is sts=true->PSs X sts (liSt X.K (wSs Φ is))
 |.nil,X,sts,c,hf,h=>by
   cases Zhc h
   refine pss_nil.weak λD σ H hw=>?_
   obtain⟨σm,M,rs,rh,hw⟩:=hw
   exact hw σ H (Kp.refl _) rs rh
 |.cons s r,X,sts,c,hf,h=>by
   obtain⟨x,xs,rfl,h1,h2⟩:=ZfD h
   refine(Ziq (sS s c hf h1) (sSs r c hf h2)).weak λD σ H hw=>?_
   obtain⟨σm,M,rs,rh,hw⟩:=hw
   refine⟨σm,M,rs,rh,?_⟩
   refine ZnS c.mon s ?_ hw
   refine⟨λσ' M' z σv H1 k1 rs' rh'=>?_,λv M' z=>z,λσ' M' z=>z,λσ' M' z=>z⟩
   exact⟨σ',M',rs',rh',mon_ss c.mon r (liD.on k1) z⟩
end
end L2
namespace L2
open PySem PySem.Spec PyProof.Rows
structure Fts (P:Program) (w:World) (K:Y02) (mg:Str->Option Value) (base:Heap) (k:Nat) (G:GI) (Φ:List (Str×SpM)):Prop where
 bls:∀x,G.bl.contains x=true->mg x=none
 gls:∀x i,G.gl.lookup x=some i->∃tk,mg x=some (.int i tk)
 fnn:∀(j:Nat) f,G.fns[j]?=some f->∃sp,Φ[j]?=some (f,sp)
 mon:∀(j:Nat) f sp,Φ[j]?=some (f,sp)->MonW sp
 fns:∀(j:Nat) f sp,G.fns[j]?=some f->Φ[j]?=some (f,sp)->∃fa fd ps,FnOk P w K mg base CX0 k fa fd ps (liSp K sp)/\mg f=some (.ref fa)/\Y0a K (.ref fa)=true/\Binds K fd ps []
 mts:∀(j:Nat) c m,G.mts.contains (j,c,m)=true->∃f sp,Φ[j]?=some (f,sp)/\∃C fa fd ps,FnOk P w K mg base CX0 k fa fd ps (liSp K sp)/\Y07 K mainGlobals c=some (some (.ref C))/\Cls K C/\Meth K C m fa/\Binds K fd ps []
 mks:∀(j:Nat) c,G.mks.contains (j,c)=true->∃f sp,Φ[j]?=some (f,sp)/\∃k' C fa fd ps,k'+1≤k/\FnOk P w K mg base CX0 k' fa fd ps (liSp K sp)/\Y07 K mainGlobals c=some (some (.ref C))/\mg c=some (.ref C)/\Mk K C fa/\Binds K fd ps []
 cls:∀c f,G.cls.contains (c,f)=true->∃C,Y07 K mainGlobals c=some (some (.ref C))/\Cls K C/\NoAttr K C f
def Zc7(n:Nat)(vs:List MV):Sm:=vs.map some++Y0l (n - vs.length) none
theorem Zig{K:Y02}{H:Hp}{N:List Str}{ms:List MV}{vs:List V}(r:RMs K H ms vs):RS K H (Zc7 N.length ms) (Zaa N vs):=by
 unfold Zc7 Zaa
 have hl:=r.length
 refine⟨by simp[hl],λi m e=>?_⟩
 by_cases hi:i<ms.length
 ·rw[Y0P (by simpa using hi),Y06]at e
  cases q:ms[i]? with
  |none=>rw[q]at e;cases e
  |some x=>
   rw[q]at e
   have ex:x=m:=Y0K (Y0K e)
   subst ex
   obtain⟨u,hu,ru⟩:=r.get q
   exact⟨u,by rw[Y0P (by simpa [<- hl]using hi),Y06,hu];rfl,ru⟩
 ·rw[Y0E (by simpa using hi),Y32]at e
  split at e<;>cases e
theorem Fun.okM{P:Program}{w:World}{K:Y02}{mg:Str->Option Value}{base:Heap}{G:GI}{Φ:List (Str×SpM)}{x qual:Str}{st:Stmt}{f:Addr}{fd:FuncData}{N ps:List Str}{k:Nat}{sp:SpM}
  (F:Fun K x qual st f fd) (S:FnScope N ps (Z00 st)) (T:Fts P w K mg base k G Φ) (ir:ISs) (hc:chkSs G (Z00 st) N ir (Z01 st)=true)
  (len:∀vs M Q,sp vs M Q->vs.length=ps.length) (h:∀vs M Q,sp vs M Q->wSs Φ ir {nx:=λ_ M'=>Q .non M',rt:=Q} (Zc7 N.length vs) M):FnOk P w K mg base CX0 (k+1) f fd ps (liSp K sp):=by
 refine F.ok S (λvs H Q E hs=>?_) λcdv A outer s H vs Q E hr hs=>?_
 ·obtain⟨ms,M,r,rh,q⟩:=hs
  rw[<- r.length];exact len _ _ _ q
 obtain⟨ms,M,r,rh,q⟩:=hs
 have c:Cok (cxOf CX0 P w K mg base N qual (Z00 st) f cdv A outer s H E).nox G Φ:=
  ⟨(by have:=hr.un;show(A.deeper _).units+70<cLine;lia),rfl,rfl,(by show(if(Z00 st).kind.isAnnotationScope then Y3R else(Z00 st).kind)=.function;rw[S.kind];rfl),S.nd,T.bls,T.gls,T.fnn,T.mon,
   (λj f sp hg hj=>let⟨fa,fd,ps,F,hm,hk,hb⟩:=T.fns j f sp hg hj;⟨k,fa,fd,ps,hr,F,hm,hk,hb⟩),
   (λj c m h=>let⟨f,sp,hj,C,fa,fd,ps,F,hC,cl,hm,hb⟩:=T.mts j c m h;⟨f,sp,hj,k,C,fa,fd,ps,hr,F,hC,cl,hm,hb⟩),
   (λj c h=>let⟨f,sp,hj,k',C,fa,fd,ps,hk,F,hC,hm,mk1,hb⟩:=T.mks j c h;⟨f,sp,hj,k',C,fa,fd,ps,hr.mono hk,F,hC,hm,mk1,hb⟩),T.cls⟩
 refine⟨_,sSs ir c (λ_=>rfl) hc,Zc7 N.length ms,M,Zig r,rh,?_⟩
 refine mon_ss T.mon ir ?_ (h ms M _ q)
 exact⟨λσ M' z σv H' k1 rs' rh'=>z _ _ k1 .non rh',λv M' z=>z,λ_ _ z=>z.elim,λ_ _ z=>z.elim⟩
theorem liSp.imp{K:Y02}{P:Program}{w:World}{mg:Str->Option Value}{base:Heap}{k:Nat}{f:Addr}{fd:FuncData}{ps:List Str}{sp sp':SpM}(F:FnOk P w K mg base CX0 k f fd ps (liSp K sp))(h:∀vs M Q,sp' vs M Q->sp vs M Q):FnOk P w K mg base CX0 k f fd ps (liSp K sp'):=
 F.imp λvs H Q E ⟨ms,M,r,rh,q⟩=>⟨ms,M,r,rh,h _ _ _ q⟩
def Zjz:SpM:=λvs M Q=>∃ns:List Int,vs=[.frl (ns.map .int)]/\ns.length≤63/\∀M',Q (.bl true) M'
def Zel(K:Y02):Sp:=λvs H Q _=>∃(a:Addr) (ns:List Int),vs=[.ref a]/\FrL K H a (ns.map V.int)/\ns.length≤63/\∀H',Q (.bl true) H'
theorem Zlq{K:Y02}{P:Program}{w:World}{mg:Str->Option Value}{base:Heap}{k:Nat}{f:Addr}{fd:FuncData}{ps:List Str}(F:FnOk P w K mg base CX0 k f fd ps (liSp K Zjz)):FnOk P w K mg base CX0 k f fd ps (Zel K):=
 F.imp λvs H Q E ⟨a,ns,e,hs,hl,q⟩=>by
  subst e
  refine⟨[.frl (ns.map .int)],λ_=>none,.cons (.frl hs (RMs.ints ns)) .nil,λ_ _ z=>(by cases z),ns,rfl,hl,λM'=>?_⟩
  intro v H' k r rh
  cases r
  exact q _
theorem Zol{K:Y02}{H:Hp}{a:Addr}{vs:List V}(o:Only H)(h:SqL K H a vs):FrL K H a vs:=by
 rcases h with(h|⟨ob,h⟩)|h
 ·rcases o a with z|⟨ob,xs,z⟩
  ·rw[h]at z;cases z
  ·rw[h]at z;cases z
 ·exact .inl ⟨ob,h⟩
 ·exact .inr h
end L2
namespace L2
open PySem PySem.Spec PyProof.Rows
theorem ZnV{P:Program}{w:World}{K:Y02}{mg:Str->Option Value}{base:Heap}{k:Nat}{G:GI}{Φ Ψ:List (Str×SpM)}(hb:∀x∈G.bl,mg x=none)(hg:∀p∈G.gl,∃tk,mg p.1=some (.int p.2 tk))(hf:Φ.map (·.1)=G.fns)
  (hm:∀p∈Φ++Ψ,MonW p.2) (hF:∀p∈Φ,∃fa fd ps,FnOk P w K mg base CX0 k fa fd ps (liSp K p.2)/\mg p.1=some (.ref fa)/\Y0a K (.ref fa)=true/\Binds K fd ps [])
  (ht:∀q∈G.mts,∃f sp,(Φ++Ψ)[q.1]?=some (f,sp)/\∃C fa fd ps,FnOk P w K mg base CX0 k fa fd ps (liSp K sp)/\Y07 K mainGlobals q.2.1=some (some (.ref C))/\Cls K C/\Meth K C q.2.2 fa/\Binds K fd ps [])
  (hk:∀q∈G.mks,∃f sp,(Φ++Ψ)[q.1]?=some (f,sp)/\∃k' C fa fd ps,k'+1≤k/\FnOk P w K mg base CX0 k' fa fd ps (liSp K sp)/\Y07 K mainGlobals q.2=some (some (.ref C))/\mg q.2=some (.ref C)/\Mk K C fa/\Binds K fd ps [])
  (hc:∀q∈G.cls,∃C,Y07 K mainGlobals q.1=some (some (.ref C))/\Cls K C/\NoAttr K C q.2):Fts P w K mg base k G (Φ++Ψ)where
 bls:=λx h=>hb x (by simpa using h)
 gls:=λx i h=>hg (x,i) (Y1w h)
 fnn:=λj f h=>by
  rw[<- hf,Y06]at h
  cases e:Φ[j]? with
  |none=>rw[e]at h;cases h
  |some p=>rw[e]at h;cases h;exact⟨p.2,by rw[Y0P (Y05.mp e).1,e]⟩
 mon:=λj f sp h=>hm (f,sp) (Y08 h)
 fns:=λj f sp hj h=>by
  rw[<- hf,Y06]at hj
  cases e:Φ[j]? with
  |none=>rw[e]at hj;cases hj
  |some p=>
   rw[Y0P (Y05.mp e).1,e]at h
   cases h
   exact hF (f,sp) (Y08 e)
 mts:=λj c m h=>ht (j,c,m) (by simpa using h)
 mks:=λj c h=>hk (j,c) (by simpa using h)
 cls:=λc f h=>hc (c,f) (by simpa using h)
theorem Z0G{P:Program}{w:World}{K:Y02}{mg:Str->Option Value}{base:Heap}{k:Nat}{G:GI}{Φ:List (Str×SpM)}(hb:∀x∈G.bl,mg x=none)(hg:∀p∈G.gl,∃tk,mg p.1=some (.int p.2 tk))(hf:Φ.map (·.1)=G.fns)
  (hm:∀p∈Φ,MonW p.2) (hF:∀p∈Φ,∃fa fd ps,FnOk P w K mg base CX0 k fa fd ps (liSp K p.2)/\mg p.1=some (.ref fa)/\Y0a K (.ref fa)=true/\Binds K fd ps []) (h1:G.mts=[]:=by rfl) (h2:G.mks=[]:=by rfl) (h3:G.cls=[]:=by rfl):Fts P w K mg base k G Φ:=by
 have:=ZnV (Ψ:=[]) hb hg hf (by rw[Y2i];exact hm) hF (by rw[h1];exact λ_ z=>nomatch z) (by rw[h2];exact λ_ z=>nomatch z) (by rw[h3];exact λ_ z=>nomatch z)
 rwa [Y2i]at this
theorem us0{p:List Value->Prop}(h:p [])(us:List Value)(hl:us.length=0):p us:=by cases us with|nil=>exact h|cons _ _=>cases hl
theorem us1{p:List Value->Prop}(h:∀a0,p [a0])(us:List Value)(hl:us.length=1):p us:=by cases us with|nil=>cases hl|cons a r=>exact us0 (p:=λr=>p (a::r)) (h a) r (Y2K hl)
theorem us2{p:List Value->Prop}(h:∀a0 a1,p [a0,a1])(us:List Value)(hl:us.length=2):p us:=by cases us with|nil=>cases hl|cons a r=>exact us1 (p:=λr=>p (a::r)) (h a) r (Y2K hl)
theorem us3{p:List Value->Prop}(h:∀a0 a1 a2,p [a0,a1,a2])(us:List Value)(hl:us.length=3):p us:=by cases us with|nil=>cases hl|cons a r=>exact us2 (p:=λr=>p (a::r)) (h a) r (Y2K hl)
theorem us4{p:List Value->Prop}(h:∀a0 a1 a2 a3,p [a0,a1,a2,a3])(us:List Value)(hl:us.length=4):p us:=by cases us with|nil=>cases hl|cons a r=>exact us3 (p:=λr=>p (a::r)) (h a) r (Y2K hl)
theorem us5{p:List Value->Prop}(h:∀a0 a1 a2 a3 a4,p [a0,a1,a2,a3,a4])(us:List Value)(hl:us.length=5):p us:=by cases us with|nil=>cases hl|cons a r=>exact us4 (p:=λr=>p (a::r)) (h a) r (Y2K hl)
end L2
namespace L2
open PySem PySem.Spec PyProof.Rows
section
variable{M:MH}{Q:QM}{i j:Int}{x y:MV}{a b:Addr}
@[seval]theorem ZpQ:wBin .Add (.int i) (.int j) M Q=Q (.int (i+j)) M:=rfl
@[seval]theorem Zpc:wBin .Sub (.int i) (.int j) M Q=Q (.int (i - j)) M:=rfl
@[seval]theorem ZpC:wBin .Mult (.int i) (.int j) M Q=(CMul i j/\Q (.int (i*j)) M):=rfl
@[seval]theorem Zne:wBin .FloorDiv (.int i) (.int j) M Q=(Zi6 i j/\Q (.int (i/j)) M):=rfl
@[seval]theorem ZpD:wBin .Mod (.int i) (.int j) M Q=(0<j/\Q (.int (i%j)) M):=rfl
@[seval]theorem Zpo:wBin .Pow (.int i) (.int j) M Q=(CPow i j/\Q (.int (i^j.toNat)) M):=rfl
@[seval]theorem Znj{x y:Str}:wBin .Add (.str x) (.str y) M Q=(x.length+y.length≤sizeLine/\Q (.str (x++y)) M):=rfl
@[seval]theorem ZmY{x:Str}:wBin .Mult (.str x) (.int i) M Q=(x.length≤16/\ -1000≤i/\i≤1000/\Q (.str (Txt.mul x i)) M):=rfl
@[seval]theorem Zni{xs ys:List MV}:wBin .Add (.tup xs) (.tup ys) M Q=(xs≠ []/\xs.length+ys.length≤sizeLine/\Q (.tup (xs++ys)) M):=rfl
@[seval]theorem ZmX{xs:List MV}:wBin .Mult (.tup xs) (.int i) M Q=(xs≠ []/\1≤i/\xs.length*i.toNat≤1000000/\Q (.tup (Y0l i.toNat xs).flatten) M):=rfl
@[seval]theorem ZmZ:wBin .Mult (.ref a) (.int i) M Q=∃xs,M a=some (.lst xs)/\ -(2^63)≤i/\i<2^63/\xs.length*i.toNat≤sizeLine/\∀p,M p=none->Q (.ref p) (updM M p (.lst (Y0l i.toNat xs).flatten)):=rfl
@[seval]theorem Znk:wBin .Add (.ref a) (.ref b) M Q=∃xs ys,M a=some (.lst xs)/\M b=some (.lst ys)/\xs.length+ys.length≤sizeLine/\∀p,M p=none->Q (.ref p) (updM M p (.lst (xs++ys))):=rfl
@[seval]theorem q_lt:wCmp .Lt (.int i) (.int j) M Q=Q (.bl (decide (i<j))) M:=propext ⟨fun⟨_,_,e,f,h⟩=>by cases e;cases f;exact h,λh=>⟨i,j,rfl,rfl,h⟩⟩
@[seval]theorem q_le:wCmp .LtE (.int i) (.int j) M Q=Q (.bl (decide (i≤j))) M:=propext ⟨λh=>Or.elim h (fun⟨_,_,e,f,h⟩=>by cases e;cases f;exact h) (fun⟨_,_,e,_⟩=>nomatch e),λh=>Or.inl ⟨i,j,rfl,rfl,h⟩⟩
@[seval]theorem ZpE{x y:Str}:wCmp .LtE (.str x) (.str y) M Q=Q (.bl (!decide (y.cps.toList<x.cps.toList))) M:=propext ⟨λh=>Or.elim h (fun⟨_,_,e,_⟩=>nomatch e) (fun⟨_,_,e,f,h⟩=>by cases e;cases f;exact h),λh=>Or.inr ⟨x,y,rfl,rfl,h⟩⟩
@[seval]theorem q_gt:wCmp .Gt (.int i) (.int j) M Q=Q (.bl (decide (j<i))) M:=propext ⟨fun⟨_,_,e,f,h⟩=>by cases e;cases f;exact h,λh=>⟨i,j,rfl,rfl,h⟩⟩
@[seval]theorem ZpM:wCmp .Eq (.int i) (.int j) M Q=Q (.bl (decide (i=j))) M:=rfl
@[seval]theorem Zpz:wCmp .NotEq (.int i) (.int j) M Q=Q (.bl (!decide (i=j))) M:=rfl
@[seval]theorem ZpK{x y:Str}:wCmp .Eq (.str x) (.str y) M Q=Q (.bl (decide (x=y))) M:=rfl
@[seval]theorem Zpx{x y:Str}:wCmp .NotEq (.str x) (.str y) M Q=Q (.bl (!decide (x=y))) M:=rfl
@[seval]theorem ZpN{x y:Bool}:wCmp .Eq (.bl x) (.bl y) M Q=Q (.bl (decide (x=y))) M:=rfl
@[seval]theorem ZpA{x y:Bool}:wCmp .NotEq (.bl x) (.bl y) M Q=Q (.bl (!decide (x=y))) M:=rfl
@[seval]theorem ZkL:wCmp .IsNot x .non M Q=Q (.bl (!Z8M x)) M:=propext ⟨λh=>Or.elim h (λh=>h.2) (fun⟨_,e,_⟩=>nomatch e),λh=>Or.inl ⟨rfl,h⟩⟩
@[seval]theorem ZpL{y:MV}:wCmp .Eq (.ref a) y M Q=wEq (.ref a) y M λb=>Q (.bl b) M:=rfl
@[seval]theorem Zpy{y:MV}:wCmp .NotEq (.ref a) y M Q=wEq (.ref a) y M λb=>Q (.bl (!b)) M:=rfl
@[seval]theorem ZpJ{xs:List MV}{y:MV}:wCmp .Eq (.tup xs) y M Q=wEq (.tup xs) y M λb=>Q (.bl b) M:=rfl
@[seval]theorem Zpw{xs:List MV}{y:MV}:wCmp .NotEq (.tup xs) y M Q=wEq (.tup xs) y M λb=>Q (.bl (!b)) M:=rfl
@[seval]theorem q_in:wCmp .In x y M Q=wIn x y M λb=>Q (.bl b) M:=rfl
@[seval]theorem Zpv:wCmp .NotIn x y M Q=wIn x y M λb=>Q (.bl (!b)) M:=rfl
theorem Zhx{xs:List MV}{k:Bool->Prop}(h:M a=some (.lst xs))(hb:M b=some (.lst []))(q:k xs.isEmpty):wEq (.ref a) (.ref b) M k:=.inr (.inl ⟨a,b,xs,rfl,rfl,h,hb,q⟩)
theorem ZeX{k:Bool->Prop}{m:Nat}(n:eqS x y=none)(h:Alike M m x y)(le:m≤60)(q:k true):wEq x y M k:=by
 unfold wEq;rw[n];exact .inl ⟨m,le,h,q⟩
theorem Alike.flat{x:MV}(n:Nat)(f:Z3X x=true):Alike M n x x:=by
 cases n<;>rw[Alike]
 ·exact⟨f,rfl⟩
 ·exact .inl ⟨f,rfl⟩
theorem Alike.tup{xs ys:List MV}{n:Nat}(e:xs.length=ys.length)(h:∀(i:Nat) u v,xs[i]?=some u->ys[i]?=some v->Alike M n u v):Alike M (n+1) (.tup xs) (.tup ys):=by
 rw[Alike];exact .inr (.inl ⟨xs,ys,rfl,rfl,e,h⟩)
theorem Alike.two{a b a' b':MV}{n:Nat}(h1:Alike M n a a')(h2:Alike M n b b'):Alike M (n+1) (.tup [a,b]) (.tup [a',b']):=by
 refine .tup rfl λi u v h h'=>?_
 match i with
 |0=>cases h;cases h';exact h1
 |1=>cases h;cases h';exact h2
 |i+2=>cases h
theorem Alike.lst{x y:MV}{xs ys:List MV}{n:Nat}(h1:LstM M x xs)(h2:LstM M y ys)(e:xs.length=ys.length)(h:∀(i:Nat) u v,xs[i]?=some u->ys[i]?=some v->Alike M n u v):Alike M (n+1) x y:=by
 rw[Alike];exact .inr (.inr (.inl ⟨xs,ys,h1,h2,e,h⟩))
theorem Alike.dic{a b:Addr}{ka kb:List (Key×MV)}{n:Nat}(h1:M a=some (.dic ka))(h2:M b=some (.dic kb))(e:ka.length=kb.length)(h:∀k u,(k,u)∈ka->∃v,valM kb k=some v/\Alike M n u v):Alike M (n+1) (.ref a) (.ref b):=by
 rw[Alike];exact .inr (.inr (.inr ⟨a,b,ka,kb,rfl,rfl,h1,h2,e,h⟩))
def ixO(o:Option MO)(y:MV)(M:MH)(Q:QM):Prop:=match o with
 |some (.lst xs)=>∃i v,y=.int i/\atI xs i=some v/\Q v M
 |some (.dic kvs)=>∃kk v,keyM y=some kk/\valM kvs kk=some v/\Q v M
 |some (.fdic _ kvs)=>∃kk v,keyM y=some kk/\valM kvs kk=some v/\Q v M
 |_=>False
@[seval]theorem Zn9:wIx (.ref a) y M Q=ixO (M a) y M Q:=propext ⟨λh=>by
  rcases h with⟨xs,i,v,e,r⟩|⟨kvs,kk,v,e,r⟩|⟨o,kvs,kk,v,e,r⟩
  ·rw[e];exact⟨i,v,r⟩
  ·rw[e];exact⟨kk,v,r⟩
  ·rw[e];exact⟨kk,v,r⟩,λh=>by
  cases e:M a with
  |none=>rw[e]at h;exact h.elim
  |some o=>
   rw[e]at h
   cases o with
   |lst xs=>obtain⟨i,v,r⟩:=h;exact .inl ⟨xs,i,v,e,r⟩
   |dic kvs=>obtain⟨kk,v,r⟩:=h;exact .inr (.inl ⟨kvs,kk,v,e,r⟩)
   |ins _ _=>exact h.elim
   |fdic o kvs=>obtain⟨kk,v,r⟩:=h;exact .inr (.inr ⟨o,kvs,kk,v,e,r⟩)⟩
@[seval]theorem ZjF{xs:List MV}:ixO (some (.lst xs)) (.int i) M Q=∃v,atI xs i=some v/\Q v M:=propext ⟨fun⟨_,v,e,h⟩=>by cases e;exact⟨v,h⟩,fun⟨v,h⟩=>⟨i,v,rfl,h⟩⟩
@[seval]theorem ZkJ{kvs:List (Key×MV)}{x:Str}:ixO (some (.dic kvs)) (.str x) M Q=∃v,valM kvs (Y0O x)=some v/\Q v M:=propext ⟨fun⟨_,v,e,h⟩=>by cases e;exact⟨v,h⟩,fun⟨v,h⟩=>⟨_,v,rfl,h⟩⟩
@[seval]theorem ZkI{o:Obj}{kvs:List (Key×MV)}{x:Str}:ixO (some (.fdic o kvs)) (.str x) M Q=∃v,valM kvs (Y0O x)=some v/\Q v M:=propext ⟨fun⟨_,v,e,h⟩=>by cases e;exact⟨v,h⟩,fun⟨v,h⟩=>⟨_,v,rfl,h⟩⟩
@[seval]theorem Zn8{xs:List MV}:wIx (.tup xs) (.int i) M Q=∃v,atI xs i=some v/\Q v M:=propext ⟨fun⟨_,v,e,h⟩=>by cases e;exact⟨v,h⟩,fun⟨v,h⟩=>⟨i,v,rfl,h⟩⟩
@[seval]theorem ZpG{xs:List MV}:wIx (.frl xs) (.int i) M Q=∃v,atI xs i=some v/\Q v M:=propext ⟨fun⟨_,v,e,h⟩=>by cases e;exact⟨v,h⟩,fun⟨v,h⟩=>⟨i,v,rfl,h⟩⟩
@[seval]theorem ZpF{z:Str}:wIx (.str z) (.int i) M Q=(z.length≤sizeLine/\∃c,atI z.cps.toList i=some c/\Q (.str ⟨#[c]⟩) M):=propext ⟨fun⟨_,c,e,h1,h2⟩=>by cases e;exact⟨h1,c,h2⟩,fun⟨h1,c,h2⟩=>⟨i,c,rfl,h1,h2⟩⟩
def slO(o:Option MO)(lo hi:Option Int)(M:MH)(Q:QM):Prop:=match o with
 |some (.lst xs)=>∀p,M p=none->Q (.ref p) (updM M p (.lst (cutM xs lo hi)))
 |_=>False
@[seval]theorem ZmQ{lo hi:Option Int}{xs:List MV}:slO (some (.lst xs)) lo hi M Q=∀p,M p=none->Q (.ref p) (updM M p (.lst (cutM xs lo hi))):=rfl
@[seval]theorem Zpi{lo hi:Option Int}{xs:List MV}:wSl (.frl xs) lo hi M Q=∀p,M p=none->Q (.ref p) (updM M p (.lst (cutM xs lo hi))):=rfl
@[seval]theorem Zph{lo hi:Option Int}{z:Str}:wSl (.str z) lo hi M Q=(z.length≤sizeLine/\Q (.str (cutS z lo hi)) M):=rfl
@[seval]theorem Zpg{lo hi:Option Int}{xs:List MV}:wSl (.tup xs) lo hi M Q=(¬(HT.sIx xs.length 0 lo=0/\HT.sIx xs.length xs.length hi=xs.length)/\Q (.tup (cutM xs lo hi)) M):=rfl
@[seval]theorem Zn4{xs:List MV}:wBi .len [.tup xs] M Q=Q (.int xs.length) M:=rfl
@[seval]theorem Zn7{xs:List MV}:wBi .len [.frl xs] M Q=Q (.int xs.length) M:=rfl
@[seval]theorem Zn5{z:Str}:wBi .len [.str z] M Q=(z.length≤sizeLine/\Q (.int z.length) M):=rfl
def lenO(o:Option MO)(M:MH)(Q:QM):Prop:=match o with
 |some (.lst xs)=>Q (.int xs.length) M
 |some (.dic kvs)=>Q (.int kvs.length) M
 |_=>False
@[seval]theorem Zn6:wBi .len [.ref a] M Q=lenO (M a) M Q:=propext ⟨λh=>by
  rcases h with⟨xs,e,h⟩|⟨kvs,e,h⟩<;>(rw[e];exact h),λh=>by
  cases e:M a with
  |none=>rw[e]at h;exact h.elim
  |some o=>
   rw[e]at h
   cases o with
   |lst xs=>exact .inl ⟨xs,e,h⟩
   |dic kvs=>exact .inr ⟨kvs,e,h⟩
   |ins _ _=>exact h.elim
   |fdic _ _=>exact h.elim⟩
@[seval]theorem ZkG{xs:List MV}:lenO (some (.lst xs)) M Q=Q (.int xs.length) M:=rfl
@[seval]theorem ZkH{kvs:List (Key×MV)}:lenO (some (.dic kvs)) M Q=Q (.int kvs.length) M:=rfl
def isO(o:Option Ty7)(c:Ty7)(M:MH)(Q:QM):Prop:=match o with
 |some T=>c≠.none/\Q (.bl (isTy T c)) M
 |none=>False
@[seval]theorem ZpH{c:Ty7}:wBi .isinst [x,.ty c] M Q=isO (tyM M x) c M Q:=propext (by
 have e:wBi .isinst [x,.ty c] M Q=∃T,tyM M x=some T/\c≠.none/\Q (.bl (isTy T c)) M:=by cases x<;>rfl
 rw[e]
 exact⟨fun⟨T,e,h⟩=>by rw[e];exact h,λh=>by
  cases e:tyM M x with
  |none=>rw[e]at h;exact h.elim
  |some T=>rw[e]at h;exact⟨T,rfl,h⟩⟩)
def isO2(o:Option Ty7)(c d:Ty7)(M:MH)(Q:QM):Prop:=match o with
 |some T=>c≠.none/\d≠.none/\Q (.bl (isTy T c||isTy T d)) M
 |none=>False
@[seval]theorem Znb{c d:Ty7}:wBi .isinst [x,.tup [.ty c,.ty d]] M Q=isO2 (tyM M x) c d M Q:=propext (by
 have e:wBi .isinst [x,.tup [.ty c,.ty d]] M Q=∃T,tyM M x=some T/\c≠.none/\d≠.none/\Q (.bl (isTy T c||isTy T d)) M:=by cases x<;>rfl
 rw[e]
 exact⟨fun⟨T,e,h⟩=>by rw[e];exact h,λh=>by
  cases e:tyM M x with
  |none=>rw[e]at h;exact h.elim
  |some T=>rw[e]at h;exact⟨T,rfl,h⟩⟩)
@[seval]theorem ZkK{T c d:Ty7}:isO2 (some T) c d M Q=(c≠.none/\d≠.none/\Q (.bl (isTy T c||isTy T d)) M):=rfl
@[seval]theorem Zna{T c:Ty7}:isO (some T) c M Q=(c≠.none/\Q (.bl (isTy T c)) M):=rfl
@[seval]theorem Zp1:tyM M (.int i)=some .int:=rfl
@[seval]theorem Zp2{k:Bool}:tyM M (.bl k)=some .bool:=rfl
@[seval]theorem ZoY{k:Str}:tyM M (.str k)=some .str:=rfl
@[seval]theorem Zp0:tyM M .non=some .none:=rfl
@[seval]theorem ZoX{xs:List MV}:tyM M (.tup xs)=some .tuple:=rfl
def tyO:Option MO->Option Ty7
 |some (.lst _)=>some .list
 |some (.dic _)=>some .dict
 |_=>none
@[seval]theorem ZoZ:tyM M (.ref a)=tyO (M a):=by
 cases e:M a with
 |none=>simp[tyM,tyO,e]
 |some o=>cases o<;>simp[tyM,tyO,e]
@[seval]theorem ZmK{xs:List MV}:tyO (some (.lst xs))=some .list:=rfl
@[seval]theorem ZmL{kvs:List (Key×MV)}:tyO (some (.dic kvs))=some .dict:=rfl
@[seval]theorem Zn3:wBi .max [.ref a] M Q=∃ns:List Int,M a=some (.lst (ns.map MV.int))/\0<ns.length/\∀m,m∈ns->(∀x∈ns,x≤m)->Q (.int m) M:=rfl
@[seval]theorem Zn1:wBi .min [.ref a] M Q=∃ns:List Int,M a=some (.lst (ns.map MV.int))/\0<ns.length/\∀m,m∈ns->(∀x∈ns,m≤x)->Q (.int m) M:=rfl
@[seval]theorem ZpP:wBi .all [.ref a] M Q=∃bs:List Bool,M a=some (.lst (bs.map MV.bl))/\Q (.bl (bs.all id)) M:=rfl
@[seval]theorem ZkN:wBi .dictL [.ref a] M Q=∃ps:List (Key×MV),M a=some (.lst (ps.map prM))/\∀p,M p=none->Q (.ref p) (updM M p (.dic (Z2K ps))):=rfl
@[seval]theorem ZkD{xs:List MV}:wBi .list [.tup xs] M Q=∀p,M p=none->Q (.ref p) (updM M p (.lst xs)):=rfl
@[seval]theorem ZkF{xs:List MV}:wBi .list [.frl xs] M Q=∀p,M p=none->Q (.ref p) (updM M p (.lst xs)):=rfl
@[seval]theorem ZkE:wBi .list [.ref a] M Q=∃xs,M a=some (.lst xs)/\∀p,M p=none->Q (.ref p) (updM M p (.lst xs)):=rfl
@[seval]theorem ZmM{xs:List MV}:wBi .tuple [.tup xs] M Q=Q (.tup xs) M:=rfl
@[seval]theorem ZmN:wBi .tuple [.ref a] M Q=∃xs,M a=some (.lst xs)/\Q (.tup xs) M:=rfl
@[seval]theorem ZkM{xs:List MV}:wBi .dict [.tup xs] M Q=∃ps:List (Key×MV),xs=ps.map prM/\∀p,M p=none->Q (.ref p) (updM M p (.dic (Z2K ps))):=rfl
@[seval]theorem Znf:wBi .dict [.ref a] M Q=∃kvs,M a=some (.dic kvs)/\∀p,M p=none->Q (.ref p) (updM M p (.dic kvs)):=rfl
def apO(o:Option MO)(a:Addr)(y:MV)(M:MH)(Q:QM):Prop:=match o with
 |some (.lst xs)=>xs.length<sizeLine/\Q .non (updM M a (.lst (xs++[y])))
 |_=>False
@[seval]theorem ZpO:wMts .append (.ref a) [y] M Q=apO (M a) a y M Q:=propext ⟨fun⟨xs,e,h⟩=>by rw[e];exact h,λh=>by
  cases e:M a with
  |none=>rw[e]at h;exact h.elim
  |some o=>
   rw[e]at h
   cases o with
   |lst xs=>exact⟨xs,e,h⟩
   |dic kvs=>exact h.elim
   |ins _ _=>exact h.elim
   |fdic _ _=>exact h.elim⟩
@[seval]theorem Znh{xs:List MV}:apO (some (.lst xs)) a y M Q=(xs.length<sizeLine/\Q .non (updM M a (.lst (xs++[y])))):=rfl
@[seval]theorem ZpI:wMts .extend (.ref a) [.ref b] M Q=∃xs,M a=some (.lst xs)/\∃ys,M b=some (.lst ys)/\xs.length+ys.length≤sizeLine/\Q .non (updM M a (.lst (xs++ys))):=rfl
@[seval]theorem ZmV:mtOk .append x M=(∃a xs,x=.ref a/\M a=some (.lst xs)):=rfl
@[seval]theorem ZmU:mtOk .extend x M=(∃a xs,x=.ref a/\M a=some (.lst xs)):=rfl
@[seval]theorem ZmT:mtOk .remove x M=(∃a xs,x=.ref a/\M a=some (.lst xs)):=rfl
@[seval]theorem Zpm{z:Str}:wMts .remove (.ref a) [.str z] M Q=∃xs,M a=some (.lst xs)/\∃zs:List Str,xs=zs.map MV.str/\z∈zs/\Q .non (updM M a (.lst ((zs.erase z).map MV.str))):=rfl
@[seval]theorem ZmW:mtOk .dclear (.ref a) M=(∃kvs,M a=some (.dic kvs)):=propext ⟨fun⟨_,kvs,e,h⟩=>by cases e;exact⟨kvs,h⟩,fun⟨kvs,h⟩=>⟨a,kvs,rfl,h⟩⟩
@[seval]theorem Zng:wMts .dclear (.ref a) [] M Q=(∃kvs,M a=some (.dic kvs)/\Q .non (updM M a (.dic []))):=propext ⟨fun⟨_,kvs,e,h,_,q⟩=>by cases e;exact⟨kvs,h,q⟩,fun⟨kvs,h,q⟩=>⟨a,kvs,rfl,h,rfl,q⟩⟩
@[seval]theorem Znl{xs:List MV}:wBin .Add (.frl xs) (.ref b) M Q=(∃ys,M b=some (.lst ys)/\xs.length+ys.length≤sizeLine/\∀p,M p=none->Q (.ref p) (updM M p (.lst (xs++ys)))):=rfl
def puO(o:Option MO)(a:Addr)(i v:MV)(M:MH)(Q:MH->Prop):Prop:=match o with
 |some (.lst xs)=>∃k j,i=.int k/\ixN xs.length k=some j/\Q (updM M a (.lst (xs.set j v)))
 |some (.dic kvs)=>∃kk,keyM i=some kk/\kvs.length<sizeLine/\Q (updM M a (.dic (putM kvs kk v)))
 |_=>False
@[seval]theorem Zpn{v:MV}{R:MH->Prop}:wPut (.ref a) x v M R=puO (M a) a x v M R:=propext ⟨λh=>by
  rcases h with⟨xs,k,j,e,r⟩|⟨kvs,kk,e,r⟩
  ·rw[e];exact⟨k,j,r⟩
  ·rw[e];exact⟨kk,r⟩,λh=>by
  cases e:M a with
  |none=>rw[e]at h;exact h.elim
  |some o=>
   rw[e]at h
   cases o with
   |lst xs=>obtain⟨k,j,r⟩:=h;exact .inl ⟨xs,k,j,e,r⟩
   |dic kvs=>obtain⟨kk,r⟩:=h;exact .inr ⟨kvs,kk,e,r⟩
   |ins _ _=>exact h.elim
   |fdic _ _=>exact h.elim⟩
@[seval]theorem ZkC{kvs:List (Key×MV)}{z:Str}{v:MV}{R:MH->Prop}:puO (some (.dic kvs)) a (.str z) v M R=(kvs.length<sizeLine/\R (updM M a (.dic (putM kvs (Y0O z) v)))):=propext ⟨fun⟨_,e,h⟩=>by cases e;exact h,λh=>⟨_,rfl,h⟩⟩
def srO(o:Option MO)(a:Addr)(M:MH)(Q:Src->MH->Prop):Prop:=match o with
 |some (.lst xs)=>Q (.lst a xs) M
 |some (.dic kvs)=>∀o,Q (.dic a o kvs) (updM M a (.fdic o kvs))
 |_=>False
def srV(v:MV)(M:MH)(Q:Src->MH->Prop):Prop:=(∃xs,(v=.tup xs\/v=.frl xs)/\Q (.tup xs) M)\/(∃a xs,v=.ref a/\M a=some (.lst xs)/\Q (.lst a xs) M)\/(∃a kvs,v=.ref a/\M a=some (.dic kvs)/\∀o,Q (.dic a o kvs) (updM M a (.fdic o kvs)))\/∃z,v=.str z/\Q (.str z) M
@[seval]theorem Zpj{Φ:List (Str×SpM)}{e:IE}{σ:Sm}{R:Src->MH->Prop}:wSr Φ (.seq e) σ M R=wE Φ e σ M λv M1=>srV v M1 R:=rfl
@[seval]theorem Zpf{R:Src->MH->Prop}:srV (.ref a) M R=srO (M a) a M R:=propext ⟨λh=>by
  rcases h with⟨xs,e,h⟩|⟨b,xs,e,f,h⟩|⟨b,xs,e,f,h⟩|⟨z,e,_⟩
  ·rcases e with e|e<;>cases e
  ·cases e;rw[f];exact h
  ·cases e;rw[f];exact h
  ·exact(nomatch e),λh=>by
  cases e:M a with
  |none=>rw[e]at h;exact h.elim
  |some o=>
   rw[e]at h
   cases o with
   |lst xs=>exact .inr (.inl ⟨a,xs,rfl,e,h⟩)
   |dic kvs=>exact .inr (.inr (.inl ⟨a,kvs,rfl,e,h⟩))
   |ins _ _=>exact h.elim
   |fdic _ _=>exact h.elim⟩
@[seval]theorem ZmP{kvs:List (Key×MV)}{R:Src->MH->Prop}:srO (some (.dic kvs)) a M R=∀o,R (.dic a o kvs) (updM M a (.fdic o kvs)):=rfl
@[seval]theorem Zpe{z:Str}{R:Src->MH->Prop}:srV (.str z) M R=R (.str z) M:=propext ⟨λh=>by
  rcases h with⟨xs,e,h⟩|⟨_,_,e,_⟩|⟨_,_,e,_⟩|⟨_,e,h⟩
  ·rcases e with e|e<;>exact(nomatch e)
  ·exact(nomatch e)
  ·exact(nomatch e)
  ·cases e;exact h,λh=>.inr (.inr (.inr ⟨z,rfl,h⟩))⟩
@[seval]theorem Zp4{x:Str}:Src.thaw M (.str x)=M:=rfl
@[seval]theorem Zpq{x:Str}:Src.okT M (.str x)=True:=rfl
@[seval]theorem Zp8{xs:List MV}:Src.thaw M (.tup xs)=M:=rfl
@[seval]theorem Zp7{xs:List MV}:Src.thaw M (.lst a xs)=M:=rfl
@[seval]theorem Zp6{n:Nat}:Src.thaw M (.rng i n)=M:=rfl
@[seval]theorem Zp5{o:Obj}{kvs:List (Key×MV)}:Src.thaw M (.dic a o kvs)=updM M a (.dic kvs):=rfl
@[seval]theorem Zpu{xs:List MV}:Src.okT M (.tup xs)=True:=rfl
@[seval]theorem Zpt{xs:List MV}:Src.okT M (.lst a xs)=True:=rfl
@[seval]theorem Zps{n:Nat}:Src.okT M (.rng i n)=True:=rfl
@[seval]theorem Zpr{o:Obj}{kvs:List (Key×MV)}:Src.okT M (.dic a o kvs)=(M a=some (.fdic o kvs)):=rfl
@[seval]theorem ZmO{xs:List MV}{R:Src->MH->Prop}:srO (some (.lst xs)) a M R=R (.lst a xs) M:=rfl
@[seval]theorem Zpd{zs:List MV}{R:Src->MH->Prop}:srV (.tup zs) M R=R (.tup zs) M:=propext ⟨λh=>by
  rcases h with⟨xs,e,h⟩|h
  ·rcases e with e|e
   ·cases e;exact h
   ·exact nomatch e
  ·rcases h with⟨_,_,e,_⟩|⟨_,_,e,_⟩|⟨_,e,_⟩<;>exact(nomatch e),λh=>.inl ⟨zs,.inl rfl,h⟩⟩
def rgV(v:MV)(M:MH)(Q:Src->MH->Prop):Prop:=∃j,v=.int j/\ -(2^62)≤j/\j<2^62/\Q (.rng 0 j.toNat) M
@[seval]theorem Zpk{Φ:List (Str×SpM)}{e:IE}{σ:Sm}{R:Src->MH->Prop}:wSr Φ (.rng e) σ M R=wE Φ e σ M λv M1=>rgV v M1 R:=rfl
@[seval]theorem Zpl{R:Src->MH->Prop}:rgV (.int i) M R=(-(2^62)≤i/\i<2^62/\R (.rng 0 i.toNat) M):=propext ⟨fun⟨_,e,h⟩=>by cases e;exact h,λh=>⟨i,rfl,h⟩⟩
def rgV2(x y:MV)(M:MH)(Q:Src->MH->Prop):Prop:=∃i j,x=.int i/\y=.int j/\(-(2^62)≤i/\i<2^62/\ -(2^62)≤j/\j<2^62)/\Q (.rng i (j - i).toNat) M
@[seval]theorem ZmR{Φ:List (Str×SpM)}{e f g:IE}{σ:Sm}{R:Src->MH->Prop}:wSr Φ (.rng3 e f g) σ M R=wE Φ e σ M λx M1=>wE Φ f σ M1 λy M2=>wE Φ g σ M2 λz M3=>∃i j,x=.int i/\y=.int j/\z=.int 2/\(0≤i/\i<2^60/\0≤j/\j<2^60)/\R (.rst i 2 (len2 i j)) M3:=rfl
@[seval]theorem Zp3{n:Nat}{st:Int}:Src.thaw M (.rst i st n)=M:=rfl
@[seval]theorem Zpp{n:Nat}{st:Int}:Src.okT M (.rst i st n)=True:=rfl
@[seval]theorem ZmS{Φ:List (Str×SpM)}{e f:IE}{σ:Sm}{R:Src->MH->Prop}:wSr Φ (.rng2 e f) σ M R=wE Φ e σ M λx M1=>wE Φ f σ M1 λy M2=>rgV2 x y M2 R:=rfl
@[seval]theorem Zn2:wBi .max [.int i,.int j] M Q=Q (.int (if j>i then j else i)) M:=rfl
@[seval]theorem Zn0:wBi .min [.int i,.int j] M Q=Q (.int (if j<i then j else i)) M:=rfl
@[seval]theorem Znc:wBi .int [.int i] M Q=Q (.int i) M:=rfl
@[seval]theorem Znd{k:Bool}:wBi .int [.bl k] M Q=Q (.int (if k then 1 else 0)) M:=rfl
end
@[seval]theorem v_s{v:MV}{k:MV->Prop}:onV (some (some v)) k=k v:=rfl
@[seval]theorem b_0{b:Bool}{k:Bool->Prop}:onB (.bl b) k=k b:=rfl
@[seval]theorem f_s{f:Str}{sp:SpM}{k:SpM->Prop}:onF (some (f,sp)) k=k sp:=rfl
@[seval]theorem Zqb{Φ:List (Str×SpM)}{σ:Sm}{M:MH}{Q:QM}{i:Nat}:wE Φ (.var i) σ M Q=onV σ[i]? (λv=>Q v M):=rfl
@[seval]theorem Zqj{Φ:List (Str×SpM)}{σ:Sm}{M:MH}{Q:QM}{i:Int}:wE Φ (.int i) σ M Q=(Q (.int i) M):=rfl
@[seval]theorem Zqd{Φ:List (Str×SpM)}{σ:Sm}{M:MH}{Q:QM}{x:Str}:wE Φ (.str x) σ M Q=(Q (.str x) M):=rfl
@[seval]theorem e_bl{Φ:List (Str×SpM)}{σ:Sm}{M:MH}{Q:QM}{b:Bool}:wE Φ (.bl b) σ M Q=(Q (.bl b) M):=rfl
@[seval]theorem Zqf{Φ:List (Str×SpM)}{σ:Sm}{M:MH}{Q:QM}:wE Φ (.non) σ M Q=(Q .non M):=rfl
@[seval]theorem Zql{Φ:List (Str×SpM)}{σ:Sm}{M:MH}{Q:QM}{x:Str}{i:Int}:wE Φ (.glb x i) σ M Q=(Q (.int i) M):=rfl
@[seval]theorem e_ty{Φ:List (Str×SpM)}{σ:Sm}{M:MH}{Q:QM}{c:Ty7}:wE Φ (.ty c) σ M Q=(Q (.ty c) M):=rfl
@[seval]theorem Zqq{Φ:List (Str×SpM)}{σ:Sm}{M:MH}{Q:QM}{op:Operator}{a b:IE}:wE Φ (.bin op a b) σ M Q=(wE Φ a σ M λx M1=>wE Φ b σ M1 λy M2=>wBin op x y M2 Q):=rfl
@[seval]theorem Zqg{Φ:List (Str×SpM)}{σ:Sm}{M:MH}{Q:QM}{a:IE}:wE Φ (.neg a) σ M Q=(wE Φ a σ M λx M1=>∃i,x=.int i/\Q (.int (-i)) M1):=rfl
@[seval]theorem Zqe{Φ:List (Str×SpM)}{σ:Sm}{M:MH}{Q:QM}{a:IE}:wE Φ (.not a) σ M Q=(wE Φ a σ M λx M1=>onB x λb=>Q (.bl (!b)) M1):=rfl
@[seval]theorem Zqo{Φ:List (Str×SpM)}{σ:Sm}{M:MH}{Q:QM}{op:CmpOp}{a b:IE}:wE Φ (.cmp op a b) σ M Q=(wE Φ a σ M λx M1=>wE Φ b σ M1 λy M2=>wCmp op x y M2 Q):=rfl
@[seval]theorem Zqp{Φ:List (Str×SpM)}{σ:Sm}{M:MH}{Q:QM}{op op':CmpOp}{a b c:IE}:wE Φ (.chn op op' a b c) σ M Q=(wE Φ a σ M λx M1=>wE Φ b σ M1 λy M2=>wCmp op x y M2 λz M3=>onB z λk=>(if k=true then wE Φ c σ M3 λw M4=>wCmp op' y w M4 Q else Q (.bl false) M3)):=rfl
@[seval]theorem Zqr{Φ:List (Str×SpM)}{σ:Sm}{M:MH}{Q:QM}{a b:IE}:wE Φ (.and a b) σ M Q=(wE Φ a σ M λx M1=>onB x λc=>(if c=true then wE Φ b σ M1 Q else Q (.bl false) M1)):=rfl
@[seval]theorem e_or{Φ:List (Str×SpM)}{σ:Sm}{M:MH}{Q:QM}{a b:IE}:wE Φ (.or a b) σ M Q=(wE Φ a σ M λx M1=>onB x λc=>(if c=true then Q (.bl true) M1 else wE Φ b σ M1 Q)):=rfl
@[seval]theorem Zqk{Φ:List (Str×SpM)}{σ:Sm}{M:MH}{Q:QM}{a b c:IE}:wE Φ (.ife c a b) σ M Q=(wE Φ c σ M λx M1=>onB x λk=>(if k=true then wE Φ a σ M1 Q else wE Φ b σ M1 Q)):=rfl
@[seval]theorem Zqc{Φ:List (Str×SpM)}{σ:Sm}{M:MH}{Q:QM}{es:IEs}:wE Φ (.tup es) σ M Q=(wEs Φ es σ M λvs M1=>vs.length≤sizeLine/\Q (.tup vs) M1):=rfl
@[seval]theorem Zqi{Φ:List (Str×SpM)}{σ:Sm}{M:MH}{Q:QM}{es:IEs}:wE Φ (.lst es) σ M Q=(wEs Φ es σ M λvs M1=>vs.length≤sizeLine/\∀p,M1 p=none->Q (.ref p) (updM M1 p (.lst vs))):=rfl
@[seval]theorem Zqn{Φ:List (Str×SpM)}{σ:Sm}{M:MH}{Q:QM}:wE Φ (.dic) σ M Q=(∀p,M p=none->Q (.ref p) (updM M p (.dic []))):=rfl
@[seval]theorem e_ix{Φ:List (Str×SpM)}{σ:Sm}{M:MH}{Q:QM}{a b:IE}:wE Φ (.ix a b) σ M Q=(wE Φ a σ M λx M1=>wE Φ b σ M1 λy M2=>wIx x y M2 Q):=rfl
@[seval]theorem e_sl{Φ:List (Str×SpM)}{σ:Sm}{M:MH}{Q:QM}{a:IE}{lo hi:IO}:wE Φ (.sl a lo hi) σ M Q=(wE Φ a σ M λx M1=>wO Φ lo σ M1 λl M2=>wO Φ hi σ M2 λh M3=>wSl x l h M3 Q):=rfl
@[seval]theorem Zop{Φ:List (Str×SpM)}{σ:Sm}{M:MH}{Q:QM}{j:Nat}{e:IE}{es:IEs}:wE Φ (.call j e es) σ M Q=(wE Φ e σ M λv M1=>wEs Φ es σ M1 λvs M2=>onF Φ[j]? λsp=>sp (v::vs) M2 Q):=rfl
@[seval]theorem e_b2{Φ:List (Str×SpM)}{σ:Sm}{M:MH}{Q:QM}{f:B2}{e:IE}:wE Φ (.b2 f e) σ M Q=(wE Φ e σ M λv M1=>wB2 f v M1 Q):=rfl
@[seval]theorem Zqh{Φ:List (Str×SpM)}{σ:Sm}{M:MH}{Q:QM}{e:IE}:wE Φ (.mxd e) σ M Q=(wE Φ e σ M λv M1=>wMxd v M1 Q):=rfl
@[seval]theorem ZpB{a:Addr}{M:MH}{Q:QM}:wMxd (.ref a) M Q=(∃ns:List Int,M a=some (.lst (ns.map MV.int))/\∀m,(ns=[]/\m=0\/m∈ns/\∀i∈ns,i≤m)->Q (.int m) M):=propext ⟨fun⟨_,ns,e,h⟩=>by cases e;exact⟨ns,h⟩,fun⟨ns,h⟩=>⟨a,ns,rfl,h⟩⟩
@[seval]theorem e_bi{Φ:List (Str×SpM)}{σ:Sm}{M:MH}{Q:QM}{f:BI}{e:IE}{es:IEs}:wE Φ (.bi f e es) σ M Q=(wE Φ e σ M λv M1=>wEs Φ es σ M1 λvs M2=>wBi f (v::vs) M2 Q):=rfl
@[seval]theorem e_mt{Φ:List (Str×SpM)}{σ:Sm}{M:MH}{Q:QM}{m:MT}{o:IE}{es:IEs}:wE Φ (.mt m o es) σ M Q=(wE Φ o σ M λx M1=>mtOk m x M1/\wEs Φ es σ M1 λvs M2=>wMts m x vs M2 Q):=rfl
@[seval]theorem Zqm{Φ:List (Str×SpM)}{σ:Sm}{M:MH}{Q:QM}{c f:Str}{o:IE}:wE Φ (.fld c o f) σ M Q=(wE Φ o σ M λx M1=>∃a fs v,x=.ref a/\M1 a=some (.ins c fs)/\valM fs f=some v/\Q v M1):=rfl
@[seval]theorem ZlS{Φ:List (Str×SpM)}{σ:Sm}{M:MH}{Q:QM}{j:Nat}{c m:Str}{o:IE}{es:IEs}:wE Φ (.mcall j c m o es) σ M Q=(wE Φ o σ M λx M1=>∃a fs,x=.ref a/\M1 a=some (.ins c fs)/\valM fs m=none/\wEs Φ es σ M1 λvs M2=>∃f sp,Φ[j]?=some (f,sp)/\sp (.ref a::vs) M2 Q):=rfl
@[seval]theorem Zon{Φ:List (Str×SpM)}{σ:Sm}{M:MH}{Q:QM}{j:Nat}{c:Str}{e:IE}{es:IEs}:wE Φ (.make j c e es) σ M Q=(wE Φ e σ M λv M1=>wEs Φ es σ M1 λvs M2=>∃f sp,Φ[j]?=some (f,sp)/\∀p,M2 p=none->sp (.ref p::v::vs) (updM M2 p (.ins c [])) λu M3=>u=.non/\Q (.ref p) M3):=rfl
@[seval]theorem Zoo{Φ:List (Str×SpM)}{σ:Sm}{M:MH}{Q:QM}{ps:IPs}:wE Φ (.disp ps) σ M Q=(∀p,M p=none->wPs Φ ps σ (updM M p (.dic [])) λl M2=>M2 p=some (.dic [])/\l.length≤15/\Q (.ref p) (updM M2 p (.dic (Z2K l)))):=rfl
theorem ZcJ{Φ:List (Str×SpM)}{σ:Sm}{M:MH}{Q:QM}{own:List Str}{fr:List Nat}{src:ISr}{tg:ITg}{test:IO}{elt:IE}:wE Φ (.comp own fr src tg test elt) σ M Q=(wSr Φ src σ M λS M1=>S.len<sizeLine/\∀D,M1 D=none->∃J:Nat->List MV->MH->Prop,J 0 [] (updM M1 D (.lst []))/\
   (∀i ys M2,J i ys M2->M2 D=some (.lst ys)/\ys.length≤i/\S.ok M2)/\
   (∀i x ys M2,S.items[i]?=some x->J i ys M2->wTg tg x (sCm own fr σ) λσ2=>wI Φ test σ2 M2 λb M4=>
    if b=true then wE Φ elt σ2 M4 λy M5=>M5 D=some (.lst ys)/\J (i+1) (ys++[y]) (updM M5 D (.lst (ys++[y])))else J (i+1) ys M4)/\
   ∀ys M2,J S.len ys M2->Q (.ref D) (S.thaw M2)):=rfl
theorem Zei{M M':MH}{S:Src}(h:S.okF M):S.thaw M'=M':=by
 cases S<;>first|rfl|exact h.elim
theorem Z1E{Φ:List (Str×SpM)}{own:List Str}{fr:List Nat}{src:ISr}{tg:ITg}{elt:IE}{σ:Sm}{M:MH}{Q:QM}{α:Type}(xs:List α)(f g:α->MV)
  (hs:wSr Φ src σ M λS M1=>S.items=xs.map f/\xs.length<sizeLine/\S.okF M1/\M1=M)
  (ht:∀x∈xs,∀M',(∀a o,M a=some o->M' a=some o)->wTg tg (f x) (sCm own fr σ) λσ2=>wE Φ elt σ2 M' λy M2=>y=g x/\M2=M')
  (hΦ:∀(j:Nat) f sp,Φ[j]?=some (f,sp)->MonW sp) (q:∀D,M D=none->Q (.ref D) (updM M D (.lst (xs.map g)))):wE Φ (.comp own fr src tg .none elt) σ M Q:=by
 rw[ZcJ]
 refine mon_sr hΦ src (λS M1 ⟨h1,h2,h3,h4⟩=>?_) hs
 subst h4
 have hl:S.len=xs.length:=by rw[<- S.items_len,h1,Y01]
 refine⟨by rw[hl];exact h2,λD hD=>⟨λi ys M2=>M2=updM M1 D (.lst ys)/\ys=(xs.take i).map g,⟨rfl,by simp⟩,?_,?_,?_⟩⟩
 ·rintro i ys M2 ⟨rfl,rfl⟩
  refine⟨Z02,by rw[Y01,Y0J];lia,?_⟩
  cases S with
  |tup _=>trivial
  |rng _ _=>trivial
  |rst _ _ _=>trivial
  |dic _ _ _=>exact h3.elim
  |str _=>trivial
  |lst a zs=>
   have:a≠D:=by intro e;subst e;have h3:M1 a=some (.lst zs):=h3;rw[h3]at hD;cases hD
   show updM M1 D _ a=_
   rw[Z06 this];exact h3
 ·rintro i x ys M2 hx ⟨rfl,rfl⟩
  rw[h1]at hx
  have hi:i<xs.length:=by have:=(Y05.mp hx).1;rw[Y01]at this;exact this
  rw[Y06,Y00 hi]at hx
  cases hx
  refine Z5v tg (λσ2 h=>?_) (ht xs[i] (Y0p hi) (updM M1 D (.lst ((xs.take i).map g))) (λa o e=>by
   rw[Z06 (by intro z;subst z;rw[e]at hD;cases hD)];exact e))
  rw[wI,if_pos rfl]
  refine Z09 hΦ elt (λy M2 ⟨e1,e2⟩=>?_) h
  subst e1 e2
  refine⟨Z02,Z6H,?_⟩
  rw[Y0S,Y00 hi,Y0A]
  rfl
 ·rintro ys M2 ⟨rfl,rfl⟩
  rw[hl,Y1z (Y0b _),Zei h3]
  exact q D hD
theorem ZcO{Φ:List (Str×SpM)}{own:List Str}{fr:List Nat}{src:ISr}{tg:ITg}{elt:IE}{σ:Sm}{M:MH}{Q:QM}{α:Type}(xs:List α)(f g:α->MV)
  (hs:wSr Φ src σ M λS M1=>S.items=xs.map f/\xs.length<sizeLine/\S.okF M1/\∀a o,M a=some o->M1 a=some o)
  (ht:∀x∈xs,∀M',(∀a o,M a=some o->M' a=some o)->wTg tg (f x) (sCm own fr σ) λσ2=>wE Φ elt σ2 M' λy M2=>y=g x/\∀a o,M' a=some o->M2 a=some o)
  (hΦ:∀(j:Nat) f sp,Φ[j]?=some (f,sp)->MonW sp) (q:∀D M',M D=none->(∀a o,M a=some o->M' a=some o)->M' D=some (.lst (xs.map g))->Q (.ref D) M'):wE Φ (.comp own fr src tg .none elt) σ M Q:=by
 rw[ZcJ]
 refine mon_sr hΦ src (λS M1 ⟨h1,h2,h3,h4⟩=>?_) hs
 have hl:S.len=xs.length:=by rw[<- S.items_len,h1,Y01]
 have fre:∀D,M1 D=none->M D=none:=λD hD=>by
  cases e:M D with
  |none=>rfl
  |some o=>rw[h4 _ _ e]at hD;cases hD
 have ne:∀{a D:Addr} {o:MO},M1 a=some o->M1 D=none->a≠D:=λh h' z=>by subst z;rw[h]at h';cases h'
 refine⟨by rw[hl];exact h2,λD hD=>⟨λi ys M2=>(∀a o,M1 a=some o->M2 a=some o)/\M2 D=some (.lst ys)/\ys=(xs.take i).map g,⟨λa o e=>by rw[Z06 (ne e hD)];exact e,Z02,by simp⟩,?_,?_,?_⟩⟩
 ·rintro i ys M2 ⟨s2,d2,rfl⟩
  refine⟨d2,by rw[Y01,Y0J];lia,?_⟩
  cases S with
  |tup _=>trivial
  |rng _ _=>trivial
  |rst _ _ _=>trivial
  |dic _ _ _=>exact h3.elim
  |str _=>trivial
  |lst a zs=>exact s2 _ _ h3
 ·rintro i x ys M2 hx ⟨s2,d2,rfl⟩
  rw[h1]at hx
  have hi:i<xs.length:=by have:=(Y05.mp hx).1;rw[Y01]at this;exact this
  rw[Y06,Y00 hi]at hx
  cases hx
  refine Z5v tg (λσ2 h=>?_) (ht xs[i] (Y0p hi) M2 (λa o e=>s2 _ _ (h4 _ _ e)))
  rw[wI,if_pos rfl]
  refine Z09 hΦ elt (λy M3 ⟨e1,e2⟩=>?_) h
  subst e1
  refine⟨e2 _ _ d2,λa o e=>by rw[Z06 (ne e hD)];exact e2 _ _ (s2 _ _ e),Z02,?_⟩
  rw[Y0S,Y00 hi,Y0A]
  rfl
 ·rintro ys M2 ⟨s2,d2,rfl⟩
  rw[hl,Y1z (Y0b _)]at d2
  rw[Zei h3]
  exact q D M2 (fre D hD) (λa o e=>s2 _ _ (h4 _ _ e)) d2
@[seval]theorem Zpb{i:Nat}{v:MV}{σ:Sm}{R:Sm->Prop}:wTg (.nm i) v σ R=R (σ.set i (some v)):=rfl
@[seval]theorem Zpa{t:ITg}{ts:ITgs}{v:MV}{r:List MV}{σ:Sm}{R:Sm->Prop}:wTgs (.cons t ts) (v::r) σ R=wTg t v σ λσ'=>wTgs ts r σ' R:=by
 exact propext ⟨fun⟨_,_,e,h⟩=>by cases e;exact h,λh=>⟨_,_,rfl,h⟩⟩
@[seval]theorem Zp9{σ:Sm}{R:Sm->Prop}:wTgs .nil [] σ R=R σ:=propext ⟨λh=>h.2,λh=>⟨rfl,h⟩⟩
theorem Zeg{κ:Type} [DecidableEq κ] {k:κ}{v:MV}:∀{kvs:List (κ×MV)},(kvs.map (·.1)).Nodup->(k,v)∈kvs->valM kvs k=some v
 |(j,u)::r,nd,h=>by
  rw[Y0h,Y11]at nd
  unfold valM
  rcases Y0f.mp h with e|h
  ·cases e;rw[if_pos rfl]
  ·rw[if_neg (λe=>nd.1 (by subst e;exact Y0r.mpr ⟨(j,v),h,rfl⟩)),Zeg nd.2 h]
section
variable{M:MH}
theorem Alike.dicFlat{a b:Addr}{kvs:List (Key×MV)}(n:Nat)(h1:M a=some (.dic kvs))(h2:M b=some (.dic kvs))(nd:(kvs.map (·.1)).Nodup)(f:∀p∈kvs,Z3X p.2=true):Alike M (n+1) (.ref a) (.ref b):=
 .dic h1 h2 rfl λk u m=>⟨u,Zeg nd m,.flat n (f _ m)⟩
theorem Alike.lstFlat{x y:MV}{xs:List MV}(n:Nat)(h1:LstM M x xs)(h2:LstM M y xs)(f:∀v∈xs,Z3X v=true):Alike M (n+1) x y:=
 .lst h1 h2 rfl λi u v e e'=>by
  rw[e]at e';cases e'
  exact .flat n (f u (Y08 e))
end
section
variable{Φ:List (Str×SpM)}{D:EndM}{σ:Sm}{M:MH}
@[seval]theorem ZoN:wSs Φ .nil D σ M=D.nx σ M:=rfl
@[seval]theorem ZmD{s:IS}{r:ISs}:wSs Φ (.cons s r) D σ M=wS Φ s {nx:=λσ M=>wSs Φ r D σ M,rt:=D.rt,bk:=D.bk,ct:=D.ct} σ M:=rfl
@[seval]theorem ZmA:wS Φ .pass D σ M=D.nx σ M:=rfl
@[seval]theorem ZoR:wS Φ .brk D σ M=D.bk σ M:=rfl
@[seval]theorem ZoQ:wS Φ .cnt D σ M=D.ct σ M:=rfl
@[seval]theorem Zkx:wS Φ .never D σ M=False:=rfl
@[seval]theorem ZoL{e:IE}:wS Φ (.ret e) D σ M=wE Φ e σ M D.rt:=rfl
@[seval]theorem Zmz:wS Φ .retN D σ M=D.rt .non M:=rfl
@[seval]theorem ZoK{i:Nat}{e:IE}:wS Φ (.set i e) D σ M=wE Φ e σ M λv M1=>D.nx (σ.set i (some v)) M1:=rfl
@[seval]theorem ZoS{t:ITgs}{e:IE}:wS Φ (.asg t e) D σ M=wE Φ e σ M λv M1=>∃xs,v=.tup xs/\wTgs t xs σ λσ'=>D.nx σ' M1:=rfl
@[seval]theorem ZoM{o i e:IE}:wS Φ (.put o i e) D σ M=wE Φ e σ M λv M1=>wE Φ o σ M1 λx M2=>wE Φ i σ M2 λy M3=>wPut x y v M3 λM4=>D.nx σ M4:=rfl
@[seval]theorem ZmB{c f:Str}{o e:IE}:wS Φ (.fset c o f e) D σ M=wE Φ e σ M λv M1=>wE Φ o σ M1 λx M2=>∃a fs,x=.ref a/\M2 a=some (.ins c fs)/\fs.length<1000/\D.nx σ (updM M2 a (.ins c (putM fs f v))):=rfl
@[seval]theorem ZmC{e:IE}:wS Φ (.expr e) D σ M=wE Φ e σ M λ_ M1=>D.nx σ M1:=rfl
@[seval]theorem ZoO{c:IE}{a b:ISs}:wS Φ (.ite c a b) D σ M=wE Φ c σ M λx M1=>onB x λk=>(if k=true then wSs Φ a D σ M1 else wSs Φ b D σ M1):=rfl
@[seval]theorem ZoP{t:ITg}{s:ISr}{b:ISs}:wS Φ (.for_ t s b) D σ M=wSr Φ s σ M λS M1=>∃J:Nat->Sm->MH->Prop,J 0 σ M1/\(∀i σ M,J i σ M->S.ok M)/\
   (∀i x σ M,S.items[i]?=some x->J i σ M->wTg t x σ λσ2=>wSs Φ b {nx:=J (i+1),rt:=λv M=>S.okT M/\D.rt v (S.thaw M),bk:=λσ M=>S.okT M/\D.nx σ (S.thaw M),ct:=J (i+1)} σ2 M)/\∀σ M,J S.len σ M->D.nx σ (S.thaw M):=rfl
@[seval]theorem Zkw{c:IE}{b:ISs}:wS Φ (.while_ c b) D σ M=∃J:Nat->Sm->MH->Prop,(∃m,J m σ M)/\∀m σ M,J m σ M->wE Φ c σ M λx M1=>∃k,x=.bl k/\
   (if k=true then wSs Φ b {nx:=λσ' M'=>∃m',m'<m/\J m' σ' M',rt:=D.rt,bk:=D.nx,ct:=λσ' M'=>∃m',m'<m/\J m' σ' M'} σ M1 else D.nx σ M1):=rfl
@[seval]theorem ZnP{Q:Option Int->MH->Prop}:wO Φ .none σ M Q=Q none M:=rfl
@[seval]theorem ZnO{e:IE}{Q:Option Int->MH->Prop}:wO Φ (.some e) σ M Q=wE Φ e σ M λv M1=>∃i,v=.int i/\Q (some i) M1:=rfl
@[seval]theorem Zoj{Q:Bool->MH->Prop}:wI Φ .none σ M Q=Q true M:=rfl
@[seval]theorem Zoi{e:IE}{Q:Bool->MH->Prop}:wI Φ (.some e) σ M Q=wE Φ e σ M λv M1=>∃b,v=.bl b/\Q b M1:=rfl
@[seval]theorem Zom{Q:List MV->MH->Prop}:wEs Φ .nil σ M Q=Q [] M:=rfl
@[seval]theorem ZlR{e:IE}{es:IEs}{Q:List MV->MH->Prop}:wEs Φ (.cons e es) σ M Q=wE Φ e σ M λv M1=>wEs Φ es σ M1 λvs M2=>Q (v::vs) M2:=rfl
@[seval]theorem Znp{Q:List (Key×MV)->MH->Prop}:wPs Φ .nil σ M Q=Q [] M:=rfl
@[seval]theorem ZkQ{k v:IE}{r:IPs}{Q:List (Key×MV)->MH->Prop}:wPs Φ (.cons k v r) σ M Q=wE Φ k σ M λx M1=>∃kk,keyM x=some kk/\wE Φ v σ M1 λy M2=>wPs Φ r σ M2 λl M3=>Q ((kk,y)::l) M3:=rfl
end
section
variable{Φ:List (Str×SpM)}{σ σ':Sm}{M M':MH}{Q:QM}{x x' y y' z z':MV}{o o':Option MO}{vs vs':List MV}
@[congr]theorem k_wE {e:IE} (h:σ=σ') (g:M=M'):wE Φ e σ M Q=wE Φ e σ' M' Q:=by rw[h,g]
@[congr]theorem k_wEs {e:IEs} {Q:List MV->MH->Prop} (h:σ=σ') (g:M=M'):wEs Φ e σ M Q=wEs Φ e σ' M' Q:=by rw[h,g]
@[congr]theorem k_wO {e:IO} {Q:Option Int->MH->Prop} (h:σ=σ') (g:M=M'):wO Φ e σ M Q=wO Φ e σ' M' Q:=by rw[h,g]
@[congr]theorem k_wI {e:IO} {Q:Bool->MH->Prop} (h:σ=σ') (g:M=M'):wI Φ e σ M Q=wI Φ e σ' M' Q:=by rw[h,g]
@[congr]theorem k_wSr {e:ISr} {Q:Src->MH->Prop} (h:σ=σ') (g:M=M'):wSr Φ e σ M Q=wSr Φ e σ' M' Q:=by rw[h,g]
@[congr]theorem k_wPs {e:IPs} {Q:List (Key×MV)->MH->Prop} (h:σ=σ') (g:M=M'):wPs Φ e σ M Q=wPs Φ e σ' M' Q:=by rw[h,g]
@[congr]theorem k_wS {e:IS} {D:EndM} (h:σ=σ') (g:M=M'):wS Φ e D σ M=wS Φ e D σ' M':=by rw[h,g]
@[congr]theorem k_wSs {e:ISs} {D:EndM} (h:σ=σ') (g:M=M'):wSs Φ e D σ M=wSs Φ e D σ' M':=by rw[h,g]
@[congr]theorem k_wTg {t:ITg} {R:Sm->Prop} (h:x=x') (g:σ=σ'):wTg t x σ R=wTg t x' σ' R:=by rw[h,g]
@[congr]theorem k_wTgs {t:ITgs} {R:Sm->Prop} (h:vs=vs') (g:σ=σ'):wTgs t vs σ R=wTgs t vs' σ' R:=by rw[h,g]
@[congr]theorem k_wBin {op:Operator} (h:x=x') (g:y=y') (k:M=M'):wBin op x y M Q=wBin op x' y' M' Q:=by rw[h,g,k]
@[congr]theorem k_wCmp {op:CmpOp} (h:x=x') (g:y=y') (k:M=M'):wCmp op x y M Q=wCmp op x' y' M' Q:=by rw[h,g,k]
@[congr]theorem k_wIx (h:x=x') (g:y=y') (k:M=M'):wIx x y M Q=wIx x' y' M' Q:=by rw[h,g,k]
@[congr]theorem k_wSl {lo lo' hi hi':Option Int} (h:x=x') (f:lo=lo') (g:hi=hi') (k:M=M'):wSl x lo hi M Q=wSl x' lo' hi' M' Q:=by rw[h,f,g,k]
@[congr]theorem k_wBi {f:BI} (h:vs=vs') (k:M=M'):wBi f vs M Q=wBi f vs' M' Q:=by rw[h,k]
@[congr]theorem k_wB2 {f:B2} (h:x=x') (k:M=M'):wB2 f x M Q=wB2 f x' M' Q:=by rw[h,k]
@[congr]theorem k_wMts {m:MT} (h:x=x') (g:vs=vs') (k:M=M'):wMts m x vs M Q=wMts m x' vs' M' Q:=by rw[h,g,k]
@[congr]theorem k_wPut {R:MH->Prop} (h:x=x') (g:y=y') (f:z=z') (k:M=M'):wPut x y z M R=wPut x' y' z' M' R:=by rw[h,g,f,k]
@[congr]theorem k_wEq {R:Bool->Prop} (h:x=x') (g:y=y') (k:M=M'):wEq x y M R=wEq x' y' M' R:=by rw[h,g,k]
@[congr]theorem k_wIn {R:Bool->Prop} (h:x=x') (g:y=y') (k:M=M'):wIn x y M R=wIn x' y' M' R:=by rw[h,g,k]
@[congr]theorem k_onV {o o':Option (Option MV)} {k:MV->Prop} (h:o=o'):onV o k=onV o' k:=by rw[h]
@[congr]theorem k_onB {k:Bool->Prop} (h:x=x'):onB x k=onB x' k:=by rw[h]
@[congr]theorem k_onF {o o':Option (Str×SpM)} {k:SpM->Prop} (h:o=o'):onF o k=onF o' k:=by rw[h]
@[congr]theorem k_ixO (h:o=o') (g:y=y') (k:M=M'):ixO o y M Q=ixO o' y' M' Q:=by rw[h,g,k]
@[congr]theorem k_slO {lo lo' hi hi':Option Int} (h:o=o') (f:lo=lo') (g:hi=hi') (k:M=M'):slO o lo hi M Q=slO o' lo' hi' M' Q:=by rw[h,f,g,k]
@[congr]theorem k_lenO (h:o=o') (k:M=M'):lenO o M Q=lenO o' M' Q:=by rw[h,k]
@[congr]theorem k_apO {a:Addr} (h:o=o') (g:y=y') (k:M=M'):apO o a y M Q=apO o' a y' M' Q:=by rw[h,g,k]
@[congr]theorem k_puO {a:Addr} {R:MH->Prop} (h:o=o') (g:y=y') (f:z=z') (k:M=M'):puO o a y z M R=puO o' a y' z' M' R:=by rw[h,g,f,k]
@[congr]theorem k_srO {a:Addr} {R:Src->MH->Prop} (h:o=o') (k:M=M'):srO o a M R=srO o' a M' R:=by rw[h,k]
@[congr]theorem k_srV {R:Src->MH->Prop} (h:x=x') (k:M=M'):srV x M R=srV x' M' R:=by rw[h,k]
end
end L2
namespace My
open PySem L2
def top(i:Nat):Stmt:=PySem.Challenge.pw_bellferry_k63_bounds_told.main.body.getD i (.Pass ⟨0,0,0,0⟩)
abbrev Z0Y:Stmt:=top 2
abbrev Z0X:Stmt:=top 3
abbrev Z1J:Stmt:=top 4
abbrev Z42:Stmt:=top 5
abbrev Z8I:Stmt:=top 6
abbrev Z0m:Stmt:=top 8
abbrev Z1d:Stmt:=top 9
abbrev Z0A:Stmt:=top 10
abbrev Z1c:Stmt:=top 11
abbrev Z0j:Stmt:=top 12
abbrev Z2u:Stmt:=top 13
abbrev Z40:Stmt:=top 15
abbrev Z0n:Stmt:=top 16
abbrev Z0p:Stmt:=top 17
abbrev Z2w:Stmt:=top 18
abbrev Z1e:Stmt:=top 39
abbrev Z0s:Stmt:=top 40
abbrev Z0e:Stmt:=top 41
abbrev Z08:Stmt:=top 42
abbrev Z0d:Stmt:=top 43
abbrev Z0q:Stmt:=top 44
abbrev Z0r:Stmt:=top 45
abbrev Z0h:Stmt:=top 46
abbrev Z0f:Stmt:=top 47
abbrev Z0l:Stmt:=top 48
abbrev Z0c:Stmt:=top 49
abbrev Z0b:Stmt:=top 50
abbrev Z1K:Stmt:=top 51
abbrev Z41:Stmt:=top 52
abbrev Z0z:Stmt:=top 53
abbrev Z0L:Stmt:=top 54
abbrev Z0Z:Stmt:=top 55
abbrev Z0t:Stmt:=top 57
abbrev Z1g:Stmt:=top 58
abbrev Z1b:Stmt:=top 59
abbrev Z1L:Stmt:=top 60
abbrev Z1f:Stmt:=top 61
abbrev Z0W:Stmt:=top 62
abbrev Z0K:Stmt:=top 64
abbrev Z2v:Stmt:=top 65
abbrev Z0k:Stmt:=top 66
abbrev Z0a:Stmt:=top 67
abbrev Z1M:Stmt:=top 68
abbrev Z0o:Stmt:=top 70
abbrev Z0B:Stmt:=top 71
abbrev Z0O:Stmt:=top 72
abbrev Z0M:Stmt:=top 73
abbrev Z0N:Stmt:=top 74
abbrev Z0v:Stmt:=top 75
abbrev Z0u:Stmt:=top 76
abbrev Z0D:Stmt:=top 77
abbrev Z0C:Stmt:=top 78
abbrev Z10:Stmt:=top 79
abbrev Z6n:Stmt:=top 80
set_option genInjectivity false in
set_option genSizeOf false in
structure Adr where
 f_is_whole:Addr
 d_is_whole:FuncData
 f_is_width:Addr
 d_is_width:FuncData
 f_two_to:Addr
 d_two_to:FuncData
 f_fits:Addr
 d_fits:FuncData
 f_cut:Addr
 d_cut:FuncData
 f_parts_within:Addr
 d_parts_within:FuncData
 f_size_of:Addr
 d_size_of:FuncData
 f_names_read:Addr
 d_names_read:FuncData
 f_vars_in:Addr
 d_vars_in:FuncData
 f_worth_of_two:Addr
 d_worth_of_two:FuncData
 f_worth:Addr
 d_worth:FuncData
 f_wish:Addr
 d_wish:FuncData
 f_number_after:Addr
 d_number_after:FuncData
 f_words_after:Addr
 d_words_after:FuncData
 f_after:Addr
 d_after:FuncData
 f_is_name:Addr
 d_is_name:FuncData
 f_refuse_name:Addr
 d_refuse_name:FuncData
 f_refuse_unknown:Addr
 d_refuse_unknown:FuncData
 f_refuse_ferry_names:Addr
 d_refuse_ferry_names:FuncData
 f_refuse_variables:Addr
 d_refuse_variables:FuncData
 f_refuse_term:Addr
 d_refuse_term:FuncData
 f_refuse_step:Addr
 d_refuse_step:FuncData
 f_refuse_island:Addr
 d_refuse_island:FuncData
 f_refuse_islands:Addr
 d_refuse_islands:FuncData
 f_refuse_ferry:Addr
 d_refuse_ferry:FuncData
 f_refuse_wrong_end:Addr
 d_refuse_wrong_end:FuncData
 f_refuse_wrong_ends:Addr
 d_refuse_wrong_ends:FuncData
 f_frozen:Addr
 d_frozen:FuncData
 f_made:Addr
 d_made:FuncData
 f_one_called:Addr
 d_one_called:FuncData
 f_island_of:Addr
 d_island_of:FuncData
 f_ferry_of:Addr
 d_ferry_of:FuncData
 f_first_stand:Addr
 d_first_stand:FuncData
 f_copy_of:Addr
 d_copy_of:FuncData
 f_wish_of:Addr
 d_wish_of:FuncData
 f_can_be:Addr
 d_can_be:FuncData
 f_do_step:Addr
 d_do_step:FuncData
 f_round_of:Addr
 d_round_of:FuncData
 f_stretches:Addr
 d_stretches:FuncData
 f_track:Addr
 d_track:FuncData
 f_steps_behind:Addr
 d_steps_behind:FuncData
 f_stretches_a_round:Addr
 d_stretches_a_round:FuncData
 f_bounds:Addr
 d_bounds:FuncData
 f__law_cell_at:Addr
 d__law_cell_at:FuncData
 f__law_whole:Addr
 d__law_whole:FuncData
 f__law_name:Addr
 d__law_name:FuncData
 f__law_term:Addr
 d__law_term:FuncData
 f__law_step:Addr
 d__law_step:FuncData
 f__law_island:Addr
 d__law_island:FuncData
 f__law_things:Addr
 d__law_things:FuncData
 f__law_rings:Addr
 d__law_rings:FuncData
 f__law_steps:Addr
 d__law_steps:FuncData
 f__law_are:Addr
 d__law_are:FuncData
 f_law:Addr
 d_law:FuncData
structure Txt (K:Y02) (mg:Str->Option Value) (t:Adr):Prop where
 F_is_whole:Fun K "is_whole" "is_whole" Z0Y t.f_is_whole t.d_is_whole
 b_is_whole:Binds K t.d_is_whole ["value"] []
 m_is_whole:mg "is_whole"=some (.ref t.f_is_whole)
 F_is_width:Fun K "is_width" "is_width" Z0X t.f_is_width t.d_is_width
 b_is_width:Binds K t.d_is_width ["number"] []
 m_is_width:mg "is_width"=some (.ref t.f_is_width)
 F_two_to:Fun K "two_to" "two_to" Z1J t.f_two_to t.d_two_to
 b_two_to:Binds K t.d_two_to ["exponent"] []
 m_two_to:mg "two_to"=some (.ref t.f_two_to)
 F_fits:Fun K "fits" "fits" Z42 t.f_fits t.d_fits
 b_fits:Binds K t.d_fits ["width","number"] []
 m_fits:mg "fits"=some (.ref t.f_fits)
 F_cut:Fun K "cut" "cut" Z8I t.f_cut t.d_cut
 b_cut:Binds K t.d_cut ["width","number"] []
 m_cut:mg "cut"=some (.ref t.f_cut)
 F_parts_within:Fun K "parts_within" "parts_within" Z0m t.f_parts_within t.d_parts_within
 b_parts_within:Binds K t.d_parts_within ["T"] []
 m_parts_within:mg "parts_within"=some (.ref t.f_parts_within)
 F_size_of:Fun K "size_of" "size_of" Z1d t.f_size_of t.d_size_of
 b_size_of:Binds K t.d_size_of ["T"] []
 m_size_of:mg "size_of"=some (.ref t.f_size_of)
 F_names_read:Fun K "names_read" "names_read" Z0A t.f_names_read t.d_names_read
 b_names_read:Binds K t.d_names_read ["T"] []
 m_names_read:mg "names_read"=some (.ref t.f_names_read)
 F_vars_in:Fun K "vars_in" "vars_in" Z1c t.f_vars_in t.d_vars_in
 b_vars_in:Binds K t.d_vars_in ["T"] []
 m_vars_in:mg "vars_in"=some (.ref t.f_vars_in)
 F_worth_of_two:Fun K "worth_of_two" "worth_of_two" Z0j t.f_worth_of_two t.d_worth_of_two
 b_worth_of_two:Binds K t.d_worth_of_two ["form","left","right","width"] []
 m_worth_of_two:mg "worth_of_two"=some (.ref t.f_worth_of_two)
 F_worth:Fun K "worth" "worth" Z2u t.f_worth t.d_worth
 b_worth:Binds K t.d_worth ["T","width","words"] []
 m_worth:mg "worth"=some (.ref t.f_worth)
 F_wish:Fun K "wish" "wish" Z40 t.f_wish t.d_wish
 b_wish:Binds K t.d_wish ["width","steps","number","words"] []
 m_wish:mg "wish"=some (.ref t.f_wish)
 F_number_after:Fun K "number_after" "number_after" Z0n t.f_number_after t.d_number_after
 b_number_after:Binds K t.d_number_after ["width","steps","number","words"] []
 m_number_after:mg "number_after"=some (.ref t.f_number_after)
 F_words_after:Fun K "words_after" "words_after" Z0p t.f_words_after t.d_words_after
 b_words_after:Binds K t.d_words_after ["width","step","words","word"] []
 m_words_after:mg "words_after"=some (.ref t.f_words_after)
 F_after:Fun K "after" "after" Z2w t.f_after t.d_after
 b_after:Binds K t.d_after ["width","steps","number","words","word"] []
 m_after:mg "after"=some (.ref t.f_after)
 F_is_name:Fun K "is_name" "is_name" Z1e t.f_is_name t.d_is_name
 b_is_name:Binds K t.d_is_name ["text"] []
 m_is_name:mg "is_name"=some (.ref t.f_is_name)
 F_refuse_name:Fun K "refuse_name" "refuse_name" Z0s t.f_refuse_name t.d_refuse_name
 b_refuse_name:Binds K t.d_refuse_name ["text","earlier"] []
 m_refuse_name:mg "refuse_name"=some (.ref t.f_refuse_name)
 F_refuse_unknown:Fun K "refuse_unknown" "refuse_unknown" Z0e t.f_refuse_unknown t.d_refuse_unknown
 b_refuse_unknown:Binds K t.d_refuse_unknown ["name","known"] []
 m_refuse_unknown:mg "refuse_unknown"=some (.ref t.f_refuse_unknown)
 F_refuse_ferry_names:Fun K "refuse_ferry_names" "refuse_ferry_names" Z08 t.f_refuse_ferry_names t.d_refuse_ferry_names
 b_refuse_ferry_names:Binds K t.d_refuse_ferry_names ["ferries"] []
 m_refuse_ferry_names:mg "refuse_ferry_names"=some (.ref t.f_refuse_ferry_names)
 F_refuse_variables:Fun K "refuse_variables" "refuse_variables" Z0d t.f_refuse_variables t.d_refuse_variables
 b_refuse_variables:Binds K t.d_refuse_variables ["width","pairs"] []
 m_refuse_variables:mg "refuse_variables"=some (.ref t.f_refuse_variables)
 F_refuse_term:Fun K "refuse_term" "refuse_term" Z0q t.f_refuse_term t.d_refuse_term
 b_refuse_term:Binds K t.d_refuse_term ["T","known"] []
 m_refuse_term:mg "refuse_term"=some (.ref t.f_refuse_term)
 F_refuse_step:Fun K "refuse_step" "refuse_step" Z0r t.f_refuse_step t.d_refuse_step
 b_refuse_step:Binds K t.d_refuse_step ["step","known","count","ferry_names"] []
 m_refuse_step:mg "refuse_step"=some (.ref t.f_refuse_step)
 F_refuse_island:Fun K "refuse_island" "refuse_island" Z0h t.f_refuse_island t.d_refuse_island
 b_refuse_island:Binds K t.d_refuse_island ["width","island","ferry_names"] []
 m_refuse_island:mg "refuse_island"=some (.ref t.f_refuse_island)
 F_refuse_islands:Fun K "refuse_islands" "refuse_islands" Z0f t.f_refuse_islands t.d_refuse_islands
 b_refuse_islands:Binds K t.d_refuse_islands ["width","islands","ferry_names"] []
 m_refuse_islands:mg "refuse_islands"=some (.ref t.f_refuse_islands)
 F_refuse_ferry:Fun K "refuse_ferry" "refuse_ferry" Z0l t.f_refuse_ferry t.d_refuse_ferry
 b_refuse_ferry:Binds K t.d_refuse_ferry ["ferry","island_names"] []
 m_refuse_ferry:mg "refuse_ferry"=some (.ref t.f_refuse_ferry)
 F_refuse_wrong_end:Fun K "refuse_wrong_end" "refuse_wrong_end" Z0c t.f_refuse_wrong_end t.d_refuse_wrong_end
 b_refuse_wrong_end:Binds K t.d_refuse_wrong_end ["name","step","givers","takers"] []
 m_refuse_wrong_end:mg "refuse_wrong_end"=some (.ref t.f_refuse_wrong_end)
 F_refuse_wrong_ends:Fun K "refuse_wrong_ends" "refuse_wrong_ends" Z0b t.f_refuse_wrong_ends t.d_refuse_wrong_ends
 b_refuse_wrong_ends:Binds K t.d_refuse_wrong_ends ["islands","ferries"] []
 m_refuse_wrong_ends:mg "refuse_wrong_ends"=some (.ref t.f_refuse_wrong_ends)
 F_frozen:Fun K "frozen" "frozen" Z1K t.f_frozen t.d_frozen
 b_frozen:Binds K t.d_frozen ["value"] []
 m_frozen:mg "frozen"=some (.ref t.f_frozen)
 F_made:Fun K "made" "made" Z41 t.f_made t.d_made
 b_made:Binds K t.d_made ["width","islands","ferries"] []
 m_made:mg "made"=some (.ref t.f_made)
 F_one_called:Fun K "one_called" "one_called" Z0z t.f_one_called t.d_one_called
 b_one_called:Binds K t.d_one_called ["row","name"] []
 m_one_called:mg "one_called"=some (.ref t.f_one_called)
 F_island_of:Fun K "island_of" "island_of" Z0L t.f_island_of t.d_island_of
 b_island_of:Binds K t.d_island_of ["world","name"] []
 m_island_of:mg "island_of"=some (.ref t.f_island_of)
 F_ferry_of:Fun K "ferry_of" "ferry_of" Z0Z t.f_ferry_of t.d_ferry_of
 b_ferry_of:Binds K t.d_ferry_of ["world","name"] []
 m_ferry_of:mg "ferry_of"=some (.ref t.f_ferry_of)
 F_first_stand:Fun K "first_stand" "first_stand" Z0t t.f_first_stand t.d_first_stand
 b_first_stand:Binds K t.d_first_stand ["world"] []
 m_first_stand:mg "first_stand"=some (.ref t.f_first_stand)
 F_copy_of:Fun K "copy_of" "copy_of" Z1g t.f_copy_of t.d_copy_of
 b_copy_of:Binds K t.d_copy_of ["stand"] []
 m_copy_of:mg "copy_of"=some (.ref t.f_copy_of)
 F_wish_of:Fun K "wish_of" "wish_of" Z1b t.f_wish_of t.d_wish_of
 b_wish_of:Binds K t.d_wish_of ["world","stand","name"] []
 m_wish_of:mg "wish_of"=some (.ref t.f_wish_of)
 F_can_be:Fun K "can_be" "can_be" Z1L t.f_can_be t.d_can_be
 b_can_be:Binds K t.d_can_be ["world","stand","asked"] []
 m_can_be:mg "can_be"=some (.ref t.f_can_be)
 F_do_step:Fun K "do_step" "do_step" Z1f t.f_do_step t.d_do_step
 b_do_step:Binds K t.d_do_step ["world","stand","name","asked","behind"] []
 m_do_step:mg "do_step"=some (.ref t.f_do_step)
 F_round_of:Fun K "round_of" "round_of" Z0W t.f_round_of t.d_round_of
 b_round_of:Binds K t.d_round_of ["world","stand"] []
 m_round_of:mg "round_of"=some (.ref t.f_round_of)
 F_stretches:Fun K "stretches" "stretches" Z0K t.f_stretches t.d_stretches
 b_stretches:Binds K t.d_stretches ["world","names"] []
 m_stretches:mg "stretches"=some (.ref t.f_stretches)
 F_track:Fun K "track" "track" Z2v t.f_track t.d_track
 b_track:Binds K t.d_track ["world","n"] []
 m_track:mg "track"=some (.ref t.f_track)
 F_steps_behind:Fun K "steps_behind" "steps_behind" Z0k t.f_steps_behind t.d_steps_behind
 b_steps_behind:Binds K t.d_steps_behind ["world","n"] []
 m_steps_behind:mg "steps_behind"=some (.ref t.f_steps_behind)
 F_stretches_a_round:Fun K "stretches_a_round" "stretches_a_round" Z0a t.f_stretches_a_round t.d_stretches_a_round
 b_stretches_a_round:Binds K t.d_stretches_a_round ["world"] []
 m_stretches_a_round:mg "stretches_a_round"=some (.ref t.f_stretches_a_round)
 F_bounds:Fun K "bounds" "bounds" Z1M t.f_bounds t.d_bounds
 b_bounds:Binds K t.d_bounds ["world","names"] []
 m_bounds:mg "bounds"=some (.ref t.f_bounds)
 F__law_cell_at:Fun K "_law_cell_at" "_law_cell_at" Z0o t.f__law_cell_at t.d__law_cell_at
 b__law_cell_at:Binds K t.d__law_cell_at ["script","k"] []
 m__law_cell_at:mg "_law_cell_at"=some (.ref t.f__law_cell_at)
 F__law_whole:Fun K "_law_whole" "_law_whole" Z0B t.f__law_whole t.d__law_whole
 b__law_whole:Binds K t.d__law_whole ["found"] []
 m__law_whole:mg "_law_whole"=some (.ref t.f__law_whole)
 F__law_name:Fun K "_law_name" "_law_name" Z0O t.f__law_name t.d__law_name
 b__law_name:Binds K t.d__law_name ["number","k"] []
 m__law_name:mg "_law_name"=some (.ref t.f__law_name)
 F__law_term:Fun K "_law_term" "_law_term" Z0M t.f__law_term t.d__law_term
 b__law_term:Binds K t.d__law_term ["number","names"] []
 m__law_term:mg "_law_term"=some (.ref t.f__law_term)
 F__law_step:Fun K "_law_step" "_law_step" Z0N t.f__law_step t.d__law_step
 b__law_step:Binds K t.d__law_step ["number","name","names","ferries","many"] []
 m__law_step:mg "_law_step"=some (.ref t.f__law_step)
 F__law_island:Fun K "_law_island" "_law_island" Z0v t.f__law_island t.d__law_island
 b__law_island:Binds K t.d__law_island ["number","k","naming","ferries","around"] []
 m__law_island:mg "_law_island"=some (.ref t.f__law_island)
 F__law_things:Fun K "_law_things" "_law_things" Z0u t.f__law_things t.d__law_things
 b__law_things:Binds K t.d__law_things ["script","around"] []
 m__law_things:mg "_law_things"=some (.ref t.f__law_things)
 F__law_rings:Fun K "_law_rings" "_law_rings" Z0D t.f__law_rings t.d__law_rings
 b__law_rings:Binds K t.d__law_rings ["cells","islands"] []
 m__law_rings:mg "_law_rings"=some (.ref t.f__law_rings)
 F__law_steps:Fun K "_law_steps" "_law_steps" Z0C t.f__law_steps t.d__law_steps
 b__law_steps:Binds K t.d__law_steps ["world","islands","rounds"] []
 m__law_steps:mg "_law_steps"=some (.ref t.f__law_steps)
 F__law_are:Fun K "_law_are" "_law_are" Z10 t.f__law_are t.d__law_are
 b__law_are:Binds K t.d__law_are ["found","due"] []
 m__law_are:mg "_law_are"=some (.ref t.f__law_are)
 F_law:Fun K "law" "law" Z6n t.f_law t.d_law
 b_law:Binds K t.d_law ["script"] []
 m_law:mg "law"=some (.ref t.f_law)
 z_all:mg "all"=none
 z_bool:mg "bool"=none
 z_dict:mg "dict"=none
 z_int:mg "int"=none
 z_isinstance:mg "isinstance"=none
 z_len:mg "len"=none
 z_list:mg "list"=none
 z_max:mg "max"=none
 z_min:mg "min"=none
 z_range:mg "range"=none
 z_set:mg "set"=none
 z_sorted:mg "sorted"=none
 z_tuple:mg "tuple"=none
 c_MOST_WIDTH:∃tk,mg "MOST_WIDTH"=some (.int 64 tk)
 c_MOST_LETTERS:∃tk,mg "MOST_LETTERS"=some (.int 8 tk)
 c_MOST_ISLANDS:∃tk,mg "MOST_ISLANDS"=some (.int 5 tk)
 c_MOST_FERRIES:∃tk,mg "MOST_FERRIES"=some (.int 6 tk)
 c_MOST_VARS:∃tk,mg "MOST_VARS"=some (.int 6 tk)
 c_MOST_STEPS:∃tk,mg "MOST_STEPS"=some (.int 12 tk)
 c_MOST_PARTS:∃tk,mg "MOST_PARTS"=some (.int 30 tk)
 c_MOST_DEPTH:∃tk,mg "MOST_DEPTH"=some (.int 8 tk)
 c_MOST_K:∃tk,mg "MOST_K"=some (.int 3 tk)
 c_MOST_STAGES:∃tk,mg "MOST_STAGES"=some (.int 3 tk)
theorem Zds:FnScope ["value"] ["value"] (Z00 Z0Y):=⟨rfl,rfl,rfl,by decide+kernel,rfl,by decide+kernel,by decide+kernel⟩
theorem Zdr:FnScope ["number"] ["number"] (Z00 Z0X):=⟨rfl,rfl,rfl,by decide+kernel,rfl,by decide+kernel,by decide+kernel⟩
theorem Zgk:FnScope ["exponent","answer","k"] ["exponent"] (Z00 Z1J):=⟨rfl,rfl,rfl,by decide+kernel,rfl,by decide+kernel,by decide+kernel⟩
theorem Zkv:FnScope ["width","number"] ["width","number"] (Z00 Z42):=⟨rfl,rfl,rfl,by decide+kernel,rfl,by decide+kernel,by decide+kernel⟩
theorem Zmy:FnScope ["width","number"] ["width","number"] (Z00 Z8I):=⟨rfl,rfl,rfl,by decide+kernel,rfl,by decide+kernel,by decide+kernel⟩
theorem Z98:FnScope ["T"] ["T"] (Z00 Z0m):=⟨rfl,rfl,rfl,by decide+kernel,rfl,by decide+kernel,by decide+kernel⟩
theorem Zfb:FnScope ["T","parts","deepest","part","size"] ["T"] (Z00 Z1d):=⟨rfl,rfl,rfl,by decide+kernel,rfl,by decide+kernel,by decide+kernel⟩
theorem Zbt:FnScope ["T","names","part"] ["T"] (Z00 Z0A):=⟨rfl,rfl,rfl,by decide+kernel,rfl,by decide+kernel,by decide+kernel⟩
theorem Zfa:FnScope ["T"] ["T"] (Z00 Z1c):=⟨rfl,rfl,rfl,by decide+kernel,rfl,by decide+kernel,by decide+kernel⟩
theorem Z95:FnScope ["form","left","right","width"] ["form","left","right","width"] (Z00 Z0j):=⟨rfl,rfl,rfl,by decide+kernel,rfl,by decide+kernel,by decide+kernel⟩
theorem Zik:FnScope ["T","width","words","first"] ["T","width","words"] (Z00 Z2u):=⟨rfl,rfl,rfl,by decide+kernel,rfl,by decide+kernel,by decide+kernel⟩
theorem Zkt:FnScope ["width","steps","number","words","step"] ["width","steps","number","words"] (Z00 Z40):=⟨rfl,rfl,rfl,by decide+kernel,rfl,by decide+kernel,by decide+kernel⟩
theorem Z99:FnScope ["width","steps","number","words","step"] ["width","steps","number","words"] (Z00 Z0n):=⟨rfl,rfl,rfl,by decide+kernel,rfl,by decide+kernel,by decide+kernel⟩
theorem Zab:FnScope ["width","step","words","word","behind"] ["width","step","words","word"] (Z00 Z0p):=⟨rfl,rfl,rfl,by decide+kernel,rfl,by decide+kernel,by decide+kernel⟩
theorem Zim:FnScope ["width","steps","number","words","word"] ["width","steps","number","words","word"] (Z00 Z2w):=⟨rfl,rfl,rfl,by decide+kernel,rfl,by decide+kernel,by decide+kernel⟩
theorem Zfc:FnScope ["text"] ["text"] (Z00 Z1e):=⟨rfl,rfl,rfl,by decide+kernel,rfl,by decide+kernel,by decide+kernel⟩
theorem Zae:FnScope ["text","earlier"] ["text","earlier"] (Z00 Z0s):=⟨rfl,rfl,rfl,by decide+kernel,rfl,by decide+kernel,by decide+kernel⟩
theorem Z7z:FnScope ["name","known"] ["name","known"] (Z00 Z0e):=⟨rfl,rfl,rfl,by decide+kernel,rfl,by decide+kernel,by decide+kernel⟩
theorem Z4i:FnScope ["ferries","earlier","ferry"] ["ferries"] (Z00 Z08):=⟨rfl,rfl,rfl,by decide+kernel,rfl,by decide+kernel,by decide+kernel⟩
theorem Z6m:FnScope ["width","pairs","earlier","pair","name"] ["width","pairs"] (Z00 Z0d):=⟨rfl,rfl,rfl,by decide+kernel,rfl,by decide+kernel,by decide+kernel⟩
theorem Zac:FnScope ["T","known","size","name"] ["T","known"] (Z00 Z0q):=⟨rfl,rfl,rfl,by decide+kernel,rfl,by decide+kernel,by decide+kernel⟩
theorem Zad:FnScope ["step","known","count","ferry_names"] ["step","known","count","ferry_names"] (Z00 Z0r):=⟨rfl,rfl,rfl,by decide+kernel,rfl,by decide+kernel,by decide+kernel⟩
theorem Z8H:FnScope ["width","island","ferry_names","known","step"] ["width","island","ferry_names"] (Z00 Z0h):=⟨rfl,rfl,rfl,by decide+kernel,rfl,by decide+kernel,by decide+kernel⟩
theorem Z7A:FnScope ["width","islands","ferry_names","earlier","island"] ["width","islands","ferry_names"] (Z00 Z0f):=⟨rfl,rfl,rfl,by decide+kernel,rfl,by decide+kernel,by decide+kernel⟩
theorem Z97:FnScope ["ferry","island_names"] ["ferry","island_names"] (Z00 Z0l):=⟨rfl,rfl,rfl,by decide+kernel,rfl,by decide+kernel,by decide+kernel⟩
theorem Z6l:FnScope ["name","step","givers","takers"] ["name","step","givers","takers"] (Z00 Z0c):=⟨rfl,rfl,rfl,by decide+kernel,rfl,by decide+kernel,by decide+kernel⟩
theorem Z5n:FnScope ["islands","ferries","givers","takers","island","step"] ["islands","ferries"] (Z00 Z0b):=⟨rfl,rfl,rfl,by decide+kernel,rfl,by decide+kernel,by decide+kernel⟩
theorem Zcb:FnScope ["value"] ["value"] (Z00 Z1K):=⟨rfl,rfl,rfl,by decide+kernel,rfl,by decide+kernel,by decide+kernel⟩
theorem Zku:FnScope ["width","islands","ferries","island_names","ferry"] ["width","islands","ferries"] (Z00 Z41):=⟨rfl,rfl,rfl,by decide+kernel,rfl,by decide+kernel,by decide+kernel⟩
theorem Zbs:FnScope ["row","name","one"] ["row","name"] (Z00 Z0z):=⟨rfl,rfl,rfl,by decide+kernel,rfl,by decide+kernel,by decide+kernel⟩
theorem Zca:FnScope ["world","name"] ["world","name"] (Z00 Z0L):=⟨rfl,rfl,rfl,by decide+kernel,rfl,by decide+kernel,by decide+kernel⟩
theorem Zdt:FnScope ["world","name"] ["world","name"] (Z00 Z0Z):=⟨rfl,rfl,rfl,by decide+kernel,rfl,by decide+kernel,by decide+kernel⟩
theorem Zaf:FnScope ["world","numbers","words","given","taken"] ["world"] (Z00 Z0t):=⟨rfl,rfl,rfl,by decide+kernel,rfl,by decide+kernel,by decide+kernel⟩
theorem Zfe:FnScope ["stand","words","given"] ["stand"] (Z00 Z1g):=⟨rfl,rfl,rfl,by decide+kernel,rfl,by decide+kernel,by decide+kernel⟩
theorem Zf9:FnScope ["world","stand","name"] ["world","stand","name"] (Z00 Z1b):=⟨rfl,rfl,rfl,by decide+kernel,rfl,by decide+kernel,by decide+kernel⟩
theorem Zgl:FnScope ["world","stand","asked","under_way"] ["world","stand","asked"] (Z00 Z1L):=⟨rfl,rfl,rfl,by decide+kernel,rfl,by decide+kernel,by decide+kernel⟩
theorem Zfd:FnScope ["world","stand","name","asked","behind","word","ferry","steps","went"] ["world","stand","name","asked","behind"] (Z00 Z1f):=⟨rfl,rfl,rfl,by decide+kernel,rfl,by decide+kernel,by decide+kernel⟩
theorem Zdq:FnScope ["world","stand","behind","names","island","asked"] ["world","stand"] (Z00 Z0W):=⟨rfl,rfl,rfl,by decide+kernel,rfl,by decide+kernel,by decide+kernel⟩
theorem Zc9:FnScope ["world","names","every","ended","missing","name"] ["world","names"] (Z00 Z0K):=⟨rfl,rfl,rfl,by decide+kernel,rfl,by decide+kernel,by decide+kernel⟩
theorem Zil:FnScope ["world","n","stand","rows","k","told","name"] ["world","n"] (Z00 Z2v):=⟨rfl,rfl,rfl,by decide+kernel,rfl,by decide+kernel,by decide+kernel⟩
theorem Z96:FnScope ["world","n","rows"] ["world","n"] (Z00 Z0k):=⟨rfl,rfl,rfl,by decide+kernel,rfl,by decide+kernel,by decide+kernel⟩
theorem Z5m:FnScope ["world"] ["world"] (Z00 Z0a):=⟨rfl,rfl,rfl,by decide+kernel,rfl,by decide+kernel,by decide+kernel⟩
theorem Zgm:FnScope ["world","names","rounds"] ["world","names"] (Z00 Z1M):=⟨rfl,rfl,rfl,by decide+kernel,rfl,by decide+kernel,by decide+kernel⟩
theorem Z9a:FnScope ["script","k"] ["script","k"] (Z00 Z0o):=⟨rfl,rfl,rfl,by decide+kernel,rfl,by decide+kernel,by decide+kernel⟩
theorem Zbu:FnScope ["found"] ["found"] (Z00 Z0B):=⟨rfl,rfl,rfl,by decide+kernel,rfl,by decide+kernel,by decide+kernel⟩
theorem Zce:FnScope ["number","k","letters","fill","other","long","at","sign"] ["number","k"] (Z00 Z0O):=⟨rfl,rfl,rfl,by decide+kernel,rfl,by decide+kernel,by decide+kernel⟩
theorem Zcc:FnScope ["number","names","one","other"] ["number","names"] (Z00 Z0M):=⟨rfl,rfl,rfl,by decide+kernel,rfl,by decide+kernel,by decide+kernel⟩
theorem Zcd:FnScope ["number","name","names","ferries","many","takes","gives","rest"] ["number","name","names","ferries","many"] (Z00 Z0N):=⟨rfl,rfl,rfl,by decide+kernel,rfl,by decide+kernel,by decide+kernel⟩
theorem Zah:FnScope ["number","k","naming","ferries","around","name","names","pairs","many","ending","steps","j"] ["number","k","naming","ferries","around"] (Z00 Z0v):=⟨rfl,rfl,rfl,by decide+kernel,rfl,by decide+kernel,by decide+kernel⟩
theorem Zag:FnScope ["script","around","head","naming","width","many","ferries","k","number","giver","taker","ends","islands"] ["script","around"] (Z00 Z0u):=⟨rfl,rfl,rfl,by decide+kernel,rfl,by decide+kernel,by decide+kernel⟩
theorem Zbw:FnScope ["cells","islands","rings","cell"] ["cells","islands"] (Z00 Z0D):=⟨rfl,rfl,rfl,by decide+kernel,rfl,by decide+kernel,by decide+kernel⟩
theorem Zbv:FnScope ["world","islands","rounds","stand","done","island","k","names","name"] ["world","islands","rounds"] (Z00 Z0C):=⟨rfl,rfl,rfl,by decide+kernel,rfl,by decide+kernel,by decide+kernel⟩
theorem Zdu:FnScope ["found","due"] ["found","due"] (Z00 Z10):=⟨rfl,rfl,rfl,by decide+kernel,rfl,by decide+kernel,by decide+kernel⟩
theorem Zmx:FnScope ["script","width","islands","ferries","world","names","late","ferry","handed","found","least"] ["script"] (Z00 Z6n):=⟨rfl,rfl,rfl,by decide+kernel,rfl,by decide+kernel,by decide+kernel⟩
noncomputable def GB:List Str:=["all","bool","dict","int","isinstance","len","list","max","min","range","set","sorted","tuple"]
noncomputable def GL:List (Str×Int):=[("MOST_WIDTH",64),("MOST_LETTERS",8),("MOST_ISLANDS",5),("MOST_FERRIES",6),("MOST_VARS",6),("MOST_STEPS",12),("MOST_PARTS",30),("MOST_DEPTH",8),("MOST_K",3),("MOST_STAGES",3)]
theorem Z0H{K:Y02}{mg:Str->Option Value}{t:Adr}(T:Txt K mg t):∀x∈GB,mg x=none:=(fMc ⟨T.z_all,(fMc ⟨T.z_bool,(fMc ⟨T.z_dict,(fMc ⟨T.z_int,(fMc ⟨T.z_isinstance,(fMc ⟨T.z_len,(fMc ⟨T.z_list,(fMc ⟨T.z_max,(fMc ⟨T.z_min,(fMc ⟨T.z_range,(fMc ⟨T.z_set,(fMc ⟨T.z_sorted,(fMc ⟨T.z_tuple,(λ_ h=>nomatch h)⟩)⟩)⟩)⟩)⟩)⟩)⟩)⟩)⟩)⟩)⟩)⟩)⟩)
theorem Z0g{K:Y02}{mg:Str->Option Value}{t:Adr}(T:Txt K mg t):∀p∈GL,∃tk,mg p.1=some (.int p.2 tk):=(fMc ⟨T.c_MOST_WIDTH,(fMc ⟨T.c_MOST_LETTERS,(fMc ⟨T.c_MOST_ISLANDS,(fMc ⟨T.c_MOST_FERRIES,(fMc ⟨T.c_MOST_VARS,(fMc ⟨T.c_MOST_STEPS,(fMc ⟨T.c_MOST_PARTS,(fMc ⟨T.c_MOST_DEPTH,(fMc ⟨T.c_MOST_K,(fMc ⟨T.c_MOST_STAGES,(λ_ h=>nomatch h)⟩)⟩)⟩)⟩)⟩)⟩)⟩)⟩)⟩)⟩)
noncomputable def Z9I:ISs:=.cons (.ret (.and (.bi .isinst (.var 0) (.cons (.ty .int) .nil)) (.not (.bi .isinst (.var 0) (.cons (.ty .bool) .nil))))) .nil
noncomputable abbrev Z6A:ISs:=Z9I
noncomputable def Zbj:GI:={bl:=GB,gl:=GL,fns:=[]}
theorem Ze5:chkSs Zbj (Z00 Z0Y) ["value"] Z6A (Z01 Z0Y)=true:=by decide+kernel
noncomputable def Z9H:ISs:=.cons (.ret (.and (.call 0 (.var 0) .nil) (.chn .LtE .LtE (.int 1) (.var 0) (.glb "MOST_WIDTH" 64)))) .nil
noncomputable abbrev Z6z:ISs:=Z9H
noncomputable def Zbi:GI:={bl:=GB,gl:=GL,fns:=["is_whole"]}
theorem Ze4:chkSs Zbi (Z00 Z0X) ["number"] Z6z (Z01 Z0X)=true:=by decide+kernel
noncomputable def Zcx:ISs:=.cons (.ret (.var 1)) .nil
noncomputable def Zcy:ISs:=.cons (.set 1 (.bin .Mult (.var 1) (.int 2))) .nil
noncomputable def Zcz:ISs:=.cons (.for_ (.nm 2) (.rng (.var 0)) Zcy) Zcx
noncomputable def ZcA:ISs:=.cons (.set 1 (.int 1)) Zcz
noncomputable abbrev Z9B:ISs:=ZcA
noncomputable def Zf3:GI:={bl:=GB,gl:=GL,fns:=[]}
theorem ZhF:chkSs Zf3 (Z00 Z1J) ["exponent","answer","k"] Z9B (Z01 Z1J)=true:=by decide+kernel
noncomputable def Zhq:ISs:=.cons (.ret (.and (.call 0 (.var 1) .nil) (.chn .LtE .Lt (.int 0) (.var 1) (.call 1 (.var 0) .nil)))) .nil
noncomputable abbrev ZdP:ISs:=Zhq
noncomputable def Zkj:GI:={bl:=GB,gl:=GL,fns:=["is_whole","two_to"]}
theorem Zm0:chkSs Zkj (Z00 Z42) ["width","number"] ZdP (Z01 Z42)=true:=by decide+kernel
noncomputable def Zk7:ISs:=.cons (.ret (.bin .Mod (.var 1) (.call 0 (.var 0) .nil))) .nil
noncomputable abbrev Zha:ISs:=Zk7
noncomputable def ZoB:GI:={bl:=GB,gl:=GL,fns:=["two_to"]}
theorem Zou:chkSs ZoB (Z00 Z8I) ["width","number"] Zha (Z01 Z8I)=true:=by decide+kernel
noncomputable def Z33:ISs:=.cons (.ret (.bi .list (.sl (.var 0) (.some (.int 1)) .none) .nil)) .nil
noncomputable def Z34:ISs:=.cons (.ret (.lst .nil)) .nil
noncomputable def Z4I:ISs:=.cons (.ite (.or (.cmp .Eq (.ix (.var 0) (.int 0)) (.str "num")) (.cmp .Eq (.ix (.var 0) (.int 0)) (.str "var"))) Z34 .nil) Z33
noncomputable abbrev Z30:ISs:=Z4I
noncomputable def Z6h:GI:={bl:=GB,gl:=GL,fns:=[]}
theorem Z9Z:chkSs Z6h (Z00 Z0m) ["T"] Z30 (Z01 Z0m)=true:=by decide+kernel
noncomputable def ZaS:ISs:=.cons (.ret (.tup (.cons (.var 1) (.cons (.bin .Add (.var 2) (.int 1)) .nil)))) .nil
noncomputable def ZaT:ISs:=.cons (.set 2 (.bi .max (.var 2) (.cons (.ix (.var 4) (.int 1)) .nil))) .nil
noncomputable def ZaU:ISs:=.cons (.set 1 (.bin .Add (.var 1) (.ix (.var 4) (.int 0)))) ZaT
noncomputable def ZaV:ISs:=.cons (.set 4 (.call 1 (.var 3) .nil)) ZaU
noncomputable def ZaW:ISs:=.cons (.for_ (.nm 3) (.seq (.call 0 (.var 0) .nil)) ZaV) ZaS
noncomputable def ZaX:ISs:=.cons (.set 2 (.int 0)) ZaW
noncomputable def ZaY:ISs:=.cons (.set 1 (.int 1)) ZaX
noncomputable abbrev Z7G:ISs:=ZaY
noncomputable def Zdc:GI:={bl:=GB,gl:=GL,fns:=["parts_within","size_of"]}
theorem ZfK:chkSs Zdc (Z00 Z1d) ["T","parts","deepest","part","size"] Z7G (Z01 Z1d)=true:=by decide+kernel
noncomputable def Z71:ISs:=.cons (.ret (.var 1)) .nil
noncomputable def Z72:ISs:=.cons (.expr (.mt .extend (.var 1) (.cons (.call 0 (.var 2) .nil) .nil))) .nil
noncomputable def Z73:ISs:=.cons (.for_ (.nm 2) (.seq (.call 1 (.var 0) .nil)) Z72) Z71
noncomputable def Z3U:ISs:=.cons (.set 1 (.lst .nil)) Z73
noncomputable def Z74:ISs:=.cons (.ret (.lst (.cons (.ix (.var 0) (.int 1)) .nil))) .nil
noncomputable def Z75:ISs:=.cons (.ite (.cmp .Eq (.ix (.var 0) (.int 0)) (.str "var")) Z74 .nil) Z3U
noncomputable abbrev Z3Q:ISs:=Z75
noncomputable def Z8C:GI:={bl:=GB,gl:=GL,fns:=["names_read","parts_within"]}
theorem ZbT:chkSs Z8C (Z00 Z0A) ["T","names","part"] Z3Q (Z01 Z0A)=true:=by decide+kernel
noncomputable def ZaR:ISs:=.cons (.ret (.b2 .ssrt (.call 0 (.var 0) .nil))) .nil
noncomputable abbrev Z7F:ISs:=ZaR
noncomputable def Zdb:GI:={bl:=GB,gl:=GL,fns:=["names_read"]}
theorem ZfJ:chkSs Zdb (Z00 Z1c) ["T"] Z7F (Z01 Z1c)=true:=by decide+kernel
noncomputable def Z4p:ISs:=.cons (.ret (.ife (.cmp .Eq (.var 1) (.var 2)) (.int 1) (.int 0))) .nil
noncomputable def Z4q:ISs:=.cons (.ret (.ife (.cmp .Lt (.var 1) (.var 2)) (.int 1) (.int 0))) .nil
noncomputable def Z2P:ISs:=.cons (.ite (.cmp .Eq (.var 0) (.str "less")) Z4q .nil) Z4p
noncomputable def Z4r:ISs:=.cons (.ret (.call 0 (.var 3) (.cons (.bin .Mult (.var 1) (.var 2)) .nil))) .nil
noncomputable def Z24:ISs:=.cons (.ite (.cmp .Eq (.var 0) (.str "times")) Z4r .nil) Z2P
noncomputable def Z4s:ISs:=.cons (.ret (.call 0 (.var 3) (.cons (.bin .Sub (.var 1) (.var 2)) .nil))) .nil
noncomputable def Z1q:ISs:=.cons (.ite (.cmp .Eq (.var 0) (.str "minus")) Z4s .nil) Z24
noncomputable def Z4t:ISs:=.cons (.ret (.call 0 (.var 3) (.cons (.bin .Add (.var 1) (.var 2)) .nil))) .nil
noncomputable def Z4u:ISs:=.cons (.ite (.cmp .Eq (.var 0) (.str "plus")) Z4t .nil) Z1q
noncomputable abbrev Z2X:ISs:=Z4u
noncomputable def Z6e:GI:={bl:=GB,gl:=GL,fns:=["cut"]}
theorem Z9W:chkSs Z6e (Z00 Z0j) ["form","left","right","width"] Z2X (Z01 Z0j)=true:=by decide+kernel
noncomputable def ZeB:ISs:=.cons (.ret (.call 2 (.ix (.var 0) (.int 0)) (.cons (.var 3) (.cons (.call 1 (.ix (.var 0) (.int 2)) (.cons (.var 1) (.cons (.var 2) .nil))) (.cons (.var 1) .nil))))) .nil
noncomputable def ZeC:ISs:=.cons (.ret (.call 1 (.ife (.cmp .NotEq (.var 3) (.int 0)) (.ix (.var 0) (.int 2)) (.ix (.var 0) (.int 3))) (.cons (.var 1) (.cons (.var 2) .nil)))) .nil
noncomputable def ZbH:ISs:=.cons (.ite (.cmp .Eq (.ix (.var 0) (.int 0)) (.str "pick")) ZeC .nil) ZeB
noncomputable def ZbI:ISs:=.cons (.set 3 (.call 1 (.ix (.var 0) (.int 1)) (.cons (.var 1) (.cons (.var 2) .nil)))) ZbH
noncomputable def ZeD:ISs:=.cons (.ret (.ix (.var 2) (.ix (.var 0) (.int 1)))) .nil
noncomputable def Z91:ISs:=.cons (.ite (.cmp .Eq (.ix (.var 0) (.int 0)) (.str "var")) ZeD .nil) ZbI
noncomputable def ZeE:ISs:=.cons (.ret (.call 0 (.var 1) (.cons (.ix (.var 0) (.int 1)) .nil))) .nil
noncomputable def ZeF:ISs:=.cons (.ite (.cmp .Eq (.ix (.var 0) (.int 0)) (.str "num")) ZeE .nil) Z91
noncomputable abbrev ZbK:ISs:=ZeF
noncomputable def Zi2:GI:={bl:=GB,gl:=GL,fns:=["cut","worth","worth_of_two"]}
theorem Zj7:chkSs Zi2 (Z00 Z2u) ["T","width","words","first"] ZbK (Z01 Z2u)=true:=by decide+kernel
noncomputable def ZdH:ISs:=.cons (.ret (.tup (.cons (.str "own") .nil))) .nil
noncomputable def Zh3:ISs:=.cons (.ret (.tup (.cons (.str "give") (.cons (.ix (.var 4) (.int 1)) (.cons (.call 0 (.ix (.var 4) (.int 2)) (.cons (.var 0) (.cons (.var 3) .nil))) .nil))))) .nil
noncomputable def ZbJ:ISs:=.cons (.ite (.cmp .Eq (.ix (.var 4) (.int 0)) (.str "give")) Zh3 .nil) ZdH
noncomputable def Zh4:ISs:=.cons (.ret (.tup (.cons (.str "take") (.cons (.ix (.var 4) (.int 1)) .nil)))) .nil
noncomputable def ZdI:ISs:=.cons (.ite (.cmp .Eq (.ix (.var 4) (.int 0)) (.str "take")) Zh4 .nil) ZbJ
noncomputable def ZdJ:ISs:=.cons (.set 4 (.ix (.var 1) (.var 2))) ZdI
noncomputable def ZdK:ISs:=.cons (.ret .non) .nil
noncomputable def Zh5:ISs:=.cons (.ite (.cmp .Eq (.var 2) (.bi .len (.var 1) .nil)) ZdK .nil) ZdJ
noncomputable abbrev ZdN:ISs:=Zh5
noncomputable def Zkh:GI:={bl:=GB,gl:=GL,fns:=["worth"]}
theorem ZlY:chkSs Zkh (Z00 Z40) ["width","steps","number","words","step"] ZdN (Z01 Z40)=true:=by decide+kernel
noncomputable def Z1s:ISs:=.cons (.ret (.bin .Add (.var 2) (.int 1))) .nil
noncomputable def Z4J:ISs:=.cons (.ret (.ix (.var 4) (.int 2))) .nil
noncomputable def Z4K:ISs:=.cons (.ite (.and (.cmp .Eq (.ix (.var 4) (.int 0)) (.str "jump")) (.cmp .NotEq (.call 0 (.ix (.var 4) (.int 1)) (.cons (.var 0) (.cons (.var 3) .nil))) (.int 0))) Z4J .nil) Z1s
noncomputable def Z4L:ISs:=.cons (.set 4 (.ix (.var 1) (.var 2))) Z4K
noncomputable abbrev Z31:ISs:=Z4L
noncomputable def Z6i:GI:={bl:=GB,gl:=GL,fns:=["worth"]}
theorem Za0:chkSs Z6i (Z00 Z0n) ["width","steps","number","words","step"] Z31 (Z01 Z0n)=true:=by decide+kernel
noncomputable def Z1C:ISs:=.cons (.ret (.var 4)) .nil
noncomputable def Z5x:ISs:=.cons (.put (.var 4) (.ix (.var 1) (.int 1)) (.call 0 (.ix (.var 1) (.int 2)) (.cons (.var 0) (.cons (.var 2) .nil)))) .nil
noncomputable def Z1D:ISs:=.cons (.ite (.cmp .Eq (.ix (.var 1) (.int 0)) (.str "put")) Z5x .nil) Z1C
noncomputable def Z5y:ISs:=.cons (.put (.var 4) (.ix (.var 1) (.int 2)) (.var 3)) .nil
noncomputable def Z5z:ISs:=.cons (.ite (.cmp .Eq (.ix (.var 1) (.int 0)) (.str "take")) Z5y .nil) Z1D
noncomputable def Z5A:ISs:=.cons (.set 4 (.bi .dict (.var 2) .nil)) Z5z
noncomputable abbrev Z3i:ISs:=Z5A
noncomputable def Z7r:GI:={bl:=GB,gl:=GL,fns:=["worth"]}
theorem Zaz:chkSs Z7r (Z00 Z0p) ["width","step","words","word","behind"] Z3i (Z01 Z0p)=true:=by decide+kernel
noncomputable def ZeT:ISs:=.cons (.ret (.tup (.cons (.call 0 (.var 0) (.cons (.var 1) (.cons (.var 2) (.cons (.var 3) .nil)))) (.cons (.call 1 (.var 0) (.cons (.ix (.var 1) (.var 2)) (.cons (.var 3) (.cons (.var 4) .nil)))) .nil)))) .nil
noncomputable abbrev ZbM:ISs:=ZeT
noncomputable def Zi4:GI:={bl:=GB,gl:=GL,fns:=["number_after","words_after"]}
theorem Zj9:chkSs Zi4 (Z00 Z2w) ["width","steps","number","words","word"] ZbM (Z01 Z2w)=true:=by decide+kernel
noncomputable def Zb1:ISs:=.cons (.ret (.and (.chn .LtE .LtE (.int 1) (.bi .len (.var 0) .nil) (.glb "MOST_LETTERS" 8)) (.bi .all (.comp ["sign"] [] (.seq (.var 0)) (.nm 0) .none (.chn .LtE .LtE (.str "a") (.var 0) (.str "z"))) .nil))) .nil
noncomputable abbrev Z7H:ISs:=Zb1
noncomputable def Zdd:GI:={bl:=GB,gl:=GL,fns:=[]}
theorem ZfL:chkSs Zdd (Z00 Z1e) ["text"] Z7H (Z01 Z1e)=true:=by decide+kernel
noncomputable def Zau:ISs:=.cons .never .nil
noncomputable def Z5N:ISs:=.cons (.ite (.cmp .In (.var 0) (.var 1)) Zau .nil) .nil
noncomputable def Zav:ISs:=.cons .never .nil
noncomputable def Z5O:ISs:=.cons (.ite (.not (.call 0 (.var 0) .nil)) Zav .nil) Z5N
noncomputable abbrev Z3l:ISs:=Z5O
noncomputable def Z7u:GI:={bl:=GB,gl:=GL,fns:=["is_name"]}
theorem ZaC:chkSs Z7u (Z00 Z0s) ["text","earlier"] Z3l (Z01 Z0s)=true:=by decide+kernel
noncomputable def Z7D:ISs:=.cons .never .nil
noncomputable def Z3y:ISs:=.cons (.ite (.cmp .NotIn (.var 0) (.var 1)) Z7D .nil) .nil
noncomputable abbrev Z2e:ISs:=Z3y
noncomputable def Z4c:GI:={bl:=GB,gl:=GL,fns:=[]}
theorem Z7N:chkSs Z4c (Z00 Z0e) ["name","known"] Z2e (Z01 Z0e)=true:=by decide+kernel
noncomputable def Z2o:ISs:=.cons (.expr (.mt .append (.var 1) (.cons (.ix (.var 2) (.int 0)) .nil))) .nil
noncomputable def Z2p:ISs:=.cons (.expr (.call 0 (.ix (.var 2) (.int 0)) (.cons (.var 1) .nil))) Z2o
noncomputable def Z2q:ISs:=.cons (.for_ (.nm 2) (.seq (.var 0)) Z2p) .nil
noncomputable def Z2r:ISs:=.cons (.set 1 (.lst .nil)) Z2q
noncomputable abbrev Z1r:ISs:=Z2r
noncomputable def Z2F:GI:={bl:=GB,gl:=GL,fns:=["refuse_name"]}
theorem Z51:chkSs Z2F (Z00 Z08) ["ferries","earlier","ferry"] Z1r (Z01 Z08)=true:=by decide+kernel
noncomputable def Z6x:ISs:=.cons .never .nil
noncomputable def Z2R:ISs:=.cons (.ite (.not (.call 0 (.var 0) (.cons (.ix (.var 3) (.int 1)) .nil))) Z6x .nil) .nil
noncomputable def Z2S:ISs:=.cons (.expr (.mt .append (.var 2) (.cons (.var 4) .nil))) Z2R
noncomputable def Z2T:ISs:=.cons (.expr (.call 1 (.var 4) (.cons (.var 2) .nil))) Z2S
noncomputable def Z2U:ISs:=.cons (.set 4 (.ix (.var 3) (.int 0))) Z2T
noncomputable def Z2V:ISs:=.cons (.for_ (.nm 3) (.seq (.var 1)) Z2U) .nil
noncomputable def Z2W:ISs:=.cons (.set 2 (.lst .nil)) Z2V
noncomputable abbrev Z1R:ISs:=Z2W
noncomputable def Z3e:GI:={bl:=GB,gl:=GL,fns:=["fits","refuse_name"]}
theorem Z6E:chkSs Z3e (Z00 Z0d) ["width","pairs","earlier","pair","name"] Z1R (Z01 Z0d)=true:=by decide+kernel
noncomputable def Z5B:ISs:=.cons (.expr (.call 0 (.var 3) (.cons (.var 1) .nil))) .nil
noncomputable def Z5C:ISs:=.cons (.for_ (.nm 3) (.seq (.call 2 (.var 0) .nil)) Z5B) .nil
noncomputable def Zat:ISs:=.cons .never .nil
noncomputable def Z5D:ISs:=.cons (.ite (.or (.cmp .Gt (.ix (.var 2) (.int 0)) (.glb "MOST_PARTS" 30)) (.cmp .Gt (.ix (.var 2) (.int 1)) (.glb "MOST_DEPTH" 8))) Zat .nil) Z5C
noncomputable def Z5E:ISs:=.cons (.set 2 (.call 1 (.var 0) .nil)) Z5D
noncomputable abbrev Z3j:ISs:=Z5E
noncomputable def Z7s:GI:={bl:=GB,gl:=GL,fns:=["refuse_unknown","size_of","vars_in"]}
theorem ZaA:chkSs Z7s (Z00 Z0q) ["T","known","size","name"] Z3j (Z01 Z0q)=true:=by decide+kernel
noncomputable def Z5K:ISs:=.cons (.expr (.call 1 (.ix (.var 0) (.int 2)) (.cons (.var 1) .nil))) .nil
noncomputable def Z5L:ISs:=.cons (.expr (.call 1 (.ix (.var 0) (.int 1)) (.cons (.var 3) .nil))) Z5K
noncomputable def Z5I:ISs:=.cons (.expr (.call 0 (.ix (.var 0) (.int 2)) (.cons (.var 1) .nil))) .nil
noncomputable def Z5J:ISs:=.cons (.expr (.call 1 (.ix (.var 0) (.int 1)) (.cons (.var 3) .nil))) Z5I
noncomputable def Z5G:ISs:=.cons (.expr (.call 0 (.ix (.var 0) (.int 2)) (.cons (.var 1) .nil))) .nil
noncomputable def Z5H:ISs:=.cons (.expr (.call 1 (.ix (.var 0) (.int 1)) (.cons (.var 1) .nil))) Z5G
noncomputable def Z9x:ISs:=.cons .never .nil
noncomputable def Z4x:ISs:=.cons (.ite (.not (.chn .LtE .LtE (.int 0) (.ix (.var 0) (.int 2)) (.var 2))) Z9x .nil) .nil
noncomputable def Z5F:ISs:=.cons (.expr (.call 0 (.ix (.var 0) (.int 1)) (.cons (.var 1) .nil))) Z4x
noncomputable def Z3h:ISs:=.cons (.ite (.cmp .Eq (.ix (.var 0) (.int 0)) (.str "put")) Z5H Z5F) .nil
noncomputable def Z2k:ISs:=.cons (.ite (.cmp .Eq (.ix (.var 0) (.int 0)) (.str "give")) Z5J Z3h) .nil
noncomputable def Z5M:ISs:=.cons (.ite (.cmp .Eq (.ix (.var 0) (.int 0)) (.str "take")) Z5L Z2k) .nil
noncomputable abbrev Z3k:ISs:=Z5M
noncomputable def Z7t:GI:={bl:=GB,gl:=GL,fns:=["refuse_term","refuse_unknown"]}
theorem ZaB:chkSs Z7t (Z00 Z0r) ["step","known","count","ferry_names"] Z3k (Z01 Z0r)=true:=by decide+kernel
noncomputable def Z46:ISs:=.cons (.expr (.call 0 (.var 4) (.cons (.var 3) (.cons (.bi .len (.ix (.var 1) (.int 2)) .nil) (.cons (.var 2) .nil))))) .nil
noncomputable def Z47:ISs:=.cons (.for_ (.nm 4) (.seq (.ix (.var 1) (.int 2))) Z46) .nil
noncomputable def Z48:ISs:=.cons (.set 3 (.comp ["pair"] [] (.seq (.ix (.var 1) (.int 1))) (.nm 0) .none (.ix (.var 0) (.int 0)))) Z47
noncomputable def Z49:ISs:=.cons (.expr (.call 1 (.var 0) (.cons (.ix (.var 1) (.int 1)) .nil))) Z48
noncomputable def Z8N:ISs:=.cons .never .nil
noncomputable def Z4a:ISs:=.cons (.ite (.cmp .Gt (.bi .len (.ix (.var 1) (.int 2)) .nil) (.glb "MOST_STEPS" 12)) Z8N .nil) Z49
noncomputable def Z8O:ISs:=.cons .never .nil
noncomputable def Z4b:ISs:=.cons (.ite (.cmp .Gt (.bi .len (.ix (.var 1) (.int 1)) .nil) (.glb "MOST_VARS" 6)) Z8O .nil) Z4a
noncomputable abbrev Z2x:ISs:=Z4b
noncomputable def Z55:GI:={bl:=GB,gl:=GL,fns:=["refuse_step","refuse_variables"]}
theorem Z8P:chkSs Z55 (Z00 Z0h) ["width","island","ferry_names","known","step"] Z2x (Z01 Z0h)=true:=by decide+kernel
noncomputable def Z3z:ISs:=.cons (.expr (.call 0 (.var 0) (.cons (.var 4) (.cons (.var 2) .nil)))) .nil
noncomputable def Z3A:ISs:=.cons (.expr (.mt .append (.var 3) (.cons (.ix (.var 4) (.int 0)) .nil))) Z3z
noncomputable def Z3B:ISs:=.cons (.expr (.call 1 (.ix (.var 4) (.int 0)) (.cons (.var 3) .nil))) Z3A
noncomputable def Z3C:ISs:=.cons (.for_ (.nm 4) (.seq (.var 1)) Z3B) .nil
noncomputable def Z3D:ISs:=.cons (.set 3 (.bi .list (.var 2) .nil)) Z3C
noncomputable abbrev Z2f:ISs:=Z3D
noncomputable def Z4d:GI:={bl:=GB,gl:=GL,fns:=["refuse_island","refuse_name"]}
theorem Z7O:chkSs Z4d (Z00 Z0f) ["width","islands","ferry_names","earlier","island"] Z2f (Z01 Z0f)=true:=by decide+kernel
noncomputable def Z9y:ISs:=.cons .never .nil
noncomputable def Z4y:ISs:=.cons (.ite (.not (.chn .LtE .LtE (.int 1) (.ix (.var 0) (.int 4)) (.glb "MOST_STAGES" 3))) Z9y .nil) .nil
noncomputable def Z9z:ISs:=.cons .never .nil
noncomputable def Z4z:ISs:=.cons (.ite (.not (.chn .LtE .LtE (.int 0) (.ix (.var 0) (.int 3)) (.glb "MOST_K" 3))) Z9z .nil) Z4y
noncomputable def Z9A:ISs:=.cons .never .nil
noncomputable def Z4A:ISs:=.cons (.ite (.cmp .Eq (.ix (.var 0) (.int 1)) (.ix (.var 0) (.int 2))) Z9A .nil) Z4z
noncomputable def Z4B:ISs:=.cons (.expr (.call 0 (.ix (.var 0) (.int 2)) (.cons (.var 1) .nil))) Z4A
noncomputable def Z4C:ISs:=.cons (.expr (.call 0 (.ix (.var 0) (.int 1)) (.cons (.var 1) .nil))) Z4B
noncomputable abbrev Z2Z:ISs:=Z4C
noncomputable def Z6g:GI:={bl:=GB,gl:=GL,fns:=["refuse_unknown"]}
theorem Z9Y:chkSs Z6g (Z00 Z0l) ["ferry","island_names"] Z2Z (Z01 Z0l)=true:=by decide+kernel
noncomputable def Z6v:ISs:=.cons .never .nil
noncomputable def Z0V:ISs:=.cons (.ite (.and (.cmp .Eq (.ix (.var 1) (.int 0)) (.str "give")) (.cmp .NotEq (.ix (.var 2) (.ix (.var 1) (.int 1))) (.var 0))) Z6v .nil) .nil
noncomputable def Z6w:ISs:=.cons .never .nil
noncomputable def Z2Q:ISs:=.cons (.ite (.and (.cmp .Eq (.ix (.var 1) (.int 0)) (.str "take")) (.cmp .NotEq (.ix (.var 3) (.ix (.var 1) (.int 1))) (.var 0))) Z6w .nil) Z0V
noncomputable abbrev Z1Q:ISs:=Z2Q
noncomputable def Z3d:GI:={bl:=GB,gl:=GL,fns:=[]}
theorem Z6D:chkSs Z3d (Z00 Z0c) ["name","step","givers","takers"] Z1Q (Z01 Z0c)=true:=by decide+kernel
noncomputable def Z2A:ISs:=.cons (.expr (.call 0 (.ix (.var 4) (.int 0)) (.cons (.var 5) (.cons (.var 2) (.cons (.var 3) .nil))))) .nil
noncomputable def Z2B:ISs:=.cons (.for_ (.nm 5) (.seq (.ix (.var 4) (.int 2))) Z2A) .nil
noncomputable def Z2C:ISs:=.cons (.for_ (.nm 4) (.seq (.var 0)) Z2B) .nil
noncomputable def Z2D:ISs:=.cons (.set 3 (.bi .dictL (.comp ["ferry"] [] (.seq (.var 1)) (.nm 0) .none (.tup (.cons (.ix (.var 0) (.int 0)) (.cons (.ix (.var 0) (.int 2)) .nil)))) .nil)) Z2C
noncomputable def Z2E:ISs:=.cons (.set 2 (.bi .dictL (.comp ["ferry"] [] (.seq (.var 1)) (.nm 0) .none (.tup (.cons (.ix (.var 0) (.int 0)) (.cons (.ix (.var 0) (.int 1)) .nil)))) .nil)) Z2D
noncomputable abbrev Z1x:ISs:=Z2E
noncomputable def Z38:GI:={bl:=GB,gl:=GL,fns:=["refuse_wrong_end"]}
theorem Z5s:chkSs Z38 (Z00 Z0b) ["islands","ferries","givers","takers","island","step"] Z1x (Z01 Z0b)=true:=by decide+kernel
noncomputable def Z3F:ISs:=.cons (.ret (.var 0)) .nil
noncomputable def Z9J:ISs:=.cons (.ret (.bi .tuple (.comp ["part"] [] (.seq (.var 0)) (.nm 0) .none (.call 0 (.var 0) .nil)) .nil)) .nil
noncomputable def Z9K:ISs:=.cons (.ite (.bi .isinst (.var 0) (.cons (.tup (.cons (.ty .list) (.cons (.ty .tuple) .nil))) .nil)) Z9J .nil) Z3F
noncomputable abbrev Z3E:ISs:=Z9K
noncomputable def Zc0:GI:={bl:=GB,gl:=GL,fns:=["frozen"]}
theorem ZcV:chkSs Zc0 (Z00 Z1K) ["value"] Z3E (Z01 Z1K)=true:=by decide+kernel
noncomputable def ZeQ:ISs:=.cons (.ret (.call 0 (.tup (.cons (.var 0) (.cons (.var 1) (.cons (.var 2) .nil)))) .nil)) .nil
noncomputable def ZeR:ISs:=.cons (.expr (.call 5 (.var 1) (.cons (.var 2) .nil))) ZeQ
noncomputable def ZeS:ISs:=.cons (.expr (.call 2 (.var 4) (.cons (.var 3) .nil))) .nil
noncomputable def Zhf:ISs:=.cons (.for_ (.nm 4) (.seq (.var 2)) ZeS) ZeR
noncomputable def Zhg:ISs:=.cons (.set 3 (.comp ["island"] [] (.seq (.var 1)) (.nm 0) .none (.ix (.var 0) (.int 0)))) Zhf
noncomputable def Zhh:ISs:=.cons (.expr (.call 4 (.var 0) (.cons (.var 1) (.cons (.comp ["ferry"] [] (.seq (.var 2)) (.nm 0) .none (.ix (.var 0) (.int 0))) .nil)))) Zhg
noncomputable def Zhi:ISs:=.cons (.expr (.call 3 (.var 2) .nil)) Zhh
noncomputable def ZlK:ISs:=.cons .never .nil
noncomputable def Zhj:ISs:=.cons (.ite (.cmp .Gt (.bi .len (.var 2) .nil) (.glb "MOST_FERRIES" 6)) ZlK .nil) Zhi
noncomputable def ZlL:ISs:=.cons .never .nil
noncomputable def Zhk:ISs:=.cons (.ite (.cmp .Gt (.bi .len (.var 1) .nil) (.glb "MOST_ISLANDS" 5)) ZlL .nil) Zhj
noncomputable def ZlM:ISs:=.cons .never .nil
noncomputable def Zhl:ISs:=.cons (.ite (.not (.call 1 (.var 0) .nil)) ZlM .nil) Zhk
noncomputable abbrev ZdO:ISs:=Zhl
noncomputable def Zki:GI:={bl:=GB,gl:=GL,fns:=["frozen","is_width","refuse_ferry","refuse_ferry_names","refuse_islands","refuse_wrong_ends"]}
theorem ZlZ:chkSs Zki (Z00 Z41) ["width","islands","ferries","island_names","ferry"] ZdO (Z01 Z41)=true:=by decide+kernel
noncomputable def ZbN:ISs:=.cons .never .nil
noncomputable def Z6X:ISs:=.cons (.ret (.var 2)) .nil
noncomputable def Z6Y:ISs:=.cons (.ite (.cmp .Eq (.ix (.var 2) (.int 0)) (.var 1)) Z6X .nil) .nil
noncomputable def Z6Z:ISs:=.cons (.for_ (.nm 2) (.seq (.var 0)) Z6Y) ZbN
noncomputable abbrev Z3P:ISs:=Z6Z
noncomputable def Z8B:GI:={bl:=GB,gl:=GL,fns:=[]}
theorem ZbS:chkSs Z8B (Z00 Z0z) ["row","name","one"] Z3P (Z01 Z0z)=true:=by decide+kernel
noncomputable def Z89:ISs:=.cons (.ret (.call 0 (.ix (.var 0) (.int 1)) (.cons (.var 1) .nil))) .nil
noncomputable abbrev Z4E:ISs:=Z89
noncomputable def Za5:GI:={bl:=GB,gl:=GL,fns:=["one_called"]}
theorem ZcU:chkSs Za5 (Z00 Z0L) ["world","name"] Z4E (Z01 Z0L)=true:=by decide+kernel
noncomputable def Z9L:ISs:=.cons (.ret (.call 0 (.ix (.var 0) (.int 2)) (.cons (.var 1) .nil))) .nil
noncomputable abbrev Z6B:ISs:=Z9L
noncomputable def Zbk:GI:={bl:=GB,gl:=GL,fns:=["one_called"]}
theorem Ze6:chkSs Zbk (Z00 Z0Z) ["world","name"] Z6B (Z01 Z0Z)=true:=by decide+kernel
noncomputable def Z5P:ISs:=.cons (.ret (.tup (.cons (.var 1) (.cons (.var 2) (.cons (.var 3) (.cons (.var 4) .nil)))))) .nil
noncomputable def Z5Q:ISs:=.cons (.set 4 (.bi .dictL (.comp ["ferry"] [] (.seq (.ix (.var 0) (.int 2))) (.nm 0) .none (.tup (.cons (.ix (.var 0) (.int 0)) (.cons (.int 0) .nil)))) .nil)) Z5P
noncomputable def Z5R:ISs:=.cons (.set 3 (.bi .dictL (.comp ["ferry"] [] (.seq (.ix (.var 0) (.int 2))) (.nm 0) .none (.tup (.cons (.ix (.var 0) (.int 0)) (.cons (.lst .nil) .nil)))) .nil)) Z5Q
noncomputable def Z5S:ISs:=.cons (.set 2 (.bi .dictL (.comp ["island"] [] (.seq (.ix (.var 0) (.int 1))) (.nm 0) .none (.tup (.cons (.ix (.var 0) (.int 0)) (.cons (.bi .dict (.ix (.var 0) (.int 1)) .nil) .nil)))) .nil)) Z5R
noncomputable def Z5T:ISs:=.cons (.set 1 (.bi .dictL (.comp ["island"] [] (.seq (.ix (.var 0) (.int 1))) (.nm 0) .none (.tup (.cons (.ix (.var 0) (.int 0)) (.cons (.int 0) .nil)))) .nil)) Z5S
noncomputable abbrev Z3m:ISs:=Z5T
noncomputable def Z7v:GI:={bl:=GB,gl:=GL,fns:=[]}
theorem ZaD:chkSs Z7v (Z00 Z0t) ["world","numbers","words","given","taken"] Z3m (Z01 Z0t)=true:=by decide+kernel
noncomputable def Zba:ISs:=.cons (.ret (.tup (.cons (.bi .dict (.ix (.var 0) (.int 0)) .nil) (.cons (.var 1) (.cons (.var 2) (.cons (.bi .dict (.ix (.var 0) (.int 3)) .nil) .nil)))))) .nil
noncomputable def Zbb:ISs:=.cons (.set 2 (.bi .dictL (.comp ["name"] [0] (.seq (.ix (.var 0) (.int 2))) (.nm 0) .none (.tup (.cons (.var 0) (.cons (.bi .list (.ix (.ix (.var 1) (.int 2)) (.var 0)) .nil) .nil)))) .nil)) Zba
noncomputable def Zbc:ISs:=.cons (.set 1 (.bi .dictL (.comp ["name"] [0] (.seq (.ix (.var 0) (.int 1))) (.nm 0) .none (.tup (.cons (.var 0) (.cons (.bi .dict (.ix (.ix (.var 1) (.int 1)) (.var 0)) .nil) .nil)))) .nil)) Zbb
noncomputable abbrev Z7J:ISs:=Zbc
noncomputable def Zdf:GI:={bl:=GB,gl:=GL,fns:=[]}
theorem ZfN:chkSs Zdf (Z00 Z1g) ["stand","words","given"] Z7J (Z01 Z1g)=true:=by decide+kernel
noncomputable def ZaQ:ISs:=.cons (.ret (.call 1 (.ix (.var 0) (.int 0)) (.cons (.ix (.call 0 (.var 0) (.cons (.var 2) .nil)) (.int 2)) (.cons (.ix (.ix (.var 1) (.int 0)) (.var 2)) (.cons (.ix (.ix (.var 1) (.int 1)) (.var 2)) .nil))))) .nil
noncomputable abbrev Z7E:ISs:=ZaQ
noncomputable def Zda:GI:={bl:=GB,gl:=GL,fns:=["island_of","wish"]}
theorem ZfI:chkSs Zda (Z00 Z1b) ["world","stand","name"] Z7E (Z01 Z1b)=true:=by decide+kernel
noncomputable def ZcD:ISs:=.cons (.ret (.cmp .Lt (.var 3) (.call 1 (.ix (.call 0 (.var 0) (.cons (.ix (.var 2) (.int 1)) .nil)) (.int 3)) .nil))) .nil
noncomputable def ZcE:ISs:=.cons (.ret (.cmp .Gt (.var 3) (.int 0))) .nil
noncomputable def Z9N:ISs:=.cons (.ite (.cmp .Eq (.ix (.var 2) (.int 0)) (.str "take")) ZcE .nil) ZcD
noncomputable def Z9O:ISs:=.cons (.set 3 (.bin .Sub (.bi .len (.ix (.ix (.var 1) (.int 2)) (.ix (.var 2) (.int 1))) .nil) (.ix (.ix (.var 1) (.int 3)) (.ix (.var 2) (.int 1))))) Z9N
noncomputable def Z9P:ISs:=.cons (.ret (.bl true)) .nil
noncomputable def ZcF:ISs:=.cons (.ite (.cmp .Eq (.ix (.var 2) (.int 0)) (.str "own")) Z9P .nil) Z9O
noncomputable abbrev Z9C:ISs:=ZcF
noncomputable def Zf4:GI:={bl:=GB,gl:=GL,fns:=["ferry_of","two_to"]}
theorem ZhG:chkSs Zf4 (Z00 Z1L) ["world","stand","asked","under_way"] Z9C (Z01 Z1L)=true:=by decide+kernel
noncomputable def Z9M:ISs:=.cons (.put (.ix (.var 4) (.int 1)) (.var 2) (.ix (.var 8) (.int 1))) .nil
noncomputable def Zb2:ISs:=.cons (.put (.ix (.var 4) (.int 0)) (.var 2) (.ix (.var 8) (.int 0))) Z9M
noncomputable def Zb3:ISs:=.cons (.set 8 (.call 0 (.ix (.var 0) (.int 0)) (.cons (.var 7) (.cons (.ix (.ix (.var 1) (.int 0)) (.var 2)) (.cons (.ix (.ix (.var 1) (.int 1)) (.var 2)) (.cons (.var 5) .nil)))))) Zb2
noncomputable def Z7M:ISs:=.cons (.set 7 (.ix (.call 1 (.var 0) (.cons (.var 2) .nil)) (.int 2))) Zb3
noncomputable def Zb4:ISs:=.cons (.expr (.mt .append (.ix (.ix (.var 4) (.int 2)) (.ix (.var 3) (.int 1))) (.cons (.ix (.var 3) (.int 2)) .nil))) .nil
noncomputable def Z3G:ISs:=.cons (.ite (.cmp .Eq (.ix (.var 3) (.int 0)) (.str "give")) Zb4 .nil) Z7M
noncomputable def Zb5:ISs:=.cons (.put (.ix (.var 4) (.int 3)) (.var 6) (.bin .Add (.ix (.ix (.var 1) (.int 3)) (.var 6)) (.int 1))) .nil
noncomputable def Zb6:ISs:=.cons (.set 5 (.ix (.ix (.ix (.var 1) (.int 2)) (.var 6)) (.ix (.ix (.var 1) (.int 3)) (.var 6)))) Zb5
noncomputable def Zb7:ISs:=.cons (.set 6 (.ix (.var 3) (.int 1))) Zb6
noncomputable def Zb8:ISs:=.cons (.ite (.cmp .Eq (.ix (.var 3) (.int 0)) (.str "take")) Zb7 .nil) Z3G
noncomputable def Zb9:ISs:=.cons (.set 5 .non) Zb8
noncomputable abbrev Z7I:ISs:=Zb9
noncomputable def Zde:GI:={bl:=GB,gl:=GL,fns:=["after","island_of"]}
theorem ZfM:chkSs Zde (Z00 Z1f) ["world","stand","name","asked","behind","word","ferry","steps","went"] Z7I (Z01 Z1f)=true:=by decide+kernel
noncomputable def Z9p:ISs:=.cons (.ret (.tup (.cons (.var 2) (.cons (.var 3) .nil)))) .nil
noncomputable def Z9q:ISs:=.cons (.expr (.mt .append (.var 3) (.cons (.ix (.var 4) (.int 0)) .nil))) .nil
noncomputable def Z9r:ISs:=.cons (.expr (.call 2 (.var 0) (.cons (.var 1) (.cons (.ix (.var 4) (.int 0)) (.cons (.var 5) (.cons (.var 2) .nil)))))) Z9q
noncomputable def Z9s:ISs:=.cons (.ite (.and (.cmp .IsNot (.var 5) .non) (.call 0 (.var 0) (.cons (.var 1) (.cons (.var 5) .nil)))) Z9r .nil) .nil
noncomputable def Z9t:ISs:=.cons (.set 5 (.call 3 (.var 0) (.cons (.var 1) (.cons (.ix (.var 4) (.int 0)) .nil)))) Z9s
noncomputable def Z9u:ISs:=.cons (.for_ (.nm 4) (.seq (.ix (.var 0) (.int 1))) Z9t) Z9p
noncomputable def Z9v:ISs:=.cons (.set 3 (.lst .nil)) Z9u
noncomputable def Z9w:ISs:=.cons (.set 2 (.call 1 (.var 1) .nil)) Z9v
noncomputable abbrev Z6y:ISs:=Z9w
noncomputable def Zbh:GI:={bl:=GB,gl:=GL,fns:=["can_be","copy_of","do_step","wish_of"]}
theorem Ze3:chkSs Zbh (Z00 Z0W) ["world","stand","behind","names","island","asked"] Z6y (Z01 Z0W)=true:=by decide+kernel
noncomputable def Z7Y:ISs:=.cons (.ret (.var 3)) .nil
noncomputable def Z7Z:ISs:=.cons (.set 4 (.bi .list (.var 2) .nil)) .nil
noncomputable def Z80:ISs:=.cons (.set 3 (.bin .Add (.var 3) (.int 1))) Z7Z
noncomputable def Z81:ISs:=.cons (.ite (.cmp .Eq (.bi .len (.var 4) .nil) (.int 0)) Z80 .nil) .nil
noncomputable def Z82:ISs:=.cons (.expr (.mt .remove (.var 4) (.cons (.var 5) .nil))) Z81
noncomputable def Z83:ISs:=.cons (.ite (.cmp .In (.var 5) (.var 4)) Z82 .nil) .nil
noncomputable def Z84:ISs:=.cons (.for_ (.nm 5) (.seq (.var 1)) Z83) Z7Y
noncomputable def Z85:ISs:=.cons (.set 4 (.bi .list (.var 2) .nil)) Z84
noncomputable def Z86:ISs:=.cons (.set 3 (.int 0)) Z85
noncomputable def Z87:ISs:=.cons (.set 2 (.comp ["island"] [] (.seq (.ix (.var 0) (.int 1))) (.nm 0) .none (.ix (.var 0) (.int 0)))) Z86
noncomputable abbrev Z4D:ISs:=Z87
noncomputable def Za4:GI:={bl:=GB,gl:=GL,fns:=[]}
theorem ZcT:chkSs Za4 (Z00 Z0K) ["world","names","every","ended","missing","name"] Z4D (Z01 Z0K)=true:=by decide+kernel
noncomputable def ZeG:ISs:=.cons (.ret (.var 3)) .nil
noncomputable def ZeH:ISs:=.cons (.expr (.mt .append (.ix (.var 3) (.var 6)) (.cons (.tup (.cons (.ix (.ix (.var 2) (.int 0)) (.var 6)) (.cons (.bi .dict (.ix (.ix (.var 2) (.int 1)) (.var 6)) .nil) .nil))) .nil))) .nil
noncomputable def ZeI:ISs:=.cons (.for_ (.nm 6) (.seq (.ix (.var 5) (.int 1))) ZeH) .nil
noncomputable def ZeJ:ISs:=.cons (.set 2 (.ix (.var 5) (.int 0))) ZeI
noncomputable def ZeK:ISs:=.cons (.set 5 (.call 1 (.var 0) (.cons (.var 2) .nil))) ZeJ
noncomputable def ZeL:ISs:=.cons (.for_ (.nm 4) (.rng (.var 1)) ZeK) ZeG
noncomputable def ZeM:ISs:=.cons (.set 3 (.bi .dictL (.comp ["island"] [] (.seq (.ix (.var 0) (.int 1))) (.nm 0) .none (.tup (.cons (.ix (.var 0) (.int 0)) (.cons (.lst (.cons (.tup (.cons (.int 0) (.cons (.bi .dict (.ix (.var 0) (.int 1)) .nil) .nil))) .nil)) .nil)))) .nil)) ZeL
noncomputable def ZeN:ISs:=.cons (.set 2 (.call 0 (.var 0) .nil)) ZeM
noncomputable abbrev ZbL:ISs:=ZeN
noncomputable def Zi3:GI:={bl:=GB,gl:=GL,fns:=["first_stand","round_of"]}
theorem Zj8:chkSs Zi3 (Z00 Z2v) ["world","n","stand","rows","k","told","name"] ZbL (Z01 Z2v)=true:=by decide+kernel
noncomputable def Z4v:ISs:=.cons (.ret (.bi .dictL (.comp ["name"] [2] (.seq (.var 2)) (.nm 0) .none (.tup (.cons (.var 0) (.cons (.bin .Sub (.bi .len (.ix (.var 1) (.var 0)) .nil) (.int 1)) .nil)))) .nil)) .nil
noncomputable def Z4w:ISs:=.cons (.set 2 (.call 0 (.var 0) (.cons (.var 1) .nil))) Z4v
noncomputable abbrev Z2Y:ISs:=Z4w
noncomputable def Z6f:GI:={bl:=GB,gl:=GL,fns:=["track"]}
theorem Z9X:chkSs Z6f (Z00 Z0k) ["world","n","rows"] Z2Y (Z01 Z0k)=true:=by decide+kernel
noncomputable def Z2z:ISs:=.cons (.ret (.bin .Add (.mxd (.comp ["ferry"] [] (.seq (.ix (.var 0) (.int 2))) (.nm 0) .none (.ix (.var 0) (.int 4)))) (.int 2))) .nil
noncomputable abbrev Z1w:ISs:=Z2z
noncomputable def Z37:GI:={bl:=GB,gl:=GL,fns:=[]}
theorem Z5r:chkSs Z37 (Z00 Z0a) ["world"] Z1w (Z01 Z0a)=true:=by decide+kernel
noncomputable def ZcG:ISs:=.cons (.ret (.tup (.cons (.call 0 (.var 0) (.cons (.var 2) .nil)) (.cons (.call 0 (.var 0) (.cons (.bi .len (.var 1) .nil) .nil)) .nil)))) .nil
noncomputable def ZcH:ISs:=.cons (.set 2 (.bin .FloorDiv (.call 1 (.var 0) (.cons (.var 1) .nil)) (.call 2 (.var 0) .nil))) ZcG
noncomputable abbrev Z9D:ISs:=ZcH
noncomputable def Zf5:GI:={bl:=GB,gl:=GL,fns:=["steps_behind","stretches","stretches_a_round"]}
theorem ZhH:chkSs Zf5 (Z00 Z1M) ["world","names","rounds"] Z9D (Z01 Z1M)=true:=by decide+kernel
noncomputable def Z4V:ISs:=.cons (.ret (.int 0)) .nil
noncomputable def Z4W:ISs:=.cons (.ret (.ix (.var 0) (.var 1))) .nil
noncomputable def Z4X:ISs:=.cons (.ite (.cmp .Lt (.var 1) (.bi .len (.var 0) .nil)) Z4W .nil) Z4V
noncomputable abbrev Z32:ISs:=Z4X
noncomputable def Z6j:GI:={bl:=GB,gl:=GL,fns:=[]}
theorem Za1:chkSs Z6j (Z00 Z0o) ["script","k"] Z32 (Z01 Z0o)=true:=by decide+kernel
noncomputable def Z76:ISs:=.cons (.ret (.and (.bi .isinst (.var 0) (.cons (.ty .int) .nil)) (.not (.bi .isinst (.var 0) (.cons (.ty .bool) .nil))))) .nil
noncomputable abbrev Z3R:ISs:=Z76
noncomputable def Z8D:GI:={bl:=GB,gl:=GL,fns:=[]}
theorem ZbU:chkSs Z8D (Z00 Z0B) ["found"] Z3R (Z01 Z0B)=true:=by decide+kernel
noncomputable def Z8r:ISs:=.cons (.ret (.bin .Add (.bin .Add (.bin .Mult (.ix (.var 2) (.var 3)) (.var 6)) (.var 7)) (.bin .Mult (.ix (.var 2) (.var 3)) (.bin .Sub (.bin .Sub (.var 5) (.int 1)) (.var 6))))) .nil
noncomputable def Z8s:ISs:=.cons (.set 7 (.ix (.var 2) (.bin .Mod (.bin .Add (.bin .FloorDiv (.var 0) (.int 4992)) (.bin .Mult (.int 7) (.var 1))) (.int 26)))) Z8r
noncomputable def Z8t:ISs:=.cons (.set 6 (.bin .Mod (.bin .Mod (.bin .FloorDiv (.var 0) (.int 24)) (.int 8)) (.var 5))) Z8s
noncomputable def Z8u:ISs:=.cons (.set 5 (.bin .Add (.int 1) (.bin .Mod (.bin .FloorDiv (.var 0) (.int 3)) (.int 8)))) Z8t
noncomputable def Z8v:ISs:=.cons (.ret (.bin .Add (.bin .Mult (.ix (.var 2) (.var 3)) (.bin .Add (.int 1) (.bin .Mod (.bin .Add (.bin .Mult (.int 3) (.var 1)) (.bin .FloorDiv (.var 0) (.int 192))) (.int 7)))) (.bin .Mult (.var 4) (.bin .FloorDiv (.var 1) (.int 7))))) .nil
noncomputable def Z8w:ISs:=.cons (.set 4 (.ix (.var 2) (.bin .Mod (.bin .Add (.bin .Add (.var 3) (.int 1)) (.bin .Mod (.bin .FloorDiv (.var 0) (.int 4992)) (.int 25))) (.int 26)))) Z8v
noncomputable def Z8x:ISs:=.cons (.ite (.cmp .Eq (.bin .Mod (.var 0) (.int 3)) (.int 2)) Z8w .nil) Z8u
noncomputable def Z8y:ISs:=.cons (.set 3 (.bin .Mod (.bin .FloorDiv (.var 0) (.int 192)) (.int 26))) Z8x
noncomputable def Z8z:ISs:=.cons (.set 2 (.str "abcdefghijklmnopqrstuvwxyz")) Z8y
noncomputable abbrev Z4H:ISs:=Z8z
noncomputable def Za8:GI:={bl:=GB,gl:=GL,fns:=[]}
theorem ZcY:chkSs Za8 (Z00 Z0O) ["number","k","letters","fill","other","long","at","sign"] Z4H (Z01 Z0O)=true:=by decide+kernel
noncomputable def Z8a:ISs:=.cons (.ret (.tup (.cons (.str "plus") (.cons (.var 2) (.cons (.tup (.cons (.str "var") (.cons (.ix (.var 1) (.bin .Mod (.bin .FloorDiv (.var 0) (.int 224)) (.int 2))) .nil))) .nil))))) .nil
noncomputable def Z8b:ISs:=.cons (.ret (.tup (.cons (.str "pick") (.cons (.tup (.cons (.str "less") (.cons (.var 2) (.cons (.var 3) .nil)))) (.cons (.var 3) (.cons (.var 2) .nil)))))) .nil
noncomputable def Z8c:ISs:=.cons (.ite (.cmp .Eq (.bin .Mod (.var 0) (.int 8)) (.int 5)) Z8b .nil) Z8a
noncomputable def Z8d:ISs:=.cons (.ret (.tup (.cons (.ix (.lst (.cons (.str "plus") (.cons (.str "minus") (.cons (.str "times") .nil)))) (.bin .Sub (.bin .Mod (.var 0) (.int 8)) (.int 2))) (.cons (.var 2) (.cons (.var 3) .nil))))) .nil
noncomputable def Z8e:ISs:=.cons (.ite (.cmp .Lt (.bin .Mod (.var 0) (.int 8)) (.int 5)) Z8d .nil) Z8c
noncomputable def Z8f:ISs:=.cons (.ret (.ix (.lst (.cons (.var 2) (.cons (.var 3) .nil))) (.bin .Mod (.var 0) (.int 2)))) .nil
noncomputable def Z8g:ISs:=.cons (.ite (.cmp .Lt (.bin .Mod (.var 0) (.int 8)) (.int 2)) Z8f .nil) Z8e
noncomputable def Z8h:ISs:=.cons (.set 3 (.tup (.cons (.str "num") (.cons (.ix (.lst (.cons (.bin .Sub (.bin .Mod (.bin .FloorDiv (.var 0) (.int 16)) (.int 7)) (.int 3)) (.cons (.bin .Mod (.bin .Mult (.bin .FloorDiv (.var 0) (.int 16)) (.int 1000000007)) (.bin .Pow (.int 10) (.int 20))) .nil))) (.bin .Mod (.bin .FloorDiv (.var 0) (.int 112)) (.int 2))) .nil)))) Z8g
noncomputable def Z8i:ISs:=.cons (.set 2 (.tup (.cons (.str "var") (.cons (.ix (.var 1) (.bin .Mod (.bin .FloorDiv (.var 0) (.int 8)) (.int 2))) .nil)))) Z8h
noncomputable abbrev Z4F:ISs:=Z8i
noncomputable def Za6:GI:={bl:=GB,gl:=GL,fns:=[]}
theorem ZcW:chkSs Za6 (Z00 Z0M) ["number","names","one","other"] Z4F (Z01 Z0M)=true:=by decide+kernel
noncomputable def Z8j:ISs:=.cons (.ret (.tup (.cons (.str "put") (.cons (.ix (.var 2) (.bin .Mod (.bin .FloorDiv (.var 0) (.int 8)) (.int 2))) (.cons (.call 0 (.var 7) (.cons (.var 2) .nil)) .nil))))) .nil
noncomputable def Z8k:ISs:=.cons (.ret (.tup (.cons (.str "jump") (.cons (.call 0 (.var 7) (.cons (.var 2) .nil)) (.cons (.bin .Mod (.bin .FloorDiv (.var 0) (.int 8)) (.bin .Add (.var 4) (.int 1))) .nil))))) .nil
noncomputable def Z4R:ISs:=.cons (.ite (.cmp .Eq (.bin .Mod (.var 0) (.int 8)) (.int 7)) Z8k .nil) Z8j
noncomputable def Z8l:ISs:=.cons (.ret (.tup (.cons (.str "give") (.cons (.ix (.var 6) (.bin .Mod (.bin .FloorDiv (.var 0) (.int 8)) (.bi .len (.var 6) .nil))) (.cons (.call 0 (.var 7) (.cons (.var 2) .nil)) .nil))))) .nil
noncomputable def Z4S:ISs:=.cons (.ite (.and (.cmp .Lt (.bin .Mod (.var 0) (.int 8)) (.int 6)) (.cmp .NotEq (.var 6) (.lst .nil))) Z8l .nil) Z4R
noncomputable def Z8m:ISs:=.cons (.ret (.tup (.cons (.str "take") (.cons (.ix (.var 5) (.bin .Mod (.bin .FloorDiv (.var 0) (.int 8)) (.bi .len (.var 5) .nil))) (.cons (.ix (.var 2) (.bin .Mod (.var 7) (.int 2))) .nil))))) .nil
noncomputable def Z8n:ISs:=.cons (.ite (.and (.cmp .Lt (.bin .Mod (.var 0) (.int 8)) (.int 3)) (.cmp .NotEq (.var 5) (.lst .nil))) Z8m .nil) Z4S
noncomputable def Z8o:ISs:=.cons (.set 7 (.bin .FloorDiv (.var 0) (.int 128))) Z8n
noncomputable def Z8p:ISs:=.cons (.set 6 (.comp ["ferry"] [1] (.seq (.var 3)) (.nm 0) (.some (.cmp .Eq (.ix (.var 0) (.int 1)) (.var 1))) (.ix (.var 0) (.int 0)))) Z8o
noncomputable def Z8q:ISs:=.cons (.set 5 (.comp ["ferry"] [1] (.seq (.var 3)) (.nm 0) (.some (.cmp .Eq (.ix (.var 0) (.int 2)) (.var 1))) (.ix (.var 0) (.int 0)))) Z8p
noncomputable abbrev Z4G:ISs:=Z8q
noncomputable def Za7:GI:={bl:=GB,gl:=GL,fns:=["_law_term"]}
theorem ZcX:chkSs Za7 (Z00 Z0N) ["number","name","names","ferries","many","takes","gives","rest"] Z4G (Z01 Z0N)=true:=by decide+kernel
noncomputable def Z35:ISs:=.cons (.ret (.tup (.cons (.var 5) (.cons (.var 7) (.cons (.var 10) .nil))))) .nil
noncomputable def Z4T:ISs:=.cons (.expr (.mt .append (.var 10) (.cons (.tup (.cons (.str "jump") (.cons (.tup (.cons (.str "num") (.cons (.int 1) .nil))) (.cons (.int 0) .nil)))) .nil))) .nil
noncomputable def Z4U:ISs:=.cons (.ite (.cmp .Eq (.var 9) (.int 1)) Z4T .nil) Z35
noncomputable def Z64:ISs:=.cons (.set 0 (.bin .FloorDiv (.var 0) (.bin .Pow (.int 10) (.int 8)))) .nil
noncomputable def Z65:ISs:=.cons (.expr (.mt .append (.var 10) (.cons (.call 1 (.bin .Mod (.var 0) (.bin .Pow (.int 10) (.int 8))) (.cons (.var 5) (.cons (.var 6) (.cons (.var 3) (.cons (.bin .Add (.var 8) (.var 9)) .nil))))) .nil))) Z64
noncomputable def Z66:ISs:=.cons (.for_ (.nm 11) (.rng (.var 8)) Z65) Z4U
noncomputable def Z67:ISs:=.cons (.set 10 (.lst .nil)) Z66
noncomputable def Z68:ISs:=.cons (.set 0 (.bin .FloorDiv (.var 0) (.int 112))) Z67
noncomputable def Z69:ISs:=.cons (.set 9 (.bi .int (.cmp .Lt (.bin .Mod (.bin .FloorDiv (.var 0) (.int 28)) (.int 4)) (.var 4)) .nil)) Z68
noncomputable def Z6a:ISs:=.cons (.set 8 (.bin .Mod (.bin .FloorDiv (.var 0) (.int 4)) (.int 7))) Z69
noncomputable def Z6b:ISs:=.cons (.set 7 (.lst (.cons (.tup (.cons (.ix (.var 6) (.int 0)) (.cons (.bin .Mod (.var 0) (.int 2)) .nil))) (.cons (.tup (.cons (.ix (.var 6) (.int 1)) (.cons (.bin .Mod (.bin .FloorDiv (.var 0) (.int 2)) (.int 2)) .nil))) .nil)))) Z6a
noncomputable def Z6c:ISs:=.cons (.set 6 (.lst (.cons (.call 0 (.var 2) (.cons (.int 9) .nil)) (.cons (.call 0 (.var 2) (.cons (.int 10) .nil)) .nil)))) Z6b
noncomputable def Z6d:ISs:=.cons (.set 5 (.call 0 (.var 2) (.cons (.var 1) .nil))) Z6c
noncomputable abbrev Z3o:ISs:=Z6d
noncomputable def Z7x:GI:={bl:=GB,gl:=GL,fns:=["_law_name","_law_step"]}
theorem ZaF:chkSs Z7x (Z00 Z0v) ["number","k","naming","ferries","around","name","names","pairs","many","ending","steps","j"] Z3o (Z01 Z0v)=true:=by decide+kernel
noncomputable def Z4M:ISs:=.cons (.ret (.tup (.cons (.var 4) (.cons (.var 12) (.cons (.var 6) .nil))))) .nil
noncomputable def Z4N:ISs:=.cons (.expr (.mt .append (.var 12) (.cons (.call 1 (.bin .Mod (.call 0 (.var 0) (.cons (.bin .Add (.int 6) (.var 7)) .nil)) (.bin .Pow (.int 10) (.int 60))) (.cons (.var 7) (.cons (.var 3) (.cons (.var 6) (.cons (.var 1) .nil))))) .nil))) .nil
noncomputable def Z4O:ISs:=.cons (.for_ (.nm 7) (.rng (.var 5)) Z4N) Z4M
noncomputable def Z4P:ISs:=.cons (.set 12 (.lst .nil)) Z4O
noncomputable def Z4Q:ISs:=.cons (.expr (.mt .append (.var 6) (.cons (.tup (.cons (.call 2 (.var 3) (.cons (.bin .Add (.int 5) (.var 7)) .nil)) (.cons (.ix (.var 11) (.int 0)) (.cons (.ix (.var 11) (.int 1)) (.cons (.bin .Mod (.bin .FloorDiv (.var 8) (.int 20)) (.int 4)) (.cons (.bin .Add (.int 1) (.bin .Mod (.bin .FloorDiv (.var 8) (.int 80)) (.int 3))) .nil)))))) .nil))) .nil
noncomputable def Z5U:ISs:=.cons (.set 11 (.tup (.cons (.call 2 (.var 3) (.cons (.var 9) .nil)) (.cons (.call 2 (.var 3) (.cons (.var 10) .nil)) .nil)))) Z4Q
noncomputable def Z5V:ISs:=.cons (.set 10 (.bin .Mod (.bin .Add (.bin .Add (.var 9) (.int 1)) (.bin .Mod (.bin .FloorDiv (.var 8) (.int 5)) (.bin .Sub (.var 5) (.int 1)))) (.var 5))) Z5U
noncomputable def Z5W:ISs:=.cons (.set 9 (.bin .Mod (.var 8) (.var 5))) Z5V
noncomputable def Z5X:ISs:=.cons (.set 8 (.bin .FloorDiv (.bin .Mod (.call 0 (.var 0) (.cons (.bin .Add (.int 2) (.bin .Mod (.var 7) (.int 4))) .nil)) (.bin .Pow (.int 10) (.int 15))) (.ix (.lst (.cons (.int 1) (.cons (.int 1000000) .nil))) (.bin .FloorDiv (.var 7) (.int 4))))) Z5W
noncomputable def Z5Y:ISs:=.cons (.for_ (.nm 7) (.rng (.bi .min (.bin .Sub (.bin .Mult (.int 6) (.var 5)) (.int 6)) (.cons (.bin .Mod (.bin .FloorDiv (.var 2) (.int 2048)) (.int 7)) .nil))) Z5X) Z4P
noncomputable def Z5Z:ISs:=.cons (.set 6 (.lst .nil)) Z5Y
noncomputable def Z60:ISs:=.cons (.set 5 (.bin .Add (.int 1) (.bin .Mod (.var 2) (.int 5)))) Z5Z
noncomputable def Z61:ISs:=.cons (.set 4 (.ix (.lst (.cons (.bin .Add (.int 1) (.bin .Mod (.bin .FloorDiv (.var 2) (.int 16)) (.int 64))) (.cons (.bin .Add (.int 1) (.bin .Mod (.bin .FloorDiv (.var 2) (.int 16)) (.int 5))) .nil))) (.bin .Mod (.bin .FloorDiv (.var 2) (.int 1024)) (.int 2)))) Z60
noncomputable def Z62:ISs:=.cons (.set 3 (.bin .Mod (.call 0 (.var 0) (.cons (.int 1) .nil)) (.bin .Pow (.int 10) (.int 9)))) Z61
noncomputable def Z63:ISs:=.cons (.set 2 (.bin .Mod (.call 0 (.var 0) (.cons (.int 0) .nil)) (.bin .Pow (.int 10) (.int 9)))) Z62
noncomputable abbrev Z3n:ISs:=Z63
noncomputable def Z7w:GI:={bl:=GB,gl:=GL,fns:=["_law_cell_at","_law_island","_law_name"]}
theorem ZaE:chkSs Z7w (Z00 Z0u) ["script","around","head","naming","width","many","ferries","k","number","giver","taker","ends","islands"] Z3n (Z01 Z0u)=true:=by decide+kernel
noncomputable def Z7g:ISs:=.cons (.ret (.var 2)) .nil
noncomputable def Z7h:ISs:=.cons (.expr (.mt .append (.var 2) (.cons (.tup (.cons (.ix (.ix (.var 1) (.bin .Mod (.var 3) (.bi .len (.var 1) .nil))) (.int 0)) (.cons (.bin .Mod (.bin .FloorDiv (.var 3) (.bi .len (.var 1) .nil)) (.bin .Pow (.int 10) (.int 30))) .nil))) .nil))) .nil
noncomputable def Z7i:ISs:=.cons (.for_ (.nm 3) (.seq (.var 0)) Z7h) Z7g
noncomputable def Z7j:ISs:=.cons (.set 2 (.lst .nil)) Z7i
noncomputable abbrev Z3T:ISs:=Z7j
noncomputable def Z8F:GI:={bl:=GB,gl:=GL,fns:=[]}
theorem ZbW:chkSs Z8F (Z00 Z0D) ["cells","islands","rings","cell"] Z3T (Z01 Z0D)=true:=by decide+kernel
noncomputable def Z77:ISs:=.cons (.ret (.var 4)) .nil
noncomputable def Z78:ISs:=.cons (.put (.var 4) (.var 8) (.bin .Add (.ix (.var 4) (.var 8)) (.int 1))) .nil
noncomputable def Z79:ISs:=.cons (.for_ (.nm 8) (.seq (.var 7)) Z78) .nil
noncomputable def Z7a:ISs:=.cons (.asg (.cons (.nm 3) (.cons (.nm 7) .nil)) (.call 1 (.var 0) (.cons (.var 3) .nil))) Z79
noncomputable def Z7b:ISs:=.cons (.for_ (.nm 6) (.rng (.var 2)) Z7a) Z77
noncomputable def Z7c:ISs:=.cons (.put (.var 4) (.ix (.var 5) (.int 0)) (.int 0)) .nil
noncomputable def Z7d:ISs:=.cons (.for_ (.nm 5) (.seq (.var 1)) Z7c) Z7b
noncomputable def Z7e:ISs:=.cons (.set 4 .dic) Z7d
noncomputable def Z7f:ISs:=.cons (.set 3 (.call 0 (.var 0) .nil)) Z7e
noncomputable abbrev Z3S:ISs:=Z7f
noncomputable def Z8E:GI:={bl:=GB,gl:=GL,fns:=["first_stand","round_of"]}
theorem ZbV:chkSs Z8E (Z00 Z0C) ["world","islands","rounds","stand","done","island","k","names","name"] Z3S (Z01 Z0C)=true:=by decide+kernel
noncomputable def Z9Q:ISs:=.cons (.ret (.cmp .Eq (.comp ["name"] [0] (.seq (.var 0)) (.nm 0) (.some (.not (.call 0 (.ix (.var 1) (.var 0)) .nil))) (.var 0)) (.lst .nil))) .nil
noncomputable def ZdT:ISs:=.cons (.ret (.bl false)) .nil
noncomputable def Z9R:ISs:=.cons (.ite (.or (.not (.bi .isinst (.var 0) (.cons (.ty .dict) .nil))) (.cmp .NotEq (.var 0) (.var 1))) ZdT .nil) Z9Q
noncomputable abbrev Z6C:ISs:=Z9R
noncomputable def Zbl:GI:={bl:=GB,gl:=GL,fns:=["_law_whole"]}
theorem Ze7:chkSs Zbl (Z00 Z10) ["found","due"] Z6C (Z01 Z10)=true:=by decide+kernel
noncomputable def Zhm:ISs:=.cons (.ret (.call 0 (.ix (.var 9) (.int 1)) (.cons (.call 2 (.var 4) (.cons (.var 2) (.cons (.bi .len (.var 5) .nil) .nil))) .nil))) .nil
noncomputable def Zhn:ISs:=.cons (.expr (.mt .dclear (.ix (.var 9) (.int 0)) .nil)) Zhm
noncomputable def ZlN:ISs:=.cons (.ret (.bl false)) .nil
noncomputable def Zho:ISs:=.cons (.ite (.not (.call 0 (.ix (.var 9) (.int 0)) (.cons (.var 10) .nil))) ZlN .nil) Zhn
noncomputable def Zhp:ISs:=.cons (.set 10 (.call 2 (.var 4) (.cons (.var 2) (.cons (.bin .FloorDiv (.call 6 (.var 4) (.cons (.bi .list (.var 5) .nil) .nil)) (.var 6)) .nil)))) Zho
noncomputable def Zoh:ISs:=.cons (.ret (.bl false)) .nil
noncomputable def ZjY:ISs:=.cons (.ite (.or (.not (.bi .isinst (.var 9) (.cons (.ty .tuple) .nil))) (.or (.cmp .NotEq (.bi .len (.var 9) .nil) (.int 2)) (.cmp .NotEq (.var 8) (.var 5)))) Zoh .nil) Zhp
noncomputable def ZjZ:ISs:=.cons (.set 9 (.call 4 (.var 4) (.cons (.var 8) .nil))) ZjY
noncomputable def Zk0:ISs:=.cons (.set 8 (.bi .list (.var 5) .nil)) ZjZ
noncomputable def Zk1:ISs:=.cons (.set 6 (.bi .max (.var 6) (.cons (.bin .Add (.int 2) (.ix (.var 7) (.int 4))) .nil))) .nil
noncomputable def Zk2:ISs:=.cons (.for_ (.nm 7) (.seq (.var 3)) Zk1) Zk0
noncomputable def Zk3:ISs:=.cons (.set 6 (.int 2)) Zk2
noncomputable def Zk4:ISs:=.cons (.set 5 (.comp ["ring"] [] (.seq (.call 1 (.sl (.var 0) (.some (.int 10)) (.some (.int 90))) (.cons (.var 2) .nil))) (.nm 0) .none (.ix (.var 0) (.int 0)))) Zk3
noncomputable def Zk5:ISs:=.cons (.set 4 (.call 5 (.var 1) (.cons (.bi .list (.var 2) .nil) (.cons (.bi .list (.var 3) .nil) .nil)))) Zk4
noncomputable def Zk6:ISs:=.cons (.asg (.cons (.nm 1) (.cons (.nm 2) (.cons (.nm 3) .nil))) (.call 3 (.var 0) (.cons (.int 3) .nil))) Zk5
noncomputable abbrev Zh9:ISs:=Zk6
noncomputable def ZoA:GI:={bl:=GB,gl:=GL,fns:=["_law_are","_law_rings","_law_steps","_law_things","bounds","made","stretches"]}
theorem Zot:chkSs ZoA (Z00 Z6n) ["script","width","islands","ferries","world","names","late","ferry","handed","found","least"] Zh9 (Z01 Z6n)=true:=by decide+kernel
@[seval]theorem szl:sizeLine=16777216:=by decide
@[seval]theorem na10:Int.natAbs 10=10:=rfl
@[seval]theorem na1:Int.natAbs 1=1:=rfl
@[seval]theorem na2:Int.natAbs 2=2:=rfl
@[seval]theorem at0{α:Type}{x:α}{xs:List α}:atI (x::xs) 0=some x:=by unfold atI ixN;simp
@[seval]theorem at1{α:Type}{x y:α}{xs:List α}:atI (x::y::xs) 1=some y:=Z2g (j:=1) (by rfl)
@[seval]theorem at2{α:Type}{x y z:α}{xs:List α}:atI (x::y::z::xs) 2=some z:=Z2g (j:=2) (by rfl)
@[seval]theorem at3{α:Type}{x y z u:α}{xs:List α}:atI (x::y::z::u::xs) 3=some u:=Z2g (j:=3) (by rfl)
@[seval]theorem at4{α:Type}{x y z u v:α}{xs:List α}:atI (x::y::z::u::v::xs) 4=some v:=Z2g (j:=4) (by rfl)
@[seval]theorem ZoI{a b:String}:(Y0Z a=Y0Z b)↔a=b:=by
 constructor
 ·intro h
  rw[Str.ofString_eq_toList,Str.ofString_eq_toList]at h
  have h1:a.toList.map Y3W=b.toList.map Y3W:=by
   have:=congrArg (λs:Str=>s.cps.toList) h
   simpa using this
  have inj:∀(xs ys:List Char),xs.map Y3W=ys.map Y3W->xs=ys:=by
   intro xs
   induction xs with
   |nil=>
    intro ys e
    cases ys with
    |nil=>rfl
    |cons _ _=>cases e
   |cons x r ih=>
    intro ys e
    cases ys with
    |nil=>cases e
    |cons y s=>
     rw[Y0h,Y0h]at e
     injection e with e1 e2
     rw[ih s e2,Char.toNat_inj.mp e1]
  exact String.toList_inj.mp (inj _ _ h1)
 ·intro h;rw[h]
theorem Z4e{c A B:Prop} [Decidable c] (h1:c->A)(h2:¬c->B):if c then A else B:=by
 split
 ·exact h1 ‹_›
 ·exact h2 ‹_›
@[seval]theorem isN0:Z8M .non=true:=rfl
@[seval]theorem isN1{b:Bool}:Z8M (.bl b)=false:=rfl
@[seval]theorem isN2{b:Int}:Z8M (.int b)=false:=rfl
@[seval]theorem isN3{b:Str}:Z8M (.str b)=false:=rfl
@[seval]theorem isN4{b:List MV}:Z8M (.tup b)=false:=rfl
@[seval]theorem isN5{b:Addr}:Z8M (.ref b)=false:=rfl
@[seval]theorem isN6{b:List MV}:Z8M (.frl b)=false:=rfl
@[seval]theorem isB0{c:Bool}:isBl c .non=false:=rfl
@[seval]theorem isB1{b c:Bool}:isBl c (.bl b)=decide (b=c):=rfl
@[seval]theorem isB2{c:Bool}{b:Int}:isBl c (.int b)=false:=rfl
@[seval]theorem isB3{c:Bool}{b:Str}:isBl c (.str b)=false:=rfl
@[seval]theorem isB4{c:Bool}{b:List MV}:isBl c (.tup b)=false:=rfl
@[seval]theorem isB5{c:Bool}{b:Addr}:isBl c (.ref b)=false:=rfl
local macro_rules | `(tactic| walk_at "s") => `(tactic| simp only [seval, Nat.zero_add, Nat.reduceAdd, Nat.zero_le, isTy, Zi6, CMul, CPow, List.getElem?_cons_zero, List.getElem?_cons_succ, Option.some.injEq, MV.int.injEq, MV.str.injEq, MV.bl.injEq, MV.tup.injEq, MV.frl.injEq, MV.ref.injEq, MV.ty.injEq, MO.lst.injEq, MO.dic.injEq, MO.ins.injEq, Prod.mk.injEq, exists_eq_left', exists_eq_left, exists_eq_right, exists_eq_right', exists_and_left, exists_eq, exists_const, true_and, and_true, false_and, and_false, true_or, or_true, false_or, or_false, reduceCtorEq, ne_eq, not_false_eq_true, not_true_eq_false, List.set_cons_zero, List.set_cons_succ, decide_eq_true_eq, Bool.not_eq_true', decide_eq_false_iff_not, if_true, if_false, Bool.false_eq_true, ite_true, ite_false, reduceIte, List.length_cons, List.length_nil, and_self, String.reduceEq, String.reduceNe, Int.reduceLT, Int.reduceLE, Int.reducePow, Int.reduceNeg, Int.reduceToNat, Int.reduceSub, Int.reduceAdd, Int.reduceMul, Nat.reduceLT, Nat.reducePow, Nat.reduceLeDiff])
theorem ZlQ{α:Sort _}{p q:α->Prop}(h:∀a,p a->q a):(∃a,p a)->∃a,q a:=fun⟨a,x⟩=>⟨a,h a x⟩
theorem Zjn{a b c:Prop}(h:b->c):a/\b->a/\c:=λx=>⟨x.1,h x.2⟩
theorem ZhX{a b c d:Prop}(h:a->c)(g:b->d):a/\b->c/\d:=λx=>⟨h x.1,g x.2⟩
theorem Zl2{a b c d:Prop}(h:a->c)(g:b->d):a\/b->c\/d:=λx=>x.elim (λy=>.inl (h y)) λy=>.inr (g y)
theorem Zjp{α:Sort _}{p q:α->Prop}(h:∀a,p a->q a):(∀a,p a)->∀a,q a:=λx a=>h a (x a)
local macro_rules | `(tactic| walk_at "m") => `(tactic| (intro vs M Q Q' hq; repeat (first | exact hq _ _ | exact id | refine ZlQ fun _ => ?_ | refine Zjn ?_ | refine ZhX ?_ ?_ | refine Zjp fun _ => ?_ | refine Zl2 ?_ ?_)))
def SameM(M M':MH):Prop:=∀a o,M a=some o->M' a=some o
theorem SameM.refl(M:MH):SameM M M:=λ_ _ h=>h
theorem SameM.trans{M M1 M2:MH}(a:SameM M M1)(b:SameM M1 M2):SameM M M2:=λc o h=>b c o (a c o h)
theorem neM{M:MH}{a p:Addr}{o:MO}(h:M a=some o)(hp:M p=none):a≠p:=by intro e;subst e;rw[h]at hp;cases hp
theorem SameM.new{M:MH}{p:Addr}(h:M p=none)(o:MO):SameM M (updM M p o):=λa u e=>by rw[Z06 (neM e h)];exact e
theorem SameM.free{M M':MH}(s:SameM M M'){p:Addr}(h:M' p=none):M p=none:=by
 cases e:M p with
 |none=>rfl
 |some o=>rw[s _ _ e]at h;cases h
theorem SameM.upd{M M':MH}(s:SameM M M'){p:Addr}(h:M p=none)(o:MO):SameM M (updM M' p o):=λa u e=>by rw[Z06 (neM e h)];exact s a u e
theorem Z5i{lo:Int}{n i:Nat}{x:MV}(h:(Src.rng lo n).items[i]?=some x):i<n/\x=.int (lo+(i:Nat)):=by
 have hi:=(Y05.mp h).1
 rw[Src.items_len]at hi
 refine⟨hi,?_⟩
 have h':((Y0U n).map λi=>MV.int (lo+(i:Nat)))[i]?=some x:=h
 rw[Y06,Y00 (by simpa using(show i<n from hi))]at h'
 simpa using h'.symm
theorem Z0J{α:Type}{f:α->MV}{xs:List α}{i:Nat}{x:MV}(h:(xs.map f)[i]?=some x):∃hi:i<xs.length,x=f xs[i]:=by
 have hi:=(Y05.mp h).1
 rw[Y01]at hi
 refine⟨hi,?_⟩
 rw[Y06,Y00 hi]at h
 exact(Y0K h).symm
theorem Z6T{Φ:List (Str×SpM)}(hm:∀p∈Φ,MonW p.2):∀(j:Nat) f sp,Φ[j]?=some (f,sp)->MonW sp:=λj f sp h=>hm (f,sp) (Y08 h)
theorem ZfF(xs:List MV)(k:Nat):cutM xs (some (k:Int)) none=xs.drop k:=by
 unfold cutM
 rw[HT.sIx_none,HT.sIx_nat]
 by_cases h:k≤xs.length
 ·rw[Nat.min_eq_left h,Y1z (by rw[Y2b];exact Y0b _)]
 ·rw[Nat.min_eq_right (by lia),Y3j (Y0b _),Y3j (by lia)]
  simp
theorem Z6G{κ:Type} [DecidableEq κ] (k:κ)(v:MV)(j:κ):∀kvs:List (κ×MV),valM (putM kvs k v) j=if j=k then some v else valM kvs j
 |[]=>by
  unfold putM valM
  by_cases e:k=j
  ·rw[if_pos e,if_pos e.symm]
  ·rw[if_neg e,if_neg (λz=>e z.symm)]
   rfl
 |(i,u)::r=>by
  unfold putM
  by_cases e:i=k
  ·rw[if_pos e]
   subst e
   unfold valM
   by_cases f:i=j
   ·rw[if_pos f,if_pos f.symm]
   ·rw[if_neg f,if_neg (λz=>f z.symm),if_neg f]
  ·rw[if_neg e]
   unfold valM
   by_cases f:i=j
   ·rw[if_pos f,if_neg (λz=>e (f.trans z)),if_pos f]
   ·rw[if_neg f,Z6G k v j r,if_neg f]
inductive Form where|plus|minus|times|less|same
def Form.str:Form->Str
 |.plus=>"plus"|.minus=>"minus"|.times=>"times"|.less=>"less"|.same=>"same"
inductive Tm where
 |num (n:Int)|var (x:Str)|two (f:Form) (a b:Tm)|pick (c a b:Tm)
def Tm.depth:Tm->Nat
 |.num _=>1|.var _=>1|.two _ a b=>1+max a.depth b.depth|.pick c a b=>1+max c.depth (max a.depth b.depth)
def Tm.size:Tm->Nat
 |.num _=>1|.var _=>1|.two _ a b=>1+(a.size+b.size)|.pick c a b=>1+(c.size+(a.size+b.size))
def Tm.reads:Tm->List Str
 |.num _=>[]|.var x=>[x]|.two _ a b=>a.reads++b.reads|.pick c a b=>c.reads++(a.reads++b.reads)
def twoV(w:Nat)(l r:Int):Form->Int
 |.plus=>(l+r)%2^w
 |.minus=>(l - r)%2^w
 |.times=>(l*r)%2^w
 |.less=>if l<r then 1 else 0
 |.same=>if l=r then 1 else 0
def Tm.val(ρ:Str->Int)(w:Nat):Tm->Int
 |.num n=>n%2^w
 |.var x=>ρ x
 |.two f a b=>twoV w (a.val ρ w) (b.val ρ w) f
 |.pick c a b=>if c.val ρ w≠0 then a.val ρ w else b.val ρ w
theorem Z8Y(w:Nat):(0:Int)<2^w:=Int.pow_pos (by decide)
theorem Zgv{w:Nat}(h:1≤w):(2:Int)≤2^w:=by
 obtain⟨k,rfl⟩:∃k,w=k+1:=⟨w - 1,by lia⟩
 rw[Int.pow_succ]
 have:=Z8Y k
 lia
theorem Znr{w:Nat}(h:w≤64):(2:Int)^w≤2^64:=by
 have:=Nat.pow_le_pow_right (n:=2) (by decide) h
 have e1:(2:Int)^w=((2^w:Nat):Int):=by rw[Int.natCast_pow];rfl
 have e2:(2:Int)^64=((2^64:Nat):Int):=by decide
 rw[e1,e2]
 exact Int.ofNat_le.mpr this
theorem Zex(x:Int)(w:Nat):0≤x%2^w/\x%2^w<2^w:=⟨Y1r _ (Int.ne_of_gt (Z8Y w)),Y18 _ (Z8Y w)⟩
theorem twoV_in{w:Nat}(hw:1≤w)(l r:Int)(f:Form):0≤twoV w l r f/\twoV w l r f<2^w:=by
 have:=Zgv hw
 cases f
 ·exact Zex _ _
 ·exact Zex _ _
 ·exact Zex _ _
 ·unfold twoV;split<;>lia
 ·unfold twoV;split<;>lia
theorem Tm.val_in{ρ:Str->Int}{w:Nat}(hw:1≤w):∀{T:Tm},(∀x∈T.reads,0≤ρ x/\ρ x<2^w)->0≤T.val ρ w/\T.val ρ w<2^w
 |.num n,_=>Zex _ _
 |.var x,h=>h x (by simp[Tm.reads])
 |.two f a b,_=>twoV_in hw _ _ f
 |.pick c a b,h=>by
  unfold Tm.val
  split
  ·exact a.val_in hw λx hx=>h x (by simp[Tm.reads,hx])
  ·exact b.val_in hw λx hx=>h x (by simp[Tm.reads,hx])
theorem Tm.depth_pos:∀T:Tm,1≤T.depth
 |.num _=>Y0b _
 |.var _=>Y0b _
 |.two _ _ _=>Nat.le_add_right _ _
 |.pick _ _ _=>Nat.le_add_right _ _
def Tm.mv:Tm->MV
 |.num n=>.tup [.str "num",.int n]
 |.var x=>.tup [.str "var",.str x]
 |.two f a b=>.tup [.str f.str,a.mv,b.mv]
 |.pick c a b=>.tup [.str "pick",c.mv,a.mv,b.mv]
theorem ZeV(f:Form):¬f.str="num":=by cases f<;>decide+kernel
theorem ZbO(f:Form):¬f.str="var":=by cases f<;>decide+kernel
theorem Zhv(f:Form):¬f.str="pick":=by cases f<;>decide+kernel
inductive Stp where
 |take (f x:Str)|give (f:Str) (T:Tm)|put (x:Str) (T:Tm)|jump (T:Tm) (i:Int)
def Stp.mv:Stp->MV
 |.take f x=>.tup [.str "take",.str f,.str x]
 |.give f T=>.tup [.str "give",.str f,T.mv]
 |.put x T=>.tup [.str "put",.str x,T.mv]
 |.jump T i=>.tup [.str "jump",T.mv,.int i]
def tmOk(ns:List Str)(T:Tm):Prop:=T.depth≤8/\T.size≤30/\∀x∈T.reads,x∈ns
def Stp.ok(ns:List Str)(n:Nat):Stp->Prop
 |.take _ x=>x∈ns
 |.give _ T=>tmOk ns T
 |.put x T=>x∈ns/\tmOk ns T
 |.jump T i=>tmOk ns T/\0≤i/\i≤n
def Zij(M:MH)(x:MV)(xs:List MV):Prop:=x=.tup xs\/∃a,x=.ref a/\M a=some (.lst xs)
def readsOk(ns:List Str)(kvs:List (Key×MV))(ρ:Str->Int)(w:Nat):Prop:=∀x∈ns,valM kvs (Y0O x)=some (.int (ρ x))/\0≤ρ x/\ρ x<2^w
theorem readsOk.tm{ns:List Str}{kvs:List (Key×MV)}{ρ:Str->Int}{w:Nat}(h:readsOk ns kvs ρ w){T:Tm}(o:tmOk ns T):∀x∈T.reads,valM kvs (Y0O x)=some (.int (ρ x))/\0≤ρ x/\ρ x<2^w:=λx hx=>h x (o.2.2 x hx)
section
variable{P:Program}{w:World}{K:Y02}{mg:Str->Option Value}{base:Heap}{t:Adr}
abbrev Z2l:SpM:=λvs M Q=>∃k:Nat,vs=[.int k]/\k≤64/\Q (.int (2^k)) M
theorem Z3M:MonW Z2l:=by walk_at "m"
theorem Z9f(T:Txt K mg t):FnOk P w K mg base CX0 1 t.f_two_to t.d_two_to ["exponent"] (liSp K Z2l):=by
 refine T.F_two_to.okM Zgk (Z0G (Φ:=[]) (Z0H T) (Z0g T) rfl (λ_ h=>nomatch h) (λ_ h=>nomatch h):Fts P w K mg base 0 Zf3 []) Z9B ZhF (λvs M Q h=>?_) (λvs M Q h=>?_)
 ·obtain⟨k,rfl,_⟩:=h;rfl
 obtain⟨k,rfl,hk,q⟩:=h
 show wSs _ _ _ [some (.int k),none,none] M
 rw[Z9B,ZcA]
 walk_at "s"
 rw[Zcz]
 walk_at "s"
 refine⟨by lia,by lia,λi σ M'=>M'=M/\∃v,σ=[some (.int k),some (.int (2^i)),v],⟨rfl,_,rfl⟩,λ_ _ _ _=>trivial,?_,?_⟩
 ·rintro i x σ M' hx ⟨rfl,v,rfl⟩
  obtain⟨hi,rfl⟩:=Z5i hx
  rw[Zcy]
  walk_at "s"
  exact⟨_,by rw[Int.pow_succ]⟩
 ·rintro σ M' ⟨rfl,v,rfl⟩
  rw[Zcx]
  walk_at "s"
  exact q
abbrev ZaH:SpM:=λvs M Q=>∃(w:Nat) (n:Int),vs=[.int w,.int n]/\w≤64/\Q (.int (n%2^w)) M
theorem ZaN:MonW ZaH:=by walk_at "m"
theorem ZjN(T:Txt K mg t):FnOk P w K mg base CX0 2 t.f_cut t.d_cut ["width","number"] (liSp K ZaH):=by
 refine T.F_cut.okM Zmy (Z0G (Φ:=[("two_to",Z2l)]) (Z0H T) (Z0g T) rfl (fMc ⟨Z3M,(fun _ h=>nomatch h)⟩) (fMc ⟨⟨_,_,_,(FnOk.mono (Z9f T) (by decide)),T.m_two_to,T.F_two_to.kp,T.b_two_to⟩,(fun _ h=>nomatch h)⟩):Fts P w K mg base 1 ZoB [("two_to",Z2l)]) Zha Zou (fun vs M Q h=>?_) (fun vs M Q h=>?_)
 ·obtain⟨k,n,rfl,_⟩:=h;rfl
 obtain⟨w,n,rfl,hw,q⟩:=h
 show wSs _ _ _ [some (.int w),some (.int n)] M
 rw[Zha,Zk7]
 walk_at "s"
 exact⟨w,rfl,hw,Z8Y w,q⟩
abbrev Z1T:SpM:=λvs M Q=>∃(f:Form) (l r:Int) (w:Nat),vs=[.str f.str,.int l,.int r,.int w]/\w≤64/\(-(2^64)<l/\l<2^64)/\Q (.int (twoV w l r f)) M
theorem Z6q:MonW Z1T:=by walk_at "m"
theorem Z9e(T:Txt K mg t):FnOk P w K mg base CX0 3 t.f_worth_of_two t.d_worth_of_two ["form","left","right","width"] (liSp K Z1T):=by
 refine T.F_worth_of_two.okM Z95 (Z0G (Φ:=[("cut",ZaH)]) (Z0H T) (Z0g T) rfl (fMc ⟨ZaN,(fun _ h=>nomatch h)⟩) (fMc ⟨⟨_,_,_,(FnOk.mono (ZjN T) (by decide)),T.m_cut,T.F_cut.kp,T.b_cut⟩,(fun _ h=>nomatch h)⟩):Fts P w K mg base 2 Z6e [("cut",ZaH)]) Z2X Z9W (fun vs M Q h=>?_) (fun vs M Q h=>?_)
 ·obtain⟨f,l,r,w,rfl,_⟩:=h;rfl
 obtain⟨f,l,r,w,rfl,hw,hl,q⟩:=h
 show wSs _ _ _ [some (.str f.str),some (.int l),some (.int r),some (.int w)] M
 rw[Z2X,Z4u]
 walk_at "s"
 cases f with
 |plus=>
  rw[if_pos (by rfl),Z4t]
  walk_at "s"
  exact⟨w,_,rfl,hw,q⟩
 |minus=>
  rw[if_neg (by decide+kernel),Z1q]
  walk_at "s"
  rw[if_pos (by rfl),Z4s]
  walk_at "s"
  exact⟨w,_,rfl,hw,q⟩
 |times=>
  rw[if_neg (by decide+kernel),Z1q]
  walk_at "s"
  rw[if_neg (by decide+kernel),Z24]
  walk_at "s"
  rw[if_pos (by rfl),Z4r]
  walk_at "s"
  exact⟨.inl hl,w,_,rfl,hw,q⟩
 |less=>
  rw[if_neg (by decide+kernel),Z1q]
  walk_at "s"
  rw[if_neg (by decide+kernel),Z24]
  walk_at "s"
  rw[if_neg (by decide+kernel),Z2P]
  walk_at "s"
  rw[if_pos (by rfl),Z4q]
  walk_at "s"
  unfold twoV at q
  split<;>simp_all
 |same=>
  rw[if_neg (by decide+kernel),Z1q]
  walk_at "s"
  rw[if_neg (by decide+kernel),Z24]
  walk_at "s"
  rw[if_neg (by decide+kernel),Z2P]
  walk_at "s"
  rw[if_neg (by decide+kernel),Z4p]
  walk_at "s"
  unfold twoV at q
  split<;>simp_all
abbrev Z1H(n:Nat):SpM:=λvs M Q=>∃(T:Tm) (w:Nat) (d:Addr) (kvs:List (Key×MV)) (ρ:Str->Int),vs=[T.mv,.int w,.ref d]/\T.depth≤n/\1≤w/\w≤64/\M d=some (.dic kvs)/\
 (∀x∈T.reads,valM kvs (Y0O x)=some (.int (ρ x))/\0≤ρ x/\ρ x<2^w)/\Q (.int (T.val ρ w)) M
theorem Z3a(n:Nat):MonW (Z1H n):=by walk_at "m"
theorem Z8Z(T:Txt K mg t):∀n:Nat,FnOk P w K mg base CX0 (n+3) t.f_worth t.d_worth ["T","width","words"] (liSp K (Z1H n))
 |0=>by
  have no:∀vs M Q,¬Z1H 0 vs M Q:=λvs M Q h=>by
   obtain⟨T,w,d,kvs,ρ,_,h0,_⟩:=h
   have:=T.depth_pos
   lia
  exact⟨λvs H Q E ⟨ms,M,r,rh,h⟩=>absurd h (no _ _ _),λA outer s H args us vs Q E _ _ _ _ ⟨ms,M,r,rh,h⟩=>absurd h (no _ _ _)⟩
 |n+1=>by
  have ih:=Z8Z T n
  refine T.F_worth.okM Zik (Z0G (Φ:=[("cut",ZaH),("worth",(Z1H n)),("worth_of_two",Z1T)]) (Z0H T) (Z0g T) rfl (fMc ⟨ZaN,(fMc ⟨(Z3a _),(fMc ⟨Z6q,(fun _ h=>nomatch h)⟩)⟩)⟩) (fMc ⟨⟨_,_,_,FnOk.mono (ZjN T) (by lia),T.m_cut,T.F_cut.kp,T.b_cut⟩,(fMc ⟨⟨_,_,_,ih,T.m_worth,T.F_worth.kp,T.b_worth⟩,(fMc ⟨⟨_,_,_,FnOk.mono (Z9e T) (by lia),T.m_worth_of_two,T.F_worth_of_two.kp,T.b_worth_of_two⟩,(fun _ h=>nomatch h)⟩)⟩)⟩):Fts P w K mg base (n+3) Zi2 [("cut",ZaH),("worth",(Z1H n)),("worth_of_two",Z1T)]) ZbK Zj7 (fun vs M Q h=>?_) (fun vs M Q h=>?_)
  ·obtain⟨T,w,d,kvs,ρ,rfl,_⟩:=h;rfl
  obtain⟨U,w,d,kvs,ρ,rfl,hn,hw1,hw,hd,hr,q⟩:=h
  show wSs _ _ _ [some U.mv,some (.int w),some (.ref d),none] M
  have p64:=Znr hw
  rw[ZbK,ZeF]
  cases U with
  |num m=>
   simp only[Tm.mv]
   walk_at "s"
   rw[ZeE]
   walk_at "s"
   exact⟨w,m,rfl,hw,q⟩
  |var x=>
   have hv:=(hr x (by simp[Tm.reads])).1
   simp only[Tm.mv]
   walk_at "s"
   rw[Z91]
   walk_at "s"
   rw[ZeD]
   walk_at "s"
   simp only[hd]
   walk_at "s"
   exact⟨_,hv,q⟩
  |two f l r=>
   have hdl:l.depth≤n:=by unfold Tm.depth at hn;lia
   have hdr:r.depth≤n:=by unfold Tm.depth at hn;lia
   have hrl:∀x∈l.reads,valM kvs (Y0O x)=some (.int (ρ x))/\0≤ρ x/\ρ x<2^w:=λx hx=>hr x (by simp[Tm.reads,hx])
   have hrr:∀x∈r.reads,valM kvs (Y0O x)=some (.int (ρ x))/\0≤ρ x/\ρ x<2^w:=λx hx=>hr x (by simp[Tm.reads,hx])
   have inl:=l.val_in hw1 λx hx=>(hrl x hx).2
   simp only[Tm.mv]
   walk_at "s"
   rw[if_neg (ZeV f),Z91]
   walk_at "s"
   rw[if_neg (ZbO f),ZbI]
   walk_at "s"
   refine⟨l,w,d,kvs,ρ,rfl,hdl,hw1,hw,hd,hrl,?_⟩
   rw[ZbH]
   walk_at "s"
   rw[if_neg (Zhv f),ZeB]
   walk_at "s"
   exact⟨r,w,d,kvs,ρ,rfl,hdr,hw1,hw,hd,hrr,f,_,_,w,rfl,hw,⟨by lia,by lia⟩,q⟩
  |pick c l r=>
   have hdc:c.depth≤n:=by unfold Tm.depth at hn;lia
   have hdl:l.depth≤n:=by unfold Tm.depth at hn;lia
   have hdr:r.depth≤n:=by unfold Tm.depth at hn;lia
   have hrc:∀x∈c.reads,valM kvs (Y0O x)=some (.int (ρ x))/\0≤ρ x/\ρ x<2^w:=λx hx=>hr x (by simp[Tm.reads,hx])
   have hrl:∀x∈l.reads,valM kvs (Y0O x)=some (.int (ρ x))/\0≤ρ x/\ρ x<2^w:=λx hx=>hr x (by simp[Tm.reads,hx])
   have hrr:∀x∈r.reads,valM kvs (Y0O x)=some (.int (ρ x))/\0≤ρ x/\ρ x<2^w:=λx hx=>hr x (by simp[Tm.reads,hx])
   simp only[Tm.mv]
   walk_at "s"
   rw[Z91]
   walk_at "s"
   rw[ZbI]
   walk_at "s"
   refine⟨c,w,d,kvs,ρ,rfl,hdc,hw1,hw,hd,hrc,?_⟩
   rw[ZbH]
   walk_at "s"
   rw[ZeC]
   walk_at "s"
   refine Z4e (λh0=>?_) (λh0=>?_)
   ·have e:Tm.val ρ w (.pick c l r)=l.val ρ w:=if_pos h0
    rw[e]at q
    exact⟨l,w,d,kvs,ρ,rfl,hdl,hw1,hw,hd,hrl,q⟩
   ·have e:Tm.val ρ w (.pick c l r)=r.val ρ w:=if_neg h0
    rw[e]at q
    exact⟨r,w,d,kvs,ρ,rfl,hdr,hw1,hw,hd,hrr,q⟩
def dueM(ss:List Stp)(ρ:Str->Int)(w:Nat)(i:Nat):MV:=match ss[i]? with
 |none=>.non
 |some (.take f _)=>.tup [.str "take",.str f]
 |some (.give f T)=>.tup [.str "give",.str f,.int (T.val ρ w)]
 |some _=>.tup [.str "own"]
abbrev Zbp:SpM:=λvs M Q=>∃(x:MV) (pw:Addr) (ss:List Stp) (i w:Nat) (kvs:List (Key×MV)) (ρ:Str->Int) (ns:List Str),vs=[.int w,x,.int i,.ref pw]/\Zij M x (ss.map Stp.mv)/\(∀s∈ss,s.ok ns ss.length)/\i≤ss.length/\1≤w/\w≤64/\M pw=some (.dic kvs)/\readsOk ns kvs ρ w/\
 Q (dueM ss ρ w i) M
theorem ZdA:MonW Zbp:=by walk_at "m"
theorem Zl9(T:Txt K mg t):FnOk P w K mg base CX0 50 t.f_wish t.d_wish ["width","steps","number","words"] (liSp K Zbp):=by
 refine T.F_wish.okM Zkt (Z0G (Φ:=[("worth",(Z1H 40))]) (Z0H T) (Z0g T) rfl (fMc ⟨(Z3a _),(fun _ h=>nomatch h)⟩) (fMc ⟨⟨_,_,_,FnOk.mono (Z8Z T 40) (by decide),T.m_worth,T.F_worth.kp,T.b_worth⟩,(fun _ h=>nomatch h)⟩):Fts P w K mg base 49 Zkh [("worth",(Z1H 40))]) ZdN ZlY (fun vs M Q h=>?_) (fun vs M Q h=>?_)
 ·obtain⟨_,_,_,_,_,_,_,_,rfl,_⟩:=h;rfl
 obtain⟨x,pw,ss,i,w,kvs,ρ,ns,rfl,hx,hss,hi,hw1,hw2,hpw,hr,q⟩:=h
 show wSs _ _ _ [some (.int w),some x,some (.int i),some (.ref pw),none] M
 rw[ZdN,Zh5]
 have len:∀R:Prop,R->R:=λ_ h=>h
 have rest:∀hi':i<ss.length,wSs [("worth",Z1H 40)] ZdI {nx:=fun x M'=>Q MV.non M',rt:=Q} [some (.int w),some x,some (.int i),some (.ref pw),some ss[i].mv] M:=by
  intro hi'
  have ok:=hss ss[i] (Y0p _)
  have ed:dueM ss ρ w i=dueM [ss[i]] ρ w 0:=by unfold dueM;rw[Y00 hi'];rfl
  rw[ed]at q
  obtain⟨s,hs⟩:∃s,ss[i]=s:=⟨_,rfl⟩
  rw[hs]at ok q
  rw[hs,ZdI]
  cases s with
  |take f x=>
   simp only[Stp.mv]
   walk_at "s"
   rw[Zh4]
   walk_at "s"
   exact q
  |give f U=>
   simp only[Stp.mv]
   walk_at "s"
   rw[ZbJ]
   walk_at "s"
   rw[Zh3]
   walk_at "s"
   exact⟨U,w,pw,kvs,ρ,rfl,Y0M ok.1 (by decide),hw1,hw2,hpw,hr.tm ok,q⟩
  |put x U=>
   simp only[Stp.mv]
   walk_at "s"
   rw[ZbJ]
   walk_at "s"
   rw[ZdH]
   walk_at "s"
   exact q
  |jump U j=>
   simp only[Stp.mv]
   walk_at "s"
   rw[ZbJ]
   walk_at "s"
   rw[ZdH]
   walk_at "s"
   exact q
 have eN:¬i<ss.length->dueM ss ρ w i=.non:=λc=>by unfold dueM;rw[Y1n.mpr (by lia)]
 rcases hx with rfl|⟨ps,rfl,hps⟩
 ·walk_at "s"
  rw[Y01]
  refine Z4e (λc=>?_) (λc=>?_)
  ·rw[ZdK]
   walk_at "s"
   rw[<- eN (by lia)]
   exact q
  have hi':i<ss.length:=by lia
  rw[ZdJ]
  walk_at "s"
  exact⟨_,Z2g (by rw[Y06,Y00 hi'];rfl),rest hi'⟩
 ·repeat (first|walk_at "s"|simp only[hps])
  rw[Y01]
  refine Z4e (λc=>?_) (λc=>?_)
  ·rw[ZdK]
   walk_at "s"
   rw[<- eN (by lia)]
   exact q
  have hi':i<ss.length:=by lia
  rw[ZdJ]
  repeat (first|walk_at "s"|simp only[hps])
  exact⟨_,Z2g (by rw[Y06,Y00 hi'];rfl),rest hi'⟩
def Z1B(s:Stp)(ρ:Str->Int)(w i:Nat):Int:=match s with
 |.jump T j=>if T.val ρ w≠0 then j else(i:Int)+1
 |_=>(i:Int)+1
def Z3Z(s:Stp)(kvs:List (Key×MV))(ρ:Str->Int)(w:Nat)(wd:MV):List (Key×MV):=match s with
 |.take _ x=>putM kvs (Y0O x) wd
 |.put x T=>putM kvs (Y0O x) (.int (T.val ρ w))
 |_=>kvs
abbrev Z1V:SpM:=λvs M Q=>∃(x:MV) (pw:Addr) (ss:List Stp) (i w:Nat) (kvs:List (Key×MV)) (ρ:Str->Int) (ns:List Str) (s:Stp),vs=[.int w,x,.int i,.ref pw]/\Zij M x (ss.map Stp.mv)/\ss[i]?=some s/\s.ok ns ss.length/\1≤w/\w≤64/\M pw=some (.dic kvs)/\readsOk ns kvs ρ w/\
 Q (.int (Z1B s ρ w i)) M
theorem Z6s:MonW Z1V:=by walk_at "m"
theorem Zgc{M:MH}{x:MV}{ss:List Stp}{i:Nat}{s:Stp}{Q:QM}(hx:Zij M x (ss.map Stp.mv))(hs:ss[i]?=some s) (q:Q s.mv M):wIx x (.int i) M Q:=by
 have hat:atI (ss.map Stp.mv) (i:Int)=some s.mv:=Z2g (by rw[Y06,hs];rfl)
 rcases hx with rfl|⟨a,rfl,h⟩
 ·rw[Zn8];exact⟨_,hat,q⟩
 ·rw[Zn9,h,ZjF];exact⟨_,hat,q⟩
theorem Z9j(T:Txt K mg t):FnOk P w K mg base CX0 50 t.f_number_after t.d_number_after ["width","steps","number","words"] (liSp K Z1V):=by
 refine T.F_number_after.okM Z99 (Z0G (Φ:=[("worth",(Z1H 40))]) (Z0H T) (Z0g T) rfl (fMc ⟨(Z3a _),(fun _ h=>nomatch h)⟩) (fMc ⟨⟨_,_,_,FnOk.mono (Z8Z T 40) (by decide),T.m_worth,T.F_worth.kp,T.b_worth⟩,(fun _ h=>nomatch h)⟩):Fts P w K mg base 49 Z6i [("worth",(Z1H 40))]) Z31 Za0 (fun vs M Q h=>?_) (fun vs M Q h=>?_)
 ·obtain⟨_,_,_,_,_,_,_,_,_,rfl,_⟩:=h;rfl
 obtain⟨x,pw,ss,i,w,kvs,ρ,ns,s,rfl,hx,hs,ok,hw1,hw2,hpw,hr,q⟩:=h
 show wSs _ _ _ [some (.int w),some x,some (.int i),some (.ref pw),none] M
 rw[Z31,Z4L]
 walk_at "s"
 refine Zgc hx hs ?_
 rw[Z4K]
 cases s with
 |take f x=>
  simp only[Stp.mv]
  walk_at "s"
  rw[Z1s]
  walk_at "s"
  exact q
 |give f U=>
  simp only[Stp.mv]
  walk_at "s"
  rw[Z1s]
  walk_at "s"
  exact q
 |put x U=>
  simp only[Stp.mv]
  walk_at "s"
  rw[Z1s]
  walk_at "s"
  exact q
 |jump U j=>
  simp only[Stp.mv]
  walk_at "s"
  refine⟨U,w,pw,kvs,ρ,rfl,Y0M ok.1.1 (by decide),hw1,hw2,hpw,hr.tm ok.1,?_⟩
  walk_at "s"
  refine Z4e (λc=>?_) (λc=>?_)
  ·have e:Z1B (.jump U j) ρ w i=j:=if_pos c
   rw[e]at q
   rw[Z4J]
   walk_at "s"
   exact q
  ·have e:Z1B (.jump U j) ρ w i=(i:Int)+1:=if_neg c
   rw[e]at q
   rw[Z1s]
   walk_at "s"
   exact q
abbrev Z2h:SpM:=λvs M Q=>∃(pw:Addr) (w:Nat) (kvs:List (Key×MV)) (ρ:Str->Int) (ns:List Str) (s:Stp) (k:Nat) (wd:MV),vs=[.int w,s.mv,.ref pw,wd]/\s.ok ns k/\1≤w/\w≤64/\M pw=some (.dic kvs)/\kvs.length≤1000/\readsOk ns kvs ρ w/\
 ∀p,M p=none->Q (.ref p) (updM M p (.dic (Z3Z s kvs ρ w wd)))
theorem Z6Q:MonW Z2h:=by walk_at "m"
theorem Zai(T:Txt K mg t):FnOk P w K mg base CX0 50 t.f_words_after t.d_words_after ["width","step","words","word"] (liSp K Z2h):=by
 refine T.F_words_after.okM Zab (Z0G (Φ:=[("worth",(Z1H 40))]) (Z0H T) (Z0g T) rfl (fMc ⟨(Z3a _),(fun _ h=>nomatch h)⟩) (fMc ⟨⟨_,_,_,FnOk.mono (Z8Z T 40) (by decide),T.m_worth,T.F_worth.kp,T.b_worth⟩,(fun _ h=>nomatch h)⟩):Fts P w K mg base 49 Z7r [("worth",(Z1H 40))]) Z3i Zaz (fun vs M Q h=>?_) (fun vs M Q h=>?_)
 ·obtain⟨_,_,_,_,_,_,_,_,rfl,_⟩:=h;rfl
 obtain⟨pw,w,kvs,ρ,ns,s,k,wd,rfl,ok,hw1,hw2,hpw,hkl,hr,q⟩:=h
 show wSs _ _ _ [some (.int w),some s.mv,some (.ref pw),some wd,none] M
 rw[Z3i,Z5A]
 repeat (first|walk_at "s"|simp only[hpw])
 intro p hp
 have hpw2:=SameM.new hp (.dic kvs) _ _ hpw
 have hp2:updM M p (.dic kvs) p=some (.dic kvs):=Z02
 have q:=q p hp
 rw[Z5z]
 cases s with
 |take f x=>
  simp only[Stp.mv]
  walk_at "s"
  rw[Z5y]
  walk_at "s"
  refine⟨by lia,?_⟩
  rw[Z6H,Z1D]
  walk_at "s"
  rw[Z1C]
  walk_at "s"
  exact q
 |give f U=>
  simp only[Stp.mv]
  walk_at "s"
  rw[Z1D]
  walk_at "s"
  rw[Z1C]
  walk_at "s"
  exact q
 |put x U=>
  simp only[Stp.mv]
  walk_at "s"
  rw[Z1D]
  walk_at "s"
  rw[Z5x]
  walk_at "s"
  refine⟨U,w,pw,kvs,ρ,rfl,Y0M ok.2.1 (by decide),hw1,hw2,hpw2,hr.tm ok.2,?_⟩
  walk_at "s"
  refine⟨by lia,?_⟩
  rw[Z6H,Z1C]
  walk_at "s"
  exact q
 |jump U j=>
  simp only[Stp.mv]
  walk_at "s"
  rw[Z1D]
  walk_at "s"
  rw[Z1C]
  walk_at "s"
  exact q
abbrev Z6K:SpM:=λvs M Q=>∃(x:MV) (pw:Addr) (ss:List Stp) (i w:Nat) (kvs:List (Key×MV)) (ρ:Str->Int) (ns:List Str) (s:Stp) (wd:MV),vs=[.int w,x,.int i,.ref pw,wd]/\Zij M x (ss.map Stp.mv)/\ss[i]?=some s/\s.ok ns ss.length/\1≤w/\w≤64/\M pw=some (.dic kvs)/\kvs.length≤1000/\readsOk ns kvs ρ w/\
 ∀p,M p=none->Q (.tup [.int (Z1B s ρ w i),.ref p]) (updM M p (.dic (Z3Z s kvs ρ w wd)))
theorem Zcq:MonW Z6K:=by walk_at "m"
theorem ZiG(T:Txt K mg t):FnOk P w K mg base CX0 51 t.f_after t.d_after ["width","steps","number","words","word"] (liSp K Z6K):=by
 refine T.F_after.okM Zim (Z0G (Φ:=[("number_after",Z1V),("words_after",Z2h)]) (Z0H T) (Z0g T) rfl (fMc ⟨Z6s,(fMc ⟨Z6Q,(fun _ h=>nomatch h)⟩)⟩) (fMc ⟨⟨_,_,_,FnOk.mono (Z9j T) (by decide),T.m_number_after,T.F_number_after.kp,T.b_number_after⟩,(fMc ⟨⟨_,_,_,FnOk.mono (Zai T) (by decide),T.m_words_after,T.F_words_after.kp,T.b_words_after⟩,(fun _ h=>nomatch h)⟩)⟩):Fts P w K mg base 50 Zi4 [("number_after",Z1V),("words_after",Z2h)]) ZbM Zj9 (fun vs M Q h=>?_) (fun vs M Q h=>?_)
 ·obtain⟨_,_,_,_,_,_,_,_,_,_,rfl,_⟩:=h;rfl
 obtain⟨x,pw,ss,i,w,kvs,ρ,ns,s,wd,rfl,hx,hs,ok,hw1,hw2,hpw,hkl,hr,q⟩:=h
 show wSs _ _ _ [some (.int w),some x,some (.int i),some (.ref pw),some wd] M
 rw[ZbM,ZeT]
 walk_at "s"
 refine⟨x,pw,ss,i,w,kvs,ρ,ns,s,rfl,hx,hs,ok,hw1,hw2,hpw,hr,?_⟩
 refine Zgc hx hs ?_
 refine⟨pw,w,kvs,ρ,ns,s,_,wd,rfl,ok,hw1,hw2,hpw,hkl,hr,λp hp=>?_⟩
 exact q p hp
def szs(ts:List Tm):Nat:=(ts.map Tm.size).sum
theorem Zg6(a b:List Tm):szs (a++b)=szs a+szs b:=by unfold szs;rw[Y0A,List.sum_append]
theorem Zkp(a:Tm):szs [a]=a.size:=by simp[szs]
theorem Zg5{T:Tm}:∀{ts:List Tm},T∈ts->T.size≤szs ts
 |U::ts,h=>by
  have e:szs (U::ts)=U.size+szs ts:=by simp[szs]
  rcases Y0f.mp h with z|z
  ·subst z;lia
  ·have:=Zg5 z;lia
def Tm.kids:Tm->List Tm
 |.num _=>[]
 |.var _=>[]
 |.two _ a b=>[a,b]
 |.pick c a b=>[c,a,b]
theorem Tm.size_kids:∀T:Tm,T.size=1+szs T.kids
 |.num _=>rfl
 |.var _=>rfl
 |.two _ a b=>by simp[Tm.size,Tm.kids,szs]
 |.pick c a b=>by simp[Tm.size,Tm.kids,szs]
def mxd(ts:List Tm):Nat:=ts.foldl (λa T=>max a T.depth) 0
theorem Zlg(ts:List Tm)(T:Tm):mxd (ts++[T])=max (mxd ts) T.depth:=by unfold mxd;rw[Y1P];rfl
theorem Tm.depth_kids:∀T:Tm,T.depth=mxd T.kids+1
 |.num _=>rfl
 |.var _=>rfl
 |.two _ a b=>by simp[Tm.depth,Tm.kids,mxd];lia
 |.pick c a b=>by simp[Tm.depth,Tm.kids,mxd];lia
theorem Tm.kid_depth{T U:Tm}(h:U∈T.kids):U.depth<T.depth:=by
 cases T<;>simp[Tm.kids]at h
 ·rcases h with rfl|rfl<;>(simp only[Tm.depth];lia)
 ·rcases h with rfl|rfl|rfl<;>(simp only[Tm.depth];lia)
theorem Tm.kid_size{T U:Tm}(h:U∈T.kids):U.size<T.size:=by
 rw[T.size_kids]
 have:=Zg5 h
 lia
def rds(ts:List Tm):List Str:=(ts.map Tm.reads).flatten
theorem Zky(ts:List Tm)(T:Tm):rds (ts++[T])=rds ts++T.reads:=by simp[rds]
theorem Tm.reads_kids:∀T:Tm,(∀x,T≠.var x)->T.reads=rds T.kids
 |.num _,_=>rfl
 |.var x,h=>absurd rfl (h x)
 |.two _ a b,_=>by simp[Tm.reads,Tm.kids,rds]
 |.pick c a b,_=>by simp[Tm.reads,Tm.kids,rds]
theorem Tm.reads_len:∀T:Tm,T.reads.length≤T.size
 |.num _=>by simp[Tm.reads]
 |.var _=>by simp[Tm.reads,Tm.size]
 |.two _ a b=>by
  have:=a.reads_len
  have:=b.reads_len
  simp[Tm.reads,Tm.size];lia
 |.pick c a b=>by
  have:=a.reads_len
  have:=b.reads_len
  have:=c.reads_len
  simp[Tm.reads,Tm.size];lia
theorem Zgp:∀ts:List Tm,(rds ts).length≤szs ts
 |[]=>Y0b _
 |T::ts=>by
  have:=Zgp ts
  have:=T.reads_len
  have e:szs (T::ts)=T.size+szs ts:=by simp[szs]
  have e2:rds (T::ts)=T.reads++rds ts:=by simp[rds]
  rw[e,e2,Y0D]
  lia
theorem Zid(ts:List Tm)(i:Nat):szs (ts.take i)≤szs ts:=by
 have e1:=Zg6 (ts.take i) (ts.drop i)
 rw[List.take_append_drop]at e1
 lia
theorem Zos(x:MV)(xs:List MV):cutM (x::xs) (some 1) none=xs:=by
 have:=ZfF (x::xs) 1
 simpa using this
theorem Zkf{n:Nat}{p:Prop}:¬(HT.sIx (n+2) 0 (some 1)=0/\p):=by
 rintro⟨z,_⟩
 rw[show(some (1:Int))=some ((1:Nat):Int)from rfl,HT.sIx_nat]at z
 lia
abbrev Z0U:SpM:=λvs M Q=>∃T:Tm,vs=[T.mv]/\∀p,M p=none->Q (.ref p) (updM M p (.lst (T.kids.map Tm.mv)))
theorem Z2N:MonW Z0U:=by walk_at "m"
theorem Z4l(T:Txt K mg t):FnOk P w K mg base CX0 1 t.f_parts_within t.d_parts_within ["T"] (liSp K Z0U):=by
 refine T.F_parts_within.okM Z98 (Z0G (Φ:=[]) (Z0H T) (Z0g T) rfl (λ_ h=>nomatch h) (λ_ h=>nomatch h):Fts P w K mg base 0 Z6h []) Z30 Z9Z (λvs M Q h=>?_) (λvs M Q h=>?_)
 ·obtain⟨T,rfl,_⟩:=h;rfl
 obtain⟨U,rfl,q⟩:=h
 show wSs _ _ _ [some U.mv] M
 rw[Z30,Z4I]
 cases U with
 |num m=>
  simp only[Tm.mv]
  walk_at "s"
  rw[Z34]
  walk_at "s"
  exact q
 |var x=>
  simp only[Tm.mv]
  walk_at "s"
  rw[Z34]
  walk_at "s"
  exact q
 |two f a b=>
  simp only[Tm.mv]
  walk_at "s"
  rw[if_neg (ZeV f),if_neg (ZbO f),Z33]
  walk_at "s"
  refine⟨Zkf,?_⟩
  rw[Zos]
  exact q
 |pick c a b=>
  simp only[Tm.mv]
  walk_at "s"
  rw[Z33]
  walk_at "s"
  refine⟨Zkf,?_⟩
  rw[Zos]
  exact q
abbrev Z27(n:Nat):SpM:=λvs M Q=>∃T:Tm,vs=[T.mv]/\T.depth≤n/\∀M',SameM M M'->Q (.tup [.int (T.size:Nat),.int (T.depth:Nat)]) M'
theorem Z5w(n:Nat):MonW (Z27 n):=by walk_at "m"
theorem ZaM(T:Txt K mg t):∀n:Nat,FnOk P w K mg base CX0 (n+8) t.f_size_of t.d_size_of ["T"] (liSp K (Z27 n))
 |0=>by
  have no:∀vs M Q,¬Z27 0 vs M Q:=λvs M Q h=>by
   obtain⟨T,_,h0,_⟩:=h
   have:=T.depth_pos
   lia
  exact⟨λvs H Q E ⟨ms,M,r,rh,h⟩=>absurd h (no _ _ _),λA outer s H args us vs Q E _ _ _ _ ⟨ms,M,r,rh,h⟩=>absurd h (no _ _ _)⟩
 |n+1=>by
  have ih:=ZaM T n
  refine T.F_size_of.okM Zfb (Z0G (Φ:=[("parts_within",Z0U),("size_of",(Z27 n))]) (Z0H T) (Z0g T) rfl (fMc ⟨Z2N,(fMc ⟨(Z5w _),(fun _ h=>nomatch h)⟩)⟩) (fMc ⟨⟨_,_,_,FnOk.mono (Z4l T) (by lia),T.m_parts_within,T.F_parts_within.kp,T.b_parts_within⟩,(fMc ⟨⟨_,_,_,ih,T.m_size_of,T.F_size_of.kp,T.b_size_of⟩,(fun _ h=>nomatch h)⟩)⟩):Fts P w K mg base (n+8) Zdc [("parts_within",Z0U),("size_of",(Z27 n))]) Z7G ZfK (fun vs M Q h=>?_) (fun vs M Q h=>?_)
  ·obtain⟨T,rfl,_⟩:=h;rfl
  obtain⟨U,rfl,hn,q⟩:=h
  show wSs _ _ _ [some U.mv,none,none,none,none] M
  rw[Z7G,ZaY]
  walk_at "s"
  rw[ZaX]
  walk_at "s"
  rw[ZaW]
  walk_at "s"
  refine⟨U,rfl,λpk hpk=>?_⟩
  have s1:=SameM.new hpk (.lst (U.kids.map Tm.mv))
  have h1:updM M pk (.lst (U.kids.map Tm.mv)) pk=some (.lst (U.kids.map Tm.mv)):=Z02
  generalize updM M pk (.lst (U.kids.map Tm.mv))=M1 at*
  repeat (first|walk_at "s"|simp only[h1])
  obtain⟨J,hJ⟩:∃J:Nat->Sm->MH->Prop,∀i σ M2,J i σ M2↔∃(v3 v4:Option MV),SameM M1 M2/\σ=[some U.mv,some (.int ((1+szs (U.kids.take i):Nat):Int)),some (.int ((mxd (U.kids.take i):Nat):Int)),v3,v4]:=⟨_,λ_ _ _=>Y1A⟩
  refine⟨J,(hJ _ _ _).2 ⟨_,_,SameM.refl _,rfl⟩,λi σ M2 hj=>?_,λi x σ M2 hx hj=>?_,λσ M2 hj=>?_⟩
  ·obtain⟨_,_,s2,_⟩:=(hJ _ _ _).1 hj
   exact s2 _ _ h1
  ·obtain⟨v3,v4,s2,rfl⟩:=(hJ _ _ _).1 hj
   obtain⟨hi,rfl⟩:=Z0J hx
   have hk:=U.kid_depth (Y0p hi)
   rw[ZaV]
   walk_at "s"
   refine⟨U.kids[i],rfl,by lia,λM3 s3=>?_⟩
   rw[ZaU]
   walk_at "s"
   rw[ZaT]
   walk_at "s"
   have et:U.kids.take (i+1)=U.kids.take i++[U.kids[i]]:=by rw[Y0S,Y00 hi];rfl
   have e1:((1+szs (U.kids.take i):Nat):Int)+(U.kids[i].size:Nat)=((1+szs (U.kids.take (i+1)):Nat):Int):=by rw[et,Zg6,Zkp];lia
   have e2:(if((U.kids[i].depth:Nat):Int)>(mxd (U.kids.take i):Nat)then((U.kids[i].depth:Nat):Int)else(mxd (U.kids.take i):Nat))=((mxd (U.kids.take (i+1)):Nat):Int):=by
    rw[et,Zlg];split<;>lia
   rw[e1,e2]
   exact(hJ _ _ _).2 ⟨_,_,s2.trans s3,rfl⟩
  ·obtain⟨v3,v4,s2,rfl⟩:=(hJ _ _ _).1 hj
   have e:U.kids.take (Src.lst pk (U.kids.map Tm.mv)).len=U.kids:=by simp[Src.len]
   rw[e,ZaS]
   walk_at "s"
   have:=q M2 (s1.trans s2)
   rw[U.size_kids,U.depth_kids]at this
   exact this
abbrev Z11(n:Nat):SpM:=λvs M Q=>∃T:Tm,vs=[T.mv]/\T.depth≤n/\T.size≤4000/\∀p M',SameM M M'->M p=none->M' p=some (.lst (T.reads.map MV.str))->Q (.ref p) M'
theorem Z3w(n:Nat):MonW (Z11 n):=by walk_at "m"
theorem Z6M(T:Txt K mg t):∀n:Nat,FnOk P w K mg base CX0 (n+8) t.f_names_read t.d_names_read ["T"] (liSp K (Z11 n))
 |0=>by
  have no:∀vs M Q,¬Z11 0 vs M Q:=λvs M Q h=>by
   obtain⟨T,_,h0,_⟩:=h
   have:=T.depth_pos
   lia
  exact⟨λvs H Q E ⟨ms,M,r,rh,h⟩=>absurd h (no _ _ _),λA outer s H args us vs Q E _ _ _ _ ⟨ms,M,r,rh,h⟩=>absurd h (no _ _ _)⟩
 |n+1=>by
  have ih:=Z6M T n
  refine T.F_names_read.okM Zbt (Z0G (Φ:=[("names_read",(Z11 n)),("parts_within",Z0U)]) (Z0H T) (Z0g T) rfl (fMc ⟨(Z3w _),(fMc ⟨Z2N,(fun _ h=>nomatch h)⟩)⟩) (fMc ⟨⟨_,_,_,ih,T.m_names_read,T.F_names_read.kp,T.b_names_read⟩,(fMc ⟨⟨_,_,_,FnOk.mono (Z4l T) (by lia),T.m_parts_within,T.F_parts_within.kp,T.b_parts_within⟩,(fun _ h=>nomatch h)⟩)⟩):Fts P w K mg base (n+8) Z8C [("names_read",(Z11 n)),("parts_within",Z0U)]) Z3Q ZbT (fun vs M Q h=>?_) (fun vs M Q h=>?_)
  ·obtain⟨T,rfl,_⟩:=h;rfl
  obtain⟨U,rfl,hn,hz,q⟩:=h
  show wSs _ _ _ [some U.mv,none,none] M
  have rest:(∀x,U≠.var x)->wSs [("names_read",Z11 n),("parts_within",Z0U)] Z3U {nx:=fun x M'=>Q MV.non M',rt:=Q} [some U.mv,none,none] M:=by
   intro hv
   rw[Z3U]
   walk_at "s"
   intro p0 hp0
   have s0:=SameM.new hp0 (.lst [])
   have h0:updM M p0 (.lst []) p0=some (.lst ([]:List MV)):=Z02
   generalize updM M p0 (.lst [])=M0 at*
   rw[Z73]
   walk_at "s"
   refine⟨U,rfl,λpk hpk=>?_⟩
   have s1:=SameM.new hpk (.lst (U.kids.map Tm.mv))
   have h1:updM M0 pk (.lst (U.kids.map Tm.mv)) pk=some (.lst (U.kids.map Tm.mv)):=Z02
   have h01:=s1 _ _ h0
   have t1:=s0.trans s1
   have nk:M pk=none:=s0.free hpk
   generalize updM M0 pk (.lst (U.kids.map Tm.mv))=M1 at*
   repeat (first|walk_at "s"|simp only[h1])
   have ne:p0≠pk:=by
    intro e
    rw[e]at h0
    rw[h0]at hpk
    cases hpk
   obtain⟨J,hJ⟩:∃J:Nat->Sm->MH->Prop,∀i σ M2,J i σ M2↔∃(v2:Option MV),SameM M M2/\M2 pk=some (.lst (U.kids.map Tm.mv))/\M2 p0=some (.lst ((rds (U.kids.take i)).map MV.str))/\σ=[some U.mv,some (.ref p0),v2]:=⟨_,λ_ _ _=>Y1A⟩
   refine⟨J,(hJ _ _ _).2 ⟨_,t1,h1,h01,rfl⟩,λi σ M2 hj=>?_,λi x σ M2 hx hj=>?_,λσ M2 hj=>?_⟩
   ·obtain⟨_,_,g1,_⟩:=(hJ _ _ _).1 hj
    exact g1
   ·obtain⟨v2,s2,g1,g2,rfl⟩:=(hJ _ _ _).1 hj
    obtain⟨hi,rfl⟩:=Z0J hx
    have hk:=U.kid_depth (Y0p hi)
    have hk2:=U.kid_size (Y0p hi)
    rw[Z72]
    walk_at "s"
    simp only[g2]
    walk_at "s"
    refine⟨⟨_,rfl⟩,?_⟩
    refine⟨U.kids[i],rfl,by lia,by lia,λp3 M3 s3 n3 g3=>?_⟩
    have g1':=s3 _ _ g1
    have g2':=s3 _ _ g2
    walk_at "s"
    have l1:=Zgp (U.kids.take i)
    have l2:=Zid U.kids i
    have l3:=U.size_kids
    have l4:=U.kids[i].reads_len
    refine⟨_,g2',_,g3,by simp only[Y01];lia,(hJ _ _ _).2 ⟨_,(s2.trans s3).upd hp0 _,by rw[Z06 ne.symm];exact g1',?_,rfl⟩⟩
    rw[Z02,Y0S,Y00 hi,Y2J,Zky,Y0A]
   ·obtain⟨v2,s2,g1,g2,rfl⟩:=(hJ _ _ _).1 hj
    have e:U.kids.take (Src.lst pk (U.kids.map Tm.mv)).len=U.kids:=by simp[Src.len]
    rw[e,<- U.reads_kids hv]at g2
    rw[Z71]
    walk_at "s"
    exact q p0 M2 s2 hp0 g2
  rw[Z3Q,Z75]
  cases U with
  |num m=>
   simp only[Tm.mv]
   walk_at "s"
   exact rest (λ_ e=>by cases e)
  |var x=>
   simp only[Tm.mv]
   walk_at "s"
   rw[Z74]
   walk_at "s"
   exact λp hp=>q p _ (SameM.new hp _) hp Z02
  |two f a b=>
   simp only[Tm.mv]
   walk_at "s"
   rw[if_neg (ZbO f)]
   exact rest (λ_ e=>by cases e)
  |pick c a b=>
   simp only[Tm.mv]
   walk_at "s"
   exact rest (λ_ e=>by cases e)
abbrev Z5c:SpM:=λvs M Q=>∃(T:Tm) (N:List Str),vs=[T.mv]/\T.depth≤40/\T.size≤4000/\(∀x∈T.reads,x∈N)/\N.length<64/\
 ∀p M' (ys:List Str),SameM M M'->M p=none->M' p=some (.lst (ys.map MV.str))->ys.Nodup->(∀y,y∈ys↔y∈T.reads)->PyProof.Rows.sortedS ys=true->Q (.ref p) M'
theorem Zao:MonW Z5c:=by walk_at "m"
theorem Zfl(T:Txt K mg t):FnOk P w K mg base CX0 50 t.f_vars_in t.d_vars_in ["T"] (liSp K Z5c):=by
 refine T.F_vars_in.okM Zfa (Z0G (Φ:=[("names_read",(Z11 40))]) (Z0H T) (Z0g T) rfl (fMc ⟨(Z3w _),(fun _ h=>nomatch h)⟩) (fMc ⟨⟨_,_,_,FnOk.mono (Z6M T 40) (by decide),T.m_names_read,T.F_names_read.kp,T.b_names_read⟩,(fun _ h=>nomatch h)⟩):Fts P w K mg base 49 Zdb [("names_read",(Z11 40))]) Z7F ZfJ (fun vs M Q h=>?_) (fun vs M Q h=>?_)
 ·obtain⟨T,N,rfl,_⟩:=h;rfl
 obtain⟨U,N,rfl,hn,hz,hN,hl,q⟩:=h
 show wSs _ _ _ [some U.mv] M
 rw[Z7F,ZaR]
 walk_at "s"
 refine⟨U,rfl,hn,hz,λp1 M1 s1 n1 h1=>?_⟩
 have hb:scanBound=4096:=rfl
 have:=U.reads_len
 exact⟨p1,U.reads,N,rfl,h1,by lia,hN,hl,λp ys hp a1 a2 a3=>q p _ ys (s1.trans (SameM.new hp _)) (s1.free hp) Z02 a1 a2 a3⟩
abbrev Zge:SpM:=λ_ _ _=>False
theorem Zln:MonW Zge:=λ_ h=>h.elim
theorem ZlO{P:Program}{w:World}{K:Y02}{mg:Str->Option Value}{base:Heap}{k:Nat}{f:Addr}{fd:FuncData}{ps:List Str}:FnOk P w K mg base CX0 k f fd ps (liSp K λ_ _ _=>False):=
 ⟨λ_ _ _ _ ⟨_,_,_,_,h⟩=>h.elim,λ_ _ _ _ _ _ _ _ _ _ _ _ _ ⟨_,_,_,_,h⟩=>h.elim⟩
def Za3(z:Str):Prop:=1≤z.length/\z.length≤8/\∀c∈z.cps.toList,97≤c/\c≤122
theorem ZjL{a b:Nat}:([a]:List Nat)<[b]↔a<b:=by
 rw[List.cons_lt_cons_iff]
 constructor
 ·rintro(h|⟨_,h⟩)
  ·exact h
  ·exact absurd h (by simp)
 ·exact .inl
theorem Zqv:(("a":Str)).cps.toList=[97]:=by decide+kernel
theorem Zqu:(("z":Str)).cps.toList=[122]:=by decide+kernel
theorem le_a{c:Nat}(h:97≤c):(!decide ((⟨#[c]⟩:Str).cps.toList<(("a":Str)).cps.toList))=true:=by
 rw[Zqv]
 have:¬((⟨#[c]⟩:Str).cps.toList<[97]):=λz=>by
  have z:([c]:List Nat)<[97]:=z
  rw[ZjL]at z
  lia
 simpa using this
theorem le_z{c:Nat}(h:c≤122):(!decide ((("z":Str)).cps.toList<(⟨#[c]⟩:Str).cps.toList))=true:=by
 rw[Zqu]
 have:¬([122]<(⟨#[c]⟩:Str).cps.toList):=λz=>by
  have z:([122]:List Nat)<[c]:=z
  rw[ZjL]at z
  lia
 simpa using this
abbrev Z5d:SpM:=λvs M Q=>∃z:Str,vs=[.str z]/\Za3 z/\∀M',SameM M M'->Q (.bl true) M'
theorem Zap:MonW Z5d:=by walk_at "m"
theorem Zfm(T:Txt K mg t):FnOk P w K mg base CX0 1 t.f_is_name t.d_is_name ["text"] (liSp K Z5d):=by
 refine T.F_is_name.okM Zfc (Z0G (Φ:=[]) (Z0H T) (Z0g T) rfl (λ_ h=>nomatch h) (λ_ h=>nomatch h):Fts P w K mg base 0 Zdd []) Z7H ZfL (λvs M Q h=>?_) (λvs M Q h=>?_)
 ·obtain⟨z,rfl,_⟩:=h;rfl
 obtain⟨z,rfl,⟨g1,g2,g3⟩,q⟩:=h
 show wSs _ _ _ [some (.str z)] M
 rw[Z7H,Zb1]
 walk_at "s"
 refine⟨by lia,?_⟩
 rw[if_pos (by lia:(1:Int)≤(z.length:Int))]
 rw[if_pos (by lia:(z.length:Int)≤8)]
 refine Z1E z.cps.toList (λc=>.str ⟨#[c]⟩) (λ_=>.bl true) ?_ ?_ (λj f sp h=>by simp at h) λD hD=>?_
 ·walk_at "s"
  have:z.cps.toList.length=z.length:=Y0k
  exact⟨rfl,by lia,trivial⟩
 ·intro c hc M' s
  obtain⟨h1,h2⟩:=g3 c hc
  simp only[sCm,Y0h,Y0N,Y0s,Y0t,Y0B,Y0y]
  walk_at "s"
  rw[if_pos (by simpa using le_a h1)]
  simpa using le_z h2
 walk_at "s"
 refine⟨z.cps.toList.map λ_=>true,by rw[Y0G];rfl,?_⟩
 have e:((z.cps.toList.map λ_=>true).all id)=true:=by simp
 rw[e]
 exact q _ (SameM.new hD _)
theorem ZdS{z:Str}{zs:List Str}:inV (toV (.str z)) ((zs.map MV.str).map toV)=decide (z∈zs):=by
 unfold inV
 induction zs with
 |nil=>simp
 |cons a r ih=>
  rw[Y0h,Y0h,Y1t,ih]
  have e:eqV (toV (.str a)) (toV (.str z))=decide (a=z):=by
   show(a==z)=decide (a=z)
   by_cases h:a=z
   ·subst h;simp
   ·simp[h]
  rw[e]
  by_cases h:a=z
  ·simp[h]
  ·have h':¬z=a:=λw=>h w.symm
   simp[h,h']
theorem Z9U(zs:List Str):(zs.map MV.str).all Z3X=true:=by
 rw[List.all_eq_true]
 intro v hv
 obtain⟨x,_,rfl⟩:=Y0r.mp hv
 rfl
abbrev Z0R:SpM:=λvs M Q=>∃(z:Str) (e:Addr) (zs:List Str),vs=[.str z,.ref e]/\M e=some (.lst (zs.map MV.str))/\Za3 z/\z∉zs/\∀M',SameM M M'->Q .non M'
theorem Z20:MonW Z0R:=by walk_at "m"
theorem Z3g(T:Txt K mg t):FnOk P w K mg base CX0 2 t.f_refuse_name t.d_refuse_name ["text","earlier"] (liSp K Z0R):=by
 refine T.F_refuse_name.okM Zae (Z0G (Φ:=[("is_name",Z5d)]) (Z0H T) (Z0g T) rfl (fMc ⟨Zap,(fun _ h=>nomatch h)⟩) (fMc ⟨⟨_,_,_,(FnOk.mono (Zfm T) (by decide)),T.m_is_name,T.F_is_name.kp,T.b_is_name⟩,(fun _ h=>nomatch h)⟩):Fts P w K mg base 1 Z7u [("is_name",Z5d)]) Z3l ZaC (fun vs M Q h=>?_) (fun vs M Q h=>?_)
 ·obtain⟨z,a,zs,rfl,_⟩:=h;rfl
 obtain⟨z,a,zs,rfl,h1,h2,h3,q⟩:=h
 show wSs _ _ _ [some (.str z),some (.ref a)] M
 rw[Z3l,Z5O]
 walk_at "s"
 refine⟨z,rfl,h2,λM1 s1=>?_⟩
 walk_at "s"
 rw[Z5N]
 walk_at "s"
 refine .inl ⟨_,s1 _ _ h1,rfl,Z9U zs,?_⟩
 rw[ZdS,decide_eq_false h3]
 walk_at "s"
 exact q M1 s1
def Leaf(v:MV):Prop:=(∃i,v=.int i)\/∃z,v=.str z
def FroD:Nat->MH->MV->MV->Prop
 |0,_,v,v'=>Leaf v/\v'=v
 |n+1,M,v,v'=>(Leaf v/\v'=v)\/∃ps:List (MV×MV),(v=.tup (ps.map (·.1))\/∃a,v=.ref a/\M a=some (.lst (ps.map (·.1))))/\v'=.tup (ps.map (·.2))/\ps.length≤1000/\∀p∈ps,FroD n M p.1 p.2
theorem FroD.keep{M M':MH}(s:SameM M M'):∀{n:Nat} {v v':MV},FroD n M v v'->FroD n M' v v'
 |0,_,_,h=>h
 |n+1,v,v',h=>by
  rcases h with h|⟨ps,h1,h2,h3,h4⟩
  ·exact .inl h
  ·refine .inr ⟨ps,?_,h2,h3,λp hp=>(h4 p hp).keep s⟩
   rcases h1 with h1|⟨a,e,h1⟩
   ·exact .inl h1
   ·exact .inr ⟨a,e,s _ _ h1⟩
abbrev Z1a(n:Nat):SpM:=λvs M Q=>∃v v',vs=[v]/\FroD n M v v'/\∀M',SameM M M'->Q v' M'
theorem Z2H(n:Nat):MonW (Z1a n):=by walk_at "m"
theorem ZdX{n:Nat}(hΦ:∀(j:Nat) f sp,([("frozen",Z1a n)]:List (Str×SpM))[j]?=some (f,sp)->MonW sp) {vs:List MV} {M:MH} {Q:QM} (h:Z1a (n+1) vs M Q):wSs [("frozen",Z1a n)] Z3E {nx:=fun _ M'=>Q .non M',rt:=Q} (Zc7 1 vs) M:=by
 obtain⟨v,v',rfl,hf,q⟩:=h
 show wSs _ _ _ [some v] M
 rw[Z3E,Z9K]
 rcases hf with⟨l,rfl⟩|⟨ps,h1,rfl,h3,h4⟩
 ·rcases l with⟨i,rfl⟩|⟨z,rfl⟩
  ·walk_at "s"
   simp only[decide_false,Y2u,Y0C,if_false,reduceCtorEq,ne_eq,not_false_eq_true,true_and]
   rw[Z3F]
   walk_at "s"
   exact q M (SameM.refl _)
  ·walk_at "s"
   simp only[decide_false,Y2u,Y0C,if_false,reduceCtorEq,ne_eq,not_false_eq_true,true_and]
   rw[Z3F]
   walk_at "s"
   exact q M (SameM.refl _)
 ·have go:wSs [("frozen",Z1a n)] Z9J {nx:=fun σ M=>wSs [("frozen",Z1a n)] Z3F {nx:=fun _ M'=>Q .non M',rt:=Q} σ M,rt:=Q} [some v] M:=by
   rw[Z9J]
   walk_at "s"
   refine ZcO ps (·.1) (·.2) ?_ ?_ hΦ λD M' hD s hd=>?_
   ·rcases h1 with rfl|⟨a,rfl,ha⟩
    ·walk_at "s"
     exact⟨rfl,by lia,trivial,λ_ _ h=>h⟩
    ·repeat (first|walk_at "s"|simp only[ha])
     exact⟨rfl,by lia,ha,λ_ _ h=>h⟩
   ·intro p hp M' s
    simp only[sCm,Y0h,Y0N,Y0s,Y0t,Y0B,Y0y]
    walk_at "s"
    exact⟨p.1,p.2,rfl,(h4 p hp).keep s,λM2 s2=>⟨rfl,s2⟩⟩
   repeat (first|walk_at "s"|simp only[hd])
   exact q M' s
  rcases h1 with rfl|⟨a,rfl,ha⟩
  ·walk_at "s"
   simp only[decide_true,Y3w,Y3o,if_true,reduceCtorEq,ne_eq,not_false_eq_true,true_and]
   exact go
  ·repeat (first|walk_at "s"|simp only[ha])
   simp only[decide_true,Y3w,Y3o,if_true,reduceCtorEq,ne_eq,not_false_eq_true,true_and]
   exact go
theorem Zck(T:Txt K mg t):∀n:Nat,FnOk P w K mg base CX0 (n+8) t.f_frozen t.d_frozen ["value"] (liSp K (Z1a n))
 |0=>by
  refine T.F_frozen.okM Zcb (Z0G (Φ:=[("frozen",Zge)]) (Z0H T) (Z0g T) rfl (fMc ⟨@Zln,(fun _ h=>nomatch h)⟩) (fMc ⟨⟨_,_,_,ZlO,T.m_frozen,T.F_frozen.kp,T.b_frozen⟩,(fun _ h=>nomatch h)⟩):Fts P w K mg base 7 Zc0 [("frozen",Zge)]) Z3E ZcV (fun vs M Q h=>?_) (fun vs M Q h=>?_)
  ·obtain⟨v,v',rfl,_⟩:=h;rfl
  obtain⟨v,v',rfl,⟨l,rfl⟩,q⟩:=h
  show wSs _ _ _ [some v'] M
  rw[Z3E,Z9K]
  rcases l with⟨i,rfl⟩|⟨z,rfl⟩
  ·walk_at "s"
   simp only[decide_false,Y2u,Y0C,if_false,reduceCtorEq,ne_eq,not_false_eq_true,true_and]
   rw[Z3F]
   walk_at "s"
   exact q M (SameM.refl _)
  ·walk_at "s"
   simp only[decide_false,Y2u,Y0C,if_false,reduceCtorEq,ne_eq,not_false_eq_true,true_and]
   rw[Z3F]
   walk_at "s"
   exact q M (SameM.refl _)
 |n+1=>by
  have ih:=Zck T n
  refine T.F_frozen.okM Zcb (Z0G (Φ:=[("frozen",(Z1a n))]) (Z0H T) (Z0g T) rfl (fMc ⟨(Z2H _),(fun _ h=>nomatch h)⟩) (fMc ⟨⟨_,_,_,ih,T.m_frozen,T.F_frozen.kp,T.b_frozen⟩,(fun _ h=>nomatch h)⟩):Fts P w K mg base (n+8) Zc0 [("frozen",(Z1a n))]) Z3E ZcV (fun vs M Q h=>?_) (fun vs M Q h=>?_)
  ·obtain⟨v,v',rfl,_⟩:=h;rfl
  exact ZdX (Z6T (fMc ⟨Z2H n,(λ_ h=>nomatch h)⟩)) h
structure Isl where
 name:Str
 prs:List (Str×Int)
 stps:List Stp
structure Fer where
 name:Str
 giver:Str
 taker:Str
 k:Nat
 st:Nat
structure Wld where
 w:Nat
 isl:List Isl
 fer:List Fer
def prV(p:Str×Int):MV:=.tup [.str p.1,.int p.2]
def Fer.mv(f:Fer):MV:=.tup [.str f.name,.str f.giver,.str f.taker,.int f.k,.int f.st]
def Isl.mv(I:Isl):MV:=.tup [.str I.name,.tup (I.prs.map prV),.tup (I.stps.map Stp.mv)]
def Wld.mv(W:Wld):MV:=.tup [.int W.w,.tup (W.isl.map Isl.mv),.tup (W.fer.map Fer.mv)]
def Isl.vars(I:Isl):List Str:=I.prs.map (·.1)
def Wld.fns(W:Wld):List Str:=W.fer.map (·.name)
def Wld.ins(W:Wld):List Str:=W.isl.map (·.name)
def TmIn(ns:List Str)(T:Tm):Prop:=T.depth≤8/\T.size≤30/\∀x∈T.reads,x∈ns
def Z7Q(fs:List Str)(ns:List Str)(n:Nat):Stp->Prop
 |.take f x=>f∈fs/\x∈ns
 |.give f T=>f∈fs/\TmIn ns T
 |.put x T=>x∈ns/\TmIn ns T
 |.jump T i=>TmIn ns T/\0≤i/\i≤(n:Int)
structure IslOk (w:Nat) (fs:List Str) (I:Isl):Prop where
 nv:I.prs.length≤6
 ns:I.stps.length≤12
 nd:I.vars.Nodup
 gd:∀x∈I.vars,Za3 x
 wd:∀p∈I.prs,0≤p.2/\p.2<2^w
 st:∀s∈I.stps,Z7Q fs I.vars I.stps.length s
structure FerOk (is:List Str) (f:Fer):Prop where
 g:f.giver∈is
 t:f.taker∈is
 ne:f.giver≠f.taker
 k3:f.k≤3
 s1:1≤f.st
 s3:f.st≤3
def Zdg(F:List Fer)(z:Str):Stp->Prop
 |.take f _=>∀x∈F,x.name=f->x.taker=z
 |.give f _=>∀x∈F,x.name=f->x.giver=z
 |_=>True
structure Wld.Good (W:Wld):Prop where
 w1:1≤W.w
 w2:W.w≤64
 i5:W.isl.length≤5
 f6:W.fer.length≤6
 fg:∀z∈W.fns,Za3 z
 ig:∀z∈W.ins,Za3 z
 nd:(W.fns++W.ins).Nodup
 io:∀I∈W.isl,IslOk W.w W.fns I
 fo:∀f∈W.fer,FerOk W.ins f
 en:∀I∈W.isl,∀s∈I.stps,Zdg W.fer I.name s
def IslIn(M:MH)(I:Isl)(y:MV):Prop:=∃a b,y=.tup [.str I.name,.ref a,.ref b]/\M a=some (.lst (I.prs.map prV))/\M b=some (.lst (I.stps.map Stp.mv))
theorem IslIn.keep{M M':MH}(s:SameM M M'){I:Isl}{y:MV}(h:IslIn M I y):IslIn M' I y:=by
 obtain⟨a,b,e,h1,h2⟩:=h
 exact⟨a,b,e,s _ _ h1,s _ _ h2⟩
def IslsIn(M:MH)(Is:List Isl)(ys:List MV):Prop:=ys.length=Is.length/\∀(i:Nat) (I:Isl) (y:MV),Is[i]?=some I->ys[i]?=some y->IslIn M I y
theorem IslsIn.keep{M M':MH}(s:SameM M M'){Is:List Isl}{ys:List MV}(h:IslsIn M Is ys):IslsIn M' Is ys:=⟨h.1,λi z y a b=>(h.2 i z y a b).keep s⟩
theorem IslsIn.mem{M:MH}{Is:List Isl}{ys:List MV}(h:IslsIn M Is ys){y:MV}(hy:y∈ys):∃I∈Is,IslIn M I y:=by
 obtain⟨i,hi,rfl⟩:=Y0x hy
 have hi2:i<Is.length:=by rw[<- h.1];exact hi
 exact⟨Is[i],Y0p hi2,h.2 i _ _ (Y00 hi2) (Y00 hi)⟩
theorem IslsIn.fst{M:MH}{Is:List Isl}{ys:List MV}(h:IslsIn M Is ys){f:MV->MV}(hf:∀z r,f (.tup (.str z::r))=.str z):ys.map f=(Is.map (·.name)).map MV.str:=by
 apply Y2X
 intro i
 rw[Y06,Y06,Y06]
 by_cases hi:i<ys.length
 ·have hi2:i<Is.length:=by rw[<- h.1];exact hi
  obtain⟨a,b,e,_⟩:=h.2 i _ _ (Y00 hi2) (Y00 hi)
  rw[Y00 hi2,Y00 hi,e]
  show some (f _)=_
  rw[hf];rfl
 ·have hi2:¬i<Is.length:=by rw[<- h.1];exact hi
  rw[Y1e (by lia),Y1e (by lia)];rfl
abbrev Z28:SpM:=λvs M Q=>∃i:Int,vs=[.int i]/\Q (.bl true) M
theorem Z4n:MonW Z28:=by walk_at "m"
theorem Z9k(T:Txt K mg t):FnOk P w K mg base CX0 1 t.f_is_whole t.d_is_whole ["value"] (liSp K Z28):=by
 refine T.F_is_whole.okM Zds (Z0G (Φ:=[]) (Z0H T) (Z0g T) rfl (λ_ h=>nomatch h) (λ_ h=>nomatch h):Fts P w K mg base 0 Zbj []) Z6A Ze5 (λvs M Q h=>?_) (λvs M Q h=>?_)
 ·obtain⟨i,rfl,_⟩:=h;rfl
 obtain⟨i,rfl,q⟩:=h
 show wSs _ _ _ [some (.int i)] M
 rw[Z6A,Z9I]
 walk_at "s"
 simpa using q
abbrev Z2J:SpM:=λvs M Q=>∃i:Int,vs=[.int i]/\1≤i/\i≤64/\Q (.bl true) M
theorem Z4m:MonW Z2J:=by walk_at "m"
theorem Zdw(T:Txt K mg t):FnOk P w K mg base CX0 2 t.f_is_width t.d_is_width ["number"] (liSp K Z2J):=by
 refine T.F_is_width.okM Zdr (Z0G (Φ:=[("is_whole",Z28)]) (Z0H T) (Z0g T) rfl (fMc ⟨Z4n,(fun _ h=>nomatch h)⟩) (fMc ⟨⟨_,_,_,(FnOk.mono (Z9k T) (by decide)),T.m_is_whole,T.F_is_whole.kp,T.b_is_whole⟩,(fun _ h=>nomatch h)⟩):Fts P w K mg base 1 Zbi [("is_whole",Z28)]) Z6z Ze4 (fun vs M Q h=>?_) (fun vs M Q h=>?_)
 ·obtain⟨i,rfl,_⟩:=h;rfl
 obtain⟨i,rfl,h1,h2,q⟩:=h
 show wSs _ _ _ [some (.int i)] M
 rw[Z6z,Z9H]
 walk_at "s"
 refine⟨i,rfl,?_⟩
 walk_at "s"
 rw[if_pos h1,decide_eq_true h2]
 exact q
abbrev Zbq:SpM:=λvs M Q=>∃(k:Nat) (i:Int),vs=[.int k,.int i]/\k≤64/\0≤i/\i<2^k/\Q (.bl true) M
theorem ZdB:MonW Zbq:=by walk_at "m"
theorem Zlb(T:Txt K mg t):FnOk P w K mg base CX0 2 t.f_fits t.d_fits ["width","number"] (liSp K Zbq):=by
 refine T.F_fits.okM Zkv (Z0G (Φ:=[("is_whole",Z28),("two_to",Z2l)]) (Z0H T) (Z0g T) rfl (fMc ⟨Z4n,(fMc ⟨Z3M,(fun _ h=>nomatch h)⟩)⟩) (fMc ⟨⟨_,_,_,(FnOk.mono (Z9k T) (by decide)),T.m_is_whole,T.F_is_whole.kp,T.b_is_whole⟩,(fMc ⟨⟨_,_,_,(FnOk.mono (Z9f T) (by decide)),T.m_two_to,T.F_two_to.kp,T.b_two_to⟩,(fun _ h=>nomatch h)⟩)⟩):Fts P w K mg base 1 Zkj [("is_whole",Z28),("two_to",Z2l)]) ZdP Zm0 (fun vs M Q h=>?_) (fun vs M Q h=>?_)
 ·obtain⟨k,i,rfl,_⟩:=h;rfl
 obtain⟨k,i,rfl,h1,h2,h3,q⟩:=h
 show wSs _ _ _ [some (.int k),some (.int i)] M
 rw[ZdP,Zhq]
 walk_at "s"
 refine⟨i,rfl,?_⟩
 walk_at "s"
 rw[if_pos h2]
 refine⟨k,rfl,h1,?_⟩
 walk_at "s"
 rw[decide_eq_true h3]
 exact q
abbrev Z0w:SpM:=λvs M Q=>∃(z:Str) (e:Addr) (zs:List Str),vs=[.str z,.ref e]/\M e=some (.lst (zs.map MV.str))/\z∈zs/\Q .non M
theorem Z1p:MonW Z0w:=by walk_at "m"
theorem Z2a(T:Txt K mg t):FnOk P w K mg base CX0 1 t.f_refuse_unknown t.d_refuse_unknown ["name","known"] (liSp K Z0w):=by
 refine T.F_refuse_unknown.okM Z7z (Z0G (Φ:=[]) (Z0H T) (Z0g T) rfl (λ_ h=>nomatch h) (λ_ h=>nomatch h):Fts P w K mg base 0 Z4c []) Z2e Z7N (λvs M Q h=>?_) (λvs M Q h=>?_)
 ·obtain⟨z,a,zs,rfl,_⟩:=h;rfl
 obtain⟨z,a,zs,rfl,h1,h2,q⟩:=h
 show wSs _ _ _ [some (.str z),some (.ref a)] M
 rw[Z2e,Z3y]
 walk_at "s"
 refine .inl ⟨_,h1,rfl,Z9U zs,?_⟩
 rw[ZdS,decide_eq_true h2]
 walk_at "s"
 exact q
theorem Z6N{α:Type} [DecidableEq α] {zs:List α}(nd:zs.Nodup){j:Nat}{z:α}(hz:zs[j]?=some z):z∉zs.take j:=λhm=>by
 obtain⟨hj,rfl⟩:=Y05.mp hz
 obtain⟨k,hk,e1⟩:=Y0x hm
 have hk2:k<j:=by rw[Y0J]at hk;lia
 rw[List.getElem_take]at e1
 have:=(Y37 nd).mp e1
 lia
theorem Zbm{α β:Type}{f:α->β}{zs:List α}{j:Nat}{z:α}(hz:zs[j]?=some z):(zs.take j).map f++[f z]=(zs.take (j+1)).map f:=by
 rw[Y0S,hz,Y0A];rfl
abbrev Z0I:SpM:=λvs M Q=>∃(f:Addr) (F:List Fer),vs=[.ref f]/\M f=some (.lst (F.map Fer.mv))/\F.length≤6/\(F.map (·.name)).Nodup/\(∀x∈F,Za3 x.name)/\∀M',SameM M M'->Q .non M'
theorem Z1A:MonW Z0I:=by walk_at "m"
theorem Z4k(T:Txt K mg t):FnOk P w K mg base CX0 3 t.f_refuse_ferry_names t.d_refuse_ferry_names ["ferries"] (liSp K Z0I):=by
 refine T.F_refuse_ferry_names.okM Z4i (Z0G (Φ:=[("refuse_name",Z0R)]) (Z0H T) (Z0g T) rfl (fMc ⟨Z20,(fun _ h=>nomatch h)⟩) (fMc ⟨⟨_,_,_,(FnOk.mono (Z3g T) (by decide)),T.m_refuse_name,T.F_refuse_name.kp,T.b_refuse_name⟩,(fun _ h=>nomatch h)⟩):Fts P w K mg base 2 Z2F [("refuse_name",Z0R)]) Z1r Z51 (fun vs M Q h=>?_) (fun vs M Q h=>?_)
 ·obtain⟨f,F,rfl,_⟩:=h;rfl
 obtain⟨f,F,rfl,hf,h6,nd,hg,q⟩:=h
 show wSs _ _ _ [some (.ref f),none,none] M
 rw[Z1r,Z2r]
 walk_at "s"
 intro p hp
 have s1:=SameM.new hp (.lst [])
 have hf1:=s1 _ _ hf
 have hp1:updM M p (.lst []) p=some (.lst []):=Z02
 have old:∀a o,M a=some o->a≠p:=λa o h=>neM h hp
 generalize updM M p _=M1 at*
 rw[Z2q]
 repeat (first|walk_at "s"|simp only[hf1])
 obtain⟨J,hJ⟩:∃J:Nat->Sm->MH->Prop,∀j σ M',J j σ M'↔SameM M M'/\M' p=some (.lst (((F.map (·.name)).take j).map MV.str))/\∃v,σ=[some (.ref f),some (.ref p),v]:=⟨_,λ_ _ _=>Y1A⟩
 refine⟨J,(hJ _ _ _).mpr ⟨s1,by simpa using hp1,_,rfl⟩,λj σ M' h=>((hJ _ _ _).mp h).1 _ _ hf,?_,?_⟩
 ·rintro j y σ M' hy h
  obtain⟨s2,hp2,v,rfl⟩:=(hJ _ _ _).mp h
  obtain⟨hj,rfl⟩:=Z0J hy
  have hj:j<F.length:=hj
  have hz:(F.map (·.name))[j]?=some F[j].name:=by rw[Y06,Y00 hj];rfl
  rw[Z2p]
  repeat (first|walk_at "s"|simp only[Fer.mv])
  refine⟨F[j].name,p,(F.map (·.name)).take j,rfl,hp2,hg _ (Y0p hj),Z6N nd hz,λM3 s3=>?_⟩
  have hp3:=s3 _ _ hp2
  walk_at "s"
  rw[Z2o]
  repeat (first|walk_at "s"|simp only[Fer.mv,hp3,Y01,Y0J])
  refine⟨⟨_,rfl⟩,by lia,(hJ _ _ _).mpr ⟨λa o h=>by rw[Z06 (old a o h)];exact s3 _ _ (s2 _ _ h),?_,_,rfl⟩⟩
  rw[Z02,Zbm hz]
 ·rintro σ M' h
  obtain⟨s2,_⟩:=(hJ _ _ _).mp h
  exact q _ s2
abbrev Z0T:SpM:=λvs M Q=>∃(k:Nat) (f:Addr) (ps:List (Str×Int)),vs=[.int k,.ref f]/\M f=some (.lst (ps.map prV))/\k≤64/\ps.length≤6/\(ps.map (·.1)).Nodup/\(∀x∈ps,Za3 x.1/\0≤x.2/\x.2<2^k)/\∀M',SameM M M'->Q .non M'
theorem Z1Z:MonW Z0T:=by walk_at "m"
theorem Z6p(T:Txt K mg t):FnOk P w K mg base CX0 3 t.f_refuse_variables t.d_refuse_variables ["width","pairs"] (liSp K Z0T):=by
 refine T.F_refuse_variables.okM Z6m (Z0G (Φ:=[("fits",Zbq),("refuse_name",Z0R)]) (Z0H T) (Z0g T) rfl (fMc ⟨ZdB,(fMc ⟨Z20,(fun _ h=>nomatch h)⟩)⟩) (fMc ⟨⟨_,_,_,(FnOk.mono (Zlb T) (by decide)),T.m_fits,T.F_fits.kp,T.b_fits⟩,(fMc ⟨⟨_,_,_,(FnOk.mono (Z3g T) (by decide)),T.m_refuse_name,T.F_refuse_name.kp,T.b_refuse_name⟩,(fun _ h=>nomatch h)⟩)⟩):Fts P w K mg base 2 Z3e [("fits",Zbq),("refuse_name",Z0R)]) Z1R Z6E (fun vs M Q h=>?_) (fun vs M Q h=>?_)
 ·obtain⟨k,f,F,rfl,_⟩:=h;rfl
 obtain⟨k,f,F,rfl,hf,hk,h6,nd,hg,q⟩:=h
 show wSs _ _ _ [some (.int k),some (.ref f),none,none,none] M
 rw[Z1R,Z2W]
 walk_at "s"
 intro p hp
 have s1:=SameM.new hp (.lst [])
 have hf1:=s1 _ _ hf
 have hp1:updM M p (.lst []) p=some (.lst []):=Z02
 have old:∀a o,M a=some o->a≠p:=λa o h=>neM h hp
 generalize updM M p _=M1 at*
 rw[Z2V]
 repeat (first|walk_at "s"|simp only[hf1])
 obtain⟨J,hJ⟩:∃J:Nat->Sm->MH->Prop,∀j σ M',J j σ M'↔SameM M M'/\M' p=some (.lst (((F.map (·.1)).take j).map MV.str))/\∃v v',σ=[some (.int k),some (.ref f),some (.ref p),v,v']:=⟨_,λ_ _ _=>Y1A⟩
 refine⟨J,(hJ _ _ _).mpr ⟨s1,by simpa using hp1,_,_,rfl⟩,λj σ M' h=>((hJ _ _ _).mp h).1 _ _ hf,?_,?_⟩
 ·rintro j y σ M' hy h
  obtain⟨s2,hp2,v,v',rfl⟩:=(hJ _ _ _).mp h
  obtain⟨hj,rfl⟩:=Z0J hy
  have hj:j<F.length:=hj
  have hz:(F.map (·.1))[j]?=some F[j].1:=by rw[Y06,Y00 hj];rfl
  obtain⟨g1,g2,g3⟩:=hg _ (Y0p hj)
  rw[Z2U]
  repeat (first|walk_at "s"|simp only[prV])
  rw[Z2T]
  walk_at "s"
  refine⟨F[j].1,p,(F.map (·.1)).take j,rfl,hp2,g1,Z6N nd hz,λM3 s3=>?_⟩
  have hp3:=s3 _ _ hp2
  walk_at "s"
  rw[Z2S]
  repeat (first|walk_at "s"|simp only[hp3,Y01,Y0J])
  refine⟨⟨_,rfl⟩,by lia,?_⟩
  rw[Z2R]
  repeat (first|walk_at "s"|simp only[prV])
  refine⟨k,F[j].2,rfl,hk,g2,g3,?_⟩
  walk_at "s"
  refine(hJ _ _ _).mpr ⟨λa o h=>by rw[Z06 (old a o h)];exact s3 _ _ (s2 _ _ h),?_,_,_,rfl⟩
  rw[Z02,Zbm hz]
 ·rintro σ M' h
  obtain⟨s2,_⟩:=(hJ _ _ _).mp h
  exact q _ s2
abbrev Z2i:SpM:=λvs M Q=>∃(U:Tm) (e:Addr) (ns:List Str),vs=[U.mv,.ref e]/\M e=some (.lst (ns.map MV.str))/\ns.length≤6/\TmIn ns U/\∀M',SameM M M'->Q .non M'
theorem Z6R:MonW Z2i:=by walk_at "m"
theorem Zaj(T:Txt K mg t):FnOk P w K mg base CX0 51 t.f_refuse_term t.d_refuse_term ["T","known"] (liSp K Z2i):=by
 refine T.F_refuse_term.okM Zac (Z0G (Φ:=[("refuse_unknown",Z0w),("size_of",(Z27 8)),("vars_in",Z5c)]) (Z0H T) (Z0g T) rfl (fMc ⟨Z1p,(fMc ⟨(Z5w _),(fMc ⟨Zao,(fun _ h=>nomatch h)⟩)⟩)⟩) (fMc ⟨⟨_,_,_,FnOk.mono (Z2a T) (by decide),T.m_refuse_unknown,T.F_refuse_unknown.kp,T.b_refuse_unknown⟩,(fMc ⟨⟨_,_,_,FnOk.mono (ZaM T 8) (by decide),T.m_size_of,T.F_size_of.kp,T.b_size_of⟩,(fMc ⟨⟨_,_,_,FnOk.mono (Zfl T) (by decide),T.m_vars_in,T.F_vars_in.kp,T.b_vars_in⟩,(fun _ h=>nomatch h)⟩)⟩)⟩):Fts P w K mg base 50 Z7s [("refuse_unknown",Z0w),("size_of",(Z27 8)),("vars_in",Z5c)]) Z3j ZaA (fun vs M Q h=>?_) (fun vs M Q h=>?_)
 ·obtain⟨U,a,ns,rfl,_⟩:=h;rfl
 obtain⟨U,a,ns,rfl,ha,h6,⟨hd,hs,hr⟩,q⟩:=h
 show wSs _ _ _ [some U.mv,some (.ref a),none,none] M
 rw[Z3j,Z5E]
 walk_at "s"
 refine⟨U,rfl,hd,λM1 s1=>?_⟩
 walk_at "s"
 rw[Z5D]
 walk_at "s"
 rw[if_neg (by lia:¬((U.size:Nat):Int)>30)]
 rw[if_neg (by lia:¬((U.depth:Nat):Int)>8)]
 rw[Z5C]
 walk_at "s"
 refine⟨U,ns,rfl,by lia,by lia,hr,by lia,λp M2 ys s2 hp hp2 nd hm _=>?_⟩
 repeat (first|walk_at "s"|simp only[hp2])
 obtain⟨J,hJ⟩:∃J:Nat->Sm->MH->Prop,∀j σ M',J j σ M'↔M'=M2/\∃v v',σ=[some U.mv,some (.ref a),v,v']:=⟨_,λ_ _ _=>Y1A⟩
 refine⟨J,(hJ _ _ _).mpr ⟨rfl,_,_,rfl⟩,λj σ M' h=>by rw[((hJ _ _ _).mp h).1];exact hp2,?_,?_⟩
 ·rintro j y σ M' hy h
  obtain⟨rfl,v,v',rfl⟩:=(hJ _ _ _).mp h
  obtain⟨hj,rfl⟩:=Z0J hy
  rw[Z5B]
  walk_at "s"
  refine⟨ys[j],a,ns,rfl,s2 _ _ (s1 _ _ ha),hr _ ((hm _).mp (Y0p hj)),?_⟩
  walk_at "s"
  exact(hJ _ _ _).mpr ⟨rfl,_,_,rfl⟩
 ·rintro σ M' h
  obtain⟨rfl,_⟩:=(hJ _ _ _).mp h
  exact q _ (s1.trans s2)
theorem Zdm{f x:Str}:(Stp.take f x).mv=.tup [.str "take",.str f,.str x]:=rfl
theorem Zdo{f:Str}{U:Tm}:(Stp.give f U).mv=.tup [.str "give",.str f,U.mv]:=rfl
theorem Zgd{f:Str}{U:Tm}:(Stp.put f U).mv=.tup [.str "put",.str f,U.mv]:=rfl
theorem Zdn{i:Int}{U:Tm}:(Stp.jump U i).mv=.tup [.str "jump",U.mv,.int i]:=rfl
abbrev Z1y:SpM:=λvs M Q=>∃(S:Stp) (a b:Addr) (ns fs:List Str) (n:Nat),vs=[S.mv,.ref a,.int n,.ref b]/\M a=some (.lst (ns.map MV.str))/\M b=some (.lst (fs.map MV.str))/\ns.length≤6/\Z7Q fs ns n S/\∀M',SameM M M'->Q .non M'
theorem Z3b:MonW Z1y:=by walk_at "m"
theorem Zak(T:Txt K mg t):FnOk P w K mg base CX0 52 t.f_refuse_step t.d_refuse_step ["step","known","count","ferry_names"] (liSp K Z1y):=by
 refine T.F_refuse_step.okM Zad (Z0G (Φ:=[("refuse_term",Z2i),("refuse_unknown",Z0w)]) (Z0H T) (Z0g T) rfl (fMc ⟨Z6R,(fMc ⟨Z1p,(fun _ h=>nomatch h)⟩)⟩) (fMc ⟨⟨_,_,_,(FnOk.mono (Zaj T) (by decide)),T.m_refuse_term,T.F_refuse_term.kp,T.b_refuse_term⟩,(fMc ⟨⟨_,_,_,(FnOk.mono (Z2a T) (by decide)),T.m_refuse_unknown,T.F_refuse_unknown.kp,T.b_refuse_unknown⟩,(fun _ h=>nomatch h)⟩)⟩):Fts P w K mg base 51 Z7t [("refuse_term",Z2i),("refuse_unknown",Z0w)]) Z3k ZaB (fun vs M Q h=>?_) (fun vs M Q h=>?_)
 ·obtain⟨S,a,b,ns,fs,n,rfl,_⟩:=h;rfl
 obtain⟨S,a,b,ns,fs,n,rfl,ha,hb,h6,hS,q⟩:=h
 show wSs _ _ _ [some S.mv,some (.ref a),some (.int n),some (.ref b)] M
 rw[Z3k,Z5M]
 cases S with
 |take f x=>
  obtain⟨h1,h2⟩:=hS
  repeat (first|walk_at "s"|simp only[Zdm])
  rw[Z5L]
  walk_at "s"
  refine⟨f,b,fs,rfl,hb,h1,?_⟩
  walk_at "s"
  rw[Z5K]
  walk_at "s"
  refine⟨x,a,ns,rfl,ha,h2,?_⟩
  walk_at "s"
  exact q _ (SameM.refl _)
 |give f U=>
  obtain⟨h1,h2⟩:=hS
  repeat (first|walk_at "s"|simp only[Zdo])
  rw[Z2k]
  walk_at "s"
  rw[Z5J]
  walk_at "s"
  refine⟨f,b,fs,rfl,hb,h1,?_⟩
  walk_at "s"
  rw[Z5I]
  walk_at "s"
  refine⟨U,a,ns,rfl,ha,h6,h2,λM1 s1=>?_⟩
  walk_at "s"
  exact q _ s1
 |put f U=>
  obtain⟨h1,h2⟩:=hS
  repeat (first|walk_at "s"|simp only[Zgd])
  rw[Z2k]
  walk_at "s"
  rw[Z3h]
  walk_at "s"
  rw[Z5H]
  walk_at "s"
  refine⟨f,a,ns,rfl,ha,h1,?_⟩
  walk_at "s"
  rw[Z5G]
  walk_at "s"
  refine⟨U,a,ns,rfl,ha,h6,h2,λM1 s1=>?_⟩
  walk_at "s"
  exact q _ s1
 |jump U i=>
  obtain⟨h1,h2,h3⟩:=hS
  repeat (first|walk_at "s"|simp only[Zdn])
  rw[Z2k]
  walk_at "s"
  rw[Z3h]
  walk_at "s"
  rw[Z5F]
  walk_at "s"
  refine⟨U,a,ns,rfl,ha,h6,h1,λM1 s1=>?_⟩
  walk_at "s"
  rw[Z4x]
  walk_at "s"
  rw[if_pos h2]
  rw[if_neg (by lia:¬¬i≤(n:Int))]
  exact q _ s1
abbrev Z1I:SpM:=λvs M Q=>∃(k:Nat) (I:Isl) (y:MV) (b:Addr) (fs:List Str),vs=[.int k,y,.ref b]/\k≤64/\IslIn M I y/\M b=some (.lst (fs.map MV.str))/\IslOk k fs I/\∀M',SameM M M'->Q .non M'
theorem Z5q:MonW Z1I:=by walk_at "m"
theorem Z8J(T:Txt K mg t):FnOk P w K mg base CX0 53 t.f_refuse_island t.d_refuse_island ["width","island","ferry_names"] (liSp K Z1I):=by
 refine T.F_refuse_island.okM Z8H (Z0G (Φ:=[("refuse_step",Z1y),("refuse_variables",Z0T)]) (Z0H T) (Z0g T) rfl (fMc ⟨Z3b,(fMc ⟨Z1Z,(fun _ h=>nomatch h)⟩)⟩) (fMc ⟨⟨_,_,_,(FnOk.mono (Zak T) (by decide)),T.m_refuse_step,T.F_refuse_step.kp,T.b_refuse_step⟩,(fMc ⟨⟨_,_,_,(FnOk.mono (Z6p T) (by decide)),T.m_refuse_variables,T.F_refuse_variables.kp,T.b_refuse_variables⟩,(fun _ h=>nomatch h)⟩)⟩):Fts P w K mg base 52 Z55 [("refuse_step",Z1y),("refuse_variables",Z0T)]) Z2x Z8P (fun vs M Q h=>?_) (fun vs M Q h=>?_)
 ·obtain⟨k,I,y,b,fs,rfl,_⟩:=h;rfl
 obtain⟨k,I,y,fa,fs,rfl,hk,⟨a,b,rfl,ha,hb⟩,hfa,ok,q⟩:=h
 show wSs _ _ _ [some (.int k),some (.tup [.str I.name,.ref a,.ref b]),some (.ref fa),none,none] M
 have l1:=ok.nv
 have l2:=ok.ns
 rw[Z2x,Z4b]
 repeat (first|walk_at "s"|simp only[ha,Y01])
 refine Z4e (λz=>by lia) (λ_=>?_)
 rw[Z4a]
 repeat (first|walk_at "s"|simp only[hb,Y01])
 refine Z4e (λz=>by lia) (λ_=>?_)
 rw[Z49]
 walk_at "s"
 refine⟨k,a,I.prs,rfl,ha,hk,l1,ok.nd,λx hx=>⟨ok.gd _ (Y0r.mpr ⟨x,hx,rfl⟩),ok.wd _ hx⟩,λM1 s1=>?_⟩
 walk_at "s"
 have ha1:=s1 _ _ ha
 rw[Z48]
 walk_at "s"
 refine Z1E I.prs prV (fun p=>.str p.1) ?_ ?_ (Z6T (Φ:=[("refuse_step",Z1y),("refuse_variables",Z0T)]) (fMc ⟨Z3b,(fMc ⟨Z1Z,(fun _ h=>nomatch h)⟩)⟩)) fun D hD=>?_
 ·repeat (first|walk_at "s"|simp only[ha1])
  exact⟨rfl,by lia,ha1⟩
 ·intro p hp M' s
  simp only[sCm,Y0h,Y0N,Y0s,Y0t,Y0B,Y0y]
  repeat (first|walk_at "s"|simp only[prV])
  try exact⟨rfl,rfl⟩
 have eV:(I.prs.map λp=>MV.str p.1)=I.vars.map MV.str:=by unfold Isl.vars;rw[Y0G];rfl
 rw[eV]
 have s2:=s1.trans (SameM.new hD (.lst (I.vars.map MV.str)))
 have hD2:updM M1 D (.lst (I.vars.map MV.str)) D=some (.lst (I.vars.map MV.str)):=Z02
 generalize updM M1 D _=M2 at*
 have hb2:=s2 _ _ hb
 rw[Z47]
 repeat (first|walk_at "s"|simp only[hb2])
 obtain⟨J,hJ⟩:∃J:Nat->Sm->MH->Prop,∀j σ M',J j σ M'↔SameM M2 M'/\∃v,σ=[some (.int k),some (.tup [.str I.name,.ref a,.ref b]),some (.ref fa),some (.ref D),v]:=⟨_,λ_ _ _=>Y1A⟩
 refine⟨J,(hJ _ _ _).mpr ⟨SameM.refl _,_,rfl⟩,λj σ M' h=>((hJ _ _ _).mp h).1 _ _ hb2,?_,?_⟩
 ·rintro j y σ M' hy h
  obtain⟨s3,v,rfl⟩:=(hJ _ _ _).mp h
  obtain⟨hj,rfl⟩:=Z0J hy
  have hj:j<I.stps.length:=hj
  have hb3:=s3 _ _ hb2
  rw[Z46]
  repeat (first|walk_at "s"|simp only[hb3,Y01])
  refine⟨I.stps[j],D,fa,I.vars,fs,I.stps.length,rfl,s3 _ _ hD2,s3 _ _ (s2 _ _ hfa),by unfold Isl.vars;rw[Y01];exact l1,ok.st _ (Y0p hj),λM4 s4=>?_⟩
  walk_at "s"
  exact(hJ _ _ _).mpr ⟨s3.trans s4,_,rfl⟩
 ·rintro σ M' h
  obtain⟨s3,_⟩:=(hJ _ _ _).mp h
  exact q _ (s2.trans s3)
abbrev Z15:SpM:=λvs M Q=>∃(k:Nat) (p b:Addr) (Is:List Isl) (ys:List MV) (fs:List Str),vs=[.int k,.ref p,.ref b]/\k≤64/\M p=some (.lst ys)/\IslsIn M Is ys/\Is.length≤5/\fs.length≤6/\M b=some (.lst (fs.map MV.str))/\(fs++Is.map (·.name)).Nodup/\(∀I∈Is,Za3 I.name)/\(∀I∈Is,IslOk k fs I)/\∀M',SameM M M'->Q .non M'
theorem Z2n:MonW Z15:=by walk_at "m"
theorem Z7B(T:Txt K mg t):FnOk P w K mg base CX0 54 t.f_refuse_islands t.d_refuse_islands ["width","islands","ferry_names"] (liSp K Z15):=by
 refine T.F_refuse_islands.okM Z7A (Z0G (Φ:=[("refuse_island",Z1I),("refuse_name",Z0R)]) (Z0H T) (Z0g T) rfl (fMc ⟨Z5q,(fMc ⟨Z20,(fun _ h=>nomatch h)⟩)⟩) (fMc ⟨⟨_,_,_,(FnOk.mono (Z8J T) (by decide)),T.m_refuse_island,T.F_refuse_island.kp,T.b_refuse_island⟩,(fMc ⟨⟨_,_,_,(FnOk.mono (Z3g T) (by decide)),T.m_refuse_name,T.F_refuse_name.kp,T.b_refuse_name⟩,(fun _ h=>nomatch h)⟩)⟩):Fts P w K mg base 53 Z4d [("refuse_island",Z1I),("refuse_name",Z0R)]) Z2f Z7O (fun vs M Q h=>?_) (fun vs M Q h=>?_)
 ·obtain⟨k,p,b,Is,ys,fs,rfl,_⟩:=h;rfl
 obtain⟨k,p,f,Is,ys,fs,rfl,hk,hp,hI,h5,hf6,hf,nd,hg,ok,q⟩:=h
 show wSs _ _ _ [some (.int k),some (.ref p),some (.ref f),none,none] M
 rw[Z2f,Z3D]
 repeat (first|walk_at "s"|simp only[hf])
 intro e he
 have s1:=SameM.new he (.lst (fs.map MV.str))
 have he1:updM M e (.lst (fs.map MV.str)) e=some (.lst (fs.map MV.str)):=Z02
 have hp1:=s1 _ _ hp
 have old:∀a o,M a=some o->a≠e:=λa o h=>neM h he
 generalize updM M e _=M1 at*
 rw[Z3C]
 repeat (first|walk_at "s"|simp only[hp1])
 obtain⟨J,hJ⟩:∃J:Nat->Sm->MH->Prop,∀j σ M',J j σ M'↔SameM M M'/\M' e=some (.lst ((fs++(Is.map (·.name)).take j).map MV.str))/\∃v,σ=[some (.int k),some (.ref p),some (.ref f),some (.ref e),v]:=⟨_,λ_ _ _=>Y1A⟩
 refine⟨J,(hJ _ _ _).mpr ⟨s1,by simpa using he1,_,rfl⟩,λj σ M' h=>((hJ _ _ _).mp h).1 _ _ hp,?_,?_⟩
 ·rintro j y σ M' hy h
  obtain⟨s2,he2,v,rfl⟩:=(hJ _ _ _).mp h
  have hy:ys[j]?=some y:=hy
  have hj:j<Is.length:=by rw[<- hI.1];exact(Y05.mp hy).1
  have hi:Is[j]?=some Is[j]:=Y00 hj
  have hz:(Is.map (·.name))[j]?=some Is[j].name:=by rw[Y06,hi];rfl
  have hm:=Y0p hj
  obtain⟨a,b,rfl,_⟩:=(hI.keep s2).2 j Is[j] y hi hy
  have nin:Is[j].name∉fs++(Is.map (·.name)).take j:=by
   rw[Y1d]at nd
   intro z
   rcases Y0Q.mp z with z|z
   ·exact nd.2.2 _ z _ (Y0r.mpr ⟨_,hm,rfl⟩) rfl
   ·exact Z6N nd.2.1 hz z
  rw[Z3B]
  walk_at "s"
  refine⟨Is[j].name,e,fs++(Is.map (·.name)).take j,rfl,he2,hg _ hm,nin,λM3 s3=>?_⟩
  have he3:=s3 _ _ he2
  walk_at "s"
  rw[Z3A]
  repeat (first|walk_at "s"|simp only[he3,Y01,Y0D,Y0J])
  refine⟨⟨_,rfl⟩,by lia,?_⟩
  have s4:SameM M (updM M3 e (.lst ((fs++(Is.map (·.name)).take j).map MV.str++[.str Is[j].name]))):=λa o h=>by rw[Z06 (old a o h)];exact s3 _ _ (s2 _ _ h)
  have he4:updM M3 e (.lst ((fs++(Is.map (·.name)).take j).map MV.str++[.str Is[j].name])) e=some (.lst ((fs++(Is.map (·.name)).take (j+1)).map MV.str)):=by
   rw[Z02,Y0A,Y0A,Y25,Zbm hz]
  generalize updM M3 e _=M4 at*
  rw[Z3z]
  walk_at "s"
  refine⟨k,Is[j],_,f,fs,rfl,hk,(hI.keep s4).2 j _ _ hi hy,s4 _ _ hf,ok _ hm,λM5 s5=>?_⟩
  walk_at "s"
  exact(hJ _ _ _).mpr ⟨s4.trans s5,s5 _ _ he4,_,rfl⟩
 ·rintro σ M' h
  obtain⟨s2,_⟩:=(hJ _ _ _).mp h
  exact q _ s2
abbrev Z1k:SpM:=λvs M Q=>∃(x:Fer) (e:Addr) (zs:List Str),vs=[x.mv,.ref e]/\M e=some (.lst (zs.map MV.str))/\FerOk zs x/\Q .non M
theorem Z2M:MonW Z1k:=by walk_at "m"
theorem Z9i(T:Txt K mg t):FnOk P w K mg base CX0 2 t.f_refuse_ferry t.d_refuse_ferry ["ferry","island_names"] (liSp K Z1k):=by
 refine T.F_refuse_ferry.okM Z97 (Z0G (Φ:=[("refuse_unknown",Z0w)]) (Z0H T) (Z0g T) rfl (fMc ⟨Z1p,(fun _ h=>nomatch h)⟩) (fMc ⟨⟨_,_,_,(FnOk.mono (Z2a T) (by decide)),T.m_refuse_unknown,T.F_refuse_unknown.kp,T.b_refuse_unknown⟩,(fun _ h=>nomatch h)⟩):Fts P w K mg base 1 Z6g [("refuse_unknown",Z0w)]) Z2Z Z9Y (fun vs M Q h=>?_) (fun vs M Q h=>?_)
 ·obtain⟨x,a,zs,rfl,_⟩:=h;rfl
 obtain⟨x,a,zs,rfl,ha,ok,q⟩:=h
 show wSs _ _ _ [some (.tup [.str x.name,.str x.giver,.str x.taker,.int x.k,.int x.st]),some (.ref a)] M
 have k3:=ok.k3
 have t1:=ok.s1
 have t3:=ok.s3
 rw[Z2Z,Z4C]
 walk_at "s"
 refine⟨_,a,zs,rfl,ha,ok.g,?_⟩
 walk_at "s"
 rw[Z4B]
 walk_at "s"
 refine⟨_,a,zs,rfl,ha,ok.t,?_⟩
 walk_at "s"
 rw[Z4A]
 walk_at "s"
 rw[if_neg ok.ne]
 rw[Z4z]
 walk_at "s"
 rw[if_pos (by lia:(0:Int)≤(x.k:Int))]
 rw[if_neg (by lia:¬¬(x.k:Int)≤3)]
 rw[Z4y]
 walk_at "s"
 rw[if_pos (by lia:(1:Int)≤(x.st:Int))]
 rw[if_neg (by lia:¬¬(x.st:Int)≤3)]
 exact q
theorem Zfh{F:List Fer}{g:Fer->Str}:∀{c:List (Key×MV)},(F.map (·.name)).Nodup->(∀x∈F,valM c (Y0O x.name)=none)->∀x∈F,valM ((F.map λy=>((Y0O y.name:Key),MV.str (g y))).foldl (λc z=>putM c z.1 z.2) c) (Y0O x.name)=some (.str (g x)):=by
 have stay:∀(F:List Fer) (c:List (Key×MV)) (z:Str),(∀y∈F,y.name≠z)->valM ((F.map λy=>((Y0O y.name:Key),MV.str (g y))).foldl (λc z=>putM c z.1 z.2) c) (Y0O z)=valM c (Y0O z):=by
  intro F
  induction F with
  |nil=>intro c z _;rfl
  |cons y r ih=>
   intro c z h
   rw[Y0h,Y1M,ih _ _ (λy hy=>h y (Y0n _ hy)),Z6G,if_neg (λe=>h y (Y0v ..) (Y2c e).symm)]
 induction F with
 |nil=>intro c _ _ x hx;cases hx
 |cons y r ih=>
  intro c nd h x hx
  rw[Y0h,Y11]at nd
  rw[Y0h,Y1M]
  rcases Y0f.mp hx with rfl|hx
  ·rw[stay _ _ _ (λz hz e=>nd.1 (Y0r.mpr ⟨z,hz,e⟩)),Z6G,if_pos rfl]
  ·refine ih nd.2 (λz hz=>?_) x hx
   rw[Z6G,if_neg (λe=>nd.1 (Y0r.mpr ⟨z,hz,Y2c e⟩))]
   exact h z (Y0n _ hz)
def dirK(F:List Fer)(g:Fer->Str):List (Key×MV):=Z2K (F.map λy=>((Y0O y.name:Key),MV.str (g y)))
theorem ZeY{F:List Fer}{g:Fer->Str}(nd:(F.map (·.name)).Nodup){x:Fer}(hx:x∈F):valM (dirK F g) (Y0O x.name)=some (.str (g x)):=Zfh nd (λ_ _=>rfl) x hx
abbrev Z0S:SpM:=λvs M Q=>∃(z:Str) (S:Stp) (a b:Addr) (F:List Fer),vs=[.str z,S.mv,.ref a,.ref b]/\M a=some (.dic (dirK F (·.giver)))/\M b=some (.dic (dirK F (·.taker)))/\(F.map (·.name)).Nodup/\Zdg F z S/\(∀f,(∃x,S=.take f x)\/(∃U,S=.give f U)->f∈F.map (·.name))/\Q .non M
theorem Z1Y:MonW Z0S:=by walk_at "m"
theorem Z6o(T:Txt K mg t):FnOk P w K mg base CX0 1 t.f_refuse_wrong_end t.d_refuse_wrong_end ["name","step","givers","takers"] (liSp K Z0S):=by
 refine T.F_refuse_wrong_end.okM Z6l (Z0G (Φ:=[]) (Z0H T) (Z0g T) rfl (λ_ h=>nomatch h) (λ_ h=>nomatch h):Fts P w K mg base 0 Z3d []) Z1Q Z6D (λvs M Q h=>?_) (λvs M Q h=>?_)
 ·obtain⟨z,S,a,b,F,rfl,_⟩:=h;rfl
 obtain⟨z,S,a,b,F,rfl,ha,hb,nd,hE,hF,q⟩:=h
 show wSs _ _ _ [some (.str z),some S.mv,some (.ref a),some (.ref b)] M
 rw[Z1Q,Z2Q]
 cases S with
 |take f x=>
  obtain⟨y,hy,rfl⟩:=Y0r.mp (hF f (.inl ⟨x,rfl⟩))
  have v:=ZeY (g:=(·.taker)) nd hy
  have e:=hE y hy rfl
  repeat (first|walk_at "s"|simp only[Zdm,hb,v,e])
  rw[Z0V]
  repeat (first|walk_at "s"|simp only[Zdm])
  exact q
 |give f U=>
  obtain⟨y,hy,rfl⟩:=Y0r.mp (hF f (.inr ⟨U,rfl⟩))
  have v:=ZeY (g:=(·.giver)) nd hy
  have e:=hE y hy rfl
  repeat (first|walk_at "s"|simp only[Zdo])
  rw[Z0V]
  repeat (first|walk_at "s"|simp only[Zdo,ha,v,e])
  exact q
 |put f U=>
  repeat (first|walk_at "s"|simp only[Zgd])
  rw[Z0V]
  repeat (first|walk_at "s"|simp only[Zgd])
  exact q
 |jump U i=>
  repeat (first|walk_at "s"|simp only[Zdn])
  rw[Z0V]
  repeat (first|walk_at "s"|simp only[Zdn])
  exact q
theorem ZbB{fs ns:List Str}{n:Nat}{S:Stp}(h:Z7Q fs ns n S):∀f,(∃x,S=.take f x)\/(∃U,S=.give f U)->f∈fs:=by
 rintro f (⟨x,rfl⟩|⟨U,rfl⟩)
 ·exact h.1
 ·exact h.1
abbrev Z0P:SpM:=λvs M Q=>∃(p f:Addr) (ys:List MV) (Is:List Isl) (F:List Fer),vs=[.ref p,.ref f]/\M p=some (.lst ys)/\IslsIn M Is ys/\Is.length≤5/\M f=some (.lst (F.map Fer.mv))/\F.length≤6/\(F.map (·.name)).Nodup/\
 (∀I∈Is,I.stps.length≤12/\∀s∈I.stps,Zdg F I.name s/\∃ns n,Z7Q (F.map (·.name)) ns n s)/\∀M',SameM M M'->Q .non M'
theorem Z1S:MonW Z0P:=by walk_at "m"
theorem ZcM(F:List Fer)(g:Fer->Str):(F.map λx=>MV.tup [.str x.name,.str (g x)])=(F.map λy=>((Y0O y.name:Key),MV.str (g y))).map prM:=by rw[Y0G];rfl
theorem Z5p(T:Txt K mg t):FnOk P w K mg base CX0 2 t.f_refuse_wrong_ends t.d_refuse_wrong_ends ["islands","ferries"] (liSp K Z0P):=by
 refine T.F_refuse_wrong_ends.okM Z5n (Z0G (Φ:=[("refuse_wrong_end",Z0S)]) (Z0H T) (Z0g T) rfl (fMc ⟨Z1Y,(fun _ h=>nomatch h)⟩) (fMc ⟨⟨_,_,_,(FnOk.mono (Z6o T) (by decide)),T.m_refuse_wrong_end,T.F_refuse_wrong_end.kp,T.b_refuse_wrong_end⟩,(fun _ h=>nomatch h)⟩):Fts P w K mg base 1 Z38 [("refuse_wrong_end",Z0S)]) Z1x Z5s (fun vs M Q h=>?_) (fun vs M Q h=>?_)
 ·obtain⟨p,f,ys,Is,F,rfl,_⟩:=h;rfl
 obtain⟨p,f,ys,Is,F,rfl,hp,hI,h5,hf,h6,nd,hE,q⟩:=h
 show wSs _ _ _ [some (.ref p),some (.ref f),none,none,none,none] M
 have hΦ:=(Z6T (Φ:=[("refuse_wrong_end",Z0S)]) (fMc ⟨Z1Y,(fun _ h=>nomatch h)⟩))
 rw[Z1x,Z2E]
 walk_at "s"
 refine Z1E F Fer.mv (λx=>.tup [.str x.name,.str x.giver]) ?_ ?_ hΦ λD hD=>?_
 ·repeat (first|walk_at "s"|simp only[hf])
  exact⟨rfl,by lia,hf⟩
 ·intro x hx M' s
  simp only[sCm,Y0h,Y0N,Y0s,Y0t,Y0B,Y0y]
  repeat (first|walk_at "s"|simp only[Fer.mv])
  try exact⟨rfl,rfl⟩
 rw[ZcM F (·.giver)]
 have s1:=SameM.new hD (.lst ((F.map λy=>((Y0O y.name:Key),MV.str y.giver)).map prM))
 have d1:updM M D (.lst ((F.map λy=>((Y0O y.name:Key),MV.str y.giver)).map prM)) D=some (.lst ((F.map λy=>((Y0O y.name:Key),MV.str y.giver)).map prM)):=Z02
 generalize updM M D _=M1 at*
 walk_at "s"
 refine⟨_,d1,λa ha=>?_⟩
 have s2:=s1.trans (SameM.new ha (.dic (dirK F (·.giver))))
 have ha2:updM M1 a (.dic (dirK F (·.giver))) a=some (.dic (dirK F (·.giver))):=Z02
 change wSs _ _ _ _ (updM M1 a (.dic (dirK F (·.giver))))
 generalize updM M1 a _=M2 at*
 have hf2:=s2 _ _ hf
 rw[Z2D]
 walk_at "s"
 refine Z1E F Fer.mv (λx=>.tup [.str x.name,.str x.taker]) ?_ ?_ hΦ λD2 hD2=>?_
 ·repeat (first|walk_at "s"|simp only[hf2])
  exact⟨rfl,by lia,hf2⟩
 ·intro x hx M' s
  simp only[sCm,Y0h,Y0N,Y0s,Y0t,Y0B,Y0y]
  repeat (first|walk_at "s"|simp only[Fer.mv])
  try exact⟨rfl,rfl⟩
 rw[ZcM F (·.taker)]
 have s3:=SameM.new hD2 (.lst ((F.map λy=>((Y0O y.name:Key),MV.str y.taker)).map prM))
 have d3:updM M2 D2 (.lst ((F.map λy=>((Y0O y.name:Key),MV.str y.taker)).map prM)) D2=some (.lst ((F.map λy=>((Y0O y.name:Key),MV.str y.taker)).map prM)):=Z02
 generalize updM M2 D2 _=M3 at*
 walk_at "s"
 refine⟨_,d3,λb hb=>?_⟩
 have s4:=s3.trans (SameM.new hb (.dic (dirK F (·.taker))))
 have hb4:updM M3 b (.dic (dirK F (·.taker))) b=some (.dic (dirK F (·.taker))):=Z02
 change wSs _ _ _ _ (updM M3 b (.dic (dirK F (·.taker))))
 generalize updM M3 b _=M4 at*
 have ha4:=s4 _ _ ha2
 have s5:=s2.trans s4
 have hp4:=s5 _ _ hp
 have hI4:=hI.keep s5
 rw[Z2C]
 repeat (first|walk_at "s"|simp only[hp4])
 obtain⟨J,hJ⟩:∃J:Nat->Sm->MH->Prop,∀j σ M',J j σ M'↔M'=M4/\∃v v',σ=[some (.ref p),some (.ref f),some (.ref a),some (.ref b),v,v']:=⟨_,λ_ _ _=>Y1A⟩
 refine⟨J,(hJ _ _ _).mpr ⟨rfl,_,_,rfl⟩,λj σ M' h=>by rw[((hJ _ _ _).mp h).1];exact hp4,?_,?_⟩
 ·rintro j y σ M' hy h
  obtain⟨rfl,v,v',rfl⟩:=(hJ _ _ _).mp h
  obtain⟨I,hm,c,d,rfl,hc,hd⟩:=hI4.mem (Y08 hy)
  obtain⟨l12,hS⟩:=hE I hm
  rw[Z2B]
  repeat (first|walk_at "s"|simp only[hd])
  obtain⟨J2,hJ2⟩:∃J2:Nat->Sm->MH->Prop,∀j σ M,J2 j σ M↔M=M'/\∃v',σ=[some (.ref p),some (.ref f),some (.ref a),some (.ref b),some (.tup [.str I.name,.ref c,.ref d]),v']:=⟨_,λ_ _ _=>Y1A⟩
  refine⟨J2,(hJ2 _ _ _).mpr ⟨rfl,_,rfl⟩,λj σ M h=>by rw[((hJ2 _ _ _).mp h).1];exact hd,?_,?_⟩
  ·rintro i x σ M'' hx h2
   obtain⟨rfl,v',rfl⟩:=(hJ2 _ _ _).mp h2
   obtain⟨hi,rfl⟩:=Z0J hx
   have hi:i<I.stps.length:=hi
   obtain⟨e1,ns,n,e2⟩:=hS _ (Y0p hi)
   rw[Z2A]
   walk_at "s"
   refine⟨I.name,I.stps[i],a,b,F,rfl,ha4,hb4,nd,e1,ZbB e2,?_⟩
   walk_at "s"
   exact(hJ2 _ _ _).mpr ⟨rfl,_,rfl⟩
  ·rintro σ M'' h2
   obtain⟨rfl,v',rfl⟩:=(hJ2 _ _ _).mp h2
   try walk_at "s"
   exact(hJ _ _ _).mpr ⟨rfl,_,_,rfl⟩
 ·rintro σ M' h
  obtain⟨rfl,_⟩:=(hJ _ _ _).mp h
  exact q _ s5
theorem FroD.up{M:MH}:∀{n:Nat} {v v':MV},FroD n M v v'->FroD (n+1) M v v'
 |0,_,_,h=>.inl h
 |n+1,v,v',h=>by
  rcases h with h|⟨ps,h1,h2,h3,h4⟩
  ·exact .inl h
  ·exact .inr ⟨ps,h1,h2,h3,λp hp=>(h4 p hp).up⟩
theorem FroD.to{M:MH}{n m:Nat}{v v':MV}(h:FroD n M v v')(l:n≤m):FroD m M v v':=by
 obtain⟨d,rfl⟩:∃d,m=n+d:=⟨m - n,by lia⟩
 clear l
 induction d with
 |zero=>exact h
 |succ d ih=>exact ih.up
theorem fro_str{M:MH}{z:Str}:FroD 0 M (.str z) (.str z):=⟨.inr ⟨z,rfl⟩,rfl⟩
theorem fro_int{M:MH}{i:Int}:FroD 0 M (.int i) (.int i):=⟨.inl ⟨i,rfl⟩,rfl⟩
theorem Z3p{M:MH}{n:Nat}{xs:List MV}(l:xs.length≤1000)(h:∀x∈xs,FroD n M x x):FroD (n+1) M (.tup xs) (.tup xs):=by
 have e1:(xs.map λx=>(x,x)).map (·.1)=xs:=by rw[Y0G];exact Y3B xs
 have e2:(xs.map λx=>(x,x)).map (·.2)=xs:=by rw[Y0G];exact Y3B xs
 refine .inr ⟨xs.map λx=>(x,x),.inl (by rw[e1]),by rw[e2],by rw[Y01];exact l,λp hp=>?_⟩
 obtain⟨x,hx,rfl⟩:=Y0r.mp hp
 exact h x hx
theorem ZdY{M:MH}{n:Nat}{a:Addr}{xs:List MV}(e:M a=some (.lst xs))(l:xs.length≤1000)(h:∀x∈xs,FroD n M x x):FroD (n+1) M (.ref a) (.tup xs):=by
 have e1:(xs.map λx=>(x,x)).map (·.1)=xs:=by rw[Y0G];exact Y3B xs
 have e2:(xs.map λx=>(x,x)).map (·.2)=xs:=by rw[Y0G];exact Y3B xs
 refine .inr ⟨xs.map λx=>(x,x),.inr ⟨a,rfl,by rw[e1];exact e⟩,by rw[e2],by rw[Y01];exact l,λp hp=>?_⟩
 obtain⟨x,hx,rfl⟩:=Y0r.mp hp
 exact h x hx
theorem Z7R{M:MH}:∀U:Tm,FroD U.depth M U.mv U.mv
 |.num n=>Z3p (xs:=[.str "num",.int n]) (by simp) (by
   intro x hx
   simp only[Y0f,Y0u,or_false]at hx
   rcases hx with rfl|rfl
   ·exact fro_str
   ·exact fro_int)
 |.var z=>Z3p (xs:=[.str "var",.str z]) (by simp) (by
   intro x hx
   simp only[Y0f,Y0u,or_false]at hx
   rcases hx with rfl|rfl
   ·exact fro_str
   ·exact fro_str)
 |.two f a b=>by
  have ha:=Z7R (M:=M) a
  have hb:=Z7R (M:=M) b
  show FroD (1+max a.depth b.depth) M (.tup [.str f.str,a.mv,b.mv]) (.tup [.str f.str,a.mv,b.mv])
  rw[Nat.add_comm]
  refine Z3p (by simp) λx hx=>?_
  simp only[Y0f,Y0u,or_false]at hx
  rcases hx with rfl|rfl|rfl
  ·exact fro_str.to (Y17 _)
  ·exact ha.to (by lia)
  ·exact hb.to (by lia)
 |.pick c a b=>by
  have hc:=Z7R (M:=M) c
  have ha:=Z7R (M:=M) a
  have hb:=Z7R (M:=M) b
  show FroD (1+max c.depth (max a.depth b.depth)) M (.tup [.str "pick",c.mv,a.mv,b.mv]) (.tup [.str "pick",c.mv,a.mv,b.mv])
  rw[Nat.add_comm]
  refine Z3p (by simp) λx hx=>?_
  simp only[Y0f,Y0u,or_false]at hx
  rcases hx with rfl|rfl|rfl|rfl
  ·exact fro_str.to (Y17 _)
  ·exact hc.to (by lia)
  ·exact ha.to (by lia)
  ·exact hb.to (by lia)
theorem Zkq{M:MH}{fs ns:List Str}{n:Nat}{S:Stp}(h:Z7Q fs ns n S):FroD 9 M S.mv S.mv:=by
 cases S with
 |take f x=>
  refine Z3p (xs:=[.str "take",.str f,.str x]) (by simp) fun v hv=>?_
  simp only[Y0f,Y0u,or_false]at hv
  rcases hv with rfl|rfl|rfl<;>exact fro_str.to (by decide)
 |give f U=>
  refine Z3p (xs:=[.str "give",.str f,U.mv]) (by simp) fun v hv=>?_
  simp only[Y0f,Y0u,or_false]at hv
  rcases hv with rfl|rfl|rfl
  ·exact fro_str.to (by decide)
  ·exact fro_str.to (by decide)
  ·exact(Z7R U).to h.2.1
 |put f U=>
  refine Z3p (xs:=[.str "put",.str f,U.mv]) (by simp) fun v hv=>?_
  simp only[Y0f,Y0u,or_false]at hv
  rcases hv with rfl|rfl|rfl
  ·exact fro_str.to (by decide)
  ·exact fro_str.to (by decide)
  ·exact(Z7R U).to h.2.1
 |jump U i=>
  refine Z3p (xs:=[.str "jump",U.mv,.int i]) (by simp) fun v hv=>?_
  simp only[Y0f,Y0u,or_false]at hv
  rcases hv with rfl|rfl|rfl
  ·exact fro_str.to (by decide)
  ·exact(Z7R U).to h.1.1
  ·exact fro_int.to (by decide)
theorem Zlt{M:MH}{k:Nat}{fs:List Str}{I:Isl}{y:MV}(ok:IslOk k fs I)(h:IslIn M I y):FroD 11 M y I.mv:=by
 obtain⟨a,b,rfl,ha,hb⟩:=h
 have l1:=ok.nv
 have l2:=ok.ns
 refine .inr ⟨[(.str I.name,.str I.name),(.ref a,.tup (I.prs.map prV)),(.ref b,.tup (I.stps.map Stp.mv))],.inl rfl,rfl,by simp,λp hp=>?_⟩
 simp only[Y0f,Y0u,or_false]at hp
 rcases hp with rfl|rfl|rfl
 ·exact fro_str.to (by decide)
 ·refine ZdY ha (by rw[Y01];lia) λx hx=>?_
  obtain⟨q,_,rfl⟩:=Y0r.mp hx
  refine(Z3p (n:=0) (xs:=[.str q.1,.int q.2]) (by simp) λv hv=>?_).to (by decide)
  simp only[Y0f,Y0u,or_false]at hv
  rcases hv with rfl|rfl
  ·exact fro_str
  ·exact fro_int
 ·refine ZdY hb (by rw[Y01];lia) λx hx=>?_
  obtain⟨S,hS,rfl⟩:=Y0r.mp hx
  exact Zkq (ok.st S hS)
theorem ZlP{M:MH}(f:Fer):FroD 1 M f.mv f.mv:=by
 refine Z3p (xs:=[.str f.name,.str f.giver,.str f.taker,.int f.k,.int f.st]) (by simp) λv hv=>?_
 simp only[Y0f,Y0u,or_false]at hv
 rcases hv with rfl|rfl|rfl|rfl|rfl
 ·exact fro_str
 ·exact fro_str
 ·exact fro_str
 ·exact fro_int
 ·exact fro_int
theorem ZiO{M:MH}{k:Nat}{fs:List Str}{Is:List Isl}{ys:List MV}{p:Addr}(hp:M p=some (.lst ys))(h:IslsIn M Is ys)(l:Is.length≤5)(ok:∀I∈Is,IslOk k fs I):FroD 12 M (.ref p) (.tup (Is.map Isl.mv)):=by
 have hl:=h.1
 have e1:(ys.zip (Is.map Isl.mv)).map (·.1)=ys:=Y3a (by rw[Y01];lia)
 have e2:(ys.zip (Is.map Isl.mv)).map (·.2)=Is.map Isl.mv:=List.map_snd_zip (by rw[Y01];lia)
 refine .inr ⟨ys.zip (Is.map Isl.mv),.inr ⟨p,rfl,by rw[e1];exact hp⟩,by rw[e2],by rw[Y1h,Y01];lia,λq hq=>?_⟩
 obtain⟨i,hi,rfl⟩:=Y0x hq
 rw[Y1h,Y01]at hi
 have hi1:i<ys.length:=by lia
 have hi2:i<Is.length:=by lia
 rw[List.getElem_zip,Y3b]
 exact Zlt (ok _ (Y0p hi2)) (h.2 i _ _ (Y00 hi2) (Y00 hi1))
def fstM:MV->MV
 |.tup (x::_)=>x
 |v=>v
abbrev Z7y:SpM:=λvs M Q=>∃(p f:Addr) (ys:List MV) (W:Wld),vs=[.int W.w,.ref p,.ref f]/\M p=some (.lst ys)/\IslsIn M W.isl ys/\M f=some (.lst (W.fer.map Fer.mv))/\W.Good/\∀M',SameM M M'->Q W.mv M'
theorem Z6t:MonW Z7y:=by walk_at "m"
theorem Zla(T:Txt K mg t):FnOk P w K mg base CX0 56 t.f_made t.d_made ["width","islands","ferries"] (liSp K Z7y):=by
 refine T.F_made.okM Zku (Z0G (Φ:=[("frozen",(Z1a 13)),("is_width",Z2J),("refuse_ferry",Z1k),("refuse_ferry_names",Z0I),("refuse_islands",Z15),("refuse_wrong_ends",Z0P)]) (Z0H T) (Z0g T) rfl (fMc ⟨(Z2H _),(fMc ⟨Z4m,(fMc ⟨Z2M,(fMc ⟨Z1A,(fMc ⟨Z2n,(fMc ⟨Z1S,(fun _ h=>nomatch h)⟩)⟩)⟩)⟩)⟩)⟩) (fMc ⟨⟨_,_,_,FnOk.mono (Zck T 13) (by decide),T.m_frozen,T.F_frozen.kp,T.b_frozen⟩,(fMc ⟨⟨_,_,_,FnOk.mono (Zdw T) (by decide),T.m_is_width,T.F_is_width.kp,T.b_is_width⟩,(fMc ⟨⟨_,_,_,FnOk.mono (Z9i T) (by decide),T.m_refuse_ferry,T.F_refuse_ferry.kp,T.b_refuse_ferry⟩,(fMc ⟨⟨_,_,_,FnOk.mono (Z4k T) (by decide),T.m_refuse_ferry_names,T.F_refuse_ferry_names.kp,T.b_refuse_ferry_names⟩,(fMc ⟨⟨_,_,_,FnOk.mono (Z7B T) (by decide),T.m_refuse_islands,T.F_refuse_islands.kp,T.b_refuse_islands⟩,(fMc ⟨⟨_,_,_,FnOk.mono (Z5p T) (by decide),T.m_refuse_wrong_ends,T.F_refuse_wrong_ends.kp,T.b_refuse_wrong_ends⟩,(fun _ h=>nomatch h)⟩)⟩)⟩)⟩)⟩)⟩):Fts P w K mg base 55 Zki [("frozen",(Z1a 13)),("is_width",Z2J),("refuse_ferry",Z1k),("refuse_ferry_names",Z0I),("refuse_islands",Z15),("refuse_wrong_ends",Z0P)]) ZdO ZlZ (fun vs M Q h=>?_) (fun vs M Q h=>?_)
 ·obtain⟨p,f,ys,W,rfl,_⟩:=h;rfl
 obtain⟨p,f,ys,W,rfl,hp,hI,hf,G,q⟩:=h
 have hΦ:=Z6T (Φ:=[("frozen",Z1a 13),("is_width",Z2J),("refuse_ferry",Z1k),("refuse_ferry_names",Z0I),("refuse_islands",Z15),("refuse_wrong_ends",Z0P)]) (fMc ⟨Z2H 13,fMc ⟨Z4m,fMc ⟨Z2M,fMc ⟨Z1A,fMc ⟨Z2n,fMc ⟨Z1S,fun _ h=>nomatch h⟩⟩⟩⟩⟩⟩)
 show wSs _ _ _ [some (.int W.w),some (.ref p),some (.ref f),none,none] M
 have w1:=G.w1
 have w2:=G.w2
 have i5:=G.i5
 have f6:=G.f6
 have hl:=hI.1
 have nd:=Y1d.mp G.nd
 rw[ZdO,Zhl]
 walk_at "s"
 refine⟨W.w,rfl,by lia,by lia,?_⟩
 walk_at "s"
 rw[Zhk]
 repeat (first|walk_at "s"|simp only[hp])
 refine Z4e (λz=>by lia) (λ_=>?_)
 rw[Zhj]
 repeat (first|walk_at "s"|simp only[hf,Y01])
 refine Z4e (λz=>by lia) (λ_=>?_)
 rw[Zhi]
 walk_at "s"
 refine⟨f,W.fer,rfl,hf,f6,nd.1,λx hx=>G.fg _ (Y0r.mpr ⟨x,hx,rfl⟩),λM1 s1=>?_⟩
 walk_at "s"
 have hf1:=s1 _ _ hf
 rw[Zhh]
 walk_at "s"
 refine Z1E W.fer Fer.mv (λx=>.str x.name) ?_ ?_ hΦ λD hD=>?_
 ·repeat (first|walk_at "s"|simp only[hf1])
  exact⟨rfl,by lia,hf1⟩
 ·intro x hx M' s
  simp only[sCm,Y0h,Y0N,Y0s,Y0t,Y0B,Y0y]
  repeat (first|walk_at "s"|simp only[Fer.mv])
  try exact⟨rfl,rfl⟩
 have eF:(W.fer.map λx=>MV.str x.name)=W.fns.map MV.str:=by unfold Wld.fns;rw[Y0G];rfl
 rw[eF]
 have s2:=s1.trans (SameM.new hD (.lst (W.fns.map MV.str)))
 have hD2:updM M1 D (.lst (W.fns.map MV.str)) D=some (.lst (W.fns.map MV.str)):=Z02
 generalize updM M1 D _=M2 at*
 try walk_at "s"
 refine⟨W.w,p,D,W.isl,ys,W.fns,rfl,w2,s2 _ _ hp,hI.keep s2,i5,by unfold Wld.fns;rw[Y01];exact f6,hD2,G.nd,λI hi=>G.ig _ (Y0r.mpr ⟨I,hi,rfl⟩),G.io,λM3 s3=>?_⟩
 have s4:=s2.trans s3
 have hp3:=s4 _ _ hp
 have hf3:=s4 _ _ hf
 have hI3:=hI.keep s4
 walk_at "s"
 rw[Zhg]
 walk_at "s"
 refine Z1E ys (λy=>y) fstM ?_ ?_ hΦ λD hD=>?_
 ·repeat (first|walk_at "s"|simp only[hp3])
  exact⟨by simp[Src.items],by lia,hp3⟩
 ·intro y hy M' s
  obtain⟨I,_,a,b,rfl,_⟩:=hI3.mem hy
  simp only[sCm,Y0h,Y0N,Y0s,Y0t,Y0B,Y0y]
  walk_at "s"
  rfl
 have eI:ys.map fstM=W.ins.map MV.str:=hI.fst λz r=>rfl
 rw[eI]
 have s5:=s4.trans (SameM.new hD (.lst (W.ins.map MV.str)))
 have hD5:updM M3 D (.lst (W.ins.map MV.str)) D=some (.lst (W.ins.map MV.str)):=Z02
 generalize updM M3 D _=M5 at*
 have hf5:=s5 _ _ hf
 rw[Zhf]
 repeat (first|walk_at "s"|simp only[hf5])
 obtain⟨J,hJ⟩:∃J:Nat->Sm->MH->Prop,∀j σ M',J j σ M'↔M'=M5/\∃v,σ=[some (.int W.w),some (.ref p),some (.ref f),some (.ref D),v]:=⟨_,λ_ _ _=>Y1A⟩
 refine⟨J,(hJ _ _ _).mpr ⟨rfl,_,rfl⟩,λj σ M' h=>by rw[((hJ _ _ _).mp h).1];exact hf5,?_,?_⟩
 ·rintro j y σ M' hy h
  obtain⟨rfl,v,rfl⟩:=(hJ _ _ _).mp h
  obtain⟨hj,rfl⟩:=Z0J hy
  have hj:j<W.fer.length:=hj
  rw[ZeS]
  walk_at "s"
  refine⟨W.fer[j],D,W.ins,rfl,hD5,G.fo _ (Y0p hj),?_⟩
  walk_at "s"
  exact(hJ _ _ _).mpr ⟨rfl,_,rfl⟩
 ·rintro σ M' h
  obtain⟨rfl,v,rfl⟩:=(hJ _ _ _).mp h
  rw[ZeR]
  walk_at "s"
  refine⟨p,f,ys,W.isl,W.fer,rfl,s5 _ _ hp,hI.keep s5,i5,hf5,f6,nd.1,λI hi=>⟨(G.io I hi).ns,λS hS=>⟨G.en I hi S hS,_,_,(G.io I hi).st S hS⟩⟩,λM6 s6=>?_⟩
  have s7:=s5.trans s6
  walk_at "s"
  rw[ZeQ]
  walk_at "s"
  refine⟨_,W.mv,rfl,?_,λM' s'=>q M' (s7.trans s')⟩
  refine .inr ⟨[(.int W.w,.int W.w),(.ref p,.tup (W.isl.map Isl.mv)),(.ref f,.tup (W.fer.map Fer.mv))],.inl rfl,rfl,by simp,λz hz=>?_⟩
  simp only[Y0f,Y0u,or_false]at hz
  rcases hz with rfl|rfl|rfl
  ·exact fro_int.to (by decide)
  ·exact ZiO (s7 _ _ hp) (hI.keep s7) i5 G.io
  ·refine(ZdY (n:=1) (s7 _ _ hf) (by rw[Y01];lia) λx hx=>?_).to (by decide)
   obtain⟨y,_,rfl⟩:=Y0r.mp hx
   exact ZlP y
abbrev Z1X:SpM:=λvs M Q=>∃(ns:List Int) (k:Nat),vs=[.frl (ns.map .int),.int k]/\Q (.int (ns.getD k 0)) M
theorem Z6u:MonW Z1X:=by walk_at "m"
theorem Z9l(T:Txt K mg t):FnOk P w K mg base CX0 1 t.f__law_cell_at t.d__law_cell_at ["script","k"] (liSp K Z1X):=by
 refine T.F__law_cell_at.okM Z9a (Z0G (Φ:=[]) (Z0H T) (Z0g T) rfl (λ_ h=>nomatch h) (λ_ h=>nomatch h):Fts P w K mg base 0 Z6j []) Z32 Za1 (λvs M Q h=>?_) (λvs M Q h=>?_)
 ·obtain⟨ns,k,rfl,_⟩:=h;rfl
 obtain⟨ns,k,rfl,q⟩:=h
 show wSs _ _ _ [some (.frl (ns.map .int)),some (.int k)] M
 rw[Z32,Z4X]
 walk_at "s"
 refine Z4e (λc=>?_) (λc=>?_)
 ·rw[Y01]at c
  have hk:k<ns.length:=by omega
  rw[Z4W]
  walk_at "s"
  have e:ns.getD k 0=ns[k]:=by simp[Y0j,hk]
  rw[e]at q
  exact⟨_,Z2g (by rw[Y06,Y00 hk];rfl),q⟩
 ·rw[Y01]at c
  have e:ns.getD k 0=0:=by simp[Y0j,Y1n.mpr (show ns.length≤k by omega)]
  rw[e]at q
  rw[Z4V]
  walk_at "s"
  exact q
abbrev Z1W:SpM:=λvs M Q=>∃i,vs=[.int i]/\Q (.bl true) M
theorem Z3x:MonW Z1W:=by walk_at "m"
theorem Zby(T:Txt K mg t):FnOk P w K mg base CX0 1 t.f__law_whole t.d__law_whole ["found"] (liSp K Z1W):=by
 refine T.F__law_whole.okM Zbu (Z0G (Φ:=[]) (Z0H T) (Z0g T) rfl (λ_ h=>nomatch h) (λ_ h=>nomatch h):Fts P w K mg base 0 Z8D []) Z3R ZbU (λvs M Q h=>?_) (λvs M Q h=>?_)
 ·obtain⟨i,rfl,_⟩:=h;rfl
 obtain⟨i,rfl,q⟩:=h
 show wSs _ _ _ [some (.int i)] M
 rw[Z3R,Z76]
 walk_at "s"
 simpa using q
def alph:Str:="abcdefghijklmnopqrstuvwxyz"
theorem Zjo:alph.cps.toList.length=26:=by decide+kernel
theorem ZhY:alph.length≤16777216:=by decide+kernel
theorem Zec{i:Int}(h0:0≤i)(h1:i<26):∃c,atI alph.cps.toList i=some c:=by
 have hk:i.toNat<alph.cps.toList.length:=by rw[Zjo];omega
 refine⟨alph.cps.toList[i.toNat],?_⟩
 have:=Z2g (xs:=alph.cps.toList) (j:=i.toNat) (Y00 hk)
 rwa [Y1x h0]at this
theorem ZgE(c:Nat):(⟨#[c]⟩:Str).length=1:=rfl
theorem Zme(a b:Str):(a++b).length=a.length+b.length:=by
 show(a.cps++b.cps).size=_
 rw[Array.size_append]
 rfl
def ltr(i:Int):Str:=match atI alph.cps.toList i with
 |some c=>⟨#[c]⟩
 |none=>Y3m
def Z1P(n k:Int):Str:=if n%3=2 then Txt.mul (ltr (n/192%26)) (1+(3*k+n/192)%7)++Txt.mul (ltr ((n/192%26+1+n/4992%25)%26)) (k/7)
 else Txt.mul (ltr (n/192%26)) (n/24%8%(1+n/3%8))++ltr ((n/4992+7*k)%26)++Txt.mul (ltr (n/192%26)) (1+n/3%8 - 1 - n/24%8%(1+n/3%8))
abbrev Z1n:SpM:=λvs M Q=>∃(n k:Int),vs=[.int n,.int k]/\0≤k/\k≤50/\Q (.str (Z1P n k)) M
theorem Z45:MonW Z1n:=by walk_at "m"
theorem Z7W(T:Txt K mg t):FnOk P w K mg base CX0 1 t.f__law_name t.d__law_name ["number","k"] (liSp K Z1n):=by
 refine T.F__law_name.okM Zce (Z0G (Φ:=[]) (Z0H T) (Z0g T) rfl (λ_ h=>nomatch h) (λ_ h=>nomatch h):Fts P w K mg base 0 Za8 []) Z4H ZcY (λvs M Q h=>?_) (λvs M Q h=>?_)
 ·obtain⟨n,k,rfl,_⟩:=h;rfl
 obtain⟨n,k,rfl,hk0,hk1,q⟩:=h
 show wSs _ _ _ [some (.int n),some (.int k),none,none,none,none,none,none] M
 rw[Z4H,Z8z]
 walk_at "s"
 rw[Z8y]
 walk_at "s"
 rw[Z8x]
 walk_at "s"
 have al:=ZhY
 obtain⟨c1,a1⟩:=Zec (i:=n/192%26) (by omega) (by omega)
 have e1:ltr (n/192%26)=⟨#[c1]⟩:=by unfold ltr;rw[a1]
 unfold Z1P at q
 rw[e1]at q
 refine Z4e (λc=>?_) (λc=>?_)
 ·rw[if_pos c]at q
  rw[Z8w]
  walk_at "s"
  obtain⟨c2,a2⟩:=Zec (i:=(n/192%26+1+n/4992%25)%26) (by omega) (by omega)
  have e2:ltr ((n/192%26+1+n/4992%25)%26)=⟨#[c2]⟩:=by unfold ltr;rw[a2]
  rw[e2]at q
  refine⟨al,c2,a2,?_⟩
  rw[Z8v]
  walk_at "s"
  refine⟨al,c1,a1,?_⟩
  have l1:=Z90 (z:=⟨#[c1]⟩) (i:=1+(3*k+n/192)%7) 8 (by omega) (Y0b 1)
  have l2:=Z90 (z:=⟨#[c2]⟩) (i:=k/7) 8 (by omega) (Y0b 1)
  simp only[ZgE]
  exact⟨by decide,by omega,by omega,by decide,by omega,by omega,by omega,q⟩
 ·rw[if_neg c]at q
  obtain⟨lo,hlo⟩:∃lo:Int,1+n/3%8=lo:=⟨_,rfl⟩
  obtain⟨c3,a3⟩:=Zec (i:=(n/4992+7*k)%26) (by omega) (by omega)
  have e3:ltr ((n/4992+7*k)%26)=⟨#[c3]⟩:=by unfold ltr;rw[a3]
  rw[e3,hlo]at q
  rw[Z8u]
  walk_at "s"
  rw[hlo,Z8t]
  walk_at "s"
  have hp:(0:Int)<lo:=by omega
  refine⟨hp,?_⟩
  obtain⟨at',hat⟩:∃at':Int,n/24%8%lo=at':=⟨_,rfl⟩
  have h0:0≤at':=by rw[<- hat];exact Y1r _ (by omega)
  have h1:at'<lo:=by rw[<- hat];exact Y18 _ hp
  rw[hat]at q
  rw[hat,Z8s]
  walk_at "s"
  refine⟨al,c3,a3,?_⟩
  rw[Z8r]
  walk_at "s"
  have l1:=Z90 (z:=⟨#[c1]⟩) (i:=at') 8 (by omega) (Y0b 1)
  have l2:=Z90 (z:=⟨#[c1]⟩) (i:=lo - 1 - at') 8 (by omega) (Y0b 1)
  refine⟨al,c1,a1,?_⟩
  simp only[ZgE,Zme]
  exact⟨by decide,by omega,by omega,by omega,al,c1,a1,by decide,by omega,by omega,by omega,q⟩
theorem ZeW(c:Nat):∀(k:Nat) (acc:Array Nat),((Y0l k #[c]).foldl (·++·) acc).toList=acc.toList++Y0l k c
 |0,acc=>by simp
 |k+1,acc=>by
  rw[Y13,Y1M,ZeW c k,Array.toList_append,Y25,Y13];rfl
theorem mul_one(c:Nat)(i:Int):(Txt.mul (⟨#[c]⟩:Str) i).cps.toList=Y0l i.toNat c:=by
 unfold Txt.mul
 by_cases h:i<1
 ·rw[if_pos h]
  have:i.toNat=0:=by omega
  rw[this];rfl
 rw[if_neg h]
 by_cases h2:(i==1||(⟨#[c]⟩:Str).length==0)=true
 ·rw[if_pos h2]
  rcases(Y3r _ _).mp h2 with e|e
  ·have:i=1:=by simpa using e
   subst this;rfl
  ·have:(⟨#[c]⟩:Str).length=0:=by simpa using e
   cases this
 ·rw[if_neg h2]
  show((Y0l i.toNat #[c]).foldl (·++·) #[]).toList=_
  rw[ZeW];rfl
theorem Zmf:alph.cps.toList=(Y0U 26).map (97+·):=by decide+kernel
theorem Zey{i:Int}(h0:0≤i)(h1:i<26):ltr i=⟨#[97+i.toNat]⟩:=by
 unfold ltr
 have hk:i.toNat<26:=by omega
 have e:atI alph.cps.toList i=some (97+i.toNat):=by
  have:=Z2g (xs:=alph.cps.toList) (j:=i.toNat) (v:=97+i.toNat) (by rw[Zmf,Y06,List.getElem?_range hk];rfl)
  rwa [Y1x h0]at this
 rw[e]
theorem Ze2(a b:Str):(a++b).cps.toList=a.cps.toList++b.cps.toList:=by
 show(a.cps++b.cps).toList=_
 rw[Array.toList_append]
theorem ZbC{n:Int}(c:n%3=2){k:Int}(h0:0≤k)(h1:k≤10):∃c1 c2:Nat,c1≠c2/\97≤c1/\c1≤122/\97≤c2/\c2≤122/\c1=97+(n/192%26).toNat/\c2=97+((n/192%26+1+n/4992%25)%26).toNat/\(Z1P n k).cps.toList=Y0l (1+(3*k+n/192)%7).toNat c1++Y0l (k/7).toNat c2:=by
 refine⟨_,_,?_,?_,?_,?_,?_,rfl,rfl,?_⟩
 ·omega
 ·omega
 ·omega
 ·omega
 ·omega
 ·unfold Z1P
  rw[if_pos c,Ze2,Zey (by omega) (by omega),Zey (by omega) (by omega),mul_one,mul_one]
theorem ZbD{n:Int}(c:¬n%3=2)(k:Int):∃at' lo c1:Nat,at'<lo/\lo≤8/\97≤c1/\c1≤122/\at'=(n/24%8%(1+n/3%8)).toNat/\
  (Z1P n k).cps.toList=Y0l at' c1++(97+((n/4992+7*k)%26).toNat)::Y0l (lo - 1 - at') c1:=by
 have h0:0≤n/24%8%(1+n/3%8):=Y1r _ (by omega)
 have h1:n/24%8%(1+n/3%8)<1+n/3%8:=Y18 _ (by omega)
 refine⟨(n/24%8%(1+n/3%8)).toNat,(1+n/3%8).toNat,97+(n/192%26).toNat,by omega,by omega,by omega,by omega,rfl,?_⟩
 unfold Z1P
 rw[if_neg c,Ze2,Ze2,Zey (by omega) (by omega),Zey (by omega) (by omega),mul_one,mul_one]
 have e:(1+n/3%8 - 1 - n/24%8%(1+n/3%8)).toNat=(1+n/3%8).toNat - 1 - (n/24%8%(1+n/3%8)).toNat:=by omega
 rw[e,Y25];rfl
theorem Z6P{n k:Int}(h0:0≤k)(h1:k≤10):Za3 (Z1P n k):=by
 have el:∀z:Str,z.length=z.cps.toList.length:=λz=>Y0k.symm
 by_cases c:n%3=2
 ·obtain⟨c1,c2,ne,a1,a2,b1,b2,_,_,e⟩:=ZbC c h0 h1
  refine⟨?_,?_,?_⟩
  ·rw[el,e,Y0D,Y0R,Y0R];omega
  ·rw[el,e,Y0D,Y0R,Y0R];omega
  ·intro x hx
   rw[e]at hx
   rcases Y0Q.mp hx with hx|hx
   ·rw[Y1Q hx];exact⟨a1,a2⟩
   ·rw[Y1Q hx];exact⟨b1,b2⟩
 ·obtain⟨at',lo,c1,l1,l2,a1,a2,_,e⟩:=ZbD c k
  refine⟨?_,?_,?_⟩
  ·rw[el,e,Y0D,Y0X,Y0R,Y0R];omega
  ·rw[el,e,Y0D,Y0X,Y0R,Y0R];omega
  ·intro x hx
   rw[e]at hx
   rcases Y0Q.mp hx with hx|hx
   ·rw[Y1Q hx];exact⟨a1,a2⟩
   ·rcases Y0f.mp hx with hx|hx
    ·rw[hx];omega
    ·rw[Y1Q hx];exact⟨a1,a2⟩
theorem Z6O{n k k':Int}(h0:0≤k)(h1:k≤10)(h0':0≤k')(h1':k'≤10)(h:Z1P n k=Z1P n k'):k=k':=by
 by_cases c:n%3=2
 ·obtain⟨c1,c2,ne,_,_,_,_,e1,e2,e⟩:=ZbC c h0 h1
  obtain⟨d1,d2,_,_,_,_,_,f1,f2,f⟩:=ZbC c h0' h1'
  rw[<- e1]at f1
  rw[<- e2]at f2
  subst f1 f2
  rw[<- h,e]at f
  have p1:=congrArg (List.count d1) f
  have p2:=congrArg (List.count d2) f
  simp only[List.count_append,List.count_replicate,beq_iff_eq,if_true,ne,Y2d ne,if_false,Nat.add_zero,Nat.zero_add]at p1 p2
  try simp at p1 p2
  omega
 ·obtain⟨at',lo,c1,l1,l2,a1,a2,e0,e⟩:=ZbD c k
  obtain⟨at2,lo2,c2,_,_,_,_,f0,f⟩:=ZbD c k'
  rw[<- e0]at f0
  subst f0
  rw[<- h,e]at f
  have p:=congrArg (λl=>l[at2]?) f
  try simp only at p
  rw[Y0E (by rw[Y0R];exact Y0b _),Y0E (by rw[Y0R];exact Y0b _),Y0R,Nat.sub_self]at p
  have p:97+((n/4992+7*k)%26).toNat=97+((n/4992+7*k')%26).toNat:=by simpa using p
  omega
abbrev Z1m:SpM:=λvs M Q=>∃(n:Int) (a:Addr) (x y:Str),vs=[.int n,.ref a]/\M a=some (.lst [.str x,.str y])/\0≤n/\n≤10^8/\∀(U:Tm) M',SameM M M'->TmIn [x,y] U->Q U.mv M'
theorem Z44:MonW Z1m:=by walk_at "m"
theorem Zcl(T:Txt K mg t):FnOk P w K mg base CX0 1 t.f__law_term t.d__law_term ["number","names"] (liSp K Z1m):=by
 refine T.F__law_term.okM Zcc (Z0G (Φ:=[]) (Z0H T) (Z0g T) rfl (λ_ h=>nomatch h) (λ_ h=>nomatch h):Fts P w K mg base 0 Za6 []) Z4F ZcW (λvs M Q h=>?_) (λvs M Q h=>?_)
 ·obtain⟨n,a,x,y,rfl,_⟩:=h;rfl
 obtain⟨n,a,x,y,rfl,ha,n0,n1,q⟩:=h
 show wSs _ _ _ [some (.int n),some (.ref a),none,none] M
 obtain⟨z,hz,az⟩:∃z,(z=x\/z=y)/\atI [MV.str x,.str y] (n/8%2)=some (.str z):=by
  rcases(show n/8%2=0\/n/8%2=1 by lia)with e|e<;>rw[e]
  ·exact⟨x,.inl rfl,at0⟩
  ·exact⟨y,.inr rfl,at1⟩
 obtain⟨z',hz',az'⟩:∃z,(z=x\/z=y)/\atI [MV.str x,.str y] (n/224%2)=some (.str z):=by
  rcases(show n/224%2=0\/n/224%2=1 by lia)with e|e<;>rw[e]
  ·exact⟨x,.inl rfl,at0⟩
  ·exact⟨y,.inr rfl,at1⟩
 rw[Z4F,Z8i]
 repeat (first|walk_at "s"|simp only[ha,az])
 rw[Z8h]
 walk_at "s"
 intro p hp
 obtain⟨r,hr⟩:∃r:Int,atI [MV.int (n/16%7 - 3),MV.int (n/16*1000000007%100000000000000000000)] (n/112%2)=some (.int r):=by
  rcases(show n/112%2=0\/n/112%2=1 by lia)with e|e<;>rw[e]
  ·exact⟨_,at0⟩
  ·exact⟨_,at1⟩
 refine⟨_,hr,?_⟩
 have s1:=SameM.new hp (.lst [MV.int (n/16%7 - 3),MV.int (n/16*1000000007%100000000000000000000)])
 generalize updM M p _=M1 at*
 have ha1:=s1 _ _ ha
 have rd:∀u,u∈ [z]->u∈ [x,y]:=λu hu=>by
  rw[Y0z.mp hu]
  rcases hz with rfl|rfl<;>simp
 rw[Z8g]
 walk_at "s"
 refine Z4e (λ_=>?_) (λc2=>?_)
 ·rw[Z8f]
  walk_at "s"
  intro p2 hp2
  have s2:=s1.trans (SameM.new hp2 (.lst [.tup [.str "var",.str z],.tup [.str "num",.int r]]))
  rcases(show n%2=0\/n%2=1 by lia)with e|e<;>rw[e]
  ·exact⟨_,at0,q (.var z) _ s2 ⟨by simp[Tm.depth],by simp[Tm.size],λu hu=>rd u hu⟩⟩
  ·exact⟨_,at1,q (.num r) _ s2 ⟨by simp[Tm.depth],by simp[Tm.size],λu hu=>by simp[Tm.reads]at hu⟩⟩
 rw[Z8e]
 walk_at "s"
 refine Z4e (λc5=>?_) (λc5=>?_)
 ·rw[Z8d]
  walk_at "s"
  intro p2 hp2
  have s2:=s1.trans (SameM.new hp2 (.lst [.str "plus",.str "minus",.str "times"]))
  have fin:∀f:Form,Q (.tup [.str f.str,.tup [.str "var",.str z],.tup [.str "num",.int r]]) (updM M1 p2 (.lst [.str "plus",.str "minus",.str "times"])):=fun f=>
   q (.two f (.var z) (.num r)) _ s2 ⟨by simp[Tm.depth],by simp[Tm.size],λu hu=>rd u (by simpa [Tm.reads]using hu)⟩
  rcases(show n%8 - 2=0\/n%8 - 2=1\/n%8 - 2=2 by lia)with e|e|e<;>rw[e]
  ·exact⟨_,at0,fin .plus⟩
  ·exact⟨_,at1,fin .minus⟩
  ·exact⟨_,at2,fin .times⟩
 rw[Z8c]
 walk_at "s"
 refine Z4e (λ_=>?_) (λ_=>?_)
 ·rw[Z8b]
  walk_at "s"
  exact q (.pick (.two .less (.var z) (.num r)) (.num r) (.var z)) _ s1 ⟨by simp[Tm.depth],by simp[Tm.size],λu hu=>rd u (by simpa [Tm.reads]using hu)⟩
 ·rw[Z8a]
  repeat (first|walk_at "s"|simp only[ha1,az'])
  refine q (.two .plus (.var z) (.var z')) _ s1 ⟨by simp[Tm.depth],by simp[Tm.size],λu hu=>?_⟩
  simp only[Tm.reads,Y0B,Y0y,Y0f,Y0u,or_false]at hu
  rcases hu with rfl|rfl
  ·rcases hz with rfl|rfl<;>simp
  ·rcases hz' with rfl|rfl<;>simp
theorem ZcQ{Φ:List (Str×SpM)}{own:List Str}{fr:List Nat}{src:ISr}{tg:ITg}{test elt:IE}{σ:Sm}{M:MH}{Q:QM}{α:Type}(xs:List α)(f g:α->MV)(b:α->Bool)
  (hs:wSr Φ src σ M λS M1=>S.items=xs.map f/\xs.length<sizeLine/\S.okF M1/\M1=M)
  (ht:∀x∈xs,∀M',SameM M M'->wTg tg (f x) (sCm own fr σ) λσ2=>wE Φ test σ2 M' λv M2=>v=.bl (b x)/\M2=M'/\(b x=true->wE Φ elt σ2 M' λy M2=>y=g x/\M2=M'))
  (hΦ:∀(j:Nat) f sp,Φ[j]?=some (f,sp)->MonW sp) (q:∀D,M D=none->Q (.ref D) (updM M D (.lst ((xs.filter b).map g)))):wE Φ (.comp own fr src tg (.some test) elt) σ M Q:=by
 rw[ZcJ]
 refine mon_sr hΦ src (λS M1 ⟨h1,h2,h3,h4⟩=>?_) hs
 subst h4
 have hl:S.len=xs.length:=by rw[<- S.items_len,h1,Y01]
 refine⟨by rw[hl];exact h2,λD hD=>⟨λi ys M2=>M2=updM M1 D (.lst ys)/\ys=((xs.take i).filter b).map g,⟨rfl,by simp⟩,?_,?_,?_⟩⟩
 ·rintro i ys M2 ⟨rfl,rfl⟩
  refine⟨Z02,?_,?_⟩
  ·rw[Y01]
   have h1:=List.length_filter_le b (xs.take i)
   rw[Y0J]at h1
   lia
  cases S with
  |tup _=>trivial
  |rng _ _=>trivial
  |rst _ _ _=>trivial
  |dic _ _ _=>exact h3.elim
  |str _=>trivial
  |lst a zs=>exact SameM.new hD _ _ _ h3
 ·rintro i x ys M2 hx ⟨rfl,rfl⟩
  rw[h1]at hx
  obtain⟨hi,rfl⟩:=Z0J hx
  refine Z5v tg (λσ2 h=>?_) (ht xs[i] (Y0p hi) _ (SameM.new hD (.lst (((xs.take i).filter b).map g))))
  rw[wI]
  refine Z09 hΦ test (λv M2 ⟨e1,e2,e3⟩=>?_) h
  subst e1 e2
  have et:xs.take (i+1)=xs.take i++[xs[i]]:=by rw[Y0S,Y00 hi];rfl
  refine⟨b xs[i],rfl,?_⟩
  by_cases hb:b xs[i]=true
  ·rw[if_pos hb]
   refine Z09 hΦ elt (λy M2 ⟨e1,e2⟩=>?_) (e3 hb)
   subst e1 e2
   refine⟨Z02,Z6H,?_⟩
   rw[et,List.filter_append,Y0A,List.filter_cons_of_pos hb]
   rfl
  ·rw[if_neg hb]
   refine⟨rfl,?_⟩
   rw[et,List.filter_append,Y0A,List.filter_cons_of_neg hb]
   simp
 ·rintro ys M2 ⟨rfl,rfl⟩
  rw[hl,Y1z (Y0b _),Zei h3]
  exact q D hD
abbrev Z2m:SpM:=λvs M Q=>∃(n:Int) (z:Str) (a f:Addr) (x y:Str) (F:List Fer) (m:Nat),vs=[.int n,.str z,.ref a,.ref f,.int m]/\M a=some (.lst [.str x,.str y])/\M f=some (.lst (F.map Fer.mv))/\F.length≤6/\0≤n/\n≤10^8/\m≤100/\(F.map (·.name)).Nodup/\
 ∀(S:Stp) M',SameM M M'->Z7Q (F.map (·.name)) [x,y] m S->Zdg F z S->Q S.mv M'
theorem Z8L:MonW Z2m:=by walk_at "m"
theorem Zcf{F:List Fer}(nd:(F.map (·.name)).Nodup){u v:Fer}(hu:u∈F)(hv:v∈F)(e:u.name=v.name):u=v:=by
 obtain⟨i,hi,rfl⟩:=Y0x hu
 obtain⟨j,hj,rfl⟩:=Y0x hv
 have:i=j:=by
  refine(Y37 (xs:=F.map (·.name)) (h₀:=by simpa using hi) (h₁:=by simpa using hj) nd).mp ?_
  rw[Y3b,Y3b];exact e
 subst this;rfl
theorem Zka{F:List Fer}{b:Fer->Bool}{i:Int}(h:F.filter b≠ []):∃v∈F,b v=true/\atI ((F.filter b).map λv=>MV.str v.name) (i%((F.filter b).length:Int))=some (.str v.name):=by
 have hl:0<(F.filter b).length:=Y2D.mpr h
 have h0:=Y1r i (b:=((F.filter b).length:Int)) (by lia)
 have h1:=Y18 i (b:=((F.filter b).length:Int)) (by lia)
 obtain⟨j,hj⟩:∃j:Nat,i%((F.filter b).length:Int)=(j:Int):=⟨(i%((F.filter b).length:Int)).toNat,by lia⟩
 have hj2:j<(F.filter b).length:=by lia
 have hm:=Y0p hj2
 rw[Y3k]at hm
 refine⟨(F.filter b)[j],hm.1,hm.2,?_⟩
 rw[hj]
 exact Z2g (by rw[Y06,Y00 hj2];rfl)
theorem Zcm(T:Txt K mg t):FnOk P w K mg base CX0 2 t.f__law_step t.d__law_step ["number","name","names","ferries","many"] (liSp K Z2m):=by
 refine T.F__law_step.okM Zcd (Z0G (Φ:=[("_law_term",Z1m)]) (Z0H T) (Z0g T) rfl (fMc ⟨Z44,(fun _ h=>nomatch h)⟩) (fMc ⟨⟨_,_,_,(FnOk.mono (Zcl T) (by decide)),T.m__law_term,T.F__law_term.kp,T.b__law_term⟩,(fun _ h=>nomatch h)⟩):Fts P w K mg base 1 Za7 [("_law_term",Z1m)]) Z4G ZcX (fun vs M Q h=>?_) (fun vs M Q h=>?_)
 ·obtain⟨n,z,a,f,x,y,F,m,rfl,_⟩:=h;rfl
 obtain⟨n,z,a,f,x,y,F,m,rfl,ha,hf,h6,n0,n1,hm,nd,q⟩:=h
 show wSs _ _ _ [some (.int n),some (.str z),some (.ref a),some (.ref f),some (.int m),none,none,none] M
 have hΦ:=(Z6T (Φ:=[("_law_term",Z1m)]) (fMc ⟨Z44,(fun _ h=>nomatch h)⟩))
 rw[Z4G,Z8q]
 walk_at "s"
 refine ZcQ F Fer.mv (λv=>.str v.name) (λv=>decide (v.taker=z)) ?_ ?_ hΦ λD1 hD1=>?_
 ·repeat (first|walk_at "s"|simp only[hf])
  exact⟨rfl,by lia,hf⟩
 ·intro v hv M' s
  simp only[sCm,Y0h,Y0N,Y0s,Y0t,Y0B,Y0y]
  repeat (first|walk_at "s"|simp only[Fer.mv])
  try simp
 have s1:=SameM.new hD1 (.lst ((F.filter λv=>decide (v.taker=z)).map λv=>MV.str v.name))
 have d1:updM M D1 (.lst ((F.filter λv=>decide (v.taker=z)).map λv=>MV.str v.name)) D1=some (.lst ((F.filter λv=>decide (v.taker=z)).map λv=>MV.str v.name)):=Z02
 generalize updM M D1 _=M1 at*
 have hf1:=s1 _ _ hf
 rw[Z8p]
 walk_at "s"
 refine ZcQ F Fer.mv (λv=>.str v.name) (λv=>decide (v.giver=z)) ?_ ?_ hΦ λD2 hD2=>?_
 ·repeat (first|walk_at "s"|simp only[hf1])
  exact⟨rfl,by lia,hf1⟩
 ·intro v hv M' s
  simp only[sCm,Y0h,Y0N,Y0s,Y0t,Y0B,Y0y]
  repeat (first|walk_at "s"|simp only[Fer.mv])
  try simp
 have s2:=SameM.new hD2 (.lst ((F.filter λv=>decide (v.giver=z)).map λv=>MV.str v.name))
 have d2:updM M1 D2 (.lst ((F.filter λv=>decide (v.giver=z)).map λv=>MV.str v.name)) D2=some (.lst ((F.filter λv=>decide (v.giver=z)).map λv=>MV.str v.name)):=Z02
 generalize updM M1 D2 _=M2 at*
 have d12:=s2 _ _ d1
 have ss:=s1.trans s2
 have ha2:=ss _ _ ha
 rw[Z8o]
 walk_at "s"
 have last:∀M3,SameM M2 M3->wSs ([("_law_term",Z1m)]:List (Str×SpM)) Z4R {nx:=fun x M'=>Q MV.non M',rt:=Q} [some (.int n),some (.str z),some (.ref a),some (.ref f),some (.int m),some (.ref D1),some (.ref D2),some (.int (n/128))] M3:=by
  intro M3 s3
  have ha3:=s3 _ _ ha2
  have st:=ss.trans s3
  rw[Z4R]
  walk_at "s"
  refine Z4e (λ_=>?_) (λ_=>?_)
  ·rw[Z8k]
   walk_at "s"
   refine⟨n/128,a,x,y,rfl,ha3,by lia,by lia,λU M4 s4 hU=>?_⟩
   walk_at "s"
   have hp:(0:Int)<(m:Int)+1:=by lia
   exact⟨hp,q (.jump U (n/8%(m+1))) M4 (st.trans s4) ⟨hU,Y1r _ (by lia),by have:=Y18 (n/8) hp;lia⟩ trivial⟩
  ·rw[Z8j]
   obtain⟨u,hu,au⟩:∃u,u∈ [x,y]/\atI [MV.str x,.str y] (n/8%2)=some (.str u):=by
    rcases(show n/8%2=0\/n/8%2=1 by lia)with e|e<;>rw[e]
    ·exact⟨x,by simp,at0⟩
    ·exact⟨y,by simp,at1⟩
   repeat (first|walk_at "s"|simp only[ha3,au])
   refine⟨n/128,a,x,y,rfl,ha3,by lia,by lia,λU M4 s4 hU=>?_⟩
   try walk_at "s"
   exact q (.put u U) M4 (st.trans s4) ⟨hu,hU⟩ trivial
 have mid:∀M3,SameM M2 M3->wSs ([("_law_term",Z1m)]:List (Str×SpM)) Z4S {nx:=fun x M'=>Q MV.non M',rt:=Q} [some (.int n),some (.str z),some (.ref a),some (.ref f),some (.int m),some (.ref D1),some (.ref D2),some (.int (n/128))] M3:=by
  intro M3 s3
  rw[Z4S]
  walk_at "s"
  refine Z4e (λ_=>?_) (λ_=>last M3 s3)
  intro p hp
  have s4:=s3.trans (SameM.new hp (.lst []))
  have p4:updM M3 p (.lst []) p=some (.lst []):=Z02
  generalize updM M3 p _=M4 at*
  have d4:=s4 _ _ d2
  have ha4:=s4 _ _ ha2
  refine Zhx d4 p4 ?_
  by_cases hn:(F.filter λv=>decide (v.giver=z))=[]
  ·rw[hn]
   exact last M4 s4
  ·have he:((F.filter λv=>decide (v.giver=z)).map λv=>MV.str v.name).isEmpty=false:=by
    cases e:F.filter λv=>decide (v.giver=z)with
    |nil=>exact absurd e hn
    |cons _ _=>rfl
   rw[he,if_pos rfl,Z8l]
   obtain⟨v,hv,hb,av⟩:=Zka (i:=n/8) hn
   have hl:0<(F.filter λv=>decide (v.giver=z)).length:=Y2D.mpr hn
   repeat (first|walk_at "s"|simp only[d4,Y01,av])
   refine⟨by lia,?_⟩
   try repeat (first|walk_at "s"|simp only[av])
   refine⟨n/128,a,x,y,rfl,ha4,by lia,by lia,λU M5 s5 hU=>?_⟩
   try walk_at "s"
   refine q (.give v.name U) M5 ((ss.trans s4).trans s5) ⟨Y0r.mpr ⟨v,hv,rfl⟩,hU⟩ (λu hu e=>?_)
   rw[Zcf nd hu hv e]
   exact of_decide_eq_true hb
 rw[Z8n]
 walk_at "s"
 refine Z4e (λ_=>?_) (λ_=>mid M2 (SameM.refl _))
 intro p hp
 have s4:=SameM.new hp (.lst [])
 have p4:updM M2 p (.lst []) p=some (.lst []):=Z02
 generalize updM M2 p _=M4 at*
 have d4:=s4 _ _ d12
 have ha4:=s4 _ _ ha2
 refine Zhx d4 p4 ?_
 by_cases hn:(F.filter λv=>decide (v.taker=z))=[]
 ·rw[hn]
  exact mid M4 s4
 ·have he:((F.filter λv=>decide (v.taker=z)).map λv=>MV.str v.name).isEmpty=false:=by
   cases e:F.filter λv=>decide (v.taker=z)with
   |nil=>exact absurd e hn
   |cons _ _=>rfl
  rw[he,if_pos rfl,Z8m]
  obtain⟨v,hv,hb,av⟩:=Zka (i:=n/8) hn
  have hl:0<(F.filter λv=>decide (v.taker=z)).length:=Y2D.mpr hn
  obtain⟨u,hu,au⟩:∃u,u∈ [x,y]/\atI [MV.str x,.str y] (n/128%2)=some (.str u):=by
   rcases(show n/128%2=0\/n/128%2=1 by lia)with e|e<;>rw[e]
   ·exact⟨x,by simp,at0⟩
   ·exact⟨y,by simp,at1⟩
  repeat (first|walk_at "s"|simp only[d4,Y01,av,ha4,au])
  refine⟨by lia,?_⟩
  try repeat (first|walk_at "s"|simp only[av,ha4,au])
  refine q (.take v.name u) M4 (ss.trans s4) ⟨Y0r.mpr ⟨v,hv,rfl⟩,hu⟩ (λu' hu' e=>?_)
  rw[Zcf nd hu' hv e]
  exact of_decide_eq_true hb
abbrev Z2j:SpM:=λvs M Q=>∃(n nm ar:Int) (k:Nat) (f:Addr) (F:List Fer),vs=[.int n,.int k,.int nm,.ref f,.int ar]/\M f=some (.lst (F.map Fer.mv))/\F.length≤6/\(F.map (·.name)).Nodup/\0≤n/\n≤10^60/\k≤4/\
 ∀(I:Isl) (a b:Addr) M',SameM M M'->M a=none->M b=none->a≠b->M' a=some (.lst (I.prs.map prV))->M' b=some (.lst (I.stps.map Stp.mv))->I.name=Z1P nm k->(∀w,1≤w->IslOk w (F.map (·.name)) I)->(∀s∈I.stps,Zdg F I.name s)->Q (.tup [.str I.name,.ref a,.ref b]) M'
theorem Z6S:MonW Z2j:=by walk_at "m"
theorem Zam(T:Txt K mg t):FnOk P w K mg base CX0 3 t.f__law_island t.d__law_island ["number","k","naming","ferries","around"] (liSp K Z2j):=by
 refine T.F__law_island.okM Zah (Z0G (Φ:=[("_law_name",Z1n),("_law_step",Z2m)]) (Z0H T) (Z0g T) rfl (fMc ⟨Z45,(fMc ⟨Z8L,(fun _ h=>nomatch h)⟩)⟩) (fMc ⟨⟨_,_,_,(FnOk.mono (Z7W T) (by decide)),T.m__law_name,T.F__law_name.kp,T.b__law_name⟩,(fMc ⟨⟨_,_,_,(FnOk.mono (Zcm T) (by decide)),T.m__law_step,T.F__law_step.kp,T.b__law_step⟩,(fun _ h=>nomatch h)⟩)⟩):Fts P w K mg base 2 Z7x [("_law_name",Z1n),("_law_step",Z2m)]) Z3o ZaF (fun vs M Q h=>?_) (fun vs M Q h=>?_)
 ·obtain⟨n,nm,ar,k,f,F,rfl,_⟩:=h;rfl
 obtain⟨n,nm,ar,k,f,F,rfl,hf,h6,nd,n0,n1,hk,q⟩:=h
 show wSs _ _ _ [some (.int n),some (.int k),some (.int nm),some (.ref f),some (.int ar),none,none,none,none,none,none,none] M
 rw[Z3o,Z6d]
 walk_at "s"
 refine⟨nm,k,rfl,by lia,by lia,?_⟩
 obtain⟨z,hz⟩:∃z,Z1P nm k=z:=⟨_,rfl⟩
 rw[hz]at q ⊢
 rw[Z6c]
 walk_at "s"
 refine⟨nm,9,rfl,by lia,by lia,?_⟩
 refine⟨nm,10,rfl,by lia,by lia,?_⟩
 walk_at "s"
 intro pn hpn
 obtain⟨x,hx⟩:∃x,Z1P nm 9=x:=⟨_,rfl⟩
 obtain⟨y,hy⟩:∃y,Z1P nm 10=y:=⟨_,rfl⟩
 have gx:Za3 x:=hx▸Z6P (by decide) (by decide)
 have gy:Za3 y:=hy▸Z6P (by decide) (by decide)
 have xy:x≠y:=λe=>by
  have:=Z6O (n:=nm) (k:=9) (k':=10) (by decide) (by decide) (by decide) (by decide) (by rw[hx,hy];exact e)
  lia
 rw[hx,hy]
 have s1:=SameM.new hpn (.lst [.str x,.str y])
 have a1:updM M pn (.lst [.str x,.str y]) pn=some (.lst [.str x,.str y]):=Z02
 generalize updM M pn _=M1 at*
 rw[Z6b]
 repeat (first|walk_at "s"|simp only[a1])
 intro pp hpp
 have s2:=SameM.new hpp (.lst [.tup [.str x,.int (n%2)],.tup [.str y,.int (n/2%2)]])
 have b2:updM M1 pp (.lst [.tup [.str x,.int (n%2)],.tup [.str y,.int (n/2%2)]]) pp=some (.lst ([(x,n%2),(y,n/2%2)].map prV)):=Z02
 generalize updM M1 pp _=M2 at*
 have a2:=s2 _ _ a1
 have fpp:=s1.free hpp
 rw[Z6a]
 walk_at "s"
 obtain⟨m,hm,hm7⟩:∃m:Nat,n/4%7=(m:Int)/\m<7:=⟨(n/4%7).toNat,by lia,by lia⟩
 rw[hm,Z69]
 walk_at "s"
 obtain⟨en,hen,hen2⟩:∃en:Nat,(if n/28%4<ar then(1:Int)else 0)=(en:Int)/\en≤1:=by
  by_cases c:n/28%4<ar
  ·exact⟨1,by rw[if_pos c];rfl,by decide⟩
  ·exact⟨0,by rw[if_neg c];rfl,by decide⟩
 rw[hen,Z68]
 walk_at "s"
 rw[Z67]
 walk_at "s"
 intro ps hps
 have s3:=SameM.new hps (.lst [])
 have c3:updM M2 ps (.lst []) ps=some (.lst []):=Z02
 have fps:=(s1.trans s2).free hps
 have pps:=neM b2 hps
 have old:∀a o,M2 a=some o->a≠ps:=λa o h=>neM h hps
 generalize updM M2 ps _=M3 at*
 rw[Z66]
 walk_at "s"
 obtain⟨J,hJ⟩:∃J:Nat->Sm->MH->Prop,∀j σ M',J j σ M'↔∃(n':Int) (Ss:List Stp) (v:Option MV),σ=[some (.int n'),some (.int k),some (.int nm),some (.ref f),some (.int ar),some (.str z),some (.ref pn),some (.ref pp),some (.int m),some (.int en),some (.ref ps),v]/\0≤n'/\Ss.length=j/\SameM M2 M'/\M' ps=some (.lst (Ss.map Stp.mv))/\(∀S∈Ss,Z7Q (F.map (·.name)) [x,y] (m+en) S/\Zdg F z S):=⟨_,λ_ _ _=>Y1A⟩
 refine⟨by lia,by lia,J,(hJ _ _ _).mpr ⟨n/112,[],_,rfl,by lia,rfl,s3,c3,λS hS=>nomatch hS⟩,λ_ _ _ _=>trivial,?_,?_⟩
 ·rintro j u σ M' hu h
  obtain⟨n',Ss,v,rfl,p0,hl,s4,c4,hS⟩:=(hJ _ _ _).mp h
  obtain⟨hj,rfl⟩:=Z5i hu
  rw[Z65]
  repeat (first|walk_at "s"|simp only[c4])
  refine⟨⟨_,rfl⟩,n'%100000000,z,pn,f,x,y,F,m+en,rfl,s4 _ _ a2,s4 _ _ (s2 _ _ (s1 _ _ hf)),h6,by lia,by lia,by lia,nd,λS M5 s5 hS1 hS2=>?_⟩
  have c5:=s5 _ _ c4
  repeat (first|walk_at "s"|simp only[c5,Y01])
  refine⟨by lia,?_⟩
  rw[Z64]
  walk_at "s"
  refine(hJ _ _ _).mpr ⟨n'/100000000,Ss++[S],_,rfl,by lia,by simp[hl],λa o h=>by rw[Z06 (old a o h)];exact s5 _ _ (s4 _ _ h),by rw[Z02,Y0A];rfl,λS' hS'=>?_⟩
  rcases Y0Q.mp hS' with h'|h'
  ·exact hS _ h'
  ·rw[Y0z.mp h'];exact⟨hS1,hS2⟩
 ·rintro σ M' h
  obtain⟨n',Ss,v,rfl,p0,hl,s4,c4,hS⟩:=(hJ _ _ _).mp h
  have hl:Ss.length=m:=hl
  have fin:∀(M5:MH) (Ss:List Stp) (v:Option MV),SameM M2 M5->M5 ps=some (.lst (Ss.map Stp.mv))->Ss.length=m+en->(∀S∈Ss,Z7Q (F.map (·.name)) [x,y] (m+en) S/\Zdg F z S)->wSs ([("_law_name",Z1n),("_law_step",Z2m)]:List (Str×SpM)) Z35 {nx:=fun x M'=>Q MV.non M',rt:=Q} [some (.int n'),some (.int k),some (.int nm),some (.ref f),some (.int ar),some (.str z),some (.ref pn),some (.ref pp),some (.int m),some (.int en),some (.ref ps),v] M5:=by
   intro M5 Ss v s5 c5 hl5 hS5
   rw[Z35]
   walk_at "s"
   refine q ⟨z,[(x,n%2),(y,n/2%2)],Ss⟩ pp ps M5 ((s1.trans s2).trans s5) fpp fps pps (s5 _ _ b2) c5 rfl (λw hw=>?_) (λS hS=>(hS5 S hS).2)
   refine⟨by simp,?_,?_,?_,?_,?_⟩
   ·show Ss.length≤12
    lia
   ·show [x,y].Nodup
    simp[xy]
   ·intro u hu
    have hu:u∈ [x,y]:=hu
    simp only[Y0f,Y0u,or_false]at hu
    rcases hu with rfl|rfl
    ·exact gx
    ·exact gy
   ·intro p hp
    have:=Zgv hw
    have hp:p∈ [(x,n%2),(y,n/2%2)]:=hp
    simp only[Y0f,Y0u,or_false]at hp
    rcases hp with rfl|rfl
    ·exact⟨by show 0≤n%2;lia,by show n%2<_;lia⟩
    ·exact⟨by show 0≤n/2%2;lia,by show n/2%2<_;lia⟩
   ·intro S hS
    show Z7Q _ [x,y] Ss.length S
    rw[hl5]
    exact(hS5 S hS).1
  rw[Z4U]
  walk_at "s"
  refine Z4e (λc=>?_) (λc=>?_)
  ·rw[Z4T]
   repeat (first|walk_at "s"|simp only[c4,Y01])
   have e1:en=1:=by lia
   refine⟨⟨_,rfl⟩,by lia,fin _ (Ss++[.jump (.num 1) 0]) _ (λa o h=>by rw[Z06 (old a o h)];exact s4 _ _ h) (by rw[Z02,Y0A];rfl) (by simp;lia) λS' hS'=>?_⟩
   rcases Y0Q.mp hS' with h'|h'
   ·exact hS _ h'
   ·rw[Y0z.mp h']
    exact⟨⟨⟨by simp[Tm.depth],by simp[Tm.size],λu hu=>by simp[Tm.reads]at hu⟩,by lia,by lia⟩,trivial⟩
  ·exact fin M' Ss _ s4 c4 (by lia) hS
structure IslsNew (M0 M:MH) (Is:List Isl) (ys:List MV):Prop where
 len:ys.length=Is.length
 at_:∀(i:Nat) (I:Isl) (y:MV),Is[i]?=some I->ys[i]?=some y->∃a b,y=.tup [.str I.name,.ref a,.ref b]/\M0 a=none/\M0 b=none/\M a=some (.lst (I.prs.map prV))/\M b=some (.lst (I.stps.map Stp.mv))
theorem IslsNew.inn{M0 M:MH}{Is:List Isl}{ys:List MV}(h:IslsNew M0 M Is ys):IslsIn M Is ys:=⟨h.len,λi I y a b=>by
 obtain⟨c,d,e,_,_,h1,h2⟩:=h.at_ i I y a b
 exact⟨c,d,e,h1,h2⟩⟩
theorem IslsNew.keep{M0 M M':MH}{Is:List Isl}{ys:List MV}(h:IslsNew M0 M Is ys)(s:∀a o,M a=some o->M0 a=none->M' a=some o):IslsNew M0 M' Is ys:=⟨h.len,λi I y a b=>by
 obtain⟨c,d,e,n1,n2,h1,h2⟩:=h.at_ i I y a b
 exact⟨c,d,e,n1,n2,s _ _ h1 n1,s _ _ h2 n2⟩⟩
theorem ZeU{α:Type}{v y:α}{xs:List α}{i:Nat}(h:(xs++[v])[i]?=some y):xs[i]?=some y\/(i=xs.length/\y=v):=by
 rw[List.getElem?_append]at h
 split at h
 ·exact .inl h
 ·rename_i e
  obtain⟨d,hd⟩:∃d,i - xs.length=d:=⟨_,rfl⟩
  rw[hd]at h
  cases d with
  |zero=>simp at h;exact .inr ⟨by lia,h.symm⟩
  |succ d=>simp at h
theorem IslsNew.add{M0 M:MH}{Is:List Isl}{ys:List MV}(h:IslsNew M0 M Is ys){I:Isl}{a b:Addr}(n1:M0 a=none)(n2:M0 b=none)(h1:M a=some (.lst (I.prs.map prV)))(h2:M b=some (.lst (I.stps.map Stp.mv))):IslsNew M0 M (Is++[I]) (ys++[.tup [.str I.name,.ref a,.ref b]]):=by
 refine⟨by simp[h.len],λi J y hJ hy=>?_⟩
 have l:=h.len
 rcases ZeU hJ with hJ'|⟨e1,rfl⟩<;>rcases ZeU hy with hy'|⟨e2,rfl⟩
 ·exact h.at_ i J y hJ' hy'
 ·have:=(Y05.mp hJ').1;lia
 ·have:=(Y05.mp hy').1;lia
 ·exact⟨a,b,rfl,n1,n2,h1,h2⟩
def fnm(nm:Int)(i:Nat):Str:=Z1P nm (5+(i:Int))
def inm(nm:Int)(i:Nat):Str:=Z1P nm (i:Int)
theorem Zew{f:Nat->Str}{n:Nat}(h:∀a b,a<n->b<n->f a=f b->a=b):((Y0U n).map f).Nodup:=by
 unfold List.Nodup
 rw[Y2Z]
 exact List.Pairwise.imp_of_mem (λha hb ne e=>ne (h _ _ (Y1o.mp ha) (Y1o.mp hb) e)) List.nodup_range
abbrev Z1i:SpM:=λvs M Q=>∃(ns:List Int) (ar:Int),vs=[.frl (ns.map .int),.int ar]/\
 ∀(W:Wld) (pi pf:Addr) (ys:List MV) M',SameM M M'->W.Good->1≤W.isl.length->M pi=none->M pf=none->pi≠pf->M' pi=some (.lst ys)->IslsIn M' W.isl ys->M' pf=some (.lst (W.fer.map Fer.mv))->Q (.tup [.int W.w,.ref pi,.ref pf]) M'
theorem Z22:MonW Z1i:=by walk_at "m"
theorem Zal(T:Txt K mg t):FnOk P w K mg base CX0 4 t.f__law_things t.d__law_things ["script","around"] (liSp K Z1i):=by
 refine T.F__law_things.okM Zag (Z0G (Φ:=[("_law_cell_at",Z1X),("_law_island",Z2j),("_law_name",Z1n)]) (Z0H T) (Z0g T) rfl (fMc ⟨Z6u,(fMc ⟨Z6S,(fMc ⟨Z45,(fun _ h=>nomatch h)⟩)⟩)⟩) (fMc ⟨⟨_,_,_,(FnOk.mono (Z9l T) (by decide)),T.m__law_cell_at,T.F__law_cell_at.kp,T.b__law_cell_at⟩,(fMc ⟨⟨_,_,_,(FnOk.mono (Zam T) (by decide)),T.m__law_island,T.F__law_island.kp,T.b__law_island⟩,(fMc ⟨⟨_,_,_,(FnOk.mono (Z7W T) (by decide)),T.m__law_name,T.F__law_name.kp,T.b__law_name⟩,(fun _ h=>nomatch h)⟩)⟩)⟩):Fts P w K mg base 3 Z7w [("_law_cell_at",Z1X),("_law_island",Z2j),("_law_name",Z1n)]) Z3n ZaE (fun vs M Q h=>?_) (fun vs M Q h=>?_)
 ·obtain⟨ns,ar,rfl,_⟩:=h;rfl
 obtain⟨ns,ar,rfl,q⟩:=h
 show wSs _ _ _ [some (.frl (ns.map .int)),some (.int ar),none,none,none,none,none,none,none,none,none,none,none] M
 rw[Z3n,Z63]
 walk_at "s"
 refine⟨ns,0,rfl,?_⟩
 walk_at "s"
 rw[Z62]
 walk_at "s"
 refine⟨ns,1,rfl,?_⟩
 walk_at "s"
 obtain⟨hd,hhd,hd0⟩:∃hd:Int,ns.getD 0 0%1000000000=hd/\0≤hd:=⟨_,rfl,by lia⟩
 obtain⟨nm,hnm⟩:∃nm:Int,ns.getD 1 0%1000000000=nm:=⟨_,rfl⟩
 rw[hhd,hnm,Z61]
 walk_at "s"
 intro p0 hp0
 obtain⟨w,hw,w1,w2⟩:∃w:Nat,atI [MV.int (1+hd/16%64),MV.int (1+hd/16%5)] (hd/1024%2)=some (.int w)/\1≤w/\w≤64:=by
  rcases(show hd/1024%2=0\/hd/1024%2=1 by lia)with e|e<;>rw[e]
  ·refine⟨(1+hd/16%64).toNat,?_,by lia,by lia⟩
   rw[Y1x (by lia)];exact at0
  ·refine⟨(1+hd/16%5).toNat,?_,by lia,by lia⟩
   rw[Y1x (by lia)];exact at1
 refine⟨_,hw,?_⟩
 have s0:=SameM.new hp0 (.lst [MV.int (1+hd/16%64),MV.int (1+hd/16%5)])
 generalize updM M p0 _=M0 at*
 obtain⟨my,hmy,my1,my5⟩:∃my:Nat,1+hd%5=(my:Int)/\1≤my/\my≤5:=⟨(1+hd%5).toNat,by lia,by lia,by lia⟩
 rw[Z60]
 walk_at "s"
 rw[hmy,Z5Z]
 walk_at "s"
 intro pf hpf
 have s1:=SameM.new hpf (.lst [])
 have f1:updM M0 pf (.lst []) pf=some (.lst []):=Z02
 have fpf:=s0.free hpf
 have old:∀a o,M0 a=some o->a≠pf:=λa o h=>neM h hpf
 generalize updM M0 pf _=M1 at*
 rw[Z5Y]
 walk_at "s"
 obtain⟨cn,hcn,cn6,cn1⟩:∃cn:Nat,(if hd/2048%7<6*(my:Int) - 6 then hd/2048%7 else 6*(my:Int) - 6)=(cn:Int)/\cn≤6/\(1≤cn->2≤my):=by
  by_cases c:hd/2048%7<6*(my:Int) - 6
  ·exact⟨(hd/2048%7).toNat,by rw[if_pos c];lia,by lia,by lia⟩
  ·exact⟨(6*(my:Int) - 6).toNat,by rw[if_neg c];lia,by lia,by lia⟩
 rw[hcn,Y1H]
 obtain⟨J,hJ⟩:∃J:Nat->Sm->MH->Prop,∀j σ M',J j σ M'↔∃(Fs:List Fer) (v7 v8 v9 v10 v11:Option MV),σ=[some (.frl (ns.map .int)),some (.int ar),some (.int hd),some (.int nm),some (.int w),some (.int my),some (.ref pf),v7,v8,v9,v10,v11,none]/\Fs.map (·.name)=(Y0U j).map (fnm nm)/\SameM M0 M'/\M' pf=some (.lst (Fs.map Fer.mv))/\(∀F∈Fs,FerOk ((Y0U my).map (inm nm)) F):=⟨_,λ_ _ _=>Y1A⟩
 refine⟨by lia,by lia,J,(hJ _ _ _).mpr ⟨[],_,_,_,_,_,rfl,rfl,s1,f1,λF hF=>nomatch hF⟩,λ_ _ _ _=>trivial,?_,?_⟩
 ·rintro j u σ M' hu h
  obtain⟨Fs,v7,v8,v9,v10,v11,rfl,hN,s2,f2,hF⟩:=(hJ _ _ _).mp h
  obtain⟨hj,rfl⟩:=Z5i hu
  have my2:=cn1 (by lia)
  have hl:Fs.length=j:=by have:=congrArg Y31 hN;simpa using this
  rw[Int.zero_add,Z5X]
  obtain⟨c,hc⟩:∃c:Nat,2+(j:Int)%4=(c:Int):=⟨(2+(j:Int)%4).toNat,by lia⟩
  repeat (first|walk_at "s"|simp only[hc])
  refine⟨ns,c,rfl,?_⟩
  walk_at "s"
  intro p1 hp1
  obtain⟨dv,hdv,dv0⟩:∃dv:Int,atI [MV.int 1,MV.int 1000000] ((j:Int)/4)=some (.int dv)/\(dv=1\/dv=1000000):=by
   rcases(show(j:Int)/4=0\/(j:Int)/4=1 by lia)with e|e<;>rw[e]
   ·exact⟨1,at0,.inl rfl⟩
   ·exact⟨1000000,at1,.inr rfl⟩
  refine⟨_,hdv,?_⟩
  have s3:=s2.trans (SameM.new hp1 (.lst [MV.int 1,MV.int 1000000]))
  have f3:=SameM.new hp1 (.lst [MV.int 1,MV.int 1000000]) _ _ f2
  generalize updM M' p1 _=M3 at*
  walk_at "s"
  obtain⟨nb,hnb,nb0⟩:∃nb:Int,ns.getD c 0%1000000000000000/dv=nb/\0≤nb:=by
   refine⟨_,rfl,?_⟩
   rcases dv0 with rfl|rfl<;>lia
  rw[hnb]
  refine⟨by rcases dv0 with rfl|rfl<;>decide,?_⟩
  rw[Z5W]
  walk_at "s"
  have gp:(0:Int)<(my:Int):=by lia
  refine⟨gp,?_⟩
  obtain⟨g,hg,hg2⟩:∃g:Nat,nb%(my:Int)=(g:Int)/\g<my:=by
   have h0:=Y1r nb (b:=(my:Int)) (by lia)
   have h1:=Y18 nb gp
   exact⟨(nb%(my:Int)).toNat,by lia,by lia⟩
  rw[hg,Z5V]
  walk_at "s"
  have gp1:(0:Int)<(my:Int) - 1:=by lia
  refine⟨gp1,gp,?_⟩
  obtain⟨tk,ht,ht2,ht3⟩:∃tk:Nat,((g:Int)+1+nb/5%((my:Int) - 1))%(my:Int)=(tk:Int)/\tk<my/\tk≠g:=by
   have r0:=Y1r (nb/5) (b:=(my:Int) - 1) (by lia)
   have r1:=Y18 (nb/5) gp1
   obtain⟨r,hr⟩:∃r,nb/5%((my:Int) - 1)=r:=⟨_,rfl⟩
   rw[hr]at r0 r1 ⊢
   have h0:=Y1r ((g:Int)+1+r) (b:=(my:Int)) (by lia)
   have h1:=Y18 ((g:Int)+1+r) gp
   refine⟨(((g:Int)+1+r)%(my:Int)).toNat,by lia,by lia,λe=>?_⟩
   have e2:((g:Int)+1+r)%(my:Int)=(g:Int):=by lia
   rcases(show my=2\/my=3\/my=4\/my=5 by lia)with rfl|rfl|rfl|rfl<;>lia
  rw[ht,Z5U]
  walk_at "s"
  refine⟨nm,g,rfl,by lia,by lia,?_⟩
  refine⟨nm,tk,rfl,by lia,by lia,?_⟩
  try walk_at "s"
  rw[Z4Q]
  repeat (first|walk_at "s"|simp only[f3])
  refine⟨⟨_,rfl⟩,nm,5+(j:Int),rfl,by lia,by lia,?_⟩
  obtain⟨kk,hkk,kk3⟩:∃kk:Nat,nb/20%4=(kk:Int)/\kk≤3:=⟨(nb/20%4).toNat,by lia,by lia⟩
  obtain⟨st,hst,st1,st3⟩:∃st:Nat,1+nb/80%3=(st:Int)/\1≤st/\st≤3:=⟨(1+nb/80%3).toNat,by lia,by lia,by lia⟩
  repeat (first|walk_at "s"|simp only[f3,hkk,hst,Y01])
  refine⟨by lia,(hJ _ _ _).mpr ⟨Fs++[⟨fnm nm j,inm nm g,inm nm tk,kk,st⟩],_,_,_,_,_,rfl,?_,λa o h=>by rw[Z06 (old a o h)];exact s3 _ _ h,by rw[Z02,Y0A];rfl,λF hF'=>?_⟩⟩
  ·rw[Y0A,hN,List.range_succ,Y0A];rfl
  ·rcases Y0Q.mp hF' with h'|h'
   ·exact hF _ h'
   ·rw[Y0z.mp h']
    refine⟨Y0r.mpr ⟨g,Y1o.mpr hg2,rfl⟩,Y0r.mpr ⟨tk,Y1o.mpr ht2,rfl⟩,λe=>?_,kk3,st1,st3⟩
    have:=Z6O (n:=nm) (k:=(g:Int)) (k':=(tk:Int)) (by lia) (by lia) (by lia) (by lia) e
    lia
 ·rintro σ M2 h
  obtain⟨Fs,v7,v8,v9,v10,v11,rfl,hN,s2,f2,hF⟩:=(hJ _ _ _).mp h
  have hN:Fs.map (·.name)=(Y0U cn).map (fnm nm):=hN
  have hl:Fs.length=cn:=by have:=congrArg Y31 hN;simpa using this
  have ndF:(Fs.map (·.name)).Nodup:=by
   rw[hN]
   refine Zew λa b ha hb e=>?_
   have:=Z6O (n:=nm) (k:=5+(a:Int)) (k':=5+(b:Int)) (by lia) (by lia) (by lia) (by lia) e
   lia
  clear hJ h
  rw[Z4P]
  walk_at "s"
  intro pi hpi
  have s3:=SameM.new hpi (.lst [])
  have i3:updM M2 pi (.lst []) pi=some (.lst []):=Z02
  have fpi:=(s0.trans s2).free hpi
  have ipf:=(neM f2 hpi).symm
  have old2:∀a o,M2 a=some o->a≠pi:=λa o h=>neM h hpi
  have only:∀a o,updM M2 pi (.lst []) a=some o->a≠pi->M2 a=some o:=λa o h n=>by rw[Z06 n]at h;exact h
  generalize updM M2 pi _=M3 at*
  rw[Z4O]
  walk_at "s"
  obtain⟨J,hJ⟩:∃J:Nat->Sm->MH->Prop,∀j σ M',J j σ M'↔∃(Is:List Isl) (ys:List MV) (v7:Option MV),σ=[some (.frl (ns.map .int)),some (.int ar),some (.int hd),some (.int nm),some (.int w),some (.int my),some (.ref pf),v7,v8,v9,v10,v11,some (.ref pi)]/\Is.map (·.name)=(Y0U j).map (inm nm)/\SameM M2 M'/\M' pi=some (.lst ys)/\IslsNew M3 M' Is ys/\(∀I∈Is,IslOk w (Fs.map (·.name)) I/\∀s∈I.stps,Zdg Fs I.name s):=⟨_,λ_ _ _=>Y1A⟩
  refine⟨by lia,by lia,J,(hJ _ _ _).mpr ⟨[],[],_,rfl,rfl,s3,i3,⟨rfl,λi I y hI=>by simp at hI⟩,λI hI=>nomatch hI⟩,λ_ _ _ _=>trivial,?_,?_⟩
  ·rintro j u σ M4 hu h
   obtain⟨Is,ys,v7,rfl,hNI,s4,i4,hI,hO⟩:=(hJ _ _ _).mp h
   obtain⟨hj,rfl⟩:=Z5i hu
   have hlI:Is.length=j:=by have:=congrArg Y31 hNI;simpa using this
   have hly:=hI.len
   rw[Int.zero_add,Z4N]
   obtain⟨c,hc⟩:∃c:Nat,6+(j:Int)=(c:Int):=⟨6+j,by lia⟩
   repeat (first|walk_at "s"|simp only[i4,hc])
   refine⟨⟨_,rfl⟩,ns,c,rfl,?_⟩
   walk_at "s"
   refine⟨ns.getD c 0%1000000000000000000000000000000000000000000000000000000000000,nm,ar,j,pf,Fs,rfl,s4 _ _ f2,by lia,ndF,by lia,by lia,by lia,λI a b M5 s5 na nb nab ha hb hn hok hen=>?_⟩
   have i5:=s5 _ _ i4
   repeat (first|walk_at "s"|simp only[i5])
   have bk:∀x,M4 x=none->M3 x=none:=λx hx=>by
    cases e:M3 x with
    |none=>rfl
    |some v=>
     by_cases hx2:x=pi
     ·subst hx2;rw[i4]at hx;cases hx
     ·rw[s4 _ _ (only _ _ e hx2)]at hx;cases hx
   refine⟨by lia,(hJ _ _ _).mpr ⟨Is++[I],ys++[.tup [.str I.name,.ref a,.ref b]],_,rfl,?_,λa o h=>by rw[Z06 (old2 a o h)];exact s5 _ _ (s4 _ _ h),Z02,?_,?_⟩⟩
   ·rw[Y0A,hNI,List.range_succ,Y0A]
    show _++[I.name]=_
    rw[hn];rfl
   ·have h3:∀x o,M5 x=some o->M3 x=none->updM M5 pi (.lst (ys++[.tup [.str I.name,.ref a,.ref b]])) x=some o:=λx o h n=>by
     rw[Z06 (λe=>by subst e;rw[i3]at n;cases n)];exact h
    have hI5:=hI.keep (M':=updM M5 pi (.lst (ys++[.tup [.str I.name,.ref a,.ref b]]))) λx o h n=>h3 x o (s5 _ _ h) n
    exact hI5.add (bk _ na) (bk _ nb) (h3 _ _ ha (bk _ na)) (h3 _ _ hb (bk _ nb))
   ·intro I' hI'
    rcases Y0Q.mp hI' with h'|h'
    ·exact hO _ h'
    ·rw[Y0z.mp h']
     exact⟨hok w w1,hen⟩
  ·rintro σ M4 h
   obtain⟨Is,ys,v7,rfl,hNI,s4,i4,hI,hO⟩:=(hJ _ _ _).mp h
   have hNI:Is.map (·.name)=(Y0U my).map (inm nm):=hNI
   have hlI:Is.length=my:=by have:=congrArg Y31 hNI;simpa using this
   rw[Z4M]
   walk_at "s"
   refine q ⟨w,Is,Fs⟩ pi pf ys M4 ((s0.trans s2).trans s4) ?_ (by show 1≤Is.length;lia) fpi fpf ipf i4 hI.inn (s4 _ _ f2)
   refine⟨w1,w2,by show Is.length≤5;lia,by show Fs.length≤6;lia,?_,?_,?_,λI hi=>(hO I hi).1,?_,λI hi=>(hO I hi).2⟩
   ·intro z hz
    have hz:z∈Fs.map (·.name):=hz
    rw[hN]at hz
    obtain⟨i,hi,rfl⟩:=Y0r.mp hz
    have:=Y1o.mp hi
    exact Z6P (by lia) (by lia)
   ·intro z hz
    have hz:z∈Is.map (·.name):=hz
    rw[hNI]at hz
    obtain⟨i,hi,rfl⟩:=Y0r.mp hz
    have:=Y1o.mp hi
    exact Z6P (by lia) (by lia)
   ·show(Fs.map (·.name)++Is.map (·.name)).Nodup
    rw[Y1d]
    refine⟨ndF,?_,?_⟩
    ·rw[hNI]
     refine Zew λa b ha hb e=>?_
     have:=Z6O (n:=nm) (k:=(a:Int)) (k':=(b:Int)) (by lia) (by lia) (by lia) (by lia) e
     lia
    ·rw[hN,hNI]
     intro a ha b hb e
     obtain⟨i,hi,rfl⟩:=Y0r.mp ha
     obtain⟨j,hj,rfl⟩:=Y0r.mp hb
     have hi:=Y1o.mp hi
     have hj:=Y1o.mp hj
     have:=Z6O (n:=nm) (k:=5+(i:Int)) (k':=(j:Int)) (by lia) (by lia) (by lia) (by lia) e
     lia
   ·intro F hF'
    show FerOk (Is.map (·.name)) F
    rw[hNI]
    exact hF F hF'
def zipK:List Str->List MV->List (Key×MV)
 |k::ks,v::vs=>(Y0O k,v)::zipK ks vs
 |_,_=>[]
theorem Z3K:∀{ks:List Str} {vs:List MV},vs.length=ks.length->(zipK ks vs).length=ks.length
 |[],[],_=>rfl
 |[],_::_,h=>by cases h
 |_::_,[],h=>by cases h
 |k::ks,v::vs,h=>by
  show(zipK ks vs).length+1=_
  rw[Z3K (by simpa using h)];rfl
theorem Z3q:∀{ks:List Str} {vs:List MV},vs.length=ks.length->(zipK ks vs).map (·.1)=ks.map Y0O
 |[],[],_=>rfl
 |[],_::_,h=>by cases h
 |_::_,[],h=>by cases h
 |k::ks,v::vs,h=>by
  show Y0O k::(zipK ks vs).map (·.1)=_
  rw[Z3q (by simpa using h)];rfl
theorem Z1F:∀{ks:List Str} {vs:List MV} {i:Nat} {k:Str} {v:MV},ks.Nodup->ks[i]?=some k->vs[i]?=some v->valM (zipK ks vs) (Y0O k)=some v
 |[],_,_,_,_,_,h,_=>by simp at h
 |_::_,[],_,_,_,_,_,h=>by simp at h
 |a::ks,b::vs,0,k,v,_,h1,h2=>by
  simp at h1 h2;subst h1 h2
  simp[zipK,valM]
 |a::ks,b::vs,i+1,k,v,nd,h1,h2=>by
  rw[Y11]at nd
  simp at h1 h2
  have:a≠k:=λe=>nd.1 (e▸Y08 h1)
  simp only[zipK,valM]
  rw[if_neg (λe=>this (Y2c e))]
  exact Z1F nd.2 h1 h2
theorem Z56:∀{ks:List Str} {vs:List MV} {i:Nat} {k:Str} {v:MV},vs.length=ks.length->ks.Nodup->ks[i]?=some k->putM (zipK ks vs) (Y0O k) v=zipK ks (vs.set i v)
 |[],_,_,_,_,_,_,h=>by simp at h
 |_::_,[],_,_,_,h,_,_=>by cases h
 |a::ks,b::vs,0,k,v,_,_,h1=>by
  simp at h1;subst h1
  simp[zipK,putM]
 |a::ks,b::vs,i+1,k,v,hl,nd,h1=>by
  rw[Y11]at nd
  simp at h1
  have:a≠k:=λe=>nd.1 (e▸Y08 h1)
  simp only[zipK,putM,List.set_cons_succ]
  rw[if_neg (λe=>this (Y2c e)),Z56 (by simpa using hl) nd.2 h1]
theorem Zer{kvs:List (Key×MV)}{k:Key}{v:MV}:(∀p∈kvs,p.1≠k)->putM kvs k v=kvs++[(k,v)]:=by
 induction kvs with
 |nil=>intro _;rfl
 |cons p r ih=>
  intro h
  unfold putM
  rw[if_neg (h p (Y0v ..)),ih λq hq=>h q (Y0n _ hq)];rfl
theorem Zgu{ps:List (Key×MV)}(nd:(ps.map (·.1)).Nodup):Z2K ps=ps:=by
 have gen:∀(ps c:List (Key×MV)),((c++ps).map (·.1)).Nodup->ps.foldl (λc z=>putM c z.1 z.2) c=c++ps:=by
  intro ps
  induction ps with
  |nil=>intro c _;simp
  |cons p r ih=>
   intro c nd
   rw[Y1M,Zer,ih]
   ·simp
   ·simpa using nd
   ·intro q hq e
    rw[Y0A,Y1d]at nd
    exact nd.2.2 _ (Y0r.mpr ⟨q,hq,rfl⟩) _ (Y0r.mpr ⟨p,Y0v ..,rfl⟩) e
 have:=gen ps [] (by simpa using nd)
 rw[Y0y]at this
 exact this
theorem Z2G{ks:List Str}{vs:List MV}(hl:vs.length=ks.length)(nd:ks.Nodup):Z2K (zipK ks vs)=zipK ks vs:=by
 refine Zgu ?_
 rw[Z3q hl]
 unfold List.Nodup
 rw[Y2Z]
 exact Y3X (λh e=>h (Y2c e)) nd
theorem Z8R{α:Type}(xs:List α)(f:α->Str)(g:α->MV):(xs.map λx=>MV.tup [.str (f x),g x])=(zipK (xs.map f) (xs.map g)).map prM:=by
 induction xs with
 |nil=>rfl
 |cons x r ih=>
  rw[Y0h,ih];rfl
def SrcFrom(S:Src)(M M1:MH):Prop:=(S.okF M1/\M1=M)\/∃a o kvs,S=.dic a o kvs/\M a=some (.dic kvs)/\M1=updM M a (.fdic o kvs)
theorem SrcFrom.free{S:Src}{M M1:MH}(h:SrcFrom S M M1){p:Addr}(hp:M1 p=none):M p=none:=by
 rcases h with⟨_,rfl⟩|⟨a,o,kvs,_,h1,rfl⟩
 ·exact hp
 ·by_cases e:p=a
  ·subst e;rw[Z02]at hp;cases hp
  ·rwa [Z06 e]at hp
theorem SrcFrom.ok{S:Src}{M M1 M2:MH}(h:SrcFrom S M M1)(s:SameM M1 M2):S.ok M2:=by
 rcases h with⟨h1,rfl⟩|⟨a,o,kvs,rfl,h1,rfl⟩
 ·cases S with
  |tup _=>trivial
  |rng _ _=>trivial
  |rst _ _ _=>trivial
  |dic _ _ _=>exact h1.elim
  |str _=>trivial
  |lst a zs=>exact s _ _ h1
 ·exact s _ _ Z02
theorem SrcFrom.thaw{S:Src}{M M1 M2:MH}(h:SrcFrom S M M1)(s:SameM M1 M2):SameM M (S.thaw M2)/\∀a,M1 a=none->(S.thaw M2) a=M2 a:=by
 rcases h with⟨h1,rfl⟩|⟨a,o,kvs,rfl,h1,rfl⟩
 ·rw[Zei h1];exact⟨s,λ_ _=>rfl⟩
 ·refine⟨λb u e=>?_,λb hb=>?_⟩
  ·show updM M2 a (.dic kvs) b=_
   by_cases z:b=a
   ·subst z;rw[Z02];rw[h1]at e;exact e
   ·rw[Z06 z];exact s _ _ (by rw[Z06 z];exact e)
  ·show updM M2 a (.dic kvs) b=_
   refine Z06 λz=>?_
   subst z;rw[Z02]at hb;cases hb
theorem ZbR{Φ:List (Str×SpM)}{own:List Str}{fr:List Nat}{src:ISr}{tg:ITg}{elt:IE}{σ:Sm}{M:MH}{Q:QM}{α:Type}(xs:List α)(f:α->MV)(C:α->MV->List Addr->MH->Prop)(Pm:MH->Prop)
  (hC:∀x y N M2 M3,(∀a∈N,M3 a=M2 a)->C x y N M2->C x y N M3)
  (hs:wSr Φ src σ M λS M1=>S.items=xs.map f/\xs.length<sizeLine/\SrcFrom S M M1/\Pm M1)
  (ht:∀x∈xs,∀M1 M',Pm M1->SameM M1 M'->wTg tg (f x) (sCm own fr σ) λσ2=>wE Φ elt σ2 M' λy M2=>SameM M' M2/\∃N:List Addr,N.Nodup/\(∀a∈N,M' a=none/\∃o,M2 a=some o)/\C x y N M2)
  (hΦ:∀(j:Nat) f sp,Φ[j]?=some (f,sp)->MonW sp)
  (q:∀D (ys:List MV) (Ns:List (List Addr)) M',M D=none->SameM M M'->ys.length=xs.length->Ns.length=xs.length->Ns.flatten.Nodup->D∉Ns.flatten->(∀a∈Ns.flatten,M a=none)->
   (∀(j:Nat) x y N,xs[j]?=some x->ys[j]?=some y->Ns[j]?=some N->C x y N M')->M' D=some (.lst ys)->Q (.ref D) M'):wE Φ (.comp own fr src tg .none elt) σ M Q:=by
 rw[ZcJ]
 refine mon_sr hΦ src (λS M1 ⟨h1,h2,h3,h4⟩=>?_) hs
 have hl:S.len=xs.length:=by rw[<- S.items_len,h1,Y01]
 refine⟨by rw[hl];exact h2,λD hD=>⟨λi ys M2=>SameM M1 M2/\M2 D=some (.lst ys)/\ys.length=i/\∃Ns:List (List Addr),Ns.length=i/\Ns.flatten.Nodup/\D∉Ns.flatten/\(∀a∈Ns.flatten,M1 a=none/\∃o,M2 a=some o)/\(∀(j:Nat) x y N,xs[j]?=some x->ys[j]?=some y->Ns[j]?=some N->C x y N M2),⟨SameM.new hD _,Z02,rfl,[],rfl,by simp,by simp,by simp,by simp⟩,?_,?_,?_⟩⟩
 ·rintro i ys M2 ⟨s2,d2,e,_⟩
  exact⟨d2,by lia,h3.ok s2⟩
 ·rintro i x ys M2 hx ⟨s2,d2,e,Ns,n1,n2,n3,n4,n5⟩
  rw[h1]at hx
  obtain⟨hi,rfl⟩:=Z0J hx
  refine Z5v tg (λσ2 h=>?_) (ht xs[i] (Y0p hi) M1 M2 h4 s2)
  rw[wI,if_pos rfl]
  refine Z09 hΦ elt (λy M3 ⟨s3,N,m1,m2,m3⟩=>?_) h
  have dN:D∉N:=λz=>by have:=(m2 _ z).1;rw[d2]at this;cases this
  have keep:∀a,a≠D->updM M3 D (.lst (ys++[y])) a=M3 a:=λa z=>Z06 z
  have fl:(Ns++[N]).flatten=Ns.flatten++N:=by simp
  refine⟨s3 _ _ d2,λa o z=>by rw[Z06 (neM z hD)];exact s3 _ _ (s2 _ _ z),Z02,by simp[e],Ns++[N],by simp[n1],?_,?_,?_,?_⟩
  ·rw[fl,Y1d]
   refine⟨n2,m1,λa ha b hb z=>?_⟩
   subst z
   obtain⟨_,o,ho⟩:=n4 _ ha
   rw[(m2 _ hb).1]at ho;cases ho
  ·rw[fl,Y0Q]
   exact λz=>z.elim n3 dN
  ·rw[fl]
   intro a ha
   have aD:a≠D:=λz=>by
    subst z
    rcases Y0Q.mp ha with ha|ha
    ·exact n3 ha
    ·exact dN ha
   rw[keep a aD]
   rcases Y0Q.mp ha with ha|ha
   ·obtain⟨z1,o,z2⟩:=n4 _ ha
    exact⟨z1,o,s3 _ _ z2⟩
   ·exact⟨s2.free (m2 _ ha).1,(m2 _ ha).2⟩
  ·intro j x' y' N' hxj hy hN
   by_cases hj:j<i
   ·rw[Y0P (by lia)]at hy hN
    refine hC _ _ _ M2 _ (λa ha=>?_) (n5 j x' y' N' hxj hy hN)
    have hm:a∈Ns.flatten:=List.mem_flatten.mpr ⟨N',Y08 hN,ha⟩
    rw[keep a λz=>n3 (z▸hm)]
    obtain⟨_,o,z2⟩:=n4 _ hm
    rw[z2];exact s3 _ _ z2
   ·have hj:j=i:=by
     have:=(Y05.mp hy).1
     simp at this
     lia
    subst hj
    rw[Y0E (by lia),e,Nat.sub_self]at hy
    rw[Y0E (by lia),n1,Nat.sub_self]at hN
    rw[Y00 hi]at hxj
    simp at hxj hy hN
    subst hxj hy hN
    exact hC _ _ _ M3 _ (λa ha=>keep a λz=>dN (z▸ha)) m3
 ·rintro ys M2 ⟨s2,d2,e,Ns,n1,n2,n3,n4,n5⟩
  obtain⟨t1,t2⟩:=h3.thaw s2
  refine q D ys Ns _ (h3.free hD) t1 (by lia) (by lia) n2 n3 (λa ha=>h3.free (n4 a ha).1) (λj x y N a b c=>?_) (by rw[t2 _ hD];exact d2)
  exact hC _ _ _ M2 _ (λz hz=>t2 _ (n4 z (List.mem_flatten.mpr ⟨N,Y08 c,hz⟩)).1) (n5 j x y N a b c)
theorem Z92{Φ:List (Str×SpM)}{own:List Str}{fr:List Nat}{src:ISr}{tg:ITg}{elt:IE}{σ:Sm}{M:MH}{Q:QM}{α:Type}(xs:List α)(f:α->MV)(nm:α->Str)(ob:α->MO)(Pm:MH->Prop)
  (hs:wSr Φ src σ M λS M1=>S.items=xs.map f/\xs.length<sizeLine/\SrcFrom S M M1/\Pm M1)
  (ht:∀x∈xs,∀M1 M',Pm M1->SameM M1 M'->wTg tg (f x) (sCm own fr σ) λσ2=>wE Φ elt σ2 M' λy M2=>∃p,M' p=none/\y=.tup [.str (nm x),.ref p]/\M2=updM M' p (ob x))
  (hΦ:∀(j:Nat) f sp,Φ[j]?=some (f,sp)->MonW sp)
  (q:∀D (as:List Addr) M',M D=none->SameM M M'->as.length=xs.length->as.Nodup->D∉as->(∀a∈as,M a=none)->
   (∀(j:Nat) a x,as[j]?=some a->xs[j]?=some x->M' a=some (ob x))->M' D=some (.lst ((zipK (xs.map nm) (as.map MV.ref)).map prM))->Q (.ref D) M'):wE Φ (.comp own fr src tg .none elt) σ M Q:=by
 refine ZbR xs f (λx y N M2=>∃p,N=[p]/\y=.tup [.str (nm x),.ref p]/\M2 p=some (ob x)) Pm ?_ hs ?_ hΦ ?_
 ·rintro x y N M2 M3 hk ⟨p,rfl,e1,e2⟩
  exact⟨p,rfl,e1,by rw[hk p (by simp)];exact e2⟩
 ·intro x hx M1 M' h1 h2
  refine Z5v tg (λσ2 h=>?_) (ht x hx M1 M' h1 h2)
  refine Z09 hΦ elt (λy M3 ⟨p,m1,m2,m3⟩=>?_) h
  subst m3
  exact⟨SameM.new m1 _,[p],by simp,by simp[m1,Z02],p,rfl,m2,Z02⟩
 ·intro D ys Ns M' h1 h2 h3 h4 h5 h6 h7 h8 h9
  have key:∀(xs:List α) (ys:List MV) (Ns:List (List Addr)),ys.length=xs.length->Ns.length=xs.length->(∀(j:Nat) x y N,xs[j]?=some x->ys[j]?=some y->Ns[j]?=some N->∃p,N=[p]/\y=.tup [.str (nm x),.ref p]/\M' p=some (ob x))->
    Ns.flatten.length=xs.length/\ys=(zipK (xs.map nm) (Ns.flatten.map MV.ref)).map prM/\∀(j:Nat) a x,Ns.flatten[j]?=some a->xs[j]?=some x->M' a=some (ob x):=by
   intro xs
   induction xs with
   |nil=>
    intro ys Ns h1 h2 _
    cases ys with
    |nil=>
     cases Ns with
     |nil=>exact⟨rfl,rfl,λj a x h=>by simp at h⟩
     |cons _ _=>cases h2
    |cons _ _=>cases h1
   |cons x xs ih=>
    intro ys Ns h1 h2 h3
    cases ys with
    |nil=>cases h1
    |cons y ys=>
     cases Ns with
     |nil=>cases h2
     |cons N Ns=>
      obtain⟨p,rfl,rfl,ep⟩:=h3 0 x y N rfl rfl rfl
      obtain⟨i1,i2,i3⟩:=ih ys Ns (by simpa using h1) (by simpa using h2) λj x y N a b c=>h3 (j+1) x y N (by simpa using a) (by simpa using b) (by simpa using c)
      refine⟨by simp at i1 ⊢;lia,?_,?_⟩
      ·show _=prM (Y0O (nm x),MV.ref p)::((zipK (xs.map nm) (Ns.flatten.map MV.ref)).map prM)
       rw[<- i2];rfl
      ·intro j a x' ha hx
       cases j with
       |zero=>simp at ha hx;subst ha hx;exact ep
       |succ j=>exact i3 j a x' (by simpa using ha) (by simpa using hx)
  obtain⟨k1,k2,k3⟩:=key xs ys Ns h3 h4 h8
  exact q D Ns.flatten M' h1 h2 k1 h5 h6 h7 k3 (by rw[<- k2];exact h9)
structure Std where
 num:List Nat
 wd:List (List (Key×MV))
 giv:List (List Int)
 tak:List Nat
structure StA where
 pn:Addr
 pw:Addr
 pg:Addr
 pt:Addr
 ws:List Addr
 gs:List Addr
def StA.mv(A:StA):MV:=.tup [.ref A.pn,.ref A.pw,.ref A.pg,.ref A.pt]
def natM(n:Nat):MV:=.int n
structure StdAt (W:Wld) (S:Std) (M:MH) (A:StA):Prop where
 n:M A.pn=some (.dic (zipK W.ins (S.num.map natM)))
 w:M A.pw=some (.dic (zipK W.ins (A.ws.map MV.ref)))
 g:M A.pg=some (.dic (zipK W.fns (A.gs.map MV.ref)))
 t:M A.pt=some (.dic (zipK W.fns (S.tak.map natM)))
 wl:A.ws.length=W.isl.length
 gl:A.gs.length=W.fer.length
 wv:∀(i:Nat) a kvs,A.ws[i]?=some a->S.wd[i]?=some kvs->M a=some (.dic kvs)
 gv:∀(j:Nat) a xs,A.gs[j]?=some a->S.giv[j]?=some xs->M a=some (.lst (xs.map MV.int))
theorem StdAt.keep{W:Wld}{S:Std}{M M':MH}{A:StA}(s:SameM M M')(h:StdAt W S M A):StdAt W S M' A:=
 ⟨s _ _ h.n,s _ _ h.w,s _ _ h.g,s _ _ h.t,h.wl,h.gl,λi a k x y=>s _ _ (h.wv i a k x y),λi a k x y=>s _ _ (h.gv i a k x y)⟩
def WdOk(w:Nat)(I:Isl)(kvs:List (Key×MV)):Prop:=∃vs:List Int,vs.length=I.vars.length/\kvs=zipK I.vars (vs.map MV.int)/\∀v∈vs,0≤v/\v<2^w
structure SOk (W:Wld) (c:Nat) (S:Std):Prop where
 nl:S.num.length=W.isl.length
 wl:S.wd.length=W.isl.length
 gl:S.giv.length=W.fer.length
 tl:S.tak.length=W.fer.length
 ni:∀(i:Nat) I n,W.isl[i]?=some I->S.num[i]?=some n->n≤I.stps.length
 wi:∀(i:Nat) I kvs,W.isl[i]?=some I->S.wd[i]?=some kvs->WdOk W.w I kvs
 gi:∀xs∈S.giv,xs.length≤c/\∀v∈xs,0≤v/\v<2^W.w
 ti:∀(j:Nat) xs n,S.giv[j]?=some xs->S.tak[j]?=some n->n≤xs.length
def rhoK(kvs:List (Key×MV))(x:Str):Int:=match valM kvs (Y0O x)with
 |some (.int i)=>i
 |_=>0
theorem WdOk.at{k:Nat}{I:Isl}{kvs:List (Key×MV)}(h:WdOk k I kvs)(nd:I.vars.Nodup){x:Str}(hx:x∈I.vars):valM kvs (Y0O x)=some (.int (rhoK kvs x))/\0≤rhoK kvs x/\rhoK kvs x<2^k:=by
 obtain⟨vs,hl,rfl,hv⟩:=h
 obtain⟨i,hi,rfl⟩:=Y0x hx
 have hi2:i<vs.length:=by lia
 have e:valM (zipK I.vars (vs.map MV.int)) (Y0O I.vars[i])=some (.int vs[i]):=Z1F (i:=i) nd (Y00 hi) (by rw[Y06,Y00 hi2];rfl)
 have e2:rhoK (zipK I.vars (vs.map MV.int)) I.vars[i]=vs[i]:=by unfold rhoK;rw[e]
 rw[e2]
 exact⟨e,hv _ (Y0p hi2)⟩
theorem WdOk.reads{k:Nat}{I:Isl}{kvs:List (Key×MV)}(h:WdOk k I kvs)(nd:I.vars.Nodup):readsOk I.vars kvs (rhoK kvs) k:=λ_ hx=>h.at nd hx
theorem WdOk.len{k:Nat}{I:Isl}{kvs:List (Key×MV)}(h:WdOk k I kvs):kvs.length=I.vars.length:=by
 obtain⟨vs,hl,rfl,hv⟩:=h
 exact Z3K (by rw[Y01];exact hl)
theorem WdOk.nodup{k:Nat}{I:Isl}{kvs:List (Key×MV)}(h:WdOk k I kvs)(nd:I.vars.Nodup):(kvs.map (·.1)).Nodup/\∀p∈kvs,Z3X p.2=true:=by
 obtain⟨vs,hl,rfl,hv⟩:=h
 have l2:(vs.map MV.int).length=I.vars.length:=by rw[Y01];exact hl
 refine⟨?_,?_⟩
 ·rw[Z3q l2]
  unfold List.Nodup
  rw[Y2Z]
  exact Y3X (λh e=>h (Y2c e)) nd
 ·have gen:∀(ks:List Str) (vs:List Int),∀p∈zipK ks (vs.map MV.int),Z3X p.2=true:=by
   intro ks
   induction ks with
   |nil=>intro vs p hp;cases hp
   |cons k ks ih=>
    intro vs p hp
    cases vs with
    |nil=>cases hp
    |cons v vs=>
     rcases Y0f.mp hp with rfl|hp
     ·rfl
     ·exact ih vs p hp
  exact gen _ _
theorem WdOk.put{k:Nat}{I:Isl}{kvs:List (Key×MV)}(h:WdOk k I kvs)(nd:I.vars.Nodup){x:Str}(hx:x∈I.vars){v:Int}(hv:0≤v/\v<2^k):WdOk k I (putM kvs (Y0O x) (.int v)):=by
 obtain⟨vs,hl,rfl,hr⟩:=h
 obtain⟨i,hi,rfl⟩:=Y0x hx
 refine⟨vs.set i v,by rw[Y1K];exact hl,?_,λu hu=>?_⟩
 ·rw[Z56 (i:=i) (by rw[Y01];exact hl) nd (Y00 hi),Y2v]
 ·rcases Y1p hu with hu|rfl
  ·exact hr u hu
  ·exact hv
def Wld.fat(W:Wld)(f:Str):Nat:=W.fns.idxOf f
theorem Z4Y{W:Wld}{f:Str}(h:f∈W.fns):W.fns[W.fat f]?=some f/\W.fat f<W.fer.length:=by
 have l:W.fns.idxOf f<W.fns.length:=Y30.mpr h
 refine⟨?_,by unfold Wld.fns at l;rw[Y01]at l;exact l⟩
 unfold Wld.fat
 rw[Y00 l,List.getElem_idxOf l]
def canM(W:Wld)(S:Std):Stp->Bool
 |.take f _=>decide (S.tak.getD (W.fat f) 0<(S.giv.getD (W.fat f) []).length)
 |.give f _=>decide (((S.giv.getD (W.fat f) []).length:Int) - (S.tak.getD (W.fat f) 0:Nat)<2^(W.fer.map (·.k)).getD (W.fat f) 0)
 |_=>true
def Za9(W:Wld)(S:Std):Stp->MV
 |.take f _=>.int ((S.giv.getD (W.fat f) []).getD (S.tak.getD (W.fat f) 0) 0)
 |_=>.non
def givM(W:Wld)(ρ:Str->Int)(s:Stp)(g:List (List Int)):List (List Int):=match s with
 |.give f T=>g.set (W.fat f) (g.getD (W.fat f) []++[T.val ρ W.w])
 |_=>g
def takM(W:Wld)(S:Std)(s:Stp)(t:List Nat):List Nat:=match s with
 |.take f _=>t.set (W.fat f) (S.tak.getD (W.fat f) 0+1)
 |_=>t
def Zc6(W:Wld)(S:Std)(i:Nat)(s:Stp)(B:Std):Std:=
 {num:=B.num.set i (Z1B s (rhoK (S.wd.getD i [])) W.w (S.num.getD i 0)).toNat
  wd:=B.wd.set i (Z3Z s (S.wd.getD i []) (rhoK (S.wd.getD i [])) W.w (Za9 W S s))
  giv:=givM W (rhoK (S.wd.getD i [])) s B.giv
  tak:=takM W S s B.tak}
def Z9S(W:Wld)(S:Std)(i:Nat)(I:Isl):Option Stp:=match I.stps[S.num.getD i 0]? with
 |some s=>if canM W S s then some s else none
 |none=>none
def Z94(W:Wld)(S:Std)(i:Nat)(p:Std×List Str):Std×List Str:=match W.isl[i]? with
 |some I=>match Z9S W S i I with
  |some s=>(Zc6 W S i s p.1,p.2++[I.name])
  |none=>p
 |none=>p
def Z1o(W:Wld)(S:Std):Nat->Std×List Str
 |0=>(S,[])
 |i+1=>Z94 W S i (Z1o W S i)
theorem Zbo{W:Wld}(G:W.Good){i:Nat}{I:Isl}(hI:W.isl[i]?=some I) {n:Nat} {s:Stp} (hs:I.stps[n]?=some s):Z7Q W.fns I.vars I.stps.length s:=(G.io I (Y08 hI)).st s (Y08 hs)
theorem Zjy{fs ns:List Str}{n:Nat}{s:Stp}(h:Z7Q fs ns n s):s.ok ns n:=by
 cases s with
 |take f x=>exact h.2
 |give f T=>exact h.2
 |put x T=>exact h
 |jump T i=>exact h
theorem ZeA{s:Stp}{fs ns:List Str}{k:Nat}(h:Z7Q fs ns k s){ρ:Str->Int}{w n:Nat}(hn:n<k):0≤Z1B s ρ w n/\(Z1B s ρ w n).toNat≤k/\Z1B s ρ w n=((Z1B s ρ w n).toNat:Int):=by
 have a:0≤Z1B s ρ w n/\Z1B s ρ w n≤k:=by
  cases s with
  |jump T j=>
   obtain⟨_,h1,h2⟩:=h
   unfold Z1B
   dsimp only
   split
   ·exact⟨h1,h2⟩
   ·lia
  |take f x=>unfold Z1B;dsimp only;lia
  |give f x=>unfold Z1B;dsimp only;lia
  |put f x=>unfold Z1B;dsimp only;lia
 lia
theorem Z2y{α:Type}{xs:List α}{i j:Nat}{v x:α}(h:(xs.set i v)[j]?=some x):(j=i/\x=v)\/(j≠i/\xs[j]?=some x):=by
 rw[Y27]at h
 by_cases e:i=j
 ·subst e
  rw[if_pos rfl]at h
  split at h
  ·exact .inl ⟨rfl,(Y0K h).symm⟩
  ·cases h
 ·rw[if_neg e]at h
  exact .inr ⟨λz=>e z.symm,h⟩
def Zjq(S B:Std):Prop:=∀(j:Nat) xs ys,S.giv[j]?=some xs->B.giv[j]?=some ys->xs.length≤ys.length
theorem SOk.up{W:Wld}{c d:Nat}{S:Std}(h:SOk W c S)(l:c≤d):SOk W d S:=⟨h.nl,h.wl,h.gl,h.tl,h.ni,h.wi,λxs hx=>⟨Y0M (h.gi xs hx).1 l,(h.gi xs hx).2⟩,h.ti⟩
theorem Zkg{W:Wld}{c:Nat}{S:Std}(h:SOk W c S){i:Nat}{I:Isl}(hI:W.isl[i]?=some I):S.num[i]?=some (S.num.getD i 0):=by
 have l:i<S.num.length:=by rw[h.nl];exact(Y05.mp hI).1
 rw[Y0j,Y00 l];rfl
theorem Zea{W:Wld}{c:Nat}{S:Std}(h:SOk W c S){i:Nat}{I:Isl}(hI:W.isl[i]?=some I):S.wd[i]?=some (S.wd.getD i []):=by
 have l:i<S.wd.length:=by rw[h.wl];exact(Y05.mp hI).1
 rw[Y0j,Y00 l];rfl
theorem Zd9{W:Wld}{c:Nat}{S:Std}(h:SOk W c S){j:Nat}(hj:j<W.fer.length):S.giv[j]?=some (S.giv.getD j []):=by
 have l:j<S.giv.length:=by rw[h.gl];exact hj
 rw[Y0j,Y00 l];rfl
theorem Zov{W:Wld}{c:Nat}{S:Std}(h:SOk W c S){j:Nat}(hj:j<W.fer.length):S.tak[j]?=some (S.tak.getD j 0):=by
 have l:j<S.tak.length:=by rw[h.tl];exact hj
 rw[Y0j,Y00 l];rfl
theorem ZdV{W:Wld}{S:Std}{i:Nat}{I:Isl}{s:Stp}(h:Z9S W S i I=some s):I.stps[S.num.getD i 0]?=some s/\canM W S s=true:=by
 unfold Z9S at h
 split at h
 ·rename_i s' e
  split at h
  ·cases h;exact⟨e,‹_›⟩
  ·cases h
 ·cases h
theorem ZfT{W:Wld}{c:Nat}{S:Std}(hS:SOk W c S){f x:Str}(hf:f∈W.fns)(hc:canM W S (.take f x)=true):∃v,Za9 W S (.take f x)=.int v/\(S.giv.getD (W.fat f) [])[S.tak.getD (W.fat f) 0]?=some v/\0≤v/\v<2^W.w:=by
 have l:=(Z4Y hf).2
 have hc:S.tak.getD (W.fat f) 0<(S.giv.getD (W.fat f) []).length:=of_decide_eq_true hc
 refine⟨_,rfl,?_,?_⟩
 ·rw[Y0j (l:=S.giv.getD (W.fat f) []),Y00 hc];rfl
 ·rw[Y0j (l:=S.giv.getD (W.fat f) []),Y00 hc]
  exact(hS.gi _ (Y08 (Zd9 hS l))).2 _ (Y0p hc)
theorem ZhU{W:Wld}(G:W.Good){c:Nat}{S:Std}(hS:SOk W c S){i:Nat}{I:Isl}(hI:W.isl[i]?=some I) {s:Stp} (hg:Z9S W S i I=some s):WdOk W.w I (Z3Z s (S.wd.getD i []) (rhoK (S.wd.getD i [])) W.w (Za9 W S s)):=by
 obtain⟨hs,hc⟩:=ZdV hg
 have si:=Zbo G hI hs
 have wd:=hS.wi i I _ hI (Zea hS hI)
 have nd:=(G.io I (Y08 hI)).nd
 cases s with
 |take f x=>
  obtain⟨v,e,_,hv⟩:=ZfT hS si.1 hc
  rw[e]
  exact wd.put nd si.2 hv
 |give f T=>exact wd
 |put x T=>exact wd.put nd si.1 (Tm.val_in G.w1 λy hy=>(wd.at nd (si.2.2.2 y hy)).2)
 |jump T j=>exact wd
theorem Zgb{W:Wld}(G:W.Good){c d:Nat}{S B:Std}(hS:SOk W c S)(hB:SOk W d B)(gr:Zjq S B){i:Nat}{I:Isl}(hI:W.isl[i]?=some I) {s:Stp} (hg:Z9S W S i I=some s):
  SOk W (d+1) (Zc6 W S i s B)/\Zjq S (Zc6 W S i s B):=by
 obtain⟨hs,hc⟩:=ZdV hg
 have si:=Zbo G hI hs
 have hn:S.num.getD i 0<I.stps.length:=(Y05.mp hs).1
 have wd:=hS.wi i I _ hI (Zea hS hI)
 have nd:=(G.io I (Y08 hI)).nd
 have gl:(givM W (rhoK (S.wd.getD i [])) s B.giv).length=B.giv.length:=by
  cases s<;>simp[givM]
 have tl:(takM W S s B.tak).length=B.tak.length:=by
  cases s<;>simp[takM]
 have gat:∀(j:Nat) ys,(givM W (rhoK (S.wd.getD i [])) s B.giv)[j]?=some ys->∃zs,B.giv[j]?=some zs/\zs.length≤ys.length/\ys.length≤zs.length+1/\∀v∈ys,v∈zs\/(0≤v/\v<2^W.w):=by
  intro j ys h
  cases s with
  |give f T=>
   have h:(B.giv.set (W.fat f) (B.giv.getD (W.fat f) []++[T.val (rhoK (S.wd.getD i [])) W.w]))[j]?=some ys:=h
   rcases Z2y h with⟨rfl,rfl⟩|⟨_,h⟩
   ·refine⟨_,Zd9 hB (Z4Y si.1).2,by simp,by simp,λv hv=>?_⟩
    rcases Y0Q.mp hv with hv|hv
    ·exact .inl hv
    ·rw[Y0z]at hv
     subst hv
     exact .inr (Tm.val_in G.w1 λy hy=>(wd.at nd (si.2.2.2 y hy)).2)
   ·exact⟨ys,h,Y0b _,Y1D _,λv hv=>.inl hv⟩
  |take f x=>exact⟨ys,h,Y0b _,Y1D _,λv hv=>.inl hv⟩
  |put f x=>exact⟨ys,h,Y0b _,Y1D _,λv hv=>.inl hv⟩
  |jump f x=>exact⟨ys,h,Y0b _,Y1D _,λv hv=>.inl hv⟩
 have tat:∀(j:Nat) n,(takM W S s B.tak)[j]?=some n->B.tak[j]?=some n\/(j<W.fer.length/\n=S.tak.getD j 0+1/\S.tak.getD j 0<(S.giv.getD j []).length):=by
  intro j n h
  cases s with
  |take f x=>
   have h:(B.tak.set (W.fat f) (S.tak.getD (W.fat f) 0+1))[j]?=some n:=h
   rcases Z2y h with⟨rfl,rfl⟩|⟨_,h⟩
   ·exact .inr ⟨(Z4Y si.1).2,rfl,of_decide_eq_true hc⟩
   ·exact .inl h
  |give f x=>exact .inl h
  |put f x=>exact .inl h
  |jump f x=>exact .inl h
 refine⟨⟨by simp[Zc6,hB.nl],by simp[Zc6,hB.wl],gl.trans hB.gl,tl.trans hB.tl,?_,?_,?_,?_⟩,?_⟩
 ·intro i' I' n hI' h
  rcases Z2y (show(B.num.set i _)[i']?=some n from h)with⟨rfl,rfl⟩|⟨_,h⟩
  ·rw[hI]at hI';cases hI'
   exact(ZeA si hn).2.1
  ·exact hB.ni i' I' n hI' h
 ·intro i' I' kvs hI' h
  rcases Z2y (show(B.wd.set i _)[i']?=some kvs from h)with⟨rfl,rfl⟩|⟨_,h⟩
  ·rw[hI]at hI';cases hI'
   exact ZhU G hS hI hg
  ·exact hB.wi i' I' kvs hI' h
 ·intro ys hy
  obtain⟨j,hj,rfl⟩:=Y0x hy
  obtain⟨zs,z1,z2,z3,z4⟩:=gat j _ (Y00 hj)
  have:=hB.gi zs (Y08 z1)
  refine⟨by have:=this.1;lia,λv hv=>?_⟩
  rcases z4 v hv with hv|hv
  ·exact this.2 v hv
  ·exact hv
 ·intro j ys n hy hn
  obtain⟨zs,z1,z2,z3,z4⟩:=gat j _ hy
  rcases tat j n hn with h|⟨h1,rfl,h2⟩
  ·exact Y0M (hB.ti j zs n z1 h) z2
  ·have:=gr j _ zs (Zd9 hS h1) z1
   lia
 ·intro j xs ys hx hy
  obtain⟨zs,z1,z2,z3,z4⟩:=gat j _ hy
  exact Y0M (gr j xs zs hx z1) z2
theorem Z5h{W:Wld}(G:W.Good){c:Nat}{S:Std}(hS:SOk W c S):∀i:Nat,SOk W (c+i) (Z1o W S i).1/\Zjq S (Z1o W S i).1/\(∀z∈(Z1o W S i).2,z∈W.ins)/\(Z1o W S i).2.length≤i
 |0=>⟨hS,λj xs ys h1 h2=>by rw[show(Z1o W S 0).1=S from rfl,h1]at h2;cases h2;exact Y0b _,λz h=>(nomatch h),Y0b _⟩
 |i+1=>by
  obtain⟨h1,h2,h3,h4⟩:=Z5h G hS i
  show SOk W (c+(i+1)) (Z94 W S i (Z1o W S i)).1/\Zjq S (Z94 W S i (Z1o W S i)).1/\(∀z∈(Z94 W S i (Z1o W S i)).2,z∈W.ins)/\(Z94 W S i (Z1o W S i)).2.length≤i+1
  unfold Z94
  split
  ·rename_i I hI
   split
   ·rename_i s hg
    obtain⟨a,b⟩:=Zgb G hS h1 h2 hI hg
    refine⟨a,b,λz hz=>?_,by simp;lia⟩
    rcases Y0Q.mp hz with hz|hz
    ·exact h3 z hz
    ·rw[Y0z]at hz
     subst hz
     exact Y0r.mpr ⟨I,Y08 hI,rfl⟩
   ·exact⟨h1.up (by lia),h2,h3,by lia⟩
  ·exact⟨h1.up (by lia),h2,h3,by lia⟩
def ZnQ(W:Wld)(S:Std):Std:=(Z1o W S W.isl.length).1
def Z2s(W:Wld)(S:Std):List Str:=(Z1o W S W.isl.length).2
theorem Wld.Good.in_nd{W:Wld}(G:W.Good):W.ins.Nodup:=(Y1d.mp G.nd).2.1
theorem Wld.Good.fn_nd{W:Wld}(G:W.Good):W.fns.Nodup:=(Y1d.mp G.nd).1
theorem Z70{W:Wld}{i:Nat}{I:Isl}(h:W.isl[i]?=some I):W.ins[i]?=some I.name:=by unfold Wld.ins;rw[Y06,h];rfl
theorem Zhw{W:Wld}{i:Nat}{f:Fer}(h:W.fer[i]?=some f):W.fns[i]?=some f.name:=by unfold Wld.fns;rw[Y06,h];rfl
abbrev Z1t:SpM:=λvs M Q=>∃(ns:List Str) (ys:List MV) (i:Nat) (z:Str) (y:MV),vs=[.tup ys,.str z]/\(∀(j:Nat) u,ys[j]?=some u->∃x r,u=.tup (.str x::r)/\ns[j]?=some x)/\ns.Nodup/\ns[i]?=some z/\ys[i]?=some y/\Q y M
theorem Z3v:MonW Z1t:=by walk_at "m"
theorem Z6L(T:Txt K mg t):FnOk P w K mg base CX0 1 t.f_one_called t.d_one_called ["row","name"] (liSp K Z1t):=by
 refine T.F_one_called.okM Zbs (Z0G (Φ:=[]) (Z0H T) (Z0g T) rfl (λ_ h=>nomatch h) (λ_ h=>nomatch h):Fts P w K mg base 0 Z8B []) Z3P ZbS (λvs M Q h=>?_) (λvs M Q h=>?_)
 ·obtain⟨_,_,_,_,_,rfl,_⟩:=h;rfl
 obtain⟨ns,ys,i,z,y,rfl,ha,nd,hz,hy,q⟩:=h
 show wSs _ _ _ [some (.tup ys),some (.str z),none] M
 rw[Z3P,Z6Z]
 walk_at "s"
 obtain⟨J,hJ⟩:∃J:Nat->Sm->MH->Prop,∀j σ M',J j σ M'↔M'=M/\j≤i/\∃v,σ=[some (.tup ys),some (.str z),v]:=⟨_,λ_ _ _=>Y1A⟩
 refine⟨J,(hJ _ _ _).mpr ⟨rfl,Y17 _,_,rfl⟩,λj σ M' h=>trivial,?_,?_⟩
 ·rintro j u σ M' hu h
  obtain⟨rfl,hj,v,rfl⟩:=(hJ _ _ _).mp h
  have hu:ys[j]?=some u:=hu
  obtain⟨x,r,rfl,hx⟩:=ha j u hu
  rw[Z6Y]
  walk_at "s"
  refine Z4e (λe=>?_) (λe=>?_)
  ·subst e
   have hij:j=i:=(Y2r (Y05.mp hx).1 nd).mp (hx.trans hz.symm)
   subst hij
   rw[Z6X]
   walk_at "s"
   rw[hy]at hu
   cases hu
   exact q
  ·refine(hJ _ _ _).mpr ⟨rfl,?_,_,rfl⟩
   rcases Nat.lt_or_ge j i with l|l
   ·exact l
   ·exfalso
    have hij:j=i:=Nat.le_antisymm hj l
    subst hij
    rw[hx]at hz
    exact e (Y0K hz)
 ·rintro σ M' h
  exfalso
  obtain⟨_,hj,_⟩:=(hJ _ _ _).mp h
  have hj:ys.length≤i:=hj
  have:=(Y05.mp hy).1
  lia
abbrev Z1l:SpM:=λvs M Q=>∃(W:Wld) (i:Nat) (I:Isl),vs=[W.mv,.str I.name]/\W.Good/\W.isl[i]?=some I/\Q I.mv M
theorem Z43:MonW Z1l:=by walk_at "m"
theorem Z7V(T:Txt K mg t):FnOk P w K mg base CX0 2 t.f_island_of t.d_island_of ["world","name"] (liSp K Z1l):=by
 refine T.F_island_of.okM Zca (Z0G (Φ:=[("one_called",Z1t)]) (Z0H T) (Z0g T) rfl (fMc ⟨Z3v,(fun _ h=>nomatch h)⟩) (fMc ⟨⟨_,_,_,(FnOk.mono (Z6L T) (by decide)),T.m_one_called,T.F_one_called.kp,T.b_one_called⟩,(fun _ h=>nomatch h)⟩):Fts P w K mg base 1 Za5 [("one_called",Z1t)]) Z4E ZcU (fun vs M Q h=>?_) (fun vs M Q h=>?_)
 ·obtain⟨_,_,_,rfl,_⟩:=h;rfl
 obtain⟨W,i,I,rfl,G,hI,q⟩:=h
 show wSs _ _ _ [some W.mv,some (.str I.name)] M
 rw[Z4E,Z89,Wld.mv]
 walk_at "s"
 refine⟨W.ins,W.isl.map Isl.mv,i,I.name,I.mv,rfl,λj u hu=>?_,G.in_nd,Z70 hI,by rw[Y06,hI];rfl,q⟩
 obtain⟨hj,rfl⟩:=Z0J hu
 exact⟨_,_,rfl,Z70 (Y00 hj)⟩
abbrev Z3L:SpM:=λvs M Q=>∃(W:Wld) (i:Nat) (f:Fer),vs=[W.mv,.str f.name]/\W.Good/\W.fer[i]?=some f/\Q f.mv M
theorem Z9n:MonW Z3L:=by walk_at "m"
theorem Zdx(T:Txt K mg t):FnOk P w K mg base CX0 2 t.f_ferry_of t.d_ferry_of ["world","name"] (liSp K Z3L):=by
 refine T.F_ferry_of.okM Zdt (Z0G (Φ:=[("one_called",Z1t)]) (Z0H T) (Z0g T) rfl (fMc ⟨Z3v,(fun _ h=>nomatch h)⟩) (fMc ⟨⟨_,_,_,(FnOk.mono (Z6L T) (by decide)),T.m_one_called,T.F_one_called.kp,T.b_one_called⟩,(fun _ h=>nomatch h)⟩):Fts P w K mg base 1 Zbk [("one_called",Z1t)]) Z6B Ze6 (fun vs M Q h=>?_) (fun vs M Q h=>?_)
 ·obtain⟨_,_,_,rfl,_⟩:=h;rfl
 obtain⟨W,i,I,rfl,G,hI,q⟩:=h
 show wSs _ _ _ [some W.mv,some (.str I.name)] M
 rw[Z6B,Z9L,Wld.mv]
 walk_at "s"
 refine⟨W.fns,W.fer.map Fer.mv,i,I.name,I.mv,rfl,λj u hu=>?_,G.fn_nd,Zhw hI,by rw[Y06,hI];rfl,q⟩
 obtain⟨hj,rfl⟩:=Z0J hu
 exact⟨_,_,rfl,Zhw (Y00 hj)⟩
theorem Zgq{W:Wld}(G:W.Good){c:Nat}{S:Std}(hS:SOk W c S){i:Nat}{I:Isl}(hI:W.isl[i]?=some I):valM (zipK W.ins (S.num.map natM)) (Y0O I.name)=some (.int (S.num.getD i 0:Nat)):=Z1F G.in_nd (Z70 hI) (by rw[Y06,Zkg hS hI];rfl)
theorem Zkz{W:Wld}(G:W.Good){ws:List Addr}{i:Nat}{I:Isl}{a:Addr}(hI:W.isl[i]?=some I) (ha:ws[i]?=some a):valM (zipK W.ins (ws.map MV.ref)) (Y0O I.name)=some (.ref a):=Z1F G.in_nd (Z70 hI) (by rw[Y06,ha];rfl)
theorem Zio{W:Wld}(G:W.Good){gs:List Addr}{f:Str}{a:Addr}(hf:f∈W.fns)(ha:gs[W.fat f]?=some a):valM (zipK W.fns (gs.map MV.ref)) (Y0O f)=some (.ref a):=Z1F G.fn_nd (Z4Y hf).1 (by rw[Y06,ha];rfl)
theorem Zep{W:Wld}(G:W.Good){c:Nat}{S:Std}(hS:SOk W c S){f:Str}(hf:f∈W.fns):valM (zipK W.fns (S.tak.map natM)) (Y0O f)=some (.int (S.tak.getD (W.fat f) 0:Nat)):=Z1F G.fn_nd (Z4Y hf).1 (by rw[Y06,Zov hS (Z4Y hf).2];rfl)
theorem StdAt.ws_at{W:Wld}{S:Std}{M:MH}{A:StA}(h:StdAt W S M A){c:Nat}(hS:SOk W c S){i:Nat}{I:Isl}(hI:W.isl[i]?=some I):∃a,A.ws[i]?=some a/\M a=some (.dic (S.wd.getD i [])):=by
 have l:i<A.ws.length:=by rw[h.wl];exact(Y05.mp hI).1
 exact⟨_,Y00 l,h.wv i _ _ (Y00 l) (Zea hS hI)⟩
theorem StdAt.gs_at{W:Wld}{S:Std}{M:MH}{A:StA}(h:StdAt W S M A){c:Nat}(hS:SOk W c S){f:Str}(hf:f∈W.fns):∃a,A.gs[W.fat f]?=some a/\M a=some (.lst ((S.giv.getD (W.fat f) []).map MV.int)):=by
 have l:W.fat f<A.gs.length:=by rw[h.gl];exact(Z4Y hf).2
 exact⟨_,Y00 l,h.gv _ _ _ (Y00 l) (Zd9 hS (Z4Y hf).2)⟩
abbrev Z5b:SpM:=λvs M Q=>∃(W:Wld) (S:Std) (A:StA) (c i:Nat) (I:Isl),vs=[W.mv,A.mv,.str I.name]/\W.Good/\SOk W c S/\StdAt W S M A/\W.isl[i]?=some I/\Q (dueM I.stps (rhoK (S.wd.getD i [])) W.w (S.num.getD i 0)) M
theorem Zan:MonW Z5b:=by walk_at "m"
theorem Zfk(T:Txt K mg t):FnOk P w K mg base CX0 51 t.f_wish_of t.d_wish_of ["world","stand","name"] (liSp K Z5b):=by
 refine T.F_wish_of.okM Zf9 (Z0G (Φ:=[("island_of",Z1l),("wish",Zbp)]) (Z0H T) (Z0g T) rfl (fMc ⟨Z43,(fMc ⟨ZdA,(fun _ h=>nomatch h)⟩)⟩) (fMc ⟨⟨_,_,_,(FnOk.mono (Z7V T) (by decide)),T.m_island_of,T.F_island_of.kp,T.b_island_of⟩,(fMc ⟨⟨_,_,_,(FnOk.mono (Zl9 T) (by decide)),T.m_wish,T.F_wish.kp,T.b_wish⟩,(fun _ h=>nomatch h)⟩)⟩):Fts P w K mg base 50 Zda [("island_of",Z1l),("wish",Zbp)]) Z7E ZfI (fun vs M Q h=>?_) (fun vs M Q h=>?_)
 ·obtain⟨_,_,_,_,_,_,rfl,_⟩:=h;rfl
 obtain⟨W,S,A,c,i,I,rfl,G,hS,hA,hI,q⟩:=h
 show wSs _ _ _ [some W.mv,some A.mv,some (.str I.name)] M
 obtain⟨a,a1,a2⟩:=hA.ws_at hS hI
 have ok:=G.io I (Y08 hI)
 rw[Z7E,ZaQ,Wld.mv,StA.mv]
 repeat (first|walk_at "s"|simp only[hA.n,hA.w])
 refine⟨W,i,I,rfl,G,hI,?_⟩
 rw[Isl.mv]
 repeat (first|walk_at "s"|simp only[hA.n,hA.w])
 refine⟨_,Zgq G hS hI,_,Zkz G hI a1,?_⟩
 refine⟨_,a,I.stps,S.num.getD i 0,W.w,S.wd.getD i [],rhoK (S.wd.getD i []),I.vars,rfl,.inl rfl,λs hs=>Zjy (ok.st s hs),hS.ni i I _ hI (Zkg hS hI),G.w1,G.w2,a2,(hS.wi i I _ hI (Zea hS hI)).reads ok.nd,q⟩
def askM(s:Stp)(ρ:Str->Int)(w:Nat):MV:=match s with
 |.take f _=>.tup [.str "take",.str f]
 |.give f T=>.tup [.str "give",.str f,.int (T.val ρ w)]
 |_=>.tup [.str "own"]
theorem ZlT{ss:List Stp}{i:Nat}{s:Stp}(h:ss[i]?=some s) (ρ:Str->Int) (w:Nat):dueM ss ρ w i=askM s ρ w:=by
 unfold dueM
 rw[h]
 cases s<;>rfl
abbrev Z6J:SpM:=λvs M Q=>∃(W:Wld) (S:Std) (A:StA) (c:Nat) (s:Stp) (ρ:Str->Int) (ns:List Str) (k:Nat),vs=[W.mv,A.mv,askM s ρ W.w]/\W.Good/\SOk W c S/\StdAt W S M A/\Z7Q W.fns ns k s/\Q (.bl (canM W S s)) M
theorem ZbE:MonW Z6J:=by walk_at "m"
theorem ZgF(T:Txt K mg t):FnOk P w K mg base CX0 3 t.f_can_be t.d_can_be ["world","stand","asked"] (liSp K Z6J):=by
 refine T.F_can_be.okM Zgl (Z0G (Φ:=[("ferry_of",Z3L),("two_to",Z2l)]) (Z0H T) (Z0g T) rfl (fMc ⟨Z9n,(fMc ⟨Z3M,(fun _ h=>nomatch h)⟩)⟩) (fMc ⟨⟨_,_,_,(FnOk.mono (Zdx T) (by decide)),T.m_ferry_of,T.F_ferry_of.kp,T.b_ferry_of⟩,(fMc ⟨⟨_,_,_,(FnOk.mono (Z9f T) (by decide)),T.m_two_to,T.F_two_to.kp,T.b_two_to⟩,(fun _ h=>nomatch h)⟩)⟩):Fts P w K mg base 2 Zf4 [("ferry_of",Z3L),("two_to",Z2l)]) Z9C ZhG (fun vs M Q h=>?_) (fun vs M Q h=>?_)
 ·obtain⟨_,_,_,_,_,_,_,_,rfl,_⟩:=h;rfl
 obtain⟨W,S,A,c,s,ρ,ns,k,rfl,G,hS,hA,si,q⟩:=h
 show wSs _ _ _ [some W.mv,some A.mv,some (askM s ρ W.w),none] M
 rw[Z9C,ZcF,Wld.mv,StA.mv]
 cases s with
 |put x T=>
  simp only[askM]
  walk_at "s"
  rw[Z9P]
  walk_at "s"
  exact q
 |jump x T=>
  simp only[askM]
  walk_at "s"
  rw[Z9P]
  walk_at "s"
  exact q
 |take f x=>
  simp only[askM]
  obtain⟨a,a1,a2⟩:=hA.gs_at hS si.1
  walk_at "s"
  rw[Z9O]
  repeat (first|walk_at "s"|simp only[hA.g,hA.t])
  refine⟨_,Zio G si.1 a1,?_⟩
  repeat (first|walk_at "s"|simp only[a2,hA.t])
  refine⟨_,Zep G hS si.1,?_⟩
  walk_at "s"
  rw[Z9N]
  walk_at "s"
  rw[ZcE]
  walk_at "s"
  have e:canM W S (.take f x)=decide ((((S.giv.getD (W.fat f) []).map MV.int).length:Int) - (S.tak.getD (W.fat f) 0:Nat)>0):=by
   unfold canM
   rw[Y01]
   exact decide_eq_decide.mpr ⟨λh=>by lia,λh=>by lia⟩
  rw[e]at q
  exact q
 |give f T=>
  simp only[askM]
  obtain⟨a,a1,a2⟩:=hA.gs_at hS si.1
  obtain⟨hf1,hf2⟩:=Z4Y si.1
  have hf3:=Y00 hf2
  have hn:(W.fer[W.fat f]).name=f:=by have:=Zhw hf3;rw[hf1]at this;exact(Y0K this).symm
  have fo:=G.fo _ (Y0p hf2)
  have k3:=fo.k3
  walk_at "s"
  rw[Z9O]
  repeat (first|walk_at "s"|simp only[hA.g,hA.t])
  refine⟨_,Zio G si.1 a1,?_⟩
  repeat (first|walk_at "s"|simp only[a2,hA.t])
  refine⟨_,Zep G hS si.1,?_⟩
  walk_at "s"
  rw[Z9N]
  walk_at "s"
  rw[ZcD]
  walk_at "s"
  refine⟨W,W.fat f,W.fer[W.fat f],by rw[hn];rfl,G,hf3,?_⟩
  rw[Fer.mv]
  walk_at "s"
  refine⟨(W.fer[W.fat f]).k,rfl,by lia,?_⟩
  walk_at "s"
  have e:(W.fer.map (·.k)).getD (W.fat f) 0=(W.fer[W.fat f]).k:=by rw[Y0j,Y06,hf3];rfl
  have e2:canM W S (.give f T)=decide (((S.giv.getD (W.fat f) []).length:Int) - (S.tak.getD (W.fat f) 0:Nat)<2^(W.fer.map (·.k)).getD (W.fat f) 0):=rfl
  rw[e2,e]at q
  rw[Y01]
  exact q
def StA.own(A:StA):List Addr:=A.pn::A.pw::A.pg::A.pt::A.gs
structure StA.New (A:StA) (M0:MH):Prop where
 nd:A.own.Nodup
 fr:∀a∈A.own,M0 a=none
 ws:∀a∈A.ws,a∉A.own
theorem Zet{A:StA}(nd:A.own.Nodup):(A.pn≠A.pw/\A.pn≠A.pg/\A.pn≠A.pt/\A.pn∉A.gs)/\(A.pw≠A.pg/\A.pw≠A.pt/\A.pw∉A.gs)/\(A.pg≠A.pt/\A.pg∉A.gs)/\A.pt∉A.gs/\A.gs.Nodup:=by
 unfold StA.own at nd
 simp only[Y11,Y0f,not_or]at nd
 obtain⟨⟨a1,a2,a3,a4⟩,⟨b1,b2,b3⟩,⟨c1,c2⟩,d1,e⟩:=nd
 exact⟨⟨a1,a2,a3,a4⟩,⟨b1,b2,b3⟩,⟨c1,c2⟩,d1,e⟩
theorem Zeh{M:MH}{x a:Addr}{o:MO}(h:updM M x o a=none):M a=none:=by
 by_cases e:a=x
 ·subst e;rw[Z02]at h;cases h
 ·rwa [Z06 e]at h
theorem ZcI{A:StA}{a:Addr}(h:a∈A.gs):a∈A.own:=by simp[StA.own,h]
theorem StdAt.put_t{W:Wld}{B:Std}{M M0:MH}{A:StA}(h:StdAt W B M A)(N:A.New M0)(t:List Nat):StdAt W {B with tak:=t} (updM M A.pt (.dic (zipK W.fns (t.map natM)))) A:=by
 obtain⟨⟨a1,a2,a3,a4⟩,⟨b1,b2,b3⟩,⟨c1,c2⟩,d1,e⟩:=Zet N.nd
 refine⟨?_,?_,?_,Z02,h.wl,h.gl,λi a k x y=>?_,λi a k x y=>?_⟩
 ·rw[Z06 a3];exact h.n
 ·rw[Z06 b2];exact h.w
 ·rw[Z06 c1];exact h.g
 ·rw[Z06 λz=>N.ws a (Y08 x) (by rw[z];simp[StA.own])];exact h.wv i a k x y
 ·rw[Z06 λz=>d1 (by rw[<- z];exact Y08 x)];exact h.gv i a k x y
theorem StdAt.put_n{W:Wld}{B:Std}{M M0:MH}{A:StA}(h:StdAt W B M A)(N:A.New M0)(t:List Nat):StdAt W {B with num:=t} (updM M A.pn (.dic (zipK W.ins (t.map natM)))) A:=by
 obtain⟨⟨a1,a2,a3,a4⟩,⟨b1,b2,b3⟩,⟨c1,c2⟩,d1,e⟩:=Zet N.nd
 refine⟨Z02,?_,?_,?_,h.wl,h.gl,λi a k x y=>?_,λi a k x y=>?_⟩
 ·rw[Z06 λz=>a1 z.symm];exact h.w
 ·rw[Z06 λz=>a2 z.symm];exact h.g
 ·rw[Z06 λz=>a3 z.symm];exact h.t
 ·rw[Z06 λz=>N.ws a (Y08 x) (by rw[z];simp[StA.own])];exact h.wv i a k x y
 ·rw[Z06 λz=>a4 (by rw[<- z];exact Y08 x)];exact h.gv i a k x y
theorem StdAt.put_g{W:Wld}{B:Std}{M M0:MH}{A:StA}(h:StdAt W B M A)(N:A.New M0){j:Nat}{b:Addr}(hb:A.gs[j]?=some b) (xs:List Int):StdAt W {B with giv:=B.giv.set j xs} (updM M b (.lst (xs.map MV.int))) A:=by
 obtain⟨⟨a1,a2,a3,a4⟩,⟨b1,b2,b3⟩,⟨c1,c2⟩,d1,e⟩:=Zet N.nd
 have hm:=Y08 hb
 refine⟨?_,?_,?_,?_,h.wl,h.gl,λi a k x y=>?_,λi a k x y=>?_⟩
 ·rw[Z06 λz:A.pn=b=>a4 (by rw[z];exact hm)];exact h.n
 ·rw[Z06 λz:A.pw=b=>b3 (by rw[z];exact hm)];exact h.w
 ·rw[Z06 λz:A.pg=b=>c2 (by rw[z];exact hm)];exact h.g
 ·rw[Z06 λz:A.pt=b=>d1 (by rw[z];exact hm)];exact h.t
 ·rw[Z06 λz=>N.ws a (Y08 x) (by rw[z];exact ZcI hm)];exact h.wv i a k x y
 ·rcases Z2y y with⟨rfl,rfl⟩|⟨ne,y⟩
  ·rw[hb]at x;cases x;exact Z02
  ·rw[Z06 λz=>ne ?_]
   ·exact h.gv i a k x y
   ·subst z
    exact(Y2r (Y05.mp x).1 e).mp (x.trans hb.symm)
theorem StdAt.put_w{W:Wld}{B:Std}{M M0:MH}{A:StA}(h:StdAt W B M A)(N:A.New M0)(i:Nat){p:Addr}{kvs:List (Key×MV)}(hp:M p=some (.dic kvs))(np:p∉A.own):
  StdAt W {B with wd:=B.wd.set i kvs} (updM M A.pw (.dic (zipK W.ins ((A.ws.set i p).map MV.ref)))) {A with ws:=A.ws.set i p}/\StA.New {A with ws:=A.ws.set i p} M0:=by
 obtain⟨⟨a1,a2,a3,a4⟩,⟨b1,b2,b3⟩,⟨c1,c2⟩,d1,e⟩:=Zet N.nd
 refine⟨⟨?_,Z02,?_,?_,by rw[Y1K];exact h.wl,h.gl,λi' a k x y=>?_,λj a k x y=>?_⟩,N.nd,N.fr,λa ha=>?_⟩
 ·rw[Z06 a1];exact h.n
 ·rw[Z06 λz=>b1 z.symm];exact h.g
 ·rw[Z06 λz=>b2 z.symm];exact h.t
 ·have hm:a∉A.own:=by
   rcases Z2y x with⟨_,rfl⟩|⟨_,x⟩
   ·exact np
   ·exact N.ws a (Y08 x)
  rw[Z06 λz=>hm (by rw[z];simp[StA.own])]
  rcases Z2y x with⟨rfl,rfl⟩|⟨ne,x⟩
  ·rcases Z2y y with⟨_,rfl⟩|⟨ne,y⟩
   ·exact hp
   ·exact(ne rfl).elim
  ·rcases Z2y y with⟨rfl,_⟩|⟨_,y⟩
   ·exact(ne rfl).elim
   ·exact h.wv i' a k x y
 ·rw[Z06 λz=>b3 (by rw[<- z];exact Y08 x)];exact h.gv j a k x y
 ·rcases Y1p ha with ha|rfl
  ·exact N.ws a ha
  ·exact np
abbrev Z5e:SpM:=λvs M Q=>∃(W:Wld) (S B:Std) (A A2:StA) (M0:MH) (c d i:Nat) (I:Isl) (s:Stp),vs=[W.mv,A.mv,.str I.name,askM s (rhoK (S.wd.getD i [])) W.w,A2.mv]/\W.Good/\SOk W c S/\SOk W d B/\d≤1000/\StdAt W S M0 A/\SameM M0 M/\StdAt W B M A2/\A2.New M0/\W.isl[i]?=some I/\Z9S W S i I=some s/\
 ∀M' ws,SameM M0 M'->StA.New {A2 with ws:=ws} M0->(∀a∈ws,a∈A2.ws\/M a=none)->StdAt W (Zc6 W S i s B) M' {A2 with ws:=ws}->Q .non M'
theorem Zaq:MonW Z5e:=by walk_at "m"
theorem Zfn(T:Txt K mg t):FnOk P w K mg base CX0 52 t.f_do_step t.d_do_step ["world","stand","name","asked","behind"] (liSp K Z5e):=by
 refine T.F_do_step.okM Zfd (Z0G (Φ:=[("after",Z6K),("island_of",Z1l)]) (Z0H T) (Z0g T) rfl (fMc ⟨Zcq,(fMc ⟨Z43,(fun _ h=>nomatch h)⟩)⟩) (fMc ⟨⟨_,_,_,(FnOk.mono (ZiG T) (by decide)),T.m_after,T.F_after.kp,T.b_after⟩,(fMc ⟨⟨_,_,_,(FnOk.mono (Z7V T) (by decide)),T.m_island_of,T.F_island_of.kp,T.b_island_of⟩,(fun _ h=>nomatch h)⟩)⟩):Fts P w K mg base 51 Zde [("after",Z6K),("island_of",Z1l)]) Z7I ZfM (fun vs M Q h=>?_) (fun vs M Q h=>?_)
 ·obtain⟨_,_,_,_,_,_,_,_,_,_,_,rfl,_⟩:=h;rfl
 obtain⟨W,S,B,A,A2,M0,c,d,i,I,s,rfl,G,hS,hB,hd,hA,s0,h2,N,hI,hg,q⟩:=h
 show wSs _ _ _ [some W.mv,some A.mv,some (.str I.name),some (askM s (rhoK (S.wd.getD i [])) W.w),some A2.mv,none,none,none,none] M
 obtain⟨hs,hc⟩:=ZdV hg
 have si:=Zbo G hI hs
 have hn:S.num.getD i 0<I.stps.length:=(Y05.mp hs).1
 have ok:=G.io I (Y08 hI)
 have wd:=hS.wi i I _ hI (Zea hS hI)
 have nv:=ok.nv
 have i5:=G.i5
 have f6:=G.f6
 have vl:I.vars.length=I.prs.length:=by unfold Isl.vars;rw[Y01]
 have li:W.ins.length=W.isl.length:=by unfold Wld.ins;rw[Y01]
 have lf:W.fns.length=W.fer.length:=by unfold Wld.fns;rw[Y01]
 have hIl:i<W.isl.length:=(Y05.mp hI).1
 have rest:∀(M1:MH) (B1:Std) (v6:Option MV),SameM M0 M1->(∀a,M1 a=none->M a=none)->StdAt W B1 M1 A2->B1.num.length=W.isl.length->B1.giv.length=W.fer.length->{B1 with num:=B1.num.set i (Z1B s (rhoK (S.wd.getD i [])) W.w (S.num.getD i 0)).toNat,wd:=B1.wd.set i (Z3Z s (S.wd.getD i []) (rhoK (S.wd.getD i [])) W.w (Za9 W S s))}=Zc6 W S i s B->
   wSs ([("after",Z6K),("island_of",Z1l)]:List (Str×SpM)) Z7M {nx:=fun _ M'=>Q .non M',rt:=Q} [some W.mv,some A.mv,some (.str I.name),some (askM s (rhoK (S.wd.getD i [])) W.w),some A2.mv,some (Za9 W S s),v6,none,none] M1:=by
  intro M1 B1 v6 s1 fd h1 ln lg eB
  have hA1:=hA.keep s1
  obtain⟨a,a1,a2⟩:=hA1.ws_at hS hI
  rw[Z7M]
  walk_at "s"
  refine⟨W,i,I,rfl,G,hI,?_⟩
  rw[Isl.mv]
  walk_at "s"
  rw[Zb3,Wld.mv,StA.mv]
  repeat (first|walk_at "s"|simp only[hA1.n,hA1.w])
  refine⟨_,Zgq G hS hI,_,Zkz G hI a1,?_⟩
  refine⟨_,a,I.stps,S.num.getD i 0,W.w,S.wd.getD i [],rhoK (S.wd.getD i []),I.vars,s,Za9 W S s,rfl,.inl rfl,hs,Zjy si,G.w1,G.w2,a2,by rw[wd.len];lia,wd.reads ok.nd,λp hp=>?_⟩
  have s2:=SameM.new hp (.dic (Z3Z s (S.wd.getD i []) (rhoK (S.wd.getD i [])) W.w (Za9 W S s)))
  have hp2:updM M1 p (.dic (Z3Z s (S.wd.getD i []) (rhoK (S.wd.getD i [])) W.w (Za9 W S s))) p=some (.dic (Z3Z s (S.wd.getD i []) (rhoK (S.wd.getD i [])) W.w (Za9 W S s))):=Z02
  generalize updM M1 p _=M2 at*
  have s02:=s1.trans s2
  have h2:=h1.keep s2
  have p0:=fd p hp
  have np:p∉A2.own:=λz=>by
   have hh:∃o,M1 p=some o:=by
    unfold StA.own at z
    simp only[Y0f]at z
    rcases z with z|z|z|z|z
    ·exact⟨_,z▸h1.n⟩
    ·exact⟨_,z▸h1.w⟩
    ·exact⟨_,z▸h1.g⟩
    ·exact⟨_,z▸h1.t⟩
    ·obtain⟨j,hj,e⟩:=Y0x z
     have hj2:j<B1.giv.length:=by rw[lg,<- h1.gl];exact hj
     exact⟨_,e▸h1.gv j _ _ (Y00 hj) (Y00 hj2)⟩
   obtain⟨o,ho⟩:=hh
   rw[hp]at ho;cases ho
  obtain⟨l1,l2,l3⟩:=ZeA (ρ:=rhoK (S.wd.getD i [])) (w:=W.w) si hn
  walk_at "s"
  rw[Zb2,StA.mv]
  repeat (first|walk_at "s"|simp only[h2.n])
  rw[Z3K (by rw[Y01,ln,li]),Z56 (i:=i) (by rw[Y01,ln,li]) G.in_nd (Z70 hI),l3]
  refine⟨by lia,?_⟩
  have e3:(B1.num.map natM).set i (.int ((Z1B s (rhoK (S.wd.getD i [])) W.w (S.num.getD i 0)).toNat:Nat))=(B1.num.set i (Z1B s (rhoK (S.wd.getD i [])) W.w (S.num.getD i 0)).toNat).map natM:=by rw[Y2v];rfl
  rw[e3]
  have h3:=h2.put_n N (B1.num.set i (Z1B s (rhoK (S.wd.getD i [])) W.w (S.num.getD i 0)).toNat)
  have s3:=s02.upd (N.fr A2.pn (by simp[StA.own])) (.dic (zipK W.ins ((B1.num.set i (Z1B s (rhoK (S.wd.getD i [])) W.w (S.num.getD i 0)).toNat).map natM)))
  have hp3:updM M2 A2.pn (.dic (zipK W.ins ((B1.num.set i (Z1B s (rhoK (S.wd.getD i [])) W.w (S.num.getD i 0)).toNat).map natM))) p=some (.dic (Z3Z s (S.wd.getD i []) (rhoK (S.wd.getD i [])) W.w (Za9 W S s))):=by rw[Z06 λz=>np (by rw[z];simp[StA.own])];exact hp2
  generalize updM M2 A2.pn _=M3 at*
  rw[Z9M]
  repeat (first|walk_at "s"|simp only[h3.w])
  rw[Z3K (by rw[Y01,h1.wl,li]),Z56 (i:=i) (by rw[Y01,h1.wl,li]) G.in_nd (Z70 hI)]
  refine⟨by lia,?_⟩
  have e4:(A2.ws.map MV.ref).set i (.ref p)=(A2.ws.set i p).map MV.ref:=by rw[Y2v]
  rw[e4]
  obtain⟨h4,N4⟩:=h3.put_w N i hp3 np
  exact q _ _ (s3.upd (N.fr A2.pw (by simp[StA.own])) _) N4 (λx hx=>(Y1p hx).elim .inl λz=>.inr (by rw[z];exact p0)) (eB▸h4)
 rw[Z7I,Zb9]
 walk_at "s"
 rw[Zb8]
 cases s with
 |take f x=>
  obtain⟨v,w1,w2,w3⟩:=ZfT hS si.1 hc
  have hA1:=hA.keep s0
  obtain⟨b,b1,b2⟩:=hA1.gs_at hS si.1
  simp only[askM]
  walk_at "s"
  rw[Zb7]
  walk_at "s"
  rw[Zb6,StA.mv]
  repeat (first|walk_at "s"|simp only[hA1.g,hA1.t])
  refine⟨_,Zio G si.1 b1,?_⟩
  repeat (first|walk_at "s"|simp only[hA1.t,b2])
  refine⟨_,Zep G hS si.1,?_⟩
  repeat (first|walk_at "s"|simp only[b2])
  refine⟨.int v,Z2g (by rw[Y06,w2];rfl),?_⟩
  rw[Zb5]
  repeat (first|walk_at "s"|simp only[hA1.t])
  refine⟨_,Zep G hS si.1,?_⟩
  rw[StA.mv]
  repeat (first|walk_at "s"|simp only[h2.t])
  rw[Z3K (by rw[Y01,hB.tl,lf]),Z56 (i:=W.fat f) (by rw[Y01,hB.tl,lf]) G.fn_nd (Z4Y si.1).1]
  refine⟨by lia,?_⟩
  have e3:(B.tak.map natM).set (W.fat f) (.int ((S.tak.getD (W.fat f) 0:Nat)+1))=(B.tak.set (W.fat f) (S.tak.getD (W.fat f) 0+1)).map natM:=by rw[Y2v];rfl
  rw[e3]
  have h3:=h2.put_t N (B.tak.set (W.fat f) (S.tak.getD (W.fat f) 0+1))
  have s3:=s0.upd (N.fr A2.pt (by simp[StA.own])) (.dic (zipK W.fns ((B.tak.set (W.fat f) (S.tak.getD (W.fat f) 0+1)).map natM)))
  have fd3:∀a,updM M A2.pt (.dic (zipK W.fns ((B.tak.set (W.fat f) (S.tak.getD (W.fat f) 0+1)).map natM))) a=none->M a=none:=λ_=>Zeh
  generalize updM M A2.pt _=M3 at*
  rw[Z3G]
  walk_at "s"
  have r:=rest M3 _ (some (.str f)) s3 fd3 h3 hB.nl hB.gl rfl
  rw[w1]at r
  exact r
 |give f T=>
  obtain⟨b,b1,b2⟩:=h2.gs_at hB si.1
  have hgi:=(hB.gi _ (Y08 (Zd9 hB (Z4Y si.1).2))).1
  simp only[askM]
  walk_at "s"
  rw[Z3G]
  walk_at "s"
  rw[Zb4,StA.mv,StA.mv]
  repeat (first|walk_at "s"|simp only[h2.g])
  refine⟨_,Zio G si.1 b1,?_⟩
  repeat (first|walk_at "s"|simp only[b2])
  rw[Y01]
  refine⟨⟨_,rfl⟩,by lia,?_⟩
  have e3:(B.giv.getD (W.fat f) []).map MV.int++[.int (T.val (rhoK (S.wd.getD i [])) W.w)]=(B.giv.getD (W.fat f) []++[T.val (rhoK (S.wd.getD i [])) W.w]).map MV.int:=by simp
  rw[e3]
  have h3:=h2.put_g N b1 (B.giv.getD (W.fat f) []++[T.val (rhoK (S.wd.getD i [])) W.w])
  have s3:=s0.upd (N.fr b (ZcI (Y08 b1))) (.lst ((B.giv.getD (W.fat f) []++[T.val (rhoK (S.wd.getD i [])) W.w]).map MV.int))
  have fd3:∀a,updM M b (.lst ((B.giv.getD (W.fat f) []++[T.val (rhoK (S.wd.getD i [])) W.w]).map MV.int)) a=none->M a=none:=λ_=>Zeh
  generalize updM M b _=M3 at*
  exact rest M3 _ none s3 fd3 h3 hB.nl (by rw[Y1K];exact hB.gl) rfl
 |put x T=>
  simp only[askM]
  walk_at "s"
  rw[Z3G]
  walk_at "s"
  exact rest M B none s0 (λ_ z=>z) h2 hB.nl hB.gl rfl
 |jump T j=>
  simp only[askM]
  walk_at "s"
  rw[Z3G]
  walk_at "s"
  exact rest M B none s0 (λ_ z=>z) h2 hB.nl hB.gl rfl
theorem Z2I{ks:List Str}{α:Type}{xs:List α}(h:xs.length=ks.length):(ks.zip xs).map (·.1)=ks:=Y3a (by lia)
theorem Z57{ks:List Str}{vs:List MV}(h:vs.length=ks.length):(zipK ks vs).map (λp=>kM p.1)=ks.map MV.str:=by
 have:=Z3q h
 have e:(zipK ks vs).map (λp=>kM p.1)=((zipK ks vs).map (·.1)).map kM:=by rw[Y0G];rfl
 rw[e,this,Y0G];rfl
theorem Z5j{α β:Type}{xs:List α}{ys:List β}{p:α×β}(h:p∈xs.zip ys):∃i:Nat,xs[i]?=some p.1/\ys[i]?=some p.2:=by
 obtain⟨i,hi,rfl⟩:=Y0x h
 rw[Y1h]at hi
 refine⟨i,?_,?_⟩<;>rw[List.getElem_zip,Y00]
theorem Zjr{α β:Type}{xs:List α}{ys:List β}{i:Nat}{x:α}{y:β}(h1:xs[i]?=some x) (h2:ys[i]?=some y):(xs.zip ys)[i]?=some (x,y):=by
 rw[Y2a];exact⟨h1,h2⟩
theorem Zee:∀{ks:List Str} {vs:List MV} {i:Nat} {k:Str} {v:MV},ks[i]?=some k->vs[i]?=some v->(Y0O k,v)∈zipK ks vs
 |[],_,_,_,_,h,_=>by simp at h
 |_::_,[],_,_,_,_,h=>by simp at h
 |a::ks,b::vs,0,k,v,h1,h2=>by simp at h1 h2;subst h1 h2;exact Y0v ..
 |a::ks,b::vs,i+1,k,v,h1,h2=>Y0n _ (Zee (by simpa using h1) (by simpa using h2))
theorem StdAt.ws_ne{W:Wld}{S:Std}{M:MH}{A:StA}(h:StdAt W S M A)(G:W.Good){c:Nat}(hS:SOk W c S){i:Nat}{a:Addr}(ha:A.ws[i]?=some a):a≠A.pw:=by
 intro e
 have hi:i<W.isl.length:=by rw[<- h.wl];exact(Y05.mp ha).1
 have hI:=Y00 hi
 have h1:=h.wv i a _ ha (Zea hS hI)
 rw[e,h.w]at h1
 have z:zipK W.ins (A.ws.map MV.ref)=S.wd.getD i []:=by injection h1 with h1;injection h1
 have:=((hS.wi i _ _ hI (Zea hS hI)).nodup (G.io _ (Y0p hi)).nd).2 (Y0O (W.isl[i]).name,.ref a)
 have:=this (by rw[<- z];exact Zee (Z70 hI) (by rw[Y06,ha];rfl))
 cases this
abbrev Z5f:SpM:=λvs M Q=>∃(W:Wld) (S:Std) (A:StA) (c:Nat),vs=[A.mv]/\W.Good/\SOk W c S/\StdAt W S M A/\∀M' A',SameM M M'->StdAt W S M' A'->A'.New M->(∀a∈A'.ws,M a=none)->Q A'.mv M'
theorem Zar:MonW Z5f:=by walk_at "m"
theorem Zfo(T:Txt K mg t):FnOk P w K mg base CX0 1 t.f_copy_of t.d_copy_of ["stand"] (liSp K Z5f):=by
 refine T.F_copy_of.okM Zfe (Z0G (Φ:=[]) (Z0H T) (Z0g T) rfl (λ_ h=>nomatch h) (λ_ h=>nomatch h):Fts P w K mg base 0 Zdf []) Z7J ZfN (λvs M Q h=>?_) (λvs M Q h=>?_)
 ·obtain⟨_,_,_,_,rfl,_⟩:=h;rfl
 obtain⟨W,S,A,c,rfl,G,hS,hA,q⟩:=h
 show wSs _ _ _ [some A.mv,none,none] M
 have i5:=G.i5
 have f6:=G.f6
 have li:W.ins.length=W.isl.length:=by unfold Wld.ins;rw[Y01]
 have lf:W.fns.length=W.fer.length:=by unfold Wld.fns;rw[Y01]
 have hΦ:=(Z6T (Φ:=[]) (λ_ h=>nomatch h))
 rw[Z7J,Zbc,StA.mv]
 walk_at "s"
 refine Z92 (W.ins.zip S.wd) (λx=>.str x.1) (·.1) (λx=>.dic x.2) (λM1=>∃o,M1=updM M A.pw (.fdic o (zipK W.ins (A.ws.map MV.ref)))) ?_ ?_ hΦ λD1 ws M1 hD1 s1 l1 nd1 dn1 fr1 at1 hd1=>?_
 ·repeat (first|walk_at "s"|simp only[hA.w])
  intro o
  refine⟨?_,by rw[Y1h];lia,.inr ⟨_,_,_,rfl,hA.w,rfl⟩,o,rfl⟩
  show(zipK W.ins (A.ws.map MV.ref)).map (λp=>kM p.1)=_
  rw[Z57 (by rw[Y01,hA.wl,li])]
  conv=>lhs;rw[<- Z2I (ks:=W.ins) (xs:=S.wd) (by rw[hS.wl,li])]
  rw[Y0G];rfl
 ·rintro⟨z,kvs⟩ hx M1 M' ⟨o,rfl⟩ s
  obtain⟨i,i1,i2⟩:=Z5j hx
  have hw:=s _ _ (Z02 (M:=M))
  have hi:i<A.ws.length:=by rw[hA.wl,<- li];exact(Y05.mp i1).1
  have hv:=hA.wv i _ _ (Y00 hi) i2
  have hne:A.ws[i]≠A.pw:=hA.ws_ne G hS (Y00 hi)
  have hv':=s _ _ ((Z06 (M:=M) hne).trans hv)
  simp only[sCm,Y0h,Y0N,Y0s,Y0t,Y0B,Y0y]
  repeat (first|walk_at "s"|simp only[hw])
  refine⟨.ref A.ws[i],Z1F G.in_nd i1 (by rw[Y06,Y00 hi];rfl),?_⟩
  repeat (first|walk_at "s"|simp only[hv'])
  intro p hp
  exact⟨p,hp,rfl,rfl⟩
 rw[Z2I (by rw[hS.wl,li])]at hd1
 rw[Y1h,hS.wl,li,Nat.min_self]at l1
 have lw:(ws.map MV.ref).length=W.ins.length:=by rw[Y01,l1,li]
 repeat (first|walk_at "s"|simp only[hd1])
 refine⟨_,rfl,λpw hpw=>?_⟩
 rw[Z2G lw G.in_nd]
 have s2:=SameM.new hpw (.dic (zipK W.ins (ws.map MV.ref)))
 have h2:updM M1 pw (.dic (zipK W.ins (ws.map MV.ref))) pw=some (.dic (zipK W.ins (ws.map MV.ref))):=Z02
 generalize updM M1 pw _=M2 at*
 have hA2:=hA.keep (s1.trans s2)
 rw[Zbb]
 walk_at "s"
 refine Z92 (W.fns.zip S.giv) (λx=>.str x.1) (·.1) (λx=>.lst (x.2.map MV.int)) (λM3=>∃o,M3=updM M2 A.pg (.fdic o (zipK W.fns (A.gs.map MV.ref)))) ?_ ?_ hΦ λD2 gs M3 hD2 s3 l3 nd3 dn3 fr3 at3 hd3=>?_
 ·repeat (first|walk_at "s"|simp only[hA2.g])
  intro o
  refine⟨?_,by rw[Y1h];lia,.inr ⟨_,_,_,rfl,hA2.g,rfl⟩,o,rfl⟩
  show(zipK W.fns (A.gs.map MV.ref)).map (λp=>kM p.1)=_
  rw[Z57 (by rw[Y01,hA.gl,lf])]
  conv=>lhs;rw[<- Z2I (ks:=W.fns) (xs:=S.giv) (by rw[hS.gl,lf])]
  rw[Y0G];rfl
 ·rintro⟨z,xs⟩ hx Ma M' ⟨o,rfl⟩ s
  obtain⟨i,i1,i2⟩:=Z5j hx
  have hw:=s _ _ (Z02 (M:=M2))
  have hi:i<A.gs.length:=by rw[hA.gl,<- lf];exact(Y05.mp i1).1
  have hv:=hA2.gv i _ _ (Y00 hi) i2
  have hne:A.gs[i]≠A.pg:=λe=>by rw[e,hA2.g]at hv;cases hv
  have hv':=s _ _ ((Z06 (M:=M2) hne).trans hv)
  simp only[sCm,Y0h,Y0N,Y0s,Y0t,Y0B,Y0y]
  repeat (first|walk_at "s"|simp only[hw])
  refine⟨.ref A.gs[i],Z1F G.fn_nd i1 (by rw[Y06,Y00 hi];rfl),?_⟩
  repeat (first|walk_at "s"|simp only[hv'])
  intro p hp
  exact⟨p,hp,rfl,rfl⟩
 rw[Z2I (by rw[hS.gl,lf])]at hd3
 rw[Y1h,hS.gl,lf,Nat.min_self]at l3
 have lg:(gs.map MV.ref).length=W.fns.length:=by rw[Y01,l3,lf]
 repeat (first|walk_at "s"|simp only[hd3])
 refine⟨_,rfl,λpg hpg=>?_⟩
 rw[Z2G lg G.fn_nd]
 have s4:=SameM.new hpg (.dic (zipK W.fns (gs.map MV.ref)))
 have h4:updM M3 pg (.dic (zipK W.fns (gs.map MV.ref))) pg=some (.dic (zipK W.fns (gs.map MV.ref))):=Z02
 generalize updM M3 pg _=M4 at*
 have s24:=s3.trans s4
 have s04:=(s1.trans s2).trans s24
 have hA4:=hA.keep s04
 rw[Zba]
 repeat (first|walk_at "s"|simp only[hA4.n])
 intro pn hpn
 have s5:=SameM.new hpn (.dic (zipK W.ins (S.num.map natM)))
 have h5:updM M4 pn (.dic (zipK W.ins (S.num.map natM))) pn=some (.dic (zipK W.ins (S.num.map natM))):=Z02
 generalize updM M4 pn _=M5 at*
 have hA5:=hA4.keep s5
 repeat (first|walk_at "s"|simp only[hA5.t])
 intro pt hpt
 have s6:=SameM.new hpt (.dic (zipK W.fns (S.tak.map natM)))
 have h6:updM M5 pt (.dic (zipK W.fns (S.tak.map natM))) pt=some (.dic (zipK W.fns (S.tak.map natM))):=Z02
 generalize updM M5 pt _=M6 at*
 have s46:=s5.trans s6
 have s36:=s4.trans s46
 have wv:∀(i:Nat) a kvs,ws[i]?=some a->S.wd[i]?=some kvs->M1 a=some (.dic kvs):=λi a kvs x y=>by
  have hi:i<W.ins.length:=by rw[li,<- l1];exact(Y05.mp x).1
  exact at1 i a (W.ins[i],kvs) x (Zjr (Y00 hi) y)
 have gv:∀(i:Nat) a xs,gs[i]?=some a->S.giv[i]?=some xs->M3 a=some (.lst (xs.map MV.int)):=λi a xs x y=>by
  have hi:i<W.fns.length:=by rw[lf,<- l3];exact(Y05.mp x).1
  exact at3 i a (W.fns[i],xs) x (Zjr (Y00 hi) y)
 have wm:∀a∈ws,∃o,M1 a=some o:=λa ha=>by
  obtain⟨i,hi,rfl⟩:=Y0x ha
  have hi2:i<S.wd.length:=by rw[hS.wl,<- l1];exact hi
  exact⟨_,wv i _ _ (Y00 hi) (Y00 hi2)⟩
 have gm:∀a∈gs,∃o,M3 a=some o:=λa ha=>by
  obtain⟨i,hi,rfl⟩:=Y0x ha
  have hi2:i<S.giv.length:=by rw[hS.gl,<- l3];exact hi
  exact⟨_,gv i _ _ (Y00 hi) (Y00 hi2)⟩
 refine q M6 ⟨pn,pw,pg,pt,ws,gs⟩ (s04.trans s46) ⟨s6 _ _ h5,(s24.trans s46) _ _ h2,s46 _ _ h4,h6,l1,l3,λi a k x y=>((s2.trans s24).trans s46) _ _ (wv i a k x y),λi a k x y=>s36 _ _ (gv i a k x y)⟩ ⟨?_,?_,?_⟩ (λa ha=>fr1 a ha)
 ·show(pn::pw::pg::pt::gs).Nodup
  simp only[Y11,Y0f,not_or]
  refine⟨⟨(neM (s24 _ _ h2) hpn).symm,(neM h4 hpn).symm,neM h5 hpt,λz=>?_⟩,⟨neM (s3 _ _ h2) hpg,neM ((s24.trans s5) _ _ h2) hpt,λz=>?_⟩,⟨neM (s5 _ _ h4) hpt,λz=>?_⟩,λz=>?_,nd3⟩
  ·obtain⟨o,ho⟩:=gm _ z
   exact neM (s4 _ _ ho) hpn rfl
  ·exact neM h2 (fr3 _ z) rfl
  ·obtain⟨o,ho⟩:=gm _ z
   exact neM ho hpg rfl
  ·obtain⟨o,ho⟩:=gm _ z
   exact neM ((s4.trans s5) _ _ ho) hpt rfl
 ·intro a ha
  have ha:a∈pn::pw::pg::pt::gs:=ha
  simp only[Y0f]at ha
  rcases ha with rfl|rfl|rfl|rfl|ha
  ·exact s04.free hpn
  ·exact s1.free hpw
  ·exact((s1.trans s2).trans s3).free hpg
  ·exact(s04.trans s5).free hpt
  ·exact(s1.trans s2).free (fr3 _ ha)
 ·intro a ha hb
  obtain⟨o,ho⟩:=wm a ha
  have hb:a∈pn::pw::pg::pt::gs:=hb
  simp only[Y0f]at hb
  rcases hb with rfl|rfl|rfl|rfl|hb
  ·exact neM ((s2.trans s24) _ _ ho) hpn rfl
  ·exact neM ho hpw rfl
  ·exact neM ((s2.trans s3) _ _ ho) hpg rfl
  ·exact neM (((s2.trans s24).trans s5) _ _ ho) hpt rfl
  ·exact neM (s2 _ _ ho) (fr3 _ hb) rfl
def wd0(I:Isl):List (Key×MV):=zipK I.vars (I.prs.map λp=>.int p.2)
def Z17(W:Wld):Std:=⟨W.isl.map λ_=>0,W.isl.map wd0,W.fer.map λ_=>[],W.fer.map λ_=>0⟩
theorem Zc8{W:Wld}(G:W.Good):SOk W 0 (Z17 W):=by
 refine⟨Y01 _,Y01 _,Y01 _,Y01 _,λi I n hI h=>?_,λi I kvs hI h=>?_,λxs hx=>?_,λj xs n h1 h2=>?_⟩
 ·rw[show(Z17 W).num=W.isl.map λ_=>0 from rfl,Y06,hI]at h
  cases h;exact Y17 _
 ·rw[show(Z17 W).wd=W.isl.map wd0 from rfl,Y06,hI]at h
  cases h
  have ok:=G.io I (Y08 hI)
  refine⟨I.prs.map (·.2),by unfold Isl.vars;rw[Y01,Y01],?_,λv hv=>?_⟩
  ·unfold wd0;rw[Y0G];rfl
  ·obtain⟨p,hp,rfl⟩:=Y0r.mp hv
   exact ok.wd p hp
 ·obtain⟨_,_,rfl⟩:=Y0r.mp hx
  exact⟨Y0b _,λv hv=>(nomatch hv)⟩
 ·rw[show(Z17 W).tak=W.fer.map λ_=>0 from rfl,Y06]at h2
  cases hf:W.fer[j]? with
  |none=>rw[hf]at h2;cases h2
  |some f=>rw[hf]at h2;cases h2;exact Y17 _
theorem Zcj(I:Isl):I.prs.map prV=(wd0 I).map prM:=Z8R I.prs (·.1) (λp=>.int p.2)
theorem ZfU{I:Isl}(nd:I.vars.Nodup):Z2K (wd0 I)=wd0 I:=Z2G (by unfold Isl.vars;rw[Y01,Y01]) nd
abbrev Z12:SpM:=λvs M Q=>∃W:Wld,vs=[W.mv]/\W.Good/\∀M' A,SameM M M'->StdAt W (Z17 W) M' A->Q A.mv M'
theorem Z21:MonW Z12:=by walk_at "m"
theorem Z5u(T:Txt K mg t):FnOk P w K mg base CX0 1 t.f_first_stand t.d_first_stand ["world"] (liSp K Z12):=by
 refine T.F_first_stand.okM Zaf (Z0G (Φ:=[]) (Z0H T) (Z0g T) rfl (λ_ h=>nomatch h) (λ_ h=>nomatch h):Fts P w K mg base 0 Z7v []) Z3m ZaD (λvs M Q h=>?_) (λvs M Q h=>?_)
 ·obtain⟨_,rfl,_⟩:=h;rfl
 obtain⟨W,rfl,G,q⟩:=h
 show wSs _ _ _ [some W.mv,none,none,none,none] M
 have i5:=G.i5
 have f6:=G.f6
 have li:W.ins.length=W.isl.length:=by unfold Wld.ins;rw[Y01]
 have lf:W.fns.length=W.fer.length:=by unfold Wld.fns;rw[Y01]
 have hΦ:=(Z6T (Φ:=[]) (λ_ h=>nomatch h))
 rw[Z3m,Z5T,Wld.mv]
 walk_at "s"
 refine Z1E W.isl Isl.mv (λx=>.tup [.str x.name,.int 0]) ?_ ?_ hΦ λD hD=>?_
 ·walk_at "s"
  exact⟨rfl,by lia,trivial⟩
 ·intro x hx M' s
  simp only[sCm,Y0h,Y0N,Y0s,Y0t,Y0B,Y0y]
  repeat (first|walk_at "s"|simp only[Isl.mv])
  try exact⟨rfl,rfl⟩
 have e1:(W.isl.map λx=>MV.tup [.str x.name,.int 0])=(zipK W.ins ((Z17 W).num.map natM)).map prM:=by
  rw[Z8R W.isl (·.name) (λ_=>.int 0),show(Z17 W).num=W.isl.map λ_=>0 from rfl,Y0G];rfl
 have ln:((Z17 W).num.map natM).length=W.ins.length:=by rw[Y01,li];exact Y01 _
 have lt:((Z17 W).tak.map natM).length=W.fns.length:=by rw[Y01,lf];exact Y01 _
 rw[e1]
 have s1:=SameM.new hD (.lst ((zipK W.ins ((Z17 W).num.map natM)).map prM))
 have hd1:updM M D (.lst ((zipK W.ins ((Z17 W).num.map natM)).map prM)) D=some (.lst ((zipK W.ins ((Z17 W).num.map natM)).map prM)):=Z02
 generalize updM M D _=M1 at*
 repeat (first|walk_at "s"|simp only[hd1])
 refine⟨_,rfl,λpn hpn=>?_⟩
 rw[Z2G ln G.in_nd]
 have s2:=s1.trans (SameM.new hpn (.dic (zipK W.ins ((Z17 W).num.map natM))))
 have h2:updM M1 pn (.dic (zipK W.ins ((Z17 W).num.map natM))) pn=some (.dic (zipK W.ins ((Z17 W).num.map natM))):=Z02
 generalize updM M1 pn _=M2 at*
 rw[Z5S]
 walk_at "s"
 refine Z92 W.isl Isl.mv (·.name) (λx=>.dic (wd0 x)) (λM3=>M3=M2) ?_ ?_ hΦ λD2 ws M3 hD2 s3 l3 nd3 dn3 fr3 at3 hd3=>?_
 ·walk_at "s"
  exact⟨rfl,by lia,.inl ⟨trivial,rfl⟩⟩
 ·rintro I hI Ma M' rfl s
  simp only[sCm,Y0h,Y0N,Y0s,Y0t,Y0B,Y0y]
  repeat (first|walk_at "s"|simp only[Isl.mv])
  refine⟨wd0 I,Zcj I,λp hp=>?_⟩
  rw[ZfU (G.io I hI).nd]
  exact⟨p,hp,rfl,rfl⟩
 have lw:(ws.map MV.ref).length=W.ins.length:=by rw[Y01,l3,li]
 have hd3:M3 D2=some (.lst ((zipK W.ins (ws.map MV.ref)).map prM)):=hd3
 repeat (first|walk_at "s"|simp only[hd3])
 refine⟨_,rfl,λpw hpw=>?_⟩
 rw[Z2G lw G.in_nd]
 have s34:=SameM.new hpw (.dic (zipK W.ins (ws.map MV.ref)))
 have h4:updM M3 pw (.dic (zipK W.ins (ws.map MV.ref))) pw=some (.dic (zipK W.ins (ws.map MV.ref))):=Z02
 generalize updM M3 pw _=M4 at*
 have s24:=s3.trans s34
 rw[Z5R]
 walk_at "s"
 refine Z92 W.fer Fer.mv (·.name) (λx=>.lst []) (λM5=>M5=M4) ?_ ?_ hΦ λD5 gs M5 hD5 s5 l5 nd5 dn5 fr5 at5 hd5=>?_
 ·walk_at "s"
  exact⟨rfl,by lia,.inl ⟨trivial,rfl⟩⟩
 ·rintro I hI Ma M' rfl s
  simp only[sCm,Y0h,Y0N,Y0s,Y0t,Y0B,Y0y]
  repeat (first|walk_at "s"|simp only[Fer.mv])
  intro p hp
  exact⟨p,hp,rfl,rfl⟩
 have lg:(gs.map MV.ref).length=W.fns.length:=by rw[Y01,l5,lf]
 have hd5:M5 D5=some (.lst ((zipK W.fns (gs.map MV.ref)).map prM)):=hd5
 repeat (first|walk_at "s"|simp only[hd5])
 refine⟨_,rfl,λpg hpg=>?_⟩
 rw[Z2G lg G.fn_nd]
 have s56:=SameM.new hpg (.dic (zipK W.fns (gs.map MV.ref)))
 have h6:updM M5 pg (.dic (zipK W.fns (gs.map MV.ref))) pg=some (.dic (zipK W.fns (gs.map MV.ref))):=Z02
 generalize updM M5 pg _=M6 at*
 rw[Z5Q]
 walk_at "s"
 refine Z1E W.fer Fer.mv (λx=>.tup [.str x.name,.int 0]) ?_ ?_ hΦ λD hD=>?_
 ·walk_at "s"
  exact⟨rfl,by lia,trivial⟩
 ·intro x hx M' s
  simp only[sCm,Y0h,Y0N,Y0s,Y0t,Y0B,Y0y]
  repeat (first|walk_at "s"|simp only[Fer.mv])
  try exact⟨rfl,rfl⟩
 have e1:(W.fer.map λx=>MV.tup [.str x.name,.int 0])=(zipK W.fns ((Z17 W).tak.map natM)).map prM:=by
  rw[Z8R W.fer (·.name) (λ_=>.int 0),show(Z17 W).tak=W.fer.map λ_=>0 from rfl,Y0G];rfl
 rw[e1]
 have s67:=SameM.new hD (.lst ((zipK W.fns ((Z17 W).tak.map natM)).map prM))
 have hd7:updM M6 D (.lst ((zipK W.fns ((Z17 W).tak.map natM)).map prM)) D=some (.lst ((zipK W.fns ((Z17 W).tak.map natM)).map prM)):=Z02
 generalize updM M6 D _=M7 at*
 repeat (first|walk_at "s"|simp only[hd7])
 refine⟨_,rfl,λpt hpt=>?_⟩
 rw[Z2G lt G.fn_nd]
 have s78:=SameM.new hpt (.dic (zipK W.fns ((Z17 W).tak.map natM)))
 have h8:updM M7 pt (.dic (zipK W.fns ((Z17 W).tak.map natM))) pt=some (.dic (zipK W.fns ((Z17 W).tak.map natM))):=Z02
 generalize updM M7 pt _=M8 at*
 rw[Z5P]
 walk_at "s"
 have s68:=s67.trans s78
 have s48:=(s5.trans s56).trans s68
 refine q M8 ⟨pn,pw,pg,pt,ws,gs⟩ (s2.trans (s24.trans s48)) ⟨(s24.trans s48) _ _ h2,s48 _ _ h4,s68 _ _ h6,h8,l3,l5,λi a k x y=>?_,λi a k x y=>?_⟩
 ·rw[show(Z17 W).wd=W.isl.map wd0 from rfl,Y06]at y
  have hi:i<W.isl.length:=by rw[<- l3];exact(Y05.mp x).1
  rw[Y00 hi]at y
  cases y
  exact(s34.trans s48) _ _ (at3 i a _ x (Y00 hi))
 ·rw[show(Z17 W).giv=W.fer.map (λ_=>[])from rfl,Y06]at y
  have hi:i<W.fer.length:=by rw[<- l5];exact(Y05.mp x).1
  rw[Y00 hi]at y
  cases y
  exact(s56.trans s68) _ _ (at5 i a _ x (Y00 hi))
def Zht(L:List Addr)(M:MH):MH:=λa=>if a∈L then none else M a
theorem ZdU{L:List Addr}{M:MH}{a:Addr}(h:a∉L):Zht L M a=M a:=if_neg h
theorem Zhs{L:List Addr}{M:MH}{a:Addr}(h:a∈L):Zht L M a=none:=if_pos h
theorem Zhr(L:List Addr)(M:MH):SameM (Zht L M) M:=λa o h=>by
 by_cases e:a∈L
 ·rw[Zhs e]at h;cases h
 ·rwa [ZdU e]at h
theorem StdAt.off{W:Wld}{S:Std}{M:MH}{A:StA}(h:StdAt W S M A){D:Addr}{xs:List MV}(hD:M D=some (.lst xs))(nD:D∉A.gs)(o:MO):StdAt W S (updM M D o) A:=by
 have ne:∀{a:Addr} {kvs:List (Key×MV)},M a=some (.dic kvs)->updM M D o a=some (.dic kvs):=fun{a kvs} e=>by
  rw[Z06 λz=>by rw[z,hD]at e;cases e];exact e
 refine⟨ne h.n,ne h.w,ne h.g,ne h.t,h.wl,h.gl,λi a k x y=>ne (h.wv i a k x y),λi a k x y=>?_⟩
 rw[Z06 λz=>nD (by rw[<- z];exact Y08 x)]
 exact h.gv i a k x y
abbrev Z1O:SpM:=λvs M Q=>∃(W:Wld) (S:Std) (A:StA) (c:Nat),vs=[W.mv,A.mv]/\W.Good/\SOk W c S/\c≤900/\StdAt W S M A/\∀M' A' p,SameM M M'->StdAt W (ZnQ W S) M' A'->A'.New M->(∀a∈A'.ws,M a=none)->M p=none->M' p=some (.lst ((Z2s W S).map MV.str))->Q (.tup [A'.mv,.ref p]) M'
theorem Z2L:MonW Z1O:=by walk_at "m"
theorem Z9h(T:Txt K mg t):FnOk P w K mg base CX0 53 t.f_round_of t.d_round_of ["world","stand"] (liSp K Z1O):=by
 refine T.F_round_of.okM Zdq (Z0G (Φ:=[("can_be",Z6J),("copy_of",Z5f),("do_step",Z5e),("wish_of",Z5b)]) (Z0H T) (Z0g T) rfl (fMc ⟨ZbE,(fMc ⟨Zar,(fMc ⟨Zaq,(fMc ⟨Zan,(fun _ h=>nomatch h)⟩)⟩)⟩)⟩) (fMc ⟨⟨_,_,_,(FnOk.mono (ZgF T) (by decide)),T.m_can_be,T.F_can_be.kp,T.b_can_be⟩,(fMc ⟨⟨_,_,_,(FnOk.mono (Zfo T) (by decide)),T.m_copy_of,T.F_copy_of.kp,T.b_copy_of⟩,(fMc ⟨⟨_,_,_,(FnOk.mono (Zfn T) (by decide)),T.m_do_step,T.F_do_step.kp,T.b_do_step⟩,(fMc ⟨⟨_,_,_,(FnOk.mono (Zfk T) (by decide)),T.m_wish_of,T.F_wish_of.kp,T.b_wish_of⟩,(fun _ h=>nomatch h)⟩)⟩)⟩)⟩):Fts P w K mg base 52 Zbh [("can_be",Z6J),("copy_of",Z5f),("do_step",Z5e),("wish_of",Z5b)]) Z6y Ze3 (fun vs M Q h=>?_) (fun vs M Q h=>?_)
 ·obtain⟨_,_,_,_,rfl,_⟩:=h;rfl
 obtain⟨W,S,A,c,rfl,G,hS,hc,hA,q⟩:=h
 show wSs _ _ _ [some W.mv,some A.mv,none,none,none,none] M
 have i5:=G.i5
 rw[Z6y,Z9w]
 walk_at "s"
 refine⟨W,S,A,c,rfl,G,hS,hA,λM1 A2 s1 h1 N1 w1=>?_⟩
 rw[Z9v]
 walk_at "s"
 intro D hD
 have s2:=s1.trans (SameM.new hD (.lst []))
 have h2:=h1.keep (SameM.new hD (.lst []))
 have hd2:updM M1 D (.lst []) D=some (.lst []):=Z02
 have hDo:D∉A2.own:=λz=>by
  unfold StA.own at z
  simp only[Y0f]at z
  rcases z with z|z|z|z|z
  ·exact neM h1.n hD z.symm
  ·exact neM h1.w hD z.symm
  ·exact neM h1.g hD z.symm
  ·exact neM h1.t hD z.symm
  ·obtain⟨j,hj,e⟩:=Y0x z
   have hj2:j<S.giv.length:=by rw[hS.gl,<- h1.gl];exact hj
   exact neM (h1.gv j _ _ (Y00 hj) (Y00 hj2)) hD e
 have hD0:=s1.free hD
 generalize updM M1 D _=M2 at*
 rw[Z9u,Wld.mv]
 walk_at "s"
 obtain⟨J,hJ⟩:∃J:Nat->Sm->MH->Prop,∀j σ M',J j σ M'↔SameM M M'/\(∃ws,StA.New {A2 with ws:=ws} M/\(∀a∈ws,M a=none)/\StdAt W (Z1o W S j).1 M' {A2 with ws:=ws})/\M' D=some (.lst ((Z1o W S j).2.map MV.str))/\∃v4 v5,σ=[some W.mv,some A.mv,some A2.mv,some (.ref D),v4,v5]:=⟨_,λ_ _ _=>Y1A⟩
 refine⟨J,(hJ _ _ _).mpr ⟨s2,⟨A2.ws,N1,w1,h2⟩,hd2,_,_,rfl⟩,λj σ M' h=>trivial,?_,?_⟩
 ·rintro j u σ M' hu h
  obtain⟨s,⟨ws,N,wf,hB⟩,hd,v4,v5,rfl⟩:=(hJ _ _ _).mp h
  obtain⟨hj,rfl⟩:=Z0J (show(W.isl.map Isl.mv)[j]?=some u from hu)
  have hI:=Y00 hj
  obtain⟨k1,k2,k3,k4⟩:=Z5h G hS j
  have hA':=hA.keep s
  have hr:Z1o W S (j+1)=Z94 W S j (Z1o W S j):=rfl
  have back:∀M'' v,Z9S W S j W.isl[j]=none->M''=M'->J (j+1) [some W.mv,some A.mv,some A2.mv,some (.ref D),some W.isl[j].mv,v] M'':=by
   rintro M'' v e rfl
   have e2:Z94 W S j (Z1o W S j)=Z1o W S j:=by unfold Z94;rw[hI];dsimp only;rw[e]
   refine(hJ _ _ _).mpr ⟨s,⟨ws,N,wf,?_⟩,?_,_,_,rfl⟩
   ·rw[hr,e2];exact hB
   ·rw[hr,e2];exact hd
  rw[Z9t]
  repeat (first|walk_at "s"|simp only[Isl.mv])
  refine⟨W,S,A,c,j,W.isl[j],rfl,G,hS,hA',hI,?_⟩
  rw[Z9s]
  cases hs:(W.isl[j]).stps[S.num.getD j 0]? with
  |none=>
   have e:dueM (W.isl[j]).stps (rhoK (S.wd.getD j [])) W.w (S.num.getD j 0)=.non:=by unfold dueM;rw[hs]
   rw[e]
   walk_at "s"
   exact back M' _ (by unfold Z9S;rw[hs]) rfl
  |some st=>
   rw[ZlT hs]
   have si:=Zbo G hI hs
   have hnn:Z8M (askM st (rhoK (S.wd.getD j [])) W.w)=false:=by cases st<;>rfl
   repeat (first|walk_at "s"|simp only[hnn])
   refine⟨W,S,A,c,st,rhoK (S.wd.getD j []),(W.isl[j]).vars,_,rfl,G,hS,hA',si,?_⟩
   show if canM W S st=true then _ else _
   cases hcan:canM W S st with
   |false=>
    rw[if_neg (by simp)]
    exact back M' _ (by unfold Z9S;rw[hs];dsimp only;rw[hcan];rfl) rfl
   |true=>
    have hg:Z9S W S j W.isl[j]=some st:=by unfold Z9S;rw[hs];dsimp only;rw[hcan];rfl
    rw[if_pos rfl,Z9r]
    walk_at "s"
    have hown:StA.own {A2 with ws:=ws}=A2.own:=rfl
    have sM:SameM M (Zht A2.own M'):=λa o e=>by
     rw[ZdU λz=>neM e (N1.fr a z) rfl]
     exact s _ _ e
    refine⟨W,S,(Z1o W S j).1,A,{A2 with ws:=ws},Zht A2.own M',c,c+j,j,W.isl[j],st,rfl,G,hS,k1,by lia,hA.keep sM,Zhr _ _,hB,⟨N.nd,λa ha=>Zhs ha,N.ws⟩,hI,hg,λM'' ws' s'' N'' wf'' h''=>?_⟩
    rw[Z9q]
    have hd'':M'' D=some (.lst ((Z1o W S j).2.map MV.str)):=s'' _ _ (by rw[ZdU hDo];exact hd)
    repeat (first|walk_at "s"|simp only[hd'',Y01])
    refine⟨⟨_,rfl⟩,by lia,?_⟩
    have e2:Z94 W S j (Z1o W S j)=(Zc6 W S j st (Z1o W S j).1,(Z1o W S j).2++[(W.isl[j]).name]):=by unfold Z94;rw[hI];dsimp only;rw[hg]
    refine(hJ _ _ _).mpr ⟨(sM.trans s'').upd hD0 _,⟨ws',⟨N''.nd,N.fr,N''.ws⟩,λa ha=>(wf'' a ha).elim (wf a) s.free,?_⟩,?_,_,_,rfl⟩
    ·rw[hr,e2]
     exact h''.off hd'' (λz=>hDo (ZcI z)) _
    ·rw[hr,e2,Z02,Y0A];rfl
 ·rintro σ M' h
  obtain⟨s,⟨ws,N,wf,hB⟩,hd,v4,v5,rfl⟩:=(hJ _ _ _).mp h
  rw[Z9p]
  walk_at "s"
  have el:(Src.tup (W.isl.map Isl.mv)).len=W.isl.length:=Y01 _
  rw[el]at hB hd
  exact q M' {A2 with ws:=ws} D s hB N wf hD0 hd
def Z0i(W:Wld):Nat->Std
 |0=>Z17 W
 |k+1=>ZnQ W (Z0i W k)
theorem Z4g{W:Wld}(G:W.Good):∀k:Nat,SOk W (5*k) (Z0i W k)
 |0=>Zc8 G
 |k+1=>by
  have:=(Z5h G (Z4g G k) W.isl.length).1
  have i5:=G.i5
  exact this.up (by lia)
theorem Zdh{W:Wld}(G:W.Good)(k:Nat):(∀z∈Z2s W (Z0i W k),z∈W.ins)/\(Z2s W (Z0i W k)).length≤5:=by
 obtain⟨_,_,h1,h2⟩:=Z5h G (Z4g G k) W.isl.length
 exact⟨h1,Y0M h2 G.i5⟩
abbrev Shp:=List (List (Nat×List (Key×MV)))
def Wld.iat(W:Wld)(z:Str):Nat:=W.ins.idxOf z
theorem Zk8{W:Wld}{z:Str}(h:z∈W.ins):W.ins[W.iat z]?=some z/\∃I,W.isl[W.iat z]?=some I/\I.name=z:=by
 have l:W.ins.idxOf z<W.ins.length:=Y30.mpr h
 have e:W.ins[W.iat z]?=some z:=by unfold Wld.iat;rw[Y00 l,List.getElem_idxOf l]
 refine⟨e,?_⟩
 unfold Wld.ins at e
 rw[Y06]at e
 cases hI:W.isl[W.iat z]? with
 |none=>rw[hI]at e;cases e
 |some I=>rw[hI]at e;exact⟨I,rfl,Y0K e⟩
def Z7p(W:Wld)(S:Std)(R:Shp)(z:Str):Shp:=R.set (W.iat z) (R.getD (W.iat z) []++[(S.num.getD (W.iat z) 0,S.wd.getD (W.iat z) [])])
def addM(W:Wld)(S:Std)(zs:List Str)(R:Shp):Shp:=zs.foldl (Z7p W S) R
def Z3t(W:Wld):Nat->Shp
 |0=>W.isl.map λI=>[(0,wd0 I)]
 |k+1=>addM W (Z0i W (k+1)) (Z2s W (Z0i W k)) (Z3t W k)
theorem Zed{W:Wld}{S:Std}{R:Shp}{b:Nat}(h:∀r∈R,r.length≤b)(z:Str):(Z7p W S R z).length=R.length/\∀r∈Z7p W S R z,r.length≤b+1:=by
 unfold Z7p
 refine⟨Y1K,λr hr=>?_⟩
 rcases Y1p hr with hr|rfl
 ·exact Nat.le_succ_of_le (h r hr)
 ·rw[Y0D,Y0j]
  cases e:R[W.iat z]? with
  |none=>show 0+1≤b+1;lia
  |some r=>exact Y38 (h r (Y08 e))
theorem Z7q{W:Wld}{S:Std}:∀(zs:List Str) {R:Shp} {b:Nat},(∀r∈R,r.length≤b)->(addM W S zs R).length=R.length/\∀r∈addM W S zs R,r.length≤b+zs.length
 |[],R,b,h=>⟨rfl,h⟩
 |z::zs,R,b,h=>by
  obtain⟨a1,a2⟩:=Zed (W:=W) (S:=S) h z
  obtain⟨b1,b2⟩:=Z7q zs a2
  refine⟨b1.trans a1,λr hr=>?_⟩
  have:=b2 r hr
  rw[Y0X];lia
theorem Z5g{W:Wld}(G:W.Good):∀k:Nat,(Z3t W k).length=W.isl.length/\∀r∈Z3t W k,r.length≤1+5*k
 |0=>⟨Y01 _,λr hr=>by obtain⟨I,_,rfl⟩:=Y0r.mp hr;exact Y0b _⟩
 |k+1=>by
  obtain⟨h1,h2⟩:=Z5g G k
  obtain⟨a1,a2⟩:=Z7q (W:=W) (S:=Z0i W (k+1)) (Z2s W (Z0i W k)) h2
  have l:=(Zdh G k).2
  exact⟨a1.trans h1,λr hr=>by have:=a2 r hr;lia⟩
structure Ent where
 n:Nat
 kvs:List (Key×MV)
 ad:Addr
def Ent.mv(x:Ent):MV:=.tup [.int x.n,.ref x.ad]
def Ent.sh(x:Ent):Nat×List (Key×MV):=(x.n,x.kvs)
def shp(C:List (List Ent)):Shp:=C.map (·.map Ent.sh)
structure RowsAt (ns:List Str) (C:List (List Ent)) (M:MH) (pr:Addr) (ls:List Addr):Prop where
 d:M pr=some (.dic (zipK ns (ls.map MV.ref)))
 ll:ls.length=ns.length
 cl:C.length=ns.length
 lv:∀(i:Nat) l r,ls[i]?=some l->C[i]?=some r->M l=some (.lst (r.map Ent.mv))
 ev:∀(i:Nat) r x,C[i]?=some r->x∈r->M x.ad=some (.dic x.kvs)
 ln:ls.Nodup
 en:∀(i j i' j':Nat) r r' x x',C[i]?=some r->r[j]?=some x->C[i']?=some r'->r'[j']?=some x'->x.ad=x'.ad->i=i'/\j=j'
 pe:∀(i:Nat) r x,C[i]?=some r->x∈r->x.ad≠pr
theorem RowsAt.keep{ns:List Str}{C:List (List Ent)}{M M':MH}{pr:Addr}{ls:List Addr}(h:RowsAt ns C M pr ls)(s:SameM M M'):RowsAt ns C M' pr ls:=
 ⟨s _ _ h.d,h.ll,h.cl,λi l r a b=>s _ _ (h.lv i l r a b),λi r x a b=>s _ _ (h.ev i r x a b),h.ln,h.en,h.pe⟩
structure RNew (C:List (List Ent)) (pr:Addr) (ls:List Addr) (M0:MH):Prop where
 p:M0 pr=none
 l:∀l∈ls,M0 l=none
 e:∀r∈C,∀x∈r,M0 x.ad=none
theorem Z1h{α:Type}{xs:List α}{x y:α}{j:Nat}(h:(xs++[x])[j]?=some y):(j<xs.length/\xs[j]?=some y)\/(j=xs.length/\y=x):=by
 by_cases l:j<xs.length
 ·rw[Y0P l]at h
  exact .inl ⟨l,h⟩
 ·rw[Y0E (by lia)]at h
  have e:j=xs.length:=by
   have:=(Y05.mp h).1
   simp at this
   lia
  subst e
  simp at h
  exact .inr ⟨rfl,h.symm⟩
theorem RowsAt.add{ns:List Str}{C:List (List Ent)}{M:MH}{pr:Addr}{ls:List Addr}(h:RowsAt ns C M pr ls){i:Nat}{l:Addr}{r:List Ent}(hl:ls[i]?=some l) (hr:C[i]?=some r) {p:Addr} (hp:M p=none) (n:Nat) (kvs:List (Key×MV)):
  RowsAt ns (C.set i (r++[⟨n,kvs,p⟩])) (updM (updM M p (.dic kvs)) l (.lst (r.map Ent.mv++[.tup [.int n,.ref p]]))) pr ls:=by
 have hlv:=h.lv i l r hl hr
 have old:∀{a:Addr} {o:MO},M a=some o->a≠l->updM (updM M p (.dic kvs)) l (.lst (r.map Ent.mv++[.tup [.int n,.ref p]])) a=some o:=λe z=>by
  rw[Z06 z,Z06 (neM e hp)];exact e
 have pl:p≠l:=λz=>by rw[z,hlv]at hp;cases hp
 have new:updM (updM M p (.dic kvs)) l (.lst (r.map Ent.mv++[.tup [.int n,.ref p]])) p=some (.dic kvs):=by rw[Z06 pl,Z02]
 have dne:∀{a:Addr} {k:List (Key×MV)},M a=some (.dic k)->a≠l:=λe z=>by rw[z,hlv]at e;cases e
 refine⟨old h.d (dne h.d),h.ll,by rw[Y1K];exact h.cl,λi' l' r' a b=>?_,λi' r' x a b=>?_,h.ln,?_,λi' r' x a b=>?_⟩
 ·rcases Z2y b with⟨rfl,rfl⟩|⟨ne,b⟩
  ·rw[hl]at a;cases a
   rw[Z02,Y0A];rfl
  ·refine old (h.lv i' l' r' a b) λz=>ne ?_
   subst z
   exact(Y2r (Y05.mp a).1 h.ln).mp (a.trans hl.symm)
 ·rcases Z2y a with⟨rfl,rfl⟩|⟨ne,a⟩
  ·rcases Y0Q.mp b with b|b
   ·exact old (h.ev i' r x hr b) (dne (h.ev i' r x hr b))
   ·rw[Y0z]at b;subst b;exact new
  ·exact old (h.ev i' r' x a b) (dne (h.ev i' r' x a b))
 ·have fr:∀(i:Nat) r x,C[i]?=some r->x∈r->x.ad≠p:=λi r x a b=>neM (h.ev i r x a b) hp
  intro i1 j1 i2 j2 r1 r2 x1 x2 a1 b1 a2 b2 e
  rcases Z2y a1 with⟨rfl,rfl⟩|⟨n1,c1⟩
  ·rcases Z1h b1 with⟨_,b1⟩|⟨rfl,rfl⟩
   ·rcases Z2y a2 with⟨rfl,rfl⟩|⟨n2,a2⟩
    ·rcases Z1h b2 with⟨_,b2⟩|⟨rfl,rfl⟩
     ·exact h.en _ _ _ _ _ _ _ _ hr b1 hr b2 e
     ·exact(fr _ _ _ hr (Y08 b1) e).elim
    ·exact h.en _ _ _ _ _ _ _ _ hr b1 a2 b2 e
   ·rcases Z2y a2 with⟨rfl,rfl⟩|⟨n2,a2⟩
    ·rcases Z1h b2 with⟨_,b2⟩|⟨rfl,rfl⟩
     ·exact(fr _ _ _ hr (Y08 b2) e.symm).elim
     ·exact⟨rfl,rfl⟩
    ·exact(fr _ _ _ a2 (Y08 b2) e.symm).elim
  ·rcases Z2y a2 with⟨rfl,rfl⟩|⟨n2,a2⟩
   ·rcases Z1h b2 with⟨_,b2⟩|⟨rfl,rfl⟩
    ·exact h.en _ _ _ _ _ _ _ _ c1 b1 hr b2 e
    ·exact(fr _ _ _ c1 (Y08 b1) e).elim
   ·exact h.en _ _ _ _ _ _ _ _ c1 b1 a2 b2 e
 ·rcases Z2y a with⟨rfl,rfl⟩|⟨ne,a⟩
  ·rcases Y0Q.mp b with b|b
   ·exact h.pe i' r x hr b
   ·rw[Y0z]at b;subst b
    exact λz=>by have z:p=pr:=z;rw[z,h.d]at hp;cases hp
  ·exact h.pe i' r' x a b
theorem RNew.add{C:List (List Ent)}{pr:Addr}{ls:List Addr}{M0:MH}(h:RNew C pr ls M0){i:Nat}{r:List Ent}(hr:C[i]?=some r) {p:Addr} (hp:M0 p=none) (n:Nat) (kvs:List (Key×MV)):RNew (C.set i (r++[⟨n,kvs,p⟩])) pr ls M0:=by
 refine⟨h.p,h.l,λr' hr' x hx=>?_⟩
 rcases Y1p hr' with hr'|rfl
 ·exact h.e r' hr' x hx
 ·rcases Y0Q.mp hx with hx|hx
  ·exact h.e r (Y08 hr) x hx
  ·rw[Y0z]at hx;subst hx;exact hp
theorem Zkr{C:List (List Ent)}{i:Nat}{r:List Ent}(n:Nat)(kvs:List (Key×MV))(p:Addr):shp (C.set i (r++[⟨n,kvs,p⟩]))=(shp C).set i (r.map Ent.sh++[(n,kvs)]):=by
 unfold shp
 rw[Y2v,Y0A];rfl
theorem Zmw{C:List (List Ent)}{i:Nat}{r:List Ent}(h:C[i]?=some r):(shp C).getD i []=r.map Ent.sh:=by
 unfold shp
 rw[Y0j,Y06,h];rfl
theorem Zj5{Φ:List (Str×SpM)}{own:List Str}{fr:List Nat}{src:ISr}{tg:ITg}{elt:IE}{σ:Sm}{M:MH}{Q:QM}{α:Type}(xs:List α)(f:α->MV)(nm:α->Str)(kv:α->List (Key×MV))(Pm:MH->Prop)
  (hs:wSr Φ src σ M λS M1=>S.items=xs.map f/\xs.length<sizeLine/\SrcFrom S M M1/\Pm M1)
  (ht:∀x∈xs,∀M1 M',Pm M1->SameM M1 M'->wTg tg (f x) (sCm own fr σ) λσ2=>wE Φ elt σ2 M' λy M2=>∃p l,M' p=none/\updM M' p (.dic (kv x)) l=none/\y=.tup [.str (nm x),.ref l]/\M2=updM (updM M' p (.dic (kv x))) l (.lst [.tup [.int 0,.ref p]]))
  (hΦ:∀(j:Nat) f sp,Φ[j]?=some (f,sp)->MonW sp)
  (q:∀D (ls:List Addr) (C:List (List Ent)) M',M D=none->SameM M M'->ls.length=xs.length->C.length=xs.length->shp C=xs.map (λx=>[(0,kv x)])->
   (∀(i:Nat) l r,ls[i]?=some l->C[i]?=some r->M' l=some (.lst (r.map Ent.mv)))->(∀(i:Nat) r x,C[i]?=some r->x∈r->M' x.ad=some (.dic x.kvs))->ls.Nodup->
   (∀(i j i' j':Nat) r r' x x',C[i]?=some r->r[j]?=some x->C[i']?=some r'->r'[j']?=some x'->x.ad=x'.ad->i=i'/\j=j')->(∀l∈ls,M l=none)->(∀r∈C,∀x∈r,M x.ad=none)->
   M' D=some (.lst ((zipK (xs.map nm) (ls.map MV.ref)).map prM))->Q (.ref D) M'):wE Φ (.comp own fr src tg .none elt) σ M Q:=by
 refine ZbR xs f (λx y N M2=>∃p l,N=[p,l]/\y=.tup [.str (nm x),.ref l]/\M2 p=some (.dic (kv x))/\M2 l=some (.lst [.tup [.int 0,.ref p]])) Pm ?_ hs ?_ hΦ ?_
 ·rintro x y N M2 M3 hk ⟨p,l,rfl,e1,e2,e3⟩
  exact⟨p,l,rfl,e1,by rw[hk p (by simp)];exact e2,by rw[hk l (by simp)];exact e3⟩
 ·intro x hx M1 M' h1 h2
  refine Z5v tg (λσ2 h=>?_) (ht x hx M1 M' h1 h2)
  refine Z09 hΦ elt (λy M3 ⟨p,l,m1,m2,m3,m4⟩=>?_) h
  subst m4
  have s1:=SameM.new m1 (.dic (kv x))
  have s2:=SameM.new m2 (.lst [.tup [.int 0,.ref p]])
  have hp:=s2 _ _ (Z02 (M:=M') (a:=p) (o:=.dic (kv x)))
  have pl:p≠l:=neM Z02 m2
  refine⟨s1.trans s2,[p,l],by simp[pl],?_,p,l,rfl,m3,hp,Z02⟩
  intro a ha
  simp only[Y0f,Y0u,or_false]at ha
  rcases ha with rfl|rfl
  ·exact⟨m1,_,hp⟩
  ·exact⟨s1.free m2,_,Z02⟩
 ·intro D ys Ns M' h1 h2 h3 h4 h5 h6 h7 h8 h9
  have key:∀(xs:List α) (ys:List MV) (Ns:List (List Addr)),ys.length=xs.length->Ns.length=xs.length->(∀(j:Nat) x y N,xs[j]?=some x->ys[j]?=some y->Ns[j]?=some N->∃p l,N=[p,l]/\y=.tup [.str (nm x),.ref l]/\M' p=some (.dic (kv x))/\M' l=some (.lst [.tup [.int 0,.ref p]]))->
    ∃(ls ps:List Addr),ls.length=xs.length/\ps.length=xs.length/\ys=(zipK (xs.map nm) (ls.map MV.ref)).map prM/\ls.Sublist Ns.flatten/\ps.Sublist Ns.flatten/\∀(j:Nat) l p x,ls[j]?=some l->ps[j]?=some p->xs[j]?=some x->M' p=some (.dic (kv x))/\M' l=some (.lst [.tup [.int 0,.ref p]]):=by
   intro xs
   induction xs with
   |nil=>
    intro ys Ns h1 h2 _
    cases ys with
    |nil=>exact⟨[],[],rfl,rfl,rfl,List.nil_sublist _,List.nil_sublist _,λj l p x h=>by simp at h⟩
    |cons _ _=>cases h1
   |cons x xs ih=>
    intro ys Ns h1 h2 h3
    cases ys with
    |nil=>cases h1
    |cons y ys=>
     cases Ns with
     |nil=>cases h2
     |cons N Ns=>
      obtain⟨p,l,rfl,rfl,ep,el⟩:=h3 0 x y N rfl rfl rfl
      obtain⟨ls,ps,i1,i2,i3,i4,i5,i6⟩:=ih ys Ns (by simpa using h1) (by simpa using h2) λj x y N a b c=>h3 (j+1) x y N (by simpa using a) (by simpa using b) (by simpa using c)
      refine⟨l::ls,p::ps,by simp[i1],by simp[i2],?_,?_,?_,?_⟩
      ·show _=prM (Y0O (nm x),MV.ref l)::((zipK (xs.map nm) (ls.map MV.ref)).map prM)
       rw[<- i3];rfl
      ·show(l::ls).Sublist (p::l::Ns.flatten)
       exact(i4.cons₂ l).cons p
      ·show(p::ps).Sublist (p::l::Ns.flatten)
       exact(i5.cons l).cons₂ p
      ·intro j a b x' ha hb hx
       cases j with
       |zero=>simp at ha hb hx;subst ha hb hx;exact⟨ep,el⟩
       |succ j=>exact i6 j a b x' (by simpa using ha) (by simpa using hb) (by simpa using hx)
  obtain⟨ls,ps,k1,k2,k3,k4,k5,k6⟩:=key xs ys Ns h3 h4 h8
  have nps:=h5.sublist k5
  have cat:∀(i:Nat) r,((xs.zip ps).map λz=>[Ent.mk 0 (kv z.1) z.2])[i]?=some r->∃x p,xs[i]?=some x/\ps[i]?=some p/\r=[⟨0,kv x,p⟩]:=λi r h=>by
   rw[Y06]at h
   cases e:(xs.zip ps)[i]? with
   |none=>rw[e]at h;cases h
   |some z=>
    rw[e]at h
    have:=Y2a.mp e
    exact⟨z.1,z.2,this.1,this.2,(Y0K h).symm⟩
  refine q D ls ((xs.zip ps).map λz=>[⟨0,kv z.1,z.2⟩]) M' h1 h2 k1 (by rw[Y01,Y1h];lia) ?_ ?_ ?_ (h5.sublist k4) ?_ (λl hl=>h7 l (k4.subset hl)) ?_ (by rw[<- k3];exact h9)
  ·unfold shp
   rw[Y0G]
   have e:xs=(xs.zip ps).map (·.1):=(Y3a (by lia)).symm
   conv=>rhs;rw[e]
   rw[Y0G];rfl
  ·intro i l r a b
   obtain⟨x,p,x1,x2,rfl⟩:=cat i r b
   exact(k6 i l p x a x2 x1).2
  ·intro i r y a b
   obtain⟨x,p,x1,x2,rfl⟩:=cat i r a
   rw[Y0z]at b;subst b
   have hi:i<ls.length:=by rw[k1];exact(Y05.mp x1).1
   exact(k6 i _ p x (Y00 hi) x2 x1).1
  ·intro i j i' j' r r' y y' a b a' b' e
   obtain⟨x,p,x1,x2,rfl⟩:=cat i r a
   obtain⟨x',p',x1',x2',rfl⟩:=cat i' r' a'
   cases j with
   |succ j=>simp at b
   |zero=>
    cases j' with
    |succ j=>simp at b'
    |zero=>
     simp at b b'
     subst b b'
     have e:p=p':=e
     subst e
     exact⟨(Y2r (Y05.mp x2).1 nps).mp (x2.trans x2'.symm),rfl⟩
  ·intro r hr y hy
   obtain⟨i,hi,rfl⟩:=Y0x hr
   obtain⟨x,p,x1,x2,e⟩:=cat i _ (Y00 hi)
   rw[e,Y0z]at hy;subst hy
   exact h7 p (k5.subset (Y08 x2))
abbrev Z6I:SpM:=λvs M Q=>∃(W:Wld) (n:Nat),vs=[W.mv,.int n]/\W.Good/\n≤100/\∀M' pr ls C,SameM M M'->RowsAt W.ins C M' pr ls->shp C=Z3t W n->RNew C pr ls M->Q (.ref pr) M'
theorem Z7X:MonW Z6I:=by walk_at "m"
theorem ZiF(T:Txt K mg t):FnOk P w K mg base CX0 54 t.f_track t.d_track ["world","n"] (liSp K Z6I):=by
 refine T.F_track.okM Zil (Z0G (Φ:=[("first_stand",Z12),("round_of",Z1O)]) (Z0H T) (Z0g T) rfl (fMc ⟨Z21,(fMc ⟨Z2L,(fun _ h=>nomatch h)⟩)⟩) (fMc ⟨⟨_,_,_,(FnOk.mono (Z5u T) (by decide)),T.m_first_stand,T.F_first_stand.kp,T.b_first_stand⟩,(fMc ⟨⟨_,_,_,(FnOk.mono (Z9h T) (by decide)),T.m_round_of,T.F_round_of.kp,T.b_round_of⟩,(fun _ h=>nomatch h)⟩)⟩):Fts P w K mg base 53 Zi3 [("first_stand",Z12),("round_of",Z1O)]) ZbL Zj8 (fun vs M Q h=>?_) (fun vs M Q h=>?_)
 ·obtain⟨_,_,rfl,_⟩:=h;rfl
 obtain⟨W,n,rfl,G,hn,q⟩:=h
 show wSs _ _ _ [some W.mv,some (.int n),none,none,none,none,none] M
 have i5:=G.i5
 have li:W.ins.length=W.isl.length:=by unfold Wld.ins;rw[Y01]
 have hΦ:=(Z6T (Φ:=[("first_stand",Z12),("round_of",Z1O)]) (fMc ⟨Z21,(fMc ⟨Z2L,(fun _ h=>nomatch h)⟩)⟩))
 rw[ZbL,ZeN]
 walk_at "s"
 refine⟨W,rfl,G,λM1 A s1 h1=>?_⟩
 rw[ZeM,Wld.mv]
 walk_at "s"
 refine Zj5 W.isl Isl.mv (·.name) wd0 (λM3=>M3=M1) ?_ ?_ hΦ λD ls C M2 hD s2 l1 l2 shC lv ev ln en lf ef hd=>?_
 ·walk_at "s"
  exact⟨rfl,by lia,.inl ⟨trivial,rfl⟩⟩
 ·rintro I hI Ma M' rfl s
  simp only[sCm,Y0h,Y0N,Y0s,Y0t,Y0B,Y0y]
  repeat (first|walk_at "s"|simp only[Isl.mv])
  refine⟨wd0 I,Zcj I,λp hp=>?_⟩
  rw[ZfU (G.io I hI).nd]
  try walk_at "s"
  intro l hl
  exact⟨p,hp,l,hl,rfl,rfl⟩
 have lw:(ls.map MV.ref).length=W.ins.length:=by rw[Y01,l1,li]
 have hd:M2 D=some (.lst ((zipK W.ins (ls.map MV.ref)).map prM)):=hd
 repeat (first|walk_at "s"|simp only[hd])
 refine⟨_,rfl,λpr hpr=>?_⟩
 rw[Z2G lw G.in_nd]
 have s3:=SameM.new hpr (.dic (zipK W.ins (ls.map MV.ref)))
 have h3:updM M2 pr (.dic (zipK W.ins (ls.map MV.ref))) pr=some (.dic (zipK W.ins (ls.map MV.ref))):=Z02
 generalize updM M2 pr _=M3 at*
 have R3:RowsAt W.ins C M3 pr ls:=⟨h3,l1.trans li.symm,l2.trans li.symm,λi l r a b=>s3 _ _ (lv i l r a b),λi r x a b=>s3 _ _ (ev i r x a b),ln,en,λi r x a b=>neM (ev i r x a b) hpr⟩
 have N3:RNew C pr ls M:=⟨(s1.trans s2).free hpr,λl hl=>s1.free (lf l hl),λr hr x hx=>s1.free (ef r hr x hx)⟩
 rw[ZeL]
 walk_at "s"
 obtain⟨J,hJ⟩:∃J:Nat->Sm->MH->Prop,∀k σ M',J k σ M'↔∃A C v4 v5 v6,SameM M M'/\StdAt W (Z0i W k) M' A/\RowsAt W.ins C M' pr ls/\shp C=Z3t W k/\RNew C pr ls M/\σ=[some W.mv,some (.int n),some A.mv,some (.ref pr),v4,v5,v6]:=⟨_,λ_ _ _=>Y1A⟩
 refine⟨by lia,by lia,J,(hJ 0 _ _).mpr ⟨A,C,_,_,_,s1.trans (s2.trans s3),h1.keep (s2.trans s3),R3,shC,N3,rfl⟩,λj σ M' h=>trivial,?_,?_⟩
 ·rintro k u σ M' hu h
  obtain⟨A,C,v4,v5,v6,s,hA,R,sh,N,rfl⟩:=(hJ _ _ _).mp h
  obtain⟨hk,rfl⟩:=Z5i hu
  rw[ZeK]
  walk_at "s"
  refine⟨W,Z0i W k,A,5*k,rfl,G,Z4g G k,by lia,hA,λM4 A4 q4 s4 h4 n4 w4 f4 d4=>?_⟩
  rw[ZeJ]
  walk_at "s"
  rw[ZeI]
  repeat (first|walk_at "s"|simp only[d4])
  obtain⟨hw1,hw2⟩:=Zdh G k
  have hS':=Z4g G (k+1)
  have lo:∀l∈ls,l∉A4.own/\l≠q4:=λl hl=>by
   obtain⟨i,hi,rfl⟩:=Y0x hl
   have hi2:i<C.length:=by rw[R.cl,<- R.ll];exact hi
   have:=R.lv i _ _ (Y00 hi) (Y00 hi2)
   exact⟨λz=>neM this (n4.fr _ z) rfl,neM this f4⟩
  obtain⟨J',hJ'⟩:∃J':Nat->Sm->MH->Prop,∀j σ M',J' j σ M'↔∃C v6,SameM M M'/\StdAt W (Z0i W (k+1)) M' A4/\RowsAt W.ins C M' pr ls/\shp C=addM W (Z0i W (k+1)) ((Z2s W (Z0i W k)).take j) (Z3t W k)/\RNew C pr ls M/\M' q4=some (.lst ((Z2s W (Z0i W k)).map MV.str))/\σ=[some W.mv,some (.int n),some A4.mv,some (.ref pr),some (.int (0+(k:Nat))),some (.tup [A4.mv,.ref q4]),v6]:=⟨_,λ_ _ _=>Y1A⟩
  refine⟨J',(hJ' 0 _ _).mpr ⟨C,_,s.trans s4,h4,R.keep s4,sh,N,d4,rfl⟩,λj σ M' h=>?_,?_,?_⟩
  ·obtain⟨_,_,_,_,_,_,_,e,_⟩:=(hJ' _ _ _).mp h
   exact e
  ·rintro j u σ M' hu h
   obtain⟨C,v6,s,h4,R,sh,N,d4,rfl⟩:=(hJ' _ _ _).mp h
   obtain⟨hj,rfl⟩:=Z0J (show((Z2s W (Z0i W k)).map MV.str)[j]?=some u from hu)
   obtain⟨z,hz⟩:∃z,(Z2s W (Z0i W k))[j]=z:=⟨_,rfl⟩
   have hzi:=hw1 _ (Y0p hj)
   have ht:(Z2s W (Z0i W k)).take (j+1)=(Z2s W (Z0i W k)).take j++[z]:=by rw[Y0S,Y00 hj,hz];rfl
   rw[hz]at hzi ⊢
   obtain⟨hz1,I,hI,rfl⟩:=Zk8 hzi
   have hi:W.iat I.name<W.ins.length:=(Y05.mp hz1).1
   have hl:=Y00 (show W.iat I.name<ls.length by rw[R.ll];exact hi)
   have hr:=Y00 (show W.iat I.name<C.length by rw[R.cl];exact hi)
   have hlr:=R.lv _ _ _ hl hr
   have hlo:=lo _ (Y08 hl)
   have hlen:(C[W.iat I.name]'(by rw[R.cl];exact hi)).length≤2000:=by
    have:(C[W.iat I.name]'(by rw[R.cl];exact hi)).map Ent.sh∈shp C:=Y0r.mpr ⟨_,Y0p _,rfl⟩
    rw[sh]at this
    have:=(Z7q (W:=W) (S:=Z0i W (k+1)) ((Z2s W (Z0i W k)).take j) (Z5g G k).2).2 _ this
    rw[Y01,Y0J]at this
    lia
   generalize ls[W.iat I.name]'(by rw[R.ll];exact hi)=l at*
   generalize C[W.iat I.name]'(by rw[R.cl];exact hi)=r at*
   obtain⟨a,a1,a2⟩:=h4.ws_at hS' hI
   rw[ZeH]
   repeat (first|walk_at "s"|simp only[R.d])
   refine⟨.ref l,Z1F G.in_nd hz1 (by rw[Y06,hl];rfl),?_⟩
   rw[StA.mv]
   repeat (first|walk_at "s"|simp only[hlr,h4.n,h4.w])
   refine⟨⟨_,rfl⟩,_,Zgq G hS' hI,_,Zkz G hI a1,?_⟩
   repeat (first|walk_at "s"|simp only[a2])
   intro p hp
   have hlr2:=SameM.new hp (.dic ((Z0i W (k+1)).wd.getD (W.iat I.name) [])) _ _ hlr
   repeat (first|walk_at "s"|simp only[hlr2])
   rw[Y01]
   refine⟨by lia,?_⟩
   refine(hJ' _ _ _).mpr ⟨C.set (W.iat I.name) (r++[⟨(Z0i W (k+1)).num.getD (W.iat I.name) 0,(Z0i W (k+1)).wd.getD (W.iat I.name) [],p⟩]),_,(s.upd (s.free hp) _).upd (N.l _ (Y08 hl)) _,(h4.keep (SameM.new hp _)).off hlr2 (λz=>hlo.1 (ZcI z)) _,R.add hl hr hp _ _,?_,N.add hr (s.free hp) _ _,?_,rfl⟩
   ·rw[Zkr,ht]
    unfold addM
    rw[Y1P]
    show _=Z7p W (Z0i W (k+1)) (addM W (Z0i W (k+1)) ((Z2s W (Z0i W k)).take j) (Z3t W k)) I.name
    rw[<- sh]
    unfold Z7p
    rw[Zmw hr]
   ·rw[Z06 λz=>hlo.2 z.symm]
    exact SameM.new hp _ _ _ d4
  ·rintro σ M' h
   obtain⟨C,v6,s,h4,R,sh,N,d4,rfl⟩:=(hJ' _ _ _).mp h
   refine(hJ _ _ _).mpr ⟨A4,C,_,_,_,s,h4,R,?_,N,rfl⟩
   rw[sh]
   have el:(Src.lst q4 ((Z2s W (Z0i W k)).map MV.str)).len=(Z2s W (Z0i W k)).length:=Y01 _
   rw[el,Y1i];rfl
 ·rintro σ M' h
  obtain⟨A,C,v4,v5,v6,s,hA,R,sh,N,rfl⟩:=(hJ _ _ _).mp h
  rw[ZeG]
  walk_at "s"
  exact q M' pr ls C s R sh N
theorem Zc1:∀{ks:List Str} {vs:List MV} (k:Str) (v:MV),vs.length=ks.length->zipK (ks++[k]) (vs++[v])=zipK ks vs++[(Y0O k,v)]
 |[],[],_,_,_=>rfl
 |[],_::_,_,_,h=>by cases h
 |_::_,[],_,_,h=>by cases h
 |a::ks,b::vs,k,v,h=>by
  show(Y0O a,b)::zipK (ks++[k]) (vs++[v])=_
  rw[Zc1 k v (by simpa using h)];rfl
theorem Zi7{ks:List Str}{vs:List MV}{k:Str}(v:MV)(h:vs.length=ks.length)(nk:k∉ks):putM (zipK ks vs) (Y0O k) v=zipK (ks++[k]) (vs++[v]):=by
 rw[Zc1 k v h,Zer]
 intro p hp e
 have:p.1∈(zipK ks vs).map (·.1):=Y0r.mpr ⟨p,hp,rfl⟩
 rw[Z3q h,e]at this
 obtain⟨z,hz,ez⟩:=Y0r.mp this
 cases ez
 exact nk hz
theorem RowsAt.put{ns:List Str}{C:List (List Ent)}{M:MH}{pr:Addr}{ls:List Addr}(h:RowsAt ns C M pr ls){z:Str}{p l:Addr}(n:Nat)(kvs:List (Key×MV))(hp:M p=none)(hl:updM M p (.dic kvs) l=none)(o:MO)(ho:o=.dic (zipK (ns++[z]) ((ls++[l]).map MV.ref))):
  RowsAt (ns++[z]) (C++[[⟨n,kvs,p⟩]]) (updM (updM (updM M p (.dic kvs)) l (.lst [.tup [.int n,.ref p]])) pr o) pr (ls++[l]):=by
 subst ho
 have hpp:updM M p (.dic kvs) p=some (.dic kvs):=Z02
 have pl:p≠l:=neM hpp hl
 have hl0:=(SameM.new hp (.dic kvs)).free hl
 have ppr:p≠pr:=λe=>by rw[e,h.d]at hp;cases hp
 have lpr:l≠pr:=λe=>by rw[e,h.d]at hl0;cases hl0
 have old:∀{a:Addr} {o':MO},M a=some o'->a≠pr->updM (updM (updM M p (.dic kvs)) l (.lst [.tup [.int n,.ref p]])) pr (.dic (zipK (ns++[z]) ((ls++[l]).map MV.ref))) a=some o':=λe zz=>by
  rw[Z06 zz,Z06 (neM e hl0),Z06 (neM e hp)];exact e
 have lne:∀{i:Nat} {l':Addr} {r:List Ent},ls[i]?=some l'->C[i]?=some r->l'≠pr:=λa b e=>by have:=h.lv _ _ _ a b;rw[e,h.d]at this;cases this
 have lin:∀{i:Nat} {l':Addr},ls[i]?=some l'->∃r,C[i]?=some r:=fun{i l'} a=>by
  have:i<C.length:=by rw[h.cl,<- h.ll];exact(Y05.mp a).1
  exact⟨_,Y00 this⟩
 have lc:ls.length=C.length:=h.ll.trans h.cl.symm
 refine⟨Z02,by simp[h.ll],by simp[h.cl],λi l' r a b=>?_,λi r x a b=>?_,?_,?_,λi r x a b=>?_⟩
 ·rcases Z1h a with⟨_,a⟩|⟨rfl,rfl⟩
  ·rcases Z1h b with⟨_,b⟩|⟨rfl,rfl⟩
   ·exact old (h.lv i l' r a b) (lne a b)
   ·have:=(Y05.mp a).1;lia
  ·rcases Z1h b with⟨i2,b⟩|⟨_,rfl⟩
   ·lia
   ·rw[Z06 lpr,Z02];rfl
 ·rcases Z1h a with⟨_,a⟩|⟨rfl,rfl⟩
  ·exact old (h.ev i r x a b) (h.pe i r x a b)
  ·rw[Y0z]at b;subst b
   show updM _ pr _ p=_
   rw[Z06 ppr,Z06 pl,Z02]
 ·rw[Y1d]
  refine⟨h.ln,by simp,λa ha b hb e=>?_⟩
  rw[Y0z]at hb
  subst hb e
  obtain⟨i,hi,e⟩:=Y0x ha
  obtain⟨r,hr⟩:=lin (Y00 hi)
  exact neM (h.lv i _ r (Y00 hi) hr) hl0 e
 ·have fr:∀(i:Nat) r x,C[i]?=some r->x∈r->x.ad≠p:=λi r x a b=>neM (h.ev i r x a b) hp
  intro i1 j1 i2 j2 r1 r2 x1 x2 a1 b1 a2 b2 e
  rcases Z1h a1 with⟨_,c1⟩|⟨rfl,rfl⟩
  ·rcases Z1h a2 with⟨_,c2⟩|⟨rfl,rfl⟩
   ·exact h.en _ _ _ _ _ _ _ _ c1 b1 c2 b2 e
   ·cases j2 with
    |succ j=>simp at b2
    |zero=>simp at b2;subst b2;exact(fr _ _ _ c1 (Y08 b1) e).elim
  ·cases j1 with
   |succ j=>simp at b1
   |zero=>
    simp at b1;subst b1
    rcases Z1h a2 with⟨_,c2⟩|⟨rfl,rfl⟩
    ·exact(fr _ _ _ c2 (Y08 b2) e.symm).elim
    ·cases j2 with
     |succ j=>simp at b2
     |zero=>exact⟨rfl,rfl⟩
 ·rcases Z1h a with⟨_,a⟩|⟨rfl,rfl⟩
  ·exact h.pe i r x a b
  ·rw[Y0z]at b;subst b;exact ppr
theorem Z93:∀{ks:List Str} {vs:List MV} {k:Key} {u:MV},(k,u)∈zipK ks vs->∃(i:Nat) (z:Str),ks[i]?=some z/\k=Y0O z/\vs[i]?=some u
 |[],_,_,_,h=>by cases h
 |_::_,[],_,_,h=>by cases h
 |a::ks,b::vs,k,u,h=>by
  rcases Y0f.mp h with h|h
  ·cases h;exact⟨0,a,rfl,rfl,rfl⟩
  ·obtain⟨i,z,h1,h2,h3⟩:=Z93 h
   exact⟨i+1,z,by simpa using h1,h2,by simpa using h3⟩
theorem Zj6{Φ:List (Str×SpM)}{own:List Str}{fr:List Nat}{src:ISr}{tg:ITg}{elt:IE}{σ:Sm}{M:MH}{Q:QM}{α:Type}(xs:List α)(f g:α->MV)(Pm:MH->Prop)
  (hs:wSr Φ src σ M λS M1=>S.items=xs.map f/\xs.length<sizeLine/\SrcFrom S M M1/\Pm M1)
  (ht:∀x∈xs,∀M1 M',Pm M1->SameM M1 M'->wTg tg (f x) (sCm own fr σ) λσ2=>wE Φ elt σ2 M' λy M2=>y=g x/\M2=M')
  (hΦ:∀(j:Nat) f sp,Φ[j]?=some (f,sp)->MonW sp)
  (q:∀D M',M D=none->SameM M M'->M' D=some (.lst (xs.map g))->Q (.ref D) M'):wE Φ (.comp own fr src tg .none elt) σ M Q:=by
 refine ZbR xs f (λx y N M2=>y=g x) Pm (λ_ _ _ _ _ _ e=>e) hs ?_ hΦ ?_
 ·intro x hx M1 M' h1 h2
  refine Z5v tg (λσ2 h=>?_) (ht x hx M1 M' h1 h2)
  refine Z09 hΦ elt (λy M3 ⟨e1,e2⟩=>?_) h
  subst e2
  exact⟨SameM.refl _,[],Y3J,by simp,e1⟩
 ·intro D ys Ns M' h1 h2 h3 h4 _ _ _ h8 h9
  have e:ys=xs.map g:=by
   apply Y2X
   intro i
   rw[Y06]
   by_cases hi:i<xs.length
   ·rw[Y00 hi,Y00 (by lia)]
    exact congrArg some (h8 i _ _ _ (Y00 hi) (Y00 (by lia)) (Y00 (show i<Ns.length by lia)))
   ·rw[Y1e (by lia),Y1e (by lia)];rfl
  subst e
  exact q D M' h1 h2 h9
theorem ZfH{Φ:List (Str×SpM)}{own:List Str}{fr:List Nat}{src:ISr}{tg:ITg}{test elt:IE}{σ:Sm}{M:MH}{Q:QM}{α:Type}(xs:List α)(f:α->MV)(Pm:MH->Prop)
  (hs:wSr Φ src σ M λS M1=>S.items=xs.map f/\xs.length<sizeLine/\SrcFrom S M M1/\Pm M1)
  (ht:∀x∈xs,∀M1 M',Pm M1->SameM M1 M'->wTg tg (f x) (sCm own fr σ) λσ2=>wE Φ test σ2 M' λv M2=>v=.bl false/\M2=M')
  (hΦ:∀(j:Nat) f sp,Φ[j]?=some (f,sp)->MonW sp)
  (q:∀D M',M D=none->SameM M M'->M' D=some (.lst [])->Q (.ref D) M'):wE Φ (.comp own fr src tg (.some test) elt) σ M Q:=by
 rw[ZcJ]
 refine mon_sr hΦ src (λS M1 ⟨h1,h2,h3,h4⟩=>?_) hs
 have hl:S.len=xs.length:=by rw[<- S.items_len,h1,Y01]
 refine⟨by rw[hl];exact h2,λD hD=>⟨λi ys M2=>M2=updM M1 D (.lst [])/\ys=[],⟨rfl,rfl⟩,?_,?_,?_⟩⟩
 ·rintro i ys M2 ⟨rfl,rfl⟩
  exact⟨Z02,Y17 _,h3.ok (SameM.new hD _)⟩
 ·rintro i x ys M2 hx ⟨rfl,rfl⟩
  rw[h1]at hx
  obtain⟨hi,rfl⟩:=Z0J hx
  refine Z5v tg (λσ2 h=>?_) (ht xs[i] (Y0p hi) M1 _ h4 (SameM.new hD (.lst [])))
  refine Z09 hΦ test (λv M2 ⟨e1,e2⟩=>?_) h
  subst e1 e2
  exact⟨false,rfl,by dsimp only;rw[if_neg Y09];exact⟨rfl,rfl⟩⟩
 ·rintro ys M2 ⟨rfl,rfl⟩
  obtain⟨t1,t2⟩:=h3.thaw (SameM.new hD (.lst []))
  exact q D _ (h3.free hD) t1 (by rw[t2 _ hD,Z02])
def Z39(ev:List Str)(p:Nat×List Str)(z:Str):Nat×List Str:=if z∈p.2 then(if(p.2.erase z).length=0 then(p.1+1,ev)else(p.1,p.2.erase z))else p
def strM(ev ns:List Str):Nat×List Str:=ns.foldl (Z39 ev) (0,ev)
theorem Zbn(ev:List Str):∀(ns:List Str) (p:Nat×List Str),(ns.foldl (Z39 ev) p).1≤p.1+ns.length
 |[],p=>Y0b _
 |z::ns,p=>by
  have:=Zbn ev ns (Z39 ev p z)
  have h:(Z39 ev p z).1≤p.1+1:=by
   unfold Z39
   split
   ·split
    ·exact Y0b _
    ·exact Y1D _
   ·exact Y1D _
  rw[Y1M,Y0X];lia
theorem Zga{ev:List Str}:∀(ns:List Str) {p:Nat×List Str},p.2.length≤ev.length->(ns.foldl (Z39 ev) p).2.length≤ev.length
 |[],p,h=>h
 |z::ns,p,h=>by
  refine Zga ns ?_
  unfold Z39
  split
  ·split
   ·exact Y0b _
   ·exact Y0M (List.length_erase_le ..) h
  ·exact h
abbrev Z18:SpM:=λvs M Q=>∃(W:Wld) (a:Addr) (ns:List Str),vs=[W.mv,.ref a]/\W.Good/\M a=some (.lst (ns.map MV.str))/\ns.length≤100/\∀M',SameM M M'->Q (.int ((strM W.ins ns).1:Nat)) M'
theorem Z1N:MonW Z18:=by walk_at "m"
theorem Z7U(T:Txt K mg t):FnOk P w K mg base CX0 1 t.f_stretches t.d_stretches ["world","names"] (liSp K Z18):=by
 refine T.F_stretches.okM Zc9 (Z0G (Φ:=[]) (Z0H T) (Z0g T) rfl (λ_ h=>nomatch h) (λ_ h=>nomatch h):Fts P w K mg base 0 Za4 []) Z4D ZcT (λvs M Q h=>?_) (λvs M Q h=>?_)
 ·obtain⟨_,_,_,rfl,_⟩:=h;rfl
 obtain⟨W,a,ns,rfl,G,ha,hn,q⟩:=h
 show wSs _ _ _ [some W.mv,some (.ref a),none,none,none,none] M
 have i5:=G.i5
 have li:W.ins.length=W.isl.length:=by unfold Wld.ins;rw[Y01]
 have hΦ:=(Z6T (Φ:=[]) (λ_ h=>nomatch h))
 rw[Z4D,Z87,Wld.mv]
 walk_at "s"
 refine Z1E W.isl Isl.mv (λI=>.str I.name) ?_ ?_ hΦ λe he=>?_
 ·walk_at "s"
  exact⟨rfl,by lia,trivial⟩
 ·intro I hI M' s
  simp only[sCm,Y0h,Y0N,Y0s,Y0t,Y0B,Y0y]
  repeat (first|walk_at "s"|simp only[Isl.mv])
 have s0:=SameM.new he (.lst (W.isl.map λI=>.str I.name))
 have ev:W.isl.map (λI=>MV.str I.name)=W.ins.map MV.str:=by unfold Wld.ins;rw[Y0G];rfl
 rw[ev]at s0 ⊢
 have he0:updM M e (.lst (W.ins.map MV.str)) e=some (.lst (W.ins.map MV.str)):=Z02
 generalize updM M e _=M0 at*
 rw[Z86]
 walk_at "s"
 rw[Z85]
 repeat (first|walk_at "s"|simp only[he0])
 intro m hm
 have s1:=SameM.new hm (.lst (W.ins.map MV.str))
 have hm1:updM M0 m (.lst (W.ins.map MV.str)) m=some (.lst (W.ins.map MV.str)):=Z02
 generalize updM M0 m _=M1 at*
 rw[Z84]
 have ha1:=s1 _ _ (s0 _ _ ha)
 repeat (first|walk_at "s"|simp only[ha1])
 obtain⟨J,hJ⟩:∃J:Nat->Sm->MH->Prop,∀j σ M',J j σ M'↔∃m v5,SameM M0 M'/\M0 m=none/\M' m=some (.lst ((strM W.ins (ns.take j)).2.map MV.str))/\σ=[some W.mv,some (.ref a),some (.ref e),some (.int ((strM W.ins (ns.take j)).1:Nat)),some (.ref m),v5]:=⟨_,λ_ _ _=>Y1A⟩
 refine⟨J,(hJ 0 _ _).mpr ⟨m,_,s1,hm,hm1,rfl⟩,λj σ M' h=>?_,?_,?_⟩
 ·obtain⟨m,v5,s,_⟩:=(hJ _ _ _).mp h
  exact s _ _ (s0 _ _ ha)
 ·rintro j u σ M' hu h
  obtain⟨m,v5,s,hm,hd,rfl⟩:=(hJ _ _ _).mp h
  obtain⟨hj,rfl⟩:=Z0J (show(ns.map MV.str)[j]?=some u from hu)
  have ht:strM W.ins (ns.take (j+1))=Z39 W.ins (strM W.ins (ns.take j)) ns[j]:=by
   unfold strM;rw[Y0S,Y00 hj,Y1P];rfl
  have hle:(strM W.ins (ns.take j)).2.length≤W.ins.length:=Zga _ (Y0b _)
  have hce:(strM W.ins (ns.take j)).1≤100:=by
   have:=Zbn W.ins (ns.take j) (0,W.ins)
   rw[Y0J]at this
   unfold strM;lia
  generalize strM W.ins (ns.take j)=p at*
  generalize ns[j]=z at*
  rw[Z83]
  walk_at "s"
  refine .inl ⟨_,hd,rfl,Z9U _,?_⟩
  rw[ZdS]
  by_cases hz:z∈p.2
  ·rw[decide_eq_true hz]
   walk_at "s"
   rw[Z82]
   repeat (first|walk_at "s"|simp only[hd])
   refine⟨⟨_,rfl⟩,_,rfl,hz,?_⟩
   have hd':updM M' m (.lst ((p.2.erase z).map MV.str)) m=some (.lst ((p.2.erase z).map MV.str)):=Z02
   have s':=s.upd hm (.lst ((p.2.erase z).map MV.str))
   generalize updM M' m _=M2 at*
   rw[Z81]
   repeat (first|walk_at "s"|simp only[hd'])
   by_cases hl:(p.2.erase z).length=0
   ·rw[if_pos (by rw[Y01];lia)]
    rw[Z80]
    walk_at "s"
    rw[Z7Z]
    repeat (first|walk_at "s"|simp only[s' _ _ he0])
    intro m2 hm2
    have s3:=SameM.new hm2 (.lst (W.ins.map MV.str))
    refine(hJ _ _ _).mpr ⟨m2,some (.str z),s'.trans s3,s'.free hm2,?_,?_⟩
    ·rw[ht,Z39,if_pos hz,if_pos hl];exact Z02
    ·rw[ht,Z39,if_pos hz,if_pos hl];rfl
   ·rw[if_neg (by rw[Y01];lia)]
    refine(hJ _ _ _).mpr ⟨m,some (.str z),s',hm,?_,?_⟩
    ·rw[ht,Z39,if_pos hz,if_neg hl];exact hd'
    ·rw[ht,Z39,if_pos hz,if_neg hl]
  ·rw[decide_eq_false hz]
   walk_at "s"
   refine(hJ _ _ _).mpr ⟨m,some (.str z),s,hm,?_,?_⟩
   ·rw[ht,Z39,if_neg hz];exact hd
   ·rw[ht,Z39,if_neg hz]
 ·rintro σ M' h
  obtain⟨m,v5,s,hm,hd,rfl⟩:=(hJ _ _ _).mp h
  have el:(Src.lst a (ns.map MV.str)).len=ns.length:=Y01 _
  rw[el,Y1i]at hd ⊢
  rw[Z7Y]
  walk_at "s"
  exact q M' (s0.trans s)
def cntV(R:Shp):List MV:=R.map λr=>.int ((r.length:Int) - 1)
def cntK(W:Wld)(n:Nat):List (Key×MV):=zipK W.ins (cntV (Z3t W n))
theorem Z8X{W:Wld}(G:W.Good)(n:Nat):(Z3t W n).length=W.ins.length:=by
 have:=(Z5g G n).1
 rw[this];unfold Wld.ins;rw[Y01]
abbrev Z1U:SpM:=λvs M Q=>∃(W:Wld) (n:Nat),vs=[W.mv,.int n]/\W.Good/\n≤100/\∀M' p,SameM M M'->M p=none->M' p=some (.dic (cntK W n))->Q (.ref p) M'
theorem Z6r:MonW Z1U:=by walk_at "m"
theorem Z9g(T:Txt K mg t):FnOk P w K mg base CX0 55 t.f_steps_behind t.d_steps_behind ["world","n"] (liSp K Z1U):=by
 refine T.F_steps_behind.okM Z96 (Z0G (Φ:=[("track",Z6I)]) (Z0H T) (Z0g T) rfl (fMc ⟨Z7X,(fun _ h=>nomatch h)⟩) (fMc ⟨⟨_,_,_,(FnOk.mono (ZiF T) (by decide)),T.m_track,T.F_track.kp,T.b_track⟩,(fun _ h=>nomatch h)⟩):Fts P w K mg base 54 Z6f [("track",Z6I)]) Z2Y Z9X (fun vs M Q h=>?_) (fun vs M Q h=>?_)
 ·obtain⟨_,_,rfl,_⟩:=h;rfl
 obtain⟨W,n,rfl,G,hn,q⟩:=h
 show wSs _ _ _ [some W.mv,some (.int n),none] M
 have i5:=G.i5
 have li:W.ins.length=W.isl.length:=by unfold Wld.ins;rw[Y01]
 have hΦ:=(Z6T (Φ:=[("track",Z6I)]) (fMc ⟨Z7X,(fun _ h=>nomatch h)⟩))
 rw[Z2Y,Z4w]
 walk_at "s"
 refine⟨W,n,rfl,G,hn,λM1 pr ls C s1 R sh N=>?_⟩
 rw[Z4v]
 walk_at "s"
 have ll:=R.ll
 have cl:=R.cl
 refine Zj6 (W.ins.zip C) (λx=>.str x.1) (λx=>.tup [.str x.1,.int ((x.2.length:Int) - 1)]) (λM2=>∃o,M2=updM M1 pr (.fdic o (zipK W.ins (ls.map MV.ref)))) ?_ ?_ hΦ λD M2 hD s2 hd=>?_
 ·repeat (first|walk_at "s"|simp only[R.d])
  intro o
  refine⟨?_,by rw[Y1h];lia,.inr ⟨_,_,_,rfl,R.d,rfl⟩,o,rfl⟩
  show(zipK W.ins (ls.map MV.ref)).map (λp=>kM p.1)=_
  rw[Z57 (by rw[Y01,ll])]
  conv=>lhs;rw[<- Z2I (ks:=W.ins) (xs:=C) cl]
  rw[Y0G];rfl
 ·rintro⟨z,r⟩ hx M2 M' ⟨o,rfl⟩ s
  obtain⟨i,i1,i2⟩:=Z5j hx
  have hw:=s _ _ (Z02 (M:=M1))
  have hi:i<ls.length:=by rw[ll];exact(Y05.mp i1).1
  have hl:=Y00 hi
  have hv:=R.lv i _ _ hl i2
  have hne:ls[i]≠pr:=λe=>by rw[e,R.d]at hv;cases hv
  have hv':=s _ _ ((Z06 (M:=M1) hne).trans hv)
  simp only[sCm,Y0h,Y0N,Y0s,Y0t,Y0B,Y0y]
  repeat (first|walk_at "s"|simp only[hw])
  refine⟨.ref ls[i],Z1F G.in_nd i1 (by rw[Y06,hl];rfl),?_⟩
  repeat (first|walk_at "s"|simp only[hv'])
  rw[Y01]
 have e1:(W.ins.zip C).map (λx=>MV.int ((x.2.length:Int) - 1))=cntV (Z3t W n):=by
  have e:C=(W.ins.zip C).map (·.2):=(List.map_snd_zip (by lia)).symm
  rw[<- sh]
  unfold cntV shp
  conv=>rhs;rw[e]
  rw[Y0G,Y0G]
  exact List.map_congr_left λx _=>by simp
 have hd:M2 D=some (.lst ((cntK W n).map prM)):=by
  rw[hd,Z8R,Z2I cl,e1];rfl
 have lc:(cntV (Z3t W n)).length=W.ins.length:=by unfold cntV;rw[Y01];exact Z8X G n
 repeat (first|walk_at "s"|simp only[hd])
 refine⟨_,rfl,λp hp=>?_⟩
 have ec:Z2K (cntK W n)=cntK W n:=Z2G lc G.in_nd
 rw[ec]
 exact q _ p ((s1.trans s2).trans (SameM.new hp _)) ((s1.trans s2).free hp) Z02
def Z3O:List Fer->Nat->Nat
 |[],m=>m
 |f::r,m=>Z3O r (if 2+f.st>m then 2+f.st else m)
def Z6V(W:Wld):Nat:=Z3O W.fer 2
theorem Z6W:∀(F:List Fer) (m:Nat),m≤Z3O F m/\(∀f∈F,2+f.st≤Z3O F m)/\(Z3O F m=m\/∃f∈F,Z3O F m=2+f.st)
 |[],m=>⟨Y0b _,by simp,.inl rfl⟩
 |f::r,m=>by
  obtain⟨h1,h2,h3⟩:=Z6W r (if 2+f.st>m then 2+f.st else m)
  have e:Z3O (f::r) m=Z3O r (if 2+f.st>m then 2+f.st else m):=rfl
  rw[e]
  generalize Z3O r _=k at*
  refine⟨?_,λx hx=>?_,?_⟩
  ·split at h1<;>lia
  ·rcases Y0f.mp hx with rfl|hx
   ·split at h1<;>lia
   ·exact h2 x hx
  ·rcases h3 with h3|⟨x,hx,h3⟩
   ·split at h3
    ·exact .inr ⟨f,Y0v ..,h3⟩
    ·exact .inl h3
   ·exact .inr ⟨x,Y0n _ hx,h3⟩
theorem ZaP:∀(F:List Fer) (f:Fer) (m:Nat),Z3O (F++[f]) m=if 2+f.st>Z3O F m then 2+f.st else Z3O F m
 |[],f,m=>rfl
 |x::F,f,m=>ZaP F f _
theorem ZgU{W:Wld}{m:Int}(h:W.fer.map (λf=>(f.st:Int))=[]/\m=0\/m∈W.fer.map (λf=>(f.st:Int))/\∀i∈W.fer.map (λf=>(f.st:Int)),i≤m):m+2=(Z6V W:Nat):=by
 obtain⟨h1,h2,h3⟩:=Z6W W.fer 2
 unfold Z6V
 generalize Z3O W.fer 2=k at*
 rcases h with⟨e,rfl⟩|⟨e,g⟩
 ·have e:=List.map_eq_nil_iff.mp e
  rcases h3 with h3|⟨x,hx,_⟩
  ·lia
  ·rw[e]at hx;cases hx
 ·obtain⟨f,hf,rfl⟩:=Y0r.mp e
  have h2f:=h2 f hf
  rcases h3 with h3|⟨x,hx,h3⟩
  ·lia
  ·have:=g _ (Y0r.mpr ⟨x,hx,rfl⟩)
   lia
abbrev Z14:SpM:=λvs M Q=>∃W:Wld,vs=[W.mv]/\W.Good/\∀M',SameM M M'->Q (.int (Z6V W:Nat)) M'
theorem Z3u:MonW Z14:=by walk_at "m"
theorem Z5o(T:Txt K mg t):FnOk P w K mg base CX0 1 t.f_stretches_a_round t.d_stretches_a_round ["world"] (liSp K Z14):=by
 refine T.F_stretches_a_round.okM Z5m (Z0G (Φ:=[]) (Z0H T) (Z0g T) rfl (λ_ h=>nomatch h) (λ_ h=>nomatch h):Fts P w K mg base 0 Z37 []) Z1w Z5r (λvs M Q h=>?_) (λvs M Q h=>?_)
 ·obtain⟨_,rfl,_⟩:=h;rfl
 obtain⟨W,rfl,G,q⟩:=h
 show wSs _ _ _ [some W.mv] M
 have f6:=G.f6
 have hΦ:=(Z6T (Φ:=[]) (λ_ h=>nomatch h))
 rw[Z1w,Z2z,Wld.mv]
 walk_at "s"
 refine Z1E W.fer Fer.mv (λf=>.int f.st) ?_ ?_ hΦ λe he=>?_
 ·walk_at "s"
  exact⟨rfl,by lia,trivial⟩
 ·intro f hf M' s
  simp only[sCm,Y0h,Y0N,Y0s,Y0t,Y0B,Y0y]
  repeat (first|walk_at "s"|simp only[Fer.mv])
 walk_at "s"
 refine⟨W.fer.map λf=>(f.st:Int),by rw[Y0G];rfl,λm hm=>?_⟩
 rw[ZgU hm]
 exact q _ (SameM.new he _)
theorem ZgV{W:Wld}(G:W.Good):Z6V W≤5:=by
 rcases(Z6W W.fer 2).2.2 with h|⟨f,hf,h⟩
 ·unfold Z6V;lia
 ·have:=(G.fo f hf).s3
  unfold Z6V;lia
abbrev Z3r:SpM:=λvs M Q=>∃(W:Wld) (a:Addr) (ns:List Str),vs=[W.mv,.ref a]/\W.Good/\M a=some (.lst (ns.map MV.str))/\ns.length≤100/\
 ∀M' p1 p2,SameM M M'->M p1=none->M p2=none->p1≠p2->M' p1=some (.dic (cntK W ((strM W.ins ns).1/Z6V W)))->M' p2=some (.dic (cntK W ns.length))->Q (.tup [.ref p1,.ref p2]) M'
theorem Z3N:MonW Z3r:=by walk_at "m"
theorem ZgG(T:Txt K mg t):FnOk P w K mg base CX0 56 t.f_bounds t.d_bounds ["world","names"] (liSp K Z3r):=by
 refine T.F_bounds.okM Zgm (Z0G (Φ:=[("steps_behind",Z1U),("stretches",Z18),("stretches_a_round",Z14)]) (Z0H T) (Z0g T) rfl (fMc ⟨Z6r,(fMc ⟨Z1N,(fMc ⟨Z3u,(fun _ h=>nomatch h)⟩)⟩)⟩) (fMc ⟨⟨_,_,_,(FnOk.mono (Z9g T) (by decide)),T.m_steps_behind,T.F_steps_behind.kp,T.b_steps_behind⟩,(fMc ⟨⟨_,_,_,(FnOk.mono (Z7U T) (by decide)),T.m_stretches,T.F_stretches.kp,T.b_stretches⟩,(fMc ⟨⟨_,_,_,(FnOk.mono (Z5o T) (by decide)),T.m_stretches_a_round,T.F_stretches_a_round.kp,T.b_stretches_a_round⟩,(fun _ h=>nomatch h)⟩)⟩)⟩):Fts P w K mg base 55 Zf5 [("steps_behind",Z1U),("stretches",Z18),("stretches_a_round",Z14)]) Z9D ZhH (fun vs M Q h=>?_) (fun vs M Q h=>?_)
 ·obtain⟨_,_,_,rfl,_⟩:=h;rfl
 obtain⟨W,a,ns,rfl,G,ha,hn,q⟩:=h
 show wSs _ _ _ [some W.mv,some (.ref a),none] M
 rw[Z9D,ZcH]
 walk_at "s"
 refine⟨W,a,ns,rfl,G,ha,hn,λM1 s1=>?_⟩
 walk_at "s"
 refine⟨W,rfl,G,λM2 s2=>?_⟩
 walk_at "s"
 have hl:=(Z6W W.fer 2).1
 have hs:=Zbn W.ins ns (0,W.ins)
 have hq:(strM W.ins ns).1/Z6V W≤100:=Y0M (Nat.div_le_self _ _) (by unfold strM;lia)
 have hl:2≤Z6V W:=hl
 have hl5:=ZgV G
 refine⟨⟨by lia,by lia⟩,?_⟩
 rw[ZcG]
 walk_at "s"
 refine⟨W,(strM W.ins ns).1/Z6V W,by rw[Int.natCast_ediv],G,hq,λM3 p1 s3 hp1 hd1=>?_⟩
 walk_at "s"
 have ha3:=((s1.trans s2).trans s3) _ _ ha
 repeat (first|walk_at "s"|simp only[ha3])
 rw[Y01]
 refine⟨W,ns.length,rfl,G,hn,λM4 p2 s4 hp2 hd2=>?_⟩
 try walk_at "s"
 have s12:=s1.trans s2
 exact q M4 p1 p2 ((s12.trans s3).trans s4) (s12.free hp1) ((s12.trans s3).free hp2) (neM hd1 hp2) (s4 _ _ hd1) hd2
def Zin(Is:List Isl)(c:Int):Str:=(Is.map (·.name)).getD (c%(Is.length:Int)).toNat default
def Zff(Is:List Isl)(c:Int):MV:=.tup [.str (Zin Is c),.int (c/(Is.length:Int)%1000000000000000000000000000000)]
abbrev Z1v:SpM:=λvs M Q=>∃(a p:Addr) (ns:List Int) (ys:List MV) (Is:List Isl),vs=[.ref a,.ref p]/\M a=some (.lst (ns.map MV.int))/\M p=some (.lst ys)/\IslsIn M Is ys/\1≤Is.length/\Is.length≤5/\ns.length≤100/\
 ∀M' r,SameM M M'->M r=none->M' r=some (.lst (ns.map (Zff Is)))->Q (.ref r) M'
theorem Z2d:MonW Z1v:=by walk_at "m"
theorem ZbA(T:Txt K mg t):FnOk P w K mg base CX0 1 t.f__law_rings t.d__law_rings ["cells","islands"] (liSp K Z1v):=by
 refine T.F__law_rings.okM Zbw (Z0G (Φ:=[]) (Z0H T) (Z0g T) rfl (λ_ h=>nomatch h) (λ_ h=>nomatch h):Fts P w K mg base 0 Z8F []) Z3T ZbW (λvs M Q h=>?_) (λvs M Q h=>?_)
 ·obtain⟨_,_,_,_,_,rfl,_⟩:=h;rfl
 obtain⟨a,p,ns,ys,Is,rfl,ha,hp,hI,l1,l5,hn,q⟩:=h
 show wSs _ _ _ [some (.ref a),some (.ref p),none,none] M
 rw[Z3T,Z7j]
 walk_at "s"
 intro r hr
 have s1:=SameM.new hr (.lst [])
 have hr1:updM M r (.lst []) r=some (.lst []):=Z02
 generalize updM M r _=M1 at*
 rw[Z7i]
 have ha1:=s1 _ _ ha
 repeat (first|walk_at "s"|simp only[ha1])
 obtain⟨J,hJ⟩:∃J:Nat->Sm->MH->Prop,∀j σ M',J j σ M'↔∃v3,SameM M M'/\M' r=some (.lst ((ns.take j).map (Zff Is)))/\σ=[some (.ref a),some (.ref p),some (.ref r),v3]:=⟨_,λ_ _ _=>Y1A⟩
 refine⟨J,(hJ 0 _ _).mpr ⟨_,s1,hr1,rfl⟩,λj σ M' h=>?_,?_,?_⟩
 ·obtain⟨_,s,_⟩:=(hJ _ _ _).mp h
  exact s _ _ ha
 ·rintro j u σ M' hu h
  obtain⟨v3,s,hd,rfl⟩:=(hJ _ _ _).mp h
  obtain⟨hj,rfl⟩:=Z0J (show(ns.map MV.int)[j]?=some u from hu)
  have ht:ns.take (j+1)=ns.take j++[ns[j]]:=by rw[Y0S,Y00 hj];rfl
  generalize ns[j]=c at*
  rw[Z7h]
  have hy:=hI.1
  repeat (first|walk_at "s"|simp only[hd,s _ _ hp])
  have h0:0≤c%(ys.length:Int):=Y1r _ (by lia)
  have h1:c%(ys.length:Int)<ys.length:=Y18 _ (by lia)
  obtain⟨k,hk⟩:∃k:Nat,c%(ys.length:Int)=k:=⟨_,(Y1x h0).symm⟩
  have hkl:k<ys.length:=by lia
  obtain⟨I,hkI⟩:∃I,Is[k]?=some I:=⟨_,Y00 (show k<Is.length by lia)⟩
  obtain⟨ia,ib,ey,_⟩:=hI.2 k _ _ hkI (Y00 hkl)
  refine⟨⟨_,rfl⟩,by lia,_,by rw[hk];exact Z2g (Y00 hkl),?_⟩
  rw[ey]
  repeat (first|walk_at "s"|simp only[hd,s _ _ hp])
  rw[Y01,Y0J]
  refine⟨⟨by lia,by lia⟩,by lia,?_⟩
  refine(hJ _ _ _).mpr ⟨_,s.upd hr _,?_,rfl⟩
  rw[Z02,ht,Y0A]
  have e:Zff Is c=.tup [.str I.name,.int (c/(ys.length:Int)%1000000000000000000000000000000)]:=by
   unfold Zff Zin
   rw[<- hy,hk,Y1H,Y0j,Y06,hkI];rfl
  rw[<- e];rfl
 ·rintro σ M' h
  obtain⟨v3,s,hd,rfl⟩:=(hJ _ _ _).mp h
  have el:(Src.lst a (ns.map MV.int)).len=ns.length:=Y01 _
  rw[el,Y1i]at hd
  rw[Z7g]
  walk_at "s"
  exact q M' r s hr hd
theorem StdAt.own_at{W:Wld}{S:Std}{M:MH}{A:StA}(h:StdAt W S M A){c:Nat}(hS:SOk W c S){a:Addr}(ha:a∈A.own\/a∈A.ws):∃o,M a=some o:=by
 rcases ha with z|z
 ·unfold StA.own at z
  simp only[Y0f]at z
  rcases z with z|z|z|z|z
  ·exact⟨_,z▸h.n⟩
  ·exact⟨_,z▸h.w⟩
  ·exact⟨_,z▸h.g⟩
  ·exact⟨_,z▸h.t⟩
  ·obtain⟨j,hj,rfl⟩:=Y0x z
   have hj2:j<S.giv.length:=by rw[hS.gl,<- h.gl];exact hj
   exact⟨_,h.gv j _ _ (Y00 hj) (Y00 hj2)⟩
 ·obtain⟨j,hj,rfl⟩:=Y0x z
  have hj2:j<S.wd.length:=by rw[hS.wl,<- h.wl];exact hj
  exact⟨_,h.wv j _ _ (Y00 hj) (Y00 hj2)⟩
theorem StdAt.offd{W:Wld}{S:Std}{M:MH}{A:StA}(h:StdAt W S M A){D:Addr}(n1:D∉A.own)(n2:D∉A.ws)(o:MO):StdAt W S (updM M D o) A:=by
 have k:∀{a:Addr} {u:MO},a∈A.own\/a∈A.ws->M a=some u->updM M D o a=some u:=λha e=>by
  rw[Z06 λz=>by subst z;exact ha.elim n1 n2];exact e
 exact⟨k (.inl (by simp[StA.own])) h.n,k (.inl (by simp[StA.own])) h.w,k (.inl (by simp[StA.own])) h.g,k (.inl (by simp[StA.own])) h.t,h.wl,h.gl,
  λi a kv x y=>k (.inr (Y08 x)) (h.wv i a kv x y),λi a kv x y=>k (.inl (ZcI (Y08 x))) (h.gv i a kv x y)⟩
theorem ZlX{W:Wld}{S:Std}{R:Shp}{z:Str}{r:List (Nat×List (Key×MV))}(h:R[W.iat z]?=some r):cntV (Z7p W S R z)=(cntV R).set (W.iat z) (.int ((r.length:Int) - 1+1)):=by
 unfold cntV Z7p
 rw[Y2v,Y0j,h]
 have e:((((some r).getD []++[(S.num.getD (W.iat z) 0,S.wd.getD (W.iat z) [])]).length:Nat):Int) - 1=(r.length:Int) - 1+1:=by
  rw[Y0D];simp
 rw[e]
abbrev Z1u:SpM:=λvs M Q=>∃(W:Wld) (p:Addr) (ys:List MV) (n:Nat),vs=[W.mv,.ref p,.int n]/\W.Good/\n≤100/\M p=some (.lst ys)/\IslsIn M W.isl ys/\∀M' q,SameM M M'->M q=none->M' q=some (.dic (cntK W n))->Q (.ref q) M'
theorem Z2c:MonW Z1u:=by walk_at "m"
theorem Zbz(T:Txt K mg t):FnOk P w K mg base CX0 54 t.f__law_steps t.d__law_steps ["world","islands","rounds"] (liSp K Z1u):=by
 refine T.F__law_steps.okM Zbv (Z0G (Φ:=[("first_stand",Z12),("round_of",Z1O)]) (Z0H T) (Z0g T) rfl (fMc ⟨Z21,(fMc ⟨Z2L,(fun _ h=>nomatch h)⟩)⟩) (fMc ⟨⟨_,_,_,(FnOk.mono (Z5u T) (by decide)),T.m_first_stand,T.F_first_stand.kp,T.b_first_stand⟩,(fMc ⟨⟨_,_,_,(FnOk.mono (Z9h T) (by decide)),T.m_round_of,T.F_round_of.kp,T.b_round_of⟩,(fun _ h=>nomatch h)⟩)⟩):Fts P w K mg base 53 Z8E [("first_stand",Z12),("round_of",Z1O)]) Z3S ZbV (fun vs M Q h=>?_) (fun vs M Q h=>?_)
 ·obtain⟨_,_,_,_,rfl,_⟩:=h;rfl
 obtain⟨W,p,ys,n,rfl,G,hn,hp,hIs,q⟩:=h
 show wSs _ _ _ [some W.mv,some (.ref p),some (.int n),none,none,none,none,none,none] M
 have i5:=G.i5
 have li:W.ins.length=W.isl.length:=by unfold Wld.ins;rw[Y01]
 rw[Z3S,Z7f]
 walk_at "s"
 refine⟨W,rfl,G,λM1 A1 s1 h1=>?_⟩
 rw[Z7e]
 walk_at "s"
 intro pd hpd
 have s2:=SameM.new hpd (.dic [])
 have hd2:updM M1 pd (.dic []) pd=some (.dic []):=Z02
 generalize updM M1 pd _=M2 at*
 rw[Z7d]
 repeat (first|walk_at "s"|simp only[(s1.trans s2) _ _ hp])
 obtain⟨J,hJ⟩:∃J:Nat->Sm->MH->Prop,∀j σ M',J j σ M'↔∃v5,SameM M1 M'/\M' pd=some (.dic (zipK (W.ins.take j) ((W.isl.take j).map λ_=>.int 0)))/\σ=[some W.mv,some (.ref p),some (.int n),some A1.mv,some (.ref pd),v5,none,none,none]:=⟨_,λ_ _ _=>Y1A⟩
 refine⟨J,(hJ 0 _ _).mpr ⟨_,s2,hd2,rfl⟩,λj σ M' h=>?_,?_,?_⟩
 ·obtain⟨_,s,_⟩:=(hJ _ _ _).mp h
  exact(s1.trans s) _ _ hp
 ·rintro j u σ M' hu h
  obtain⟨v5,s,hd,rfl⟩:=(hJ _ _ _).mp h
  have hu:ys[j]?=some u:=hu
  have hj:j<W.isl.length:=by rw[<- hIs.1];exact(Y05.mp hu).1
  obtain⟨I,hI⟩:∃I,W.isl[j]?=some I:=⟨_,Y00 hj⟩
  obtain⟨ia,ib,rfl,_⟩:=hIs.2 j _ _ hI hu
  have lr:((W.isl.take j).map λ_=>MV.int 0).length=(W.ins.take j).length:=by rw[Y01,Y0J,Y0J,li]
  have hni:I.name∉W.ins.take j:=Z6N G.in_nd (Z70 hI)
  have tk:W.ins.take (j+1)=W.ins.take j++[I.name]:=by rw[Y0S,Z70 hI];rfl
  have tk2:W.isl.take (j+1)=W.isl.take j++[I]:=by rw[Y0S,hI];rfl
  rw[Z7c]
  repeat (first|walk_at "s"|simp only[hd])
  rw[Z3K lr,Y0J]
  refine⟨by lia,?_⟩
  refine(hJ _ _ _).mpr ⟨_,s.upd hpd _,?_,rfl⟩
  rw[Z02,Zi7 _ lr hni,tk,tk2,Y0A];rfl
 rintro σ M3 h
 obtain⟨v5,s3,hd3,rfl⟩:=(hJ _ _ _).mp h
 have el:(Src.lst p ys).len=W.isl.length:=hIs.1
 rw[el]at hd3
 conv at hd3=>rw[<- li,Y1i]
 rw[li,Y1i]at hd3
 have e0:zipK W.ins (W.isl.map λ_=>MV.int 0)=cntK W 0:=by
  unfold cntK cntV Z3t
  rw[Y0G];rfl
 rw[e0]at hd3
 clear hJ
 rw[Z7b]
 walk_at "s"
 obtain⟨J2,hJ2⟩:∃J2:Nat->Sm->MH->Prop,∀k σ M',J2 k σ M'↔∃A v5 v6 v7 v8,SameM M1 M'/\StdAt W (Z0i W k) M' A/\pd∉A.own/\pd∉A.ws/\M' pd=some (.dic (cntK W k))/\σ=[some W.mv,some (.ref p),some (.int n),some A.mv,some (.ref pd),v5,v6,v7,v8]:=⟨_,λ_ _ _=>Y1A⟩
 have hS0:=Zc8 G
 have no1:pd∉A1.own:=λz=>by obtain⟨o,ho⟩:=h1.own_at hS0 (.inl z);rw[hpd]at ho;cases ho
 have nw1:pd∉A1.ws:=λz=>by obtain⟨o,ho⟩:=h1.own_at hS0 (.inr z);rw[hpd]at ho;cases ho
 refine⟨by lia,by lia,J2,(hJ2 0 _ _).mpr ⟨A1,_,_,_,_,s3,h1.keep s3,no1,nw1,hd3,rfl⟩,λj σ M' h=>trivial,?_,?_⟩
 ·rintro k u σ M' hu h
  obtain⟨A,v5,v6,v7,v8,s,hA,no,nw,hd,rfl⟩:=(hJ2 _ _ _).mp h
  obtain⟨hk,rfl⟩:=Z5i hu
  rw[Z7a]
  walk_at "s"
  refine⟨W,Z0i W k,A,5*k,rfl,G,Z4g G k,by lia,hA,λM4 A4 q4 s4 h4 n4 w4 f4 d4=>?_⟩
  walk_at "s"
  rw[Z79]
  repeat (first|walk_at "s"|simp only[d4])
  obtain⟨hw1,hw2⟩:=Zdh G k
  have no4:pd∉A4.own:=λz=>neM hd (n4.fr _ z) rfl
  have nw4:pd∉A4.ws:=λz=>neM hd (w4 _ z) rfl
  have nq:q4≠pd:=(neM hd f4).symm
  obtain⟨J',hJ'⟩:∃J':Nat->Sm->MH->Prop,∀j σ M',J' j σ M'↔∃v8,SameM M1 M'/\StdAt W (Z0i W (k+1)) M' A4/\M' pd=some (.dic (zipK W.ins (cntV (addM W (Z0i W (k+1)) ((Z2s W (Z0i W k)).take j) (Z3t W k)))))/\M' q4=some (.lst ((Z2s W (Z0i W k)).map MV.str))/\σ=[some W.mv,some (.ref p),some (.int n),some A4.mv,some (.ref pd),v5,some (.int (0+(k:Nat))),some (.ref q4),v8]:=⟨_,λ_ _ _=>Y1A⟩
  refine⟨J',(hJ' 0 _ _).mpr ⟨_,s.trans s4,h4,s4 _ _ hd,d4,rfl⟩,λj σ M' h=>?_,?_,?_⟩
  ·obtain⟨_,_,_,_,e,_⟩:=(hJ' _ _ _).mp h
   exact e
  ·rintro j u σ M' hu h
   obtain⟨v8,s,h4,hd,d4,rfl⟩:=(hJ' _ _ _).mp h
   obtain⟨hj,rfl⟩:=Z0J (show((Z2s W (Z0i W k)).map MV.str)[j]?=some u from hu)
   obtain⟨z,hz⟩:∃z,(Z2s W (Z0i W k))[j]=z:=⟨_,rfl⟩
   have hzi:=hw1 _ (Y0p hj)
   have ht:addM W (Z0i W (k+1)) ((Z2s W (Z0i W k)).take (j+1)) (Z3t W k)=Z7p W (Z0i W (k+1)) (addM W (Z0i W (k+1)) ((Z2s W (Z0i W k)).take j) (Z3t W k)) z:=by
    rw[Y0S,Y00 hj,hz]
    unfold addM
    rw[Y1P];rfl
   rw[hz]at hzi ⊢
   obtain⟨hz1,I,hI,rfl⟩:=Zk8 hzi
   have kp:=(Z7q (W:=W) (S:=Z0i W (k+1)) ((Z2s W (Z0i W k)).take j) (Z5g G k).2).1
   rw[Z8X G k]at kp
   generalize addM W (Z0i W (k+1)) ((Z2s W (Z0i W k)).take j) (Z3t W k)=R at*
   have hi:W.iat I.name<W.ins.length:=(Y05.mp hz1).1
   obtain⟨r,hr⟩:∃r,R[W.iat I.name]?=some r:=⟨_,Y00 (by rw[kp];exact hi)⟩
   have lc:(cntV R).length=W.ins.length:=by unfold cntV;rw[Y01];exact kp
   rw[Z78]
   repeat (first|walk_at "s"|simp only[hd])
   refine⟨_,Z1F G.in_nd hz1 (by unfold cntV;rw[Y06,hr];rfl),?_⟩
   repeat (first|walk_at "s"|simp only[hd])
   rw[Z3K lc,Z56 lc G.in_nd hz1]
   refine⟨by lia,?_⟩
   refine(hJ' _ _ _).mpr ⟨_,s.upd hpd _,h4.offd no4 nw4 _,?_,?_,rfl⟩
   ·rw[Z02,ht,ZlX hr]
   ·rw[Z06 nq];exact d4
  ·rintro σ M' h
   obtain⟨v8,s,h4,hd,d4,rfl⟩:=(hJ' _ _ _).mp h
   refine(hJ2 _ _ _).mpr ⟨A4,_,_,_,_,s,h4,no4,nw4,?_,rfl⟩
   rw[hd]
   have el:(Src.lst q4 ((Z2s W (Z0i W k)).map MV.str)).len=(Z2s W (Z0i W k)).length:=Y01 _
   rw[el,Y1i];rfl
 ·rintro σ M' h
  obtain⟨A,v5,v6,v7,v8,s,hA,no,nw,hd,rfl⟩:=(hJ2 _ _ _).mp h
  rw[Z77]
  walk_at "s"
  exact q M' pd (s1.trans s) (s1.free hpd) hd
abbrev Z29:SpM:=λvs M Q=>∃(a b:Addr) (W:Wld) (n:Nat),vs=[.ref a,.ref b]/\W.Good/\M a=some (.dic (cntK W n))/\M b=some (.dic (cntK W n))/\∀M',SameM M M'->Q (.bl true) M'
theorem Z2O:MonW Z29:=by walk_at "m"
theorem Zdy(T:Txt K mg t):FnOk P w K mg base CX0 2 t.f__law_are t.d__law_are ["found","due"] (liSp K Z29):=by
 refine T.F__law_are.okM Zdu (Z0G (Φ:=[("_law_whole",Z1W)]) (Z0H T) (Z0g T) rfl (fMc ⟨Z3x,(fun _ h=>nomatch h)⟩) (fMc ⟨⟨_,_,_,(FnOk.mono (Zby T) (by decide)),T.m__law_whole,T.F__law_whole.kp,T.b__law_whole⟩,(fun _ h=>nomatch h)⟩):Fts P w K mg base 1 Zbl [("_law_whole",Z1W)]) Z6C Ze7 (fun vs M Q h=>?_) (fun vs M Q h=>?_)
 ·obtain⟨_,_,_,_,rfl,_⟩:=h;rfl
 obtain⟨a,b,W,n,rfl,G,ha,hb,q⟩:=h
 show wSs _ _ _ [some (.ref a),some (.ref b)] M
 have i5:=G.i5
 have li:W.ins.length=W.isl.length:=by unfold Wld.ins;rw[Y01]
 have hΦ:=(Z6T (Φ:=[("_law_whole",Z1W)]) (fMc ⟨Z3x,(fun _ h=>nomatch h)⟩))
 have lc:(cntV (Z3t W n)).length=W.ins.length:=by unfold cntV;rw[Y01];exact Z8X G n
 have nd:((cntK W n).map (·.1)).Nodup:=by unfold cntK;rw[Z3q lc];exact List.Pairwise.map _ (λ_ _ ne e=>ne (Y2c e)) G.in_nd
 rw[Z6C,Z9R]
 repeat (first|walk_at "s"|simp only[ha])
 refine ZeX rfl (Alike.dicFlat 0 ha hb nd (λp hp=>?_)) (by decide) ?_
 ·obtain⟨i,z,_,_,hv⟩:=Z93 (k:=p.1) (u:=p.2) hp
  unfold cntV at hv
  obtain⟨hi,e⟩:=Z0J hv
  rw[e];rfl
 rw[if_neg (by simp),Z9Q]
 walk_at "s"
 refine ZfH (W.ins.zip (Z3t W n)) (λx=>.str x.1) (λM2=>∃o,M2=updM M a (.fdic o (cntK W n))) ?_ ?_ hΦ λD M2 hD s2 hd=>?_
 ·repeat (first|walk_at "s"|simp only[ha])
  intro o
  refine⟨?_,by rw[Y1h];lia,.inr ⟨_,_,_,rfl,ha,rfl⟩,o,rfl⟩
  show(zipK W.ins (cntV (Z3t W n))).map (λp=>kM p.1)=_
  rw[Z57 lc]
  conv=>lhs;rw[<- Z2I (ks:=W.ins) (xs:=Z3t W n) (Z8X G n)]
  rw[Y0G];rfl
 ·rintro⟨z,r⟩ hx M2 M' ⟨o,rfl⟩ s
  obtain⟨i,i1,i2⟩:=Z5j hx
  have hw:=s _ _ (Z02 (M:=M))
  simp only[sCm,Y0h,Y0N,Y0s,Y0t,Y0B,Y0y]
  repeat (first|walk_at "s"|simp only[hw])
  refine⟨.int ((r.length:Int) - 1),Z1F G.in_nd i1 (by unfold cntV;rw[Y06,i2];rfl),?_⟩
  refine⟨_,rfl,?_⟩
  walk_at "s"
  rfl
 intro p hp
 walk_at "s"
 refine Zhx (SameM.new hp _ _ _ hd) Z02 ?_
 exact q _ (s2.trans (SameM.new hp _))
theorem ZnN(T:Txt K mg t):FnOk P w K mg base CX0 60 t.f_law t.d_law ["script"] (liSp K Zjz):=by
 refine T.F_law.okM Zmx (Z0G (Φ:=[("_law_are",Z29),("_law_rings",Z1v),("_law_steps",Z1u),("_law_things",Z1i),("bounds",Z3r),("made",Z7y),("stretches",Z18)]) (Z0H T) (Z0g T) rfl (fMc ⟨Z2O,(fMc ⟨Z2d,(fMc ⟨Z2c,(fMc ⟨Z22,(fMc ⟨Z3N,(fMc ⟨Z6t,(fMc ⟨Z1N,(fun _ h=>nomatch h)⟩)⟩)⟩)⟩)⟩)⟩)⟩) (fMc ⟨⟨_,_,_,(FnOk.mono (Zdy T) (by decide)),T.m__law_are,T.F__law_are.kp,T.b__law_are⟩,(fMc ⟨⟨_,_,_,(FnOk.mono (ZbA T) (by decide)),T.m__law_rings,T.F__law_rings.kp,T.b__law_rings⟩,(fMc ⟨⟨_,_,_,(FnOk.mono (Zbz T) (by decide)),T.m__law_steps,T.F__law_steps.kp,T.b__law_steps⟩,(fMc ⟨⟨_,_,_,(FnOk.mono (Zal T) (by decide)),T.m__law_things,T.F__law_things.kp,T.b__law_things⟩,(fMc ⟨⟨_,_,_,(FnOk.mono (ZgG T) (by decide)),T.m_bounds,T.F_bounds.kp,T.b_bounds⟩,(fMc ⟨⟨_,_,_,(FnOk.mono (Zla T) (by decide)),T.m_made,T.F_made.kp,T.b_made⟩,(fMc ⟨⟨_,_,_,(FnOk.mono (Z7U T) (by decide)),T.m_stretches,T.F_stretches.kp,T.b_stretches⟩,(fun _ h=>nomatch h)⟩)⟩)⟩)⟩)⟩)⟩)⟩):Fts P w K mg base 59 ZoA [("_law_are",Z29),("_law_rings",Z1v),("_law_steps",Z1u),("_law_things",Z1i),("bounds",Z3r),("made",Z7y),("stretches",Z18)]) Zh9 Zot (fun vs M Q h=>?_) (fun vs M Q h=>?_)
 ·obtain⟨ns,rfl,_⟩:=h;rfl
 obtain⟨ns,rfl,h63,q⟩:=h
 have hΦ:=(Z6T (Φ:=[("_law_are",Z29),("_law_rings",Z1v),("_law_steps",Z1u),("_law_things",Z1i),("bounds",Z3r),("made",Z7y),("stretches",Z18)]) (fMc ⟨Z2O,(fMc ⟨Z2d,(fMc ⟨Z2c,(fMc ⟨Z22,(fMc ⟨Z3N,(fMc ⟨Z6t,(fMc ⟨Z1N,(fun _ h=>nomatch h)⟩)⟩)⟩)⟩)⟩)⟩)⟩))
 show wSs _ _ _ [some (.frl (ns.map .int)),none,none,none,none,none,none,none,none,none,none] M
 have hΦ:=(Z6T (Φ:=[("_law_are",Z29),("_law_rings",Z1v),("_law_steps",Z1u),("_law_things",Z1i),("bounds",Z3r),("made",Z7y),("stretches",Z18)]) (fMc ⟨Z2O,(fMc ⟨Z2d,(fMc ⟨Z2c,(fMc ⟨Z22,(fMc ⟨Z3N,(fMc ⟨Z6t,(fMc ⟨Z1N,(fun _ h=>nomatch h)⟩)⟩)⟩)⟩)⟩)⟩)⟩))
 rw[Zh9,Zk6]
 walk_at "s"
 refine⟨ns,3,rfl,λW pi pf ys M1 s1 G i1 f1 f2 f3 hpi hIs hpf=>?_⟩
 have i5:=G.i5
 have f6:=G.f6
 walk_at "s"
 rw[Zk5]
 repeat (first|walk_at "s"|simp only[hpi])
 intro p1 hp1
 have s2:=SameM.new hp1 (.lst ys)
 have hp2:updM M1 p1 (.lst ys) p1=some (.lst ys):=Z02
 generalize updM M1 p1 _=M2 at*
 have hpf2:=s2 _ _ hpf
 repeat (first|walk_at "s"|simp only[hpf2])
 intro p2 hp3
 have s3:=SameM.new hp3 (.lst (W.fer.map Fer.mv))
 have hp4:updM M2 p2 (.lst (W.fer.map Fer.mv)) p2=some (.lst (W.fer.map Fer.mv)):=Z02
 generalize updM M2 p2 _=M3 at*
 refine⟨p1,p2,ys,W,rfl,s3 _ _ hp2,hIs.keep (s2.trans s3),hp4,G,λM4 s4=>?_⟩
 have s14:=(s2.trans s3).trans s4
 have hpi4:=s14 _ _ hpi
 have hpf4:=s14 _ _ hpf
 have hIs4:=hIs.keep s14
 obtain⟨cs,hcs,hcl⟩:∃cs:List Int,cutM (ns.map MV.int) (some 10) (some 90)=cs.map MV.int/\cs.length≤90:=by
  refine⟨(ns.drop (HT.sIx (ns.map MV.int).length 0 (some 10))).take (HT.sIx (ns.map MV.int).length (ns.map MV.int).length (some 90) - HT.sIx (ns.map MV.int).length 0 (some 10)),?_,?_⟩
  ·unfold cutM;rw[List.map_take,List.map_drop]
  ·rw[Y0J,Y2b];lia
 rw[Zk4]
 walk_at "s"
 refine ZcO cs (Zff W.isl) (λc=>.str (Zin W.isl c)) ?_ ?_ hΦ λpn M5 hpn s5 hd5=>?_
 ·walk_at "s"
  intro p hp
  rw[hcs]
  refine⟨p,pi,cs,ys,W.isl,rfl,Z02,SameM.new hp _ _ _ hpi4,hIs4.keep (SameM.new hp _),i1,i5,by lia,λM' r s hr hd=>?_⟩
  repeat (first|walk_at "s"|simp only[hd])
  exact⟨rfl,by lia,hd,λa o e=>s _ _ (SameM.new hp _ _ _ e)⟩
 ·intro c hc M' s
  simp only[sCm,Y0h,Y0N,Y0s,Y0t,Y0B,Y0y]
  repeat (first|walk_at "s"|simp only[Zff])
  exact λ_ _ e=>e
 have s5:SameM M4 M5:=s5
 obtain⟨nm,hnm⟩:∃nm:List Str,cs.map (Zin W.isl)=nm:=⟨_,rfl⟩
 have hnl:nm.length≤90:=by rw[<- hnm,Y01];exact hcl
 have hd5:M5 pn=some (.lst (nm.map MV.str)):=by rw[hd5,<- hnm,Y0G];rfl
 rw[Zk3]
 walk_at "s"
 rw[Zk2]
 have hpf5:=s5 _ _ hpf4
 repeat (first|walk_at "s"|simp only[hpf5])
 obtain⟨J,hJ⟩:∃J:Nat->Sm->MH->Prop,∀j σ M',J j σ M'↔∃v7,M'=M5/\σ=[some (.frl (ns.map MV.int)),some (.int W.w),some (.ref pi),some (.ref pf),some W.mv,some (.ref pn),some (.int (Z3O (W.fer.take j) 2:Nat)),v7,none,none,none]:=⟨_,λ_ _ _=>Y1A⟩
 refine⟨J,(hJ 0 _ _).mpr ⟨_,rfl,rfl⟩,λj σ M' h=>?_,?_,?_⟩
 ·obtain⟨_,rfl,_⟩:=(hJ _ _ _).mp h
  exact hpf5
 ·rintro j u σ M' hu h
  obtain⟨v7,rfl,rfl⟩:=(hJ _ _ _).mp h
  obtain⟨hj,rfl⟩:=Z0J (show(W.fer.map Fer.mv)[j]?=some u from hu)
  have tk:W.fer.take (j+1)=W.fer.take j++[W.fer[j]]:=by rw[Y0S,Y00 hj];rfl
  rw[Zk1]
  repeat (first|walk_at "s"|simp only[Fer.mv])
  have e:(if 2+((W.fer[j]).st:Int)>(Z3O (W.fer.take j) 2:Nat)then 2+((W.fer[j]).st:Int)else(Z3O (W.fer.take j) 2:Nat))=((Z3O (W.fer.take (j+1)) 2:Nat):Int):=by
   rw[tk,ZaP]
   generalize Z3O (W.fer.take j) 2=k
   generalize(W.fer[j]).st=m
   by_cases h:2+m>k
   ·rw[if_pos h,if_pos (by lia)];lia
   ·rw[if_neg h,if_neg (by lia)]
  rw[e]
  exact(hJ _ _ _).mpr ⟨_,rfl,rfl⟩
 rintro σ M6 h
 obtain⟨v7,rfl,rfl⟩:=(hJ _ _ _).mp h
 have el:(Src.lst pf (W.fer.map Fer.mv)).len=W.fer.length:=Y01 _
 rw[el,Y1i]
 clear hJ
 have eL:Z3O W.fer 2=Z6V W:=rfl
 rw[eL,Zk0]
 repeat (first|walk_at "s"|simp only[hd5])
 intro ph hph
 have s6:=SameM.new hph (.lst (nm.map MV.str))
 have hh6:updM M6 ph (.lst (nm.map MV.str)) ph=some (.lst (nm.map MV.str)):=Z02
 generalize updM M6 ph _=M7 at*
 rw[ZjZ]
 walk_at "s"
 refine⟨W,ph,nm,rfl,G,hh6,by lia,λM8 b1 b2 s8 n1 n2 n12 d1 d2=>?_⟩
 have s68:=s6.trans s8
 rw[ZjY]
 walk_at "s"
 refine ZeX rfl (Alike.lstFlat 0 (.inr ⟨_,rfl,s8 _ _ hh6⟩) (.inr ⟨_,rfl,s68 _ _ hd5⟩) λv hv=>?_) (by decide) ?_
 ·obtain⟨z,_,rfl⟩:=Y0r.mp hv;rfl
 rw[if_neg (by simp),Zhp]
 repeat (first|walk_at "s"|simp only[s68 _ _ hd5])
 intro pq hpq
 have s9:=SameM.new hpq (.lst (nm.map MV.str))
 have hq9:updM M8 pq (.lst (nm.map MV.str)) pq=some (.lst (nm.map MV.str)):=Z02
 generalize updM M8 pq _=M9 at*
 refine⟨W,pq,nm,rfl,G,hq9,by lia,λMa sa=>?_⟩
 walk_at "s"
 have hl:2≤Z6V W:=(Z6W W.fer 2).1
 have hl5:=ZgV G
 have hs:=Zbn W.ins nm (0,W.ins)
 have hq:(strM W.ins nm).1/Z6V W≤100:=Y0M (Nat.div_le_self _ _) (by unfold strM;lia)
 have s4a:=(s5.trans s68).trans (s9.trans sa)
 refine⟨⟨by lia,by lia⟩,W,pi,ys,(strM W.ins nm).1/Z6V W,by rw[Int.natCast_ediv],G,hq,s4a _ _ hpi4,hIs4.keep s4a,λMb pb sb hpb db=>?_⟩
 rw[Zho]
 walk_at "s"
 have s8b:=(s9.trans sa).trans sb
 refine⟨b1,pb,W,_,rfl,G,s8b _ _ d1,db,λMc sc=>?_⟩
 walk_at "s"
 rw[Zhn]
 have s8c:=s8b.trans sc
 have d1c:=s8c _ _ d1
 repeat (first|walk_at "s"|simp only[d1c])
 refine⟨⟨_,rfl⟩,?_⟩
 have s7:SameM M7 (updM Mc b1 (.dic [])):=(s8.trans s8c).upd n1 _
 have d2d:updM Mc b1 (.dic []) b2=some (.dic (cntK W nm.length)):=by rw[Z06 n12.symm];exact s8c _ _ d2
 generalize updM Mc b1 _=Md at*
 have s4d:=(s5.trans s6).trans s7
 rw[Zhm]
 repeat (first|walk_at "s"|simp only[(s6.trans s7) _ _ hd5])
 rw[Y01]
 refine⟨W,pi,ys,nm.length,rfl,G,by lia,s4d _ _ hpi4,hIs4.keep s4d,λMe pe se hpe de=>?_⟩
 walk_at "s"
 refine⟨b2,pe,W,nm.length,rfl,G,se _ _ d2d,de,λMf sf=>?_⟩
 exact q _
end
theorem all_mk{l:Y3q}{w:World}{K:Y02}{h:Heap}{mg:Str->Option Value}{fa:Addr}(X:K.In h)(G:h.Ns mainGlobals mg)(hfa:mg "law"=some (.ref fa))
  {f1:Addr} {od1 an1:Option Addr} {sl1:Array (Option Value)} {oc1 kV1 dc1 pm1 cd1 ct1:Value}
  {f2:Addr} {od2 an2:Option Addr} {sl2:Array (Option Value)} {oc2 kV2 dc2 pm2 cd2 ct2:Value}
  {f3:Addr} {od3 an3:Option Addr} {sl3:Array (Option Value)} {oc3 kV3 dc3 pm3 cd3 ct3:Value}
  {f4:Addr} {od4 an4:Option Addr} {sl4:Array (Option Value)} {oc4 kV4 dc4 pm4 cd4 ct4:Value}
  {f5:Addr} {od5 an5:Option Addr} {sl5:Array (Option Value)} {oc5 kV5 dc5 pm5 cd5 ct5:Value}
  {f6:Addr} {od6 an6:Option Addr} {sl6:Array (Option Value)} {oc6 kV6 dc6 pm6 cd6 ct6:Value}
  {f7:Addr} {od7 an7:Option Addr} {sl7:Array (Option Value)} {oc7 kV7 dc7 pm7 cd7 ct7:Value}
  {f8:Addr} {od8 an8:Option Addr} {sl8:Array (Option Value)} {oc8 kV8 dc8 pm8 cd8 ct8:Value}
  {f9:Addr} {od9 an9:Option Addr} {sl9:Array (Option Value)} {oc9 kV9 dc9 pm9 cd9 ct9:Value}
  {f10:Addr} {od10 an10:Option Addr} {sl10:Array (Option Value)} {oc10 kV10 dc10 pm10 cd10 ct10:Value}
  {f11:Addr} {od11 an11:Option Addr} {sl11:Array (Option Value)} {oc11 kV11 dc11 pm11 cd11 ct11:Value}
  {f12:Addr} {od12 an12:Option Addr} {sl12:Array (Option Value)} {oc12 kV12 dc12 pm12 cd12 ct12:Value}
  {f13:Addr} {od13 an13:Option Addr} {sl13:Array (Option Value)} {oc13 kV13 dc13 pm13 cd13 ct13:Value}
  {f14:Addr} {od14 an14:Option Addr} {sl14:Array (Option Value)} {oc14 kV14 dc14 pm14 cd14 ct14:Value}
  {f15:Addr} {od15 an15:Option Addr} {sl15:Array (Option Value)} {oc15 kV15 dc15 pm15 cd15 ct15:Value}
  {f16:Addr} {od16 an16:Option Addr} {sl16:Array (Option Value)} {oc16 kV16 dc16 pm16 cd16 ct16:Value}
  {f17:Addr} {od17 an17:Option Addr} {sl17:Array (Option Value)} {oc17 kV17 dc17 pm17 cd17 ct17:Value}
  {f18:Addr} {od18 an18:Option Addr} {sl18:Array (Option Value)} {oc18 kV18 dc18 pm18 cd18 ct18:Value}
  {f19:Addr} {od19 an19:Option Addr} {sl19:Array (Option Value)} {oc19 kV19 dc19 pm19 cd19 ct19:Value}
  {f20:Addr} {od20 an20:Option Addr} {sl20:Array (Option Value)} {oc20 kV20 dc20 pm20 cd20 ct20:Value}
  {f21:Addr} {od21 an21:Option Addr} {sl21:Array (Option Value)} {oc21 kV21 dc21 pm21 cd21 ct21:Value}
  {f22:Addr} {od22 an22:Option Addr} {sl22:Array (Option Value)} {oc22 kV22 dc22 pm22 cd22 ct22:Value}
  {f23:Addr} {od23 an23:Option Addr} {sl23:Array (Option Value)} {oc23 kV23 dc23 pm23 cd23 ct23:Value}
  {f24:Addr} {od24 an24:Option Addr} {sl24:Array (Option Value)} {oc24 kV24 dc24 pm24 cd24 ct24:Value}
  {f25:Addr} {od25 an25:Option Addr} {sl25:Array (Option Value)} {oc25 kV25 dc25 pm25 cd25 ct25:Value}
  {f26:Addr} {od26 an26:Option Addr} {sl26:Array (Option Value)} {oc26 kV26 dc26 pm26 cd26 ct26:Value}
  {f27:Addr} {od27 an27:Option Addr} {sl27:Array (Option Value)} {oc27 kV27 dc27 pm27 cd27 ct27:Value}
  {f28:Addr} {od28 an28:Option Addr} {sl28:Array (Option Value)} {oc28 kV28 dc28 pm28 cd28 ct28:Value}
  {f29:Addr} {od29 an29:Option Addr} {sl29:Array (Option Value)} {oc29 kV29 dc29 pm29 cd29 ct29:Value}
  {f30:Addr} {od30 an30:Option Addr} {sl30:Array (Option Value)} {oc30 kV30 dc30 pm30 cd30 ct30:Value}
  {f31:Addr} {od31 an31:Option Addr} {sl31:Array (Option Value)} {oc31 kV31 dc31 pm31 cd31 ct31:Value}
  {f32:Addr} {od32 an32:Option Addr} {sl32:Array (Option Value)} {oc32 kV32 dc32 pm32 cd32 ct32:Value}
  {f33:Addr} {od33 an33:Option Addr} {sl33:Array (Option Value)} {oc33 kV33 dc33 pm33 cd33 ct33:Value}
  {f34:Addr} {od34 an34:Option Addr} {sl34:Array (Option Value)} {oc34 kV34 dc34 pm34 cd34 ct34:Value}
  {f35:Addr} {od35 an35:Option Addr} {sl35:Array (Option Value)} {oc35 kV35 dc35 pm35 cd35 ct35:Value}
  {f36:Addr} {od36 an36:Option Addr} {sl36:Array (Option Value)} {oc36 kV36 dc36 pm36 cd36 ct36:Value}
  {f37:Addr} {od37 an37:Option Addr} {sl37:Array (Option Value)} {oc37 kV37 dc37 pm37 cd37 ct37:Value}
  {f38:Addr} {od38 an38:Option Addr} {sl38:Array (Option Value)} {oc38 kV38 dc38 pm38 cd38 ct38:Value}
  {f39:Addr} {od39 an39:Option Addr} {sl39:Array (Option Value)} {oc39 kV39 dc39 pm39 cd39 ct39:Value}
  {f40:Addr} {od40 an40:Option Addr} {sl40:Array (Option Value)} {oc40 kV40 dc40 pm40 cd40 ct40:Value}
  {f41:Addr} {od41 an41:Option Addr} {sl41:Array (Option Value)} {oc41 kV41 dc41 pm41 cd41 ct41:Value}
  {f42:Addr} {od42 an42:Option Addr} {sl42:Array (Option Value)} {oc42 kV42 dc42 pm42 cd42 ct42:Value}
  {f43:Addr} {od43 an43:Option Addr} {sl43:Array (Option Value)} {oc43 kV43 dc43 pm43 cd43 ct43:Value}
  {f44:Addr} {od44 an44:Option Addr} {sl44:Array (Option Value)} {oc44 kV44 dc44 pm44 cd44 ct44:Value}
  {f45:Addr} {od45 an45:Option Addr} {sl45:Array (Option Value)} {oc45 kV45 dc45 pm45 cd45 ct45:Value}
  {f46:Addr} {od46 an46:Option Addr} {sl46:Array (Option Value)} {oc46 kV46 dc46 pm46 cd46 ct46:Value}
  {f47:Addr} {od47 an47:Option Addr} {sl47:Array (Option Value)} {oc47 kV47 dc47 pm47 cd47 ct47:Value}
  {f48:Addr} {od48 an48:Option Addr} {sl48:Array (Option Value)} {oc48 kV48 dc48 pm48 cd48 ct48:Value}
  {f49:Addr} {od49 an49:Option Addr} {sl49:Array (Option Value)} {oc49 kV49 dc49 pm49 cd49 ct49:Value}
  {f50:Addr} {od50 an50:Option Addr} {sl50:Array (Option Value)} {oc50 kV50 dc50 pm50 cd50 ct50:Value}
  {f51:Addr} {od51 an51:Option Addr} {sl51:Array (Option Value)} {oc51 kV51 dc51 pm51 cd51 ct51:Value}
  {f52:Addr} {od52 an52:Option Addr} {sl52:Array (Option Value)} {oc52 kV52 dc52 pm52 cd52 ct52:Value}
  {f53:Addr} {od53 an53:Option Addr} {sl53:Array (Option Value)} {oc53 kV53 dc53 pm53 cd53 ct53:Value}
  {f54:Addr} {od54 an54:Option Addr} {sl54:Array (Option Value)} {oc54 kV54 dc54 pm54 cd54 ct54:Value}
  {tk1:Tok}
  {tk2:Tok}
  {tk3:Tok}
  {tk4:Tok}
  {tk5:Tok}
  {tk6:Tok}
  {tk7:Tok}
  {tk8:Tok}
  {tk9:Tok}
  {tk10:Tok}
  (a1:Y07 K mainGlobals "is_whole"=some (some (.ref f1))) (l1:K.lookup f1=some ⟨oc1,od1,.func (Y04 "is_whole" "is_whole" (Z03 Z0Y) (Z01 Z0Y) (Z00 Z0Y) .none kV1 dc1 pm1 an1 cd1 ct1),sl1⟩) (c1:Y0d K cd1 "is_whole"=true) (k1:Y0a K (.ref f1)=true)
  (a2:Y07 K mainGlobals "is_width"=some (some (.ref f2))) (l2:K.lookup f2=some ⟨oc2,od2,.func (Y04 "is_width" "is_width" (Z03 Z0X) (Z01 Z0X) (Z00 Z0X) .none kV2 dc2 pm2 an2 cd2 ct2),sl2⟩) (c2:Y0d K cd2 "is_width"=true) (k2:Y0a K (.ref f2)=true)
  (a3:Y07 K mainGlobals "two_to"=some (some (.ref f3))) (l3:K.lookup f3=some ⟨oc3,od3,.func (Y04 "two_to" "two_to" (Z03 Z1J) (Z01 Z1J) (Z00 Z1J) .none kV3 dc3 pm3 an3 cd3 ct3),sl3⟩) (c3:Y0d K cd3 "two_to"=true) (k3:Y0a K (.ref f3)=true)
  (a4:Y07 K mainGlobals "fits"=some (some (.ref f4))) (l4:K.lookup f4=some ⟨oc4,od4,.func (Y04 "fits" "fits" (Z03 Z42) (Z01 Z42) (Z00 Z42) .none kV4 dc4 pm4 an4 cd4 ct4),sl4⟩) (c4:Y0d K cd4 "fits"=true) (k4:Y0a K (.ref f4)=true)
  (a5:Y07 K mainGlobals "cut"=some (some (.ref f5))) (l5:K.lookup f5=some ⟨oc5,od5,.func (Y04 "cut" "cut" (Z03 Z8I) (Z01 Z8I) (Z00 Z8I) .none kV5 dc5 pm5 an5 cd5 ct5),sl5⟩) (c5:Y0d K cd5 "cut"=true) (k5:Y0a K (.ref f5)=true)
  (a6:Y07 K mainGlobals "parts_within"=some (some (.ref f6))) (l6:K.lookup f6=some ⟨oc6,od6,.func (Y04 "parts_within" "parts_within" (Z03 Z0m) (Z01 Z0m) (Z00 Z0m) .none kV6 dc6 pm6 an6 cd6 ct6),sl6⟩) (c6:Y0d K cd6 "parts_within"=true) (k6:Y0a K (.ref f6)=true)
  (a7:Y07 K mainGlobals "size_of"=some (some (.ref f7))) (l7:K.lookup f7=some ⟨oc7,od7,.func (Y04 "size_of" "size_of" (Z03 Z1d) (Z01 Z1d) (Z00 Z1d) .none kV7 dc7 pm7 an7 cd7 ct7),sl7⟩) (c7:Y0d K cd7 "size_of"=true) (k7:Y0a K (.ref f7)=true)
  (a8:Y07 K mainGlobals "names_read"=some (some (.ref f8))) (l8:K.lookup f8=some ⟨oc8,od8,.func (Y04 "names_read" "names_read" (Z03 Z0A) (Z01 Z0A) (Z00 Z0A) .none kV8 dc8 pm8 an8 cd8 ct8),sl8⟩) (c8:Y0d K cd8 "names_read"=true) (k8:Y0a K (.ref f8)=true)
  (a9:Y07 K mainGlobals "vars_in"=some (some (.ref f9))) (l9:K.lookup f9=some ⟨oc9,od9,.func (Y04 "vars_in" "vars_in" (Z03 Z1c) (Z01 Z1c) (Z00 Z1c) .none kV9 dc9 pm9 an9 cd9 ct9),sl9⟩) (c9:Y0d K cd9 "vars_in"=true) (k9:Y0a K (.ref f9)=true)
  (a10:Y07 K mainGlobals "worth_of_two"=some (some (.ref f10))) (l10:K.lookup f10=some ⟨oc10,od10,.func (Y04 "worth_of_two" "worth_of_two" (Z03 Z0j) (Z01 Z0j) (Z00 Z0j) .none kV10 dc10 pm10 an10 cd10 ct10),sl10⟩) (c10:Y0d K cd10 "worth_of_two"=true) (k10:Y0a K (.ref f10)=true)
  (a11:Y07 K mainGlobals "worth"=some (some (.ref f11))) (l11:K.lookup f11=some ⟨oc11,od11,.func (Y04 "worth" "worth" (Z03 Z2u) (Z01 Z2u) (Z00 Z2u) .none kV11 dc11 pm11 an11 cd11 ct11),sl11⟩) (c11:Y0d K cd11 "worth"=true) (k11:Y0a K (.ref f11)=true)
  (a12:Y07 K mainGlobals "wish"=some (some (.ref f12))) (l12:K.lookup f12=some ⟨oc12,od12,.func (Y04 "wish" "wish" (Z03 Z40) (Z01 Z40) (Z00 Z40) .none kV12 dc12 pm12 an12 cd12 ct12),sl12⟩) (c12:Y0d K cd12 "wish"=true) (k12:Y0a K (.ref f12)=true)
  (a13:Y07 K mainGlobals "number_after"=some (some (.ref f13))) (l13:K.lookup f13=some ⟨oc13,od13,.func (Y04 "number_after" "number_after" (Z03 Z0n) (Z01 Z0n) (Z00 Z0n) .none kV13 dc13 pm13 an13 cd13 ct13),sl13⟩) (c13:Y0d K cd13 "number_after"=true) (k13:Y0a K (.ref f13)=true)
  (a14:Y07 K mainGlobals "words_after"=some (some (.ref f14))) (l14:K.lookup f14=some ⟨oc14,od14,.func (Y04 "words_after" "words_after" (Z03 Z0p) (Z01 Z0p) (Z00 Z0p) .none kV14 dc14 pm14 an14 cd14 ct14),sl14⟩) (c14:Y0d K cd14 "words_after"=true) (k14:Y0a K (.ref f14)=true)
  (a15:Y07 K mainGlobals "after"=some (some (.ref f15))) (l15:K.lookup f15=some ⟨oc15,od15,.func (Y04 "after" "after" (Z03 Z2w) (Z01 Z2w) (Z00 Z2w) .none kV15 dc15 pm15 an15 cd15 ct15),sl15⟩) (c15:Y0d K cd15 "after"=true) (k15:Y0a K (.ref f15)=true)
  (a16:Y07 K mainGlobals "is_name"=some (some (.ref f16))) (l16:K.lookup f16=some ⟨oc16,od16,.func (Y04 "is_name" "is_name" (Z03 Z1e) (Z01 Z1e) (Z00 Z1e) .none kV16 dc16 pm16 an16 cd16 ct16),sl16⟩) (c16:Y0d K cd16 "is_name"=true) (k16:Y0a K (.ref f16)=true)
  (a17:Y07 K mainGlobals "refuse_name"=some (some (.ref f17))) (l17:K.lookup f17=some ⟨oc17,od17,.func (Y04 "refuse_name" "refuse_name" (Z03 Z0s) (Z01 Z0s) (Z00 Z0s) .none kV17 dc17 pm17 an17 cd17 ct17),sl17⟩) (c17:Y0d K cd17 "refuse_name"=true) (k17:Y0a K (.ref f17)=true)
  (a18:Y07 K mainGlobals "refuse_unknown"=some (some (.ref f18))) (l18:K.lookup f18=some ⟨oc18,od18,.func (Y04 "refuse_unknown" "refuse_unknown" (Z03 Z0e) (Z01 Z0e) (Z00 Z0e) .none kV18 dc18 pm18 an18 cd18 ct18),sl18⟩) (c18:Y0d K cd18 "refuse_unknown"=true) (k18:Y0a K (.ref f18)=true)
  (a19:Y07 K mainGlobals "refuse_ferry_names"=some (some (.ref f19))) (l19:K.lookup f19=some ⟨oc19,od19,.func (Y04 "refuse_ferry_names" "refuse_ferry_names" (Z03 Z08) (Z01 Z08) (Z00 Z08) .none kV19 dc19 pm19 an19 cd19 ct19),sl19⟩) (c19:Y0d K cd19 "refuse_ferry_names"=true) (k19:Y0a K (.ref f19)=true)
  (a20:Y07 K mainGlobals "refuse_variables"=some (some (.ref f20))) (l20:K.lookup f20=some ⟨oc20,od20,.func (Y04 "refuse_variables" "refuse_variables" (Z03 Z0d) (Z01 Z0d) (Z00 Z0d) .none kV20 dc20 pm20 an20 cd20 ct20),sl20⟩) (c20:Y0d K cd20 "refuse_variables"=true) (k20:Y0a K (.ref f20)=true)
  (a21:Y07 K mainGlobals "refuse_term"=some (some (.ref f21))) (l21:K.lookup f21=some ⟨oc21,od21,.func (Y04 "refuse_term" "refuse_term" (Z03 Z0q) (Z01 Z0q) (Z00 Z0q) .none kV21 dc21 pm21 an21 cd21 ct21),sl21⟩) (c21:Y0d K cd21 "refuse_term"=true) (k21:Y0a K (.ref f21)=true)
  (a22:Y07 K mainGlobals "refuse_step"=some (some (.ref f22))) (l22:K.lookup f22=some ⟨oc22,od22,.func (Y04 "refuse_step" "refuse_step" (Z03 Z0r) (Z01 Z0r) (Z00 Z0r) .none kV22 dc22 pm22 an22 cd22 ct22),sl22⟩) (c22:Y0d K cd22 "refuse_step"=true) (k22:Y0a K (.ref f22)=true)
  (a23:Y07 K mainGlobals "refuse_island"=some (some (.ref f23))) (l23:K.lookup f23=some ⟨oc23,od23,.func (Y04 "refuse_island" "refuse_island" (Z03 Z0h) (Z01 Z0h) (Z00 Z0h) .none kV23 dc23 pm23 an23 cd23 ct23),sl23⟩) (c23:Y0d K cd23 "refuse_island"=true) (k23:Y0a K (.ref f23)=true)
  (a24:Y07 K mainGlobals "refuse_islands"=some (some (.ref f24))) (l24:K.lookup f24=some ⟨oc24,od24,.func (Y04 "refuse_islands" "refuse_islands" (Z03 Z0f) (Z01 Z0f) (Z00 Z0f) .none kV24 dc24 pm24 an24 cd24 ct24),sl24⟩) (c24:Y0d K cd24 "refuse_islands"=true) (k24:Y0a K (.ref f24)=true)
  (a25:Y07 K mainGlobals "refuse_ferry"=some (some (.ref f25))) (l25:K.lookup f25=some ⟨oc25,od25,.func (Y04 "refuse_ferry" "refuse_ferry" (Z03 Z0l) (Z01 Z0l) (Z00 Z0l) .none kV25 dc25 pm25 an25 cd25 ct25),sl25⟩) (c25:Y0d K cd25 "refuse_ferry"=true) (k25:Y0a K (.ref f25)=true)
  (a26:Y07 K mainGlobals "refuse_wrong_end"=some (some (.ref f26))) (l26:K.lookup f26=some ⟨oc26,od26,.func (Y04 "refuse_wrong_end" "refuse_wrong_end" (Z03 Z0c) (Z01 Z0c) (Z00 Z0c) .none kV26 dc26 pm26 an26 cd26 ct26),sl26⟩) (c26:Y0d K cd26 "refuse_wrong_end"=true) (k26:Y0a K (.ref f26)=true)
  (a27:Y07 K mainGlobals "refuse_wrong_ends"=some (some (.ref f27))) (l27:K.lookup f27=some ⟨oc27,od27,.func (Y04 "refuse_wrong_ends" "refuse_wrong_ends" (Z03 Z0b) (Z01 Z0b) (Z00 Z0b) .none kV27 dc27 pm27 an27 cd27 ct27),sl27⟩) (c27:Y0d K cd27 "refuse_wrong_ends"=true) (k27:Y0a K (.ref f27)=true)
  (a28:Y07 K mainGlobals "frozen"=some (some (.ref f28))) (l28:K.lookup f28=some ⟨oc28,od28,.func (Y04 "frozen" "frozen" (Z03 Z1K) (Z01 Z1K) (Z00 Z1K) .none kV28 dc28 pm28 an28 cd28 ct28),sl28⟩) (c28:Y0d K cd28 "frozen"=true) (k28:Y0a K (.ref f28)=true)
  (a29:Y07 K mainGlobals "made"=some (some (.ref f29))) (l29:K.lookup f29=some ⟨oc29,od29,.func (Y04 "made" "made" (Z03 Z41) (Z01 Z41) (Z00 Z41) .none kV29 dc29 pm29 an29 cd29 ct29),sl29⟩) (c29:Y0d K cd29 "made"=true) (k29:Y0a K (.ref f29)=true)
  (a30:Y07 K mainGlobals "one_called"=some (some (.ref f30))) (l30:K.lookup f30=some ⟨oc30,od30,.func (Y04 "one_called" "one_called" (Z03 Z0z) (Z01 Z0z) (Z00 Z0z) .none kV30 dc30 pm30 an30 cd30 ct30),sl30⟩) (c30:Y0d K cd30 "one_called"=true) (k30:Y0a K (.ref f30)=true)
  (a31:Y07 K mainGlobals "island_of"=some (some (.ref f31))) (l31:K.lookup f31=some ⟨oc31,od31,.func (Y04 "island_of" "island_of" (Z03 Z0L) (Z01 Z0L) (Z00 Z0L) .none kV31 dc31 pm31 an31 cd31 ct31),sl31⟩) (c31:Y0d K cd31 "island_of"=true) (k31:Y0a K (.ref f31)=true)
  (a32:Y07 K mainGlobals "ferry_of"=some (some (.ref f32))) (l32:K.lookup f32=some ⟨oc32,od32,.func (Y04 "ferry_of" "ferry_of" (Z03 Z0Z) (Z01 Z0Z) (Z00 Z0Z) .none kV32 dc32 pm32 an32 cd32 ct32),sl32⟩) (c32:Y0d K cd32 "ferry_of"=true) (k32:Y0a K (.ref f32)=true)
  (a33:Y07 K mainGlobals "first_stand"=some (some (.ref f33))) (l33:K.lookup f33=some ⟨oc33,od33,.func (Y04 "first_stand" "first_stand" (Z03 Z0t) (Z01 Z0t) (Z00 Z0t) .none kV33 dc33 pm33 an33 cd33 ct33),sl33⟩) (c33:Y0d K cd33 "first_stand"=true) (k33:Y0a K (.ref f33)=true)
  (a34:Y07 K mainGlobals "copy_of"=some (some (.ref f34))) (l34:K.lookup f34=some ⟨oc34,od34,.func (Y04 "copy_of" "copy_of" (Z03 Z1g) (Z01 Z1g) (Z00 Z1g) .none kV34 dc34 pm34 an34 cd34 ct34),sl34⟩) (c34:Y0d K cd34 "copy_of"=true) (k34:Y0a K (.ref f34)=true)
  (a35:Y07 K mainGlobals "wish_of"=some (some (.ref f35))) (l35:K.lookup f35=some ⟨oc35,od35,.func (Y04 "wish_of" "wish_of" (Z03 Z1b) (Z01 Z1b) (Z00 Z1b) .none kV35 dc35 pm35 an35 cd35 ct35),sl35⟩) (c35:Y0d K cd35 "wish_of"=true) (k35:Y0a K (.ref f35)=true)
  (a36:Y07 K mainGlobals "can_be"=some (some (.ref f36))) (l36:K.lookup f36=some ⟨oc36,od36,.func (Y04 "can_be" "can_be" (Z03 Z1L) (Z01 Z1L) (Z00 Z1L) .none kV36 dc36 pm36 an36 cd36 ct36),sl36⟩) (c36:Y0d K cd36 "can_be"=true) (k36:Y0a K (.ref f36)=true)
  (a37:Y07 K mainGlobals "do_step"=some (some (.ref f37))) (l37:K.lookup f37=some ⟨oc37,od37,.func (Y04 "do_step" "do_step" (Z03 Z1f) (Z01 Z1f) (Z00 Z1f) .none kV37 dc37 pm37 an37 cd37 ct37),sl37⟩) (c37:Y0d K cd37 "do_step"=true) (k37:Y0a K (.ref f37)=true)
  (a38:Y07 K mainGlobals "round_of"=some (some (.ref f38))) (l38:K.lookup f38=some ⟨oc38,od38,.func (Y04 "round_of" "round_of" (Z03 Z0W) (Z01 Z0W) (Z00 Z0W) .none kV38 dc38 pm38 an38 cd38 ct38),sl38⟩) (c38:Y0d K cd38 "round_of"=true) (k38:Y0a K (.ref f38)=true)
  (a39:Y07 K mainGlobals "stretches"=some (some (.ref f39))) (l39:K.lookup f39=some ⟨oc39,od39,.func (Y04 "stretches" "stretches" (Z03 Z0K) (Z01 Z0K) (Z00 Z0K) .none kV39 dc39 pm39 an39 cd39 ct39),sl39⟩) (c39:Y0d K cd39 "stretches"=true) (k39:Y0a K (.ref f39)=true)
  (a40:Y07 K mainGlobals "track"=some (some (.ref f40))) (l40:K.lookup f40=some ⟨oc40,od40,.func (Y04 "track" "track" (Z03 Z2v) (Z01 Z2v) (Z00 Z2v) .none kV40 dc40 pm40 an40 cd40 ct40),sl40⟩) (c40:Y0d K cd40 "track"=true) (k40:Y0a K (.ref f40)=true)
  (a41:Y07 K mainGlobals "steps_behind"=some (some (.ref f41))) (l41:K.lookup f41=some ⟨oc41,od41,.func (Y04 "steps_behind" "steps_behind" (Z03 Z0k) (Z01 Z0k) (Z00 Z0k) .none kV41 dc41 pm41 an41 cd41 ct41),sl41⟩) (c41:Y0d K cd41 "steps_behind"=true) (k41:Y0a K (.ref f41)=true)
  (a42:Y07 K mainGlobals "stretches_a_round"=some (some (.ref f42))) (l42:K.lookup f42=some ⟨oc42,od42,.func (Y04 "stretches_a_round" "stretches_a_round" (Z03 Z0a) (Z01 Z0a) (Z00 Z0a) .none kV42 dc42 pm42 an42 cd42 ct42),sl42⟩) (c42:Y0d K cd42 "stretches_a_round"=true) (k42:Y0a K (.ref f42)=true)
  (a43:Y07 K mainGlobals "bounds"=some (some (.ref f43))) (l43:K.lookup f43=some ⟨oc43,od43,.func (Y04 "bounds" "bounds" (Z03 Z1M) (Z01 Z1M) (Z00 Z1M) .none kV43 dc43 pm43 an43 cd43 ct43),sl43⟩) (c43:Y0d K cd43 "bounds"=true) (k43:Y0a K (.ref f43)=true)
  (a44:Y07 K mainGlobals "_law_cell_at"=some (some (.ref f44))) (l44:K.lookup f44=some ⟨oc44,od44,.func (Y04 "_law_cell_at" "_law_cell_at" (Z03 Z0o) (Z01 Z0o) (Z00 Z0o) .none kV44 dc44 pm44 an44 cd44 ct44),sl44⟩) (c44:Y0d K cd44 "_law_cell_at"=true) (k44:Y0a K (.ref f44)=true)
  (a45:Y07 K mainGlobals "_law_whole"=some (some (.ref f45))) (l45:K.lookup f45=some ⟨oc45,od45,.func (Y04 "_law_whole" "_law_whole" (Z03 Z0B) (Z01 Z0B) (Z00 Z0B) .none kV45 dc45 pm45 an45 cd45 ct45),sl45⟩) (c45:Y0d K cd45 "_law_whole"=true) (k45:Y0a K (.ref f45)=true)
  (a46:Y07 K mainGlobals "_law_name"=some (some (.ref f46))) (l46:K.lookup f46=some ⟨oc46,od46,.func (Y04 "_law_name" "_law_name" (Z03 Z0O) (Z01 Z0O) (Z00 Z0O) .none kV46 dc46 pm46 an46 cd46 ct46),sl46⟩) (c46:Y0d K cd46 "_law_name"=true) (k46:Y0a K (.ref f46)=true)
  (a47:Y07 K mainGlobals "_law_term"=some (some (.ref f47))) (l47:K.lookup f47=some ⟨oc47,od47,.func (Y04 "_law_term" "_law_term" (Z03 Z0M) (Z01 Z0M) (Z00 Z0M) .none kV47 dc47 pm47 an47 cd47 ct47),sl47⟩) (c47:Y0d K cd47 "_law_term"=true) (k47:Y0a K (.ref f47)=true)
  (a48:Y07 K mainGlobals "_law_step"=some (some (.ref f48))) (l48:K.lookup f48=some ⟨oc48,od48,.func (Y04 "_law_step" "_law_step" (Z03 Z0N) (Z01 Z0N) (Z00 Z0N) .none kV48 dc48 pm48 an48 cd48 ct48),sl48⟩) (c48:Y0d K cd48 "_law_step"=true) (k48:Y0a K (.ref f48)=true)
  (a49:Y07 K mainGlobals "_law_island"=some (some (.ref f49))) (l49:K.lookup f49=some ⟨oc49,od49,.func (Y04 "_law_island" "_law_island" (Z03 Z0v) (Z01 Z0v) (Z00 Z0v) .none kV49 dc49 pm49 an49 cd49 ct49),sl49⟩) (c49:Y0d K cd49 "_law_island"=true) (k49:Y0a K (.ref f49)=true)
  (a50:Y07 K mainGlobals "_law_things"=some (some (.ref f50))) (l50:K.lookup f50=some ⟨oc50,od50,.func (Y04 "_law_things" "_law_things" (Z03 Z0u) (Z01 Z0u) (Z00 Z0u) .none kV50 dc50 pm50 an50 cd50 ct50),sl50⟩) (c50:Y0d K cd50 "_law_things"=true) (k50:Y0a K (.ref f50)=true)
  (a51:Y07 K mainGlobals "_law_rings"=some (some (.ref f51))) (l51:K.lookup f51=some ⟨oc51,od51,.func (Y04 "_law_rings" "_law_rings" (Z03 Z0D) (Z01 Z0D) (Z00 Z0D) .none kV51 dc51 pm51 an51 cd51 ct51),sl51⟩) (c51:Y0d K cd51 "_law_rings"=true) (k51:Y0a K (.ref f51)=true)
  (a52:Y07 K mainGlobals "_law_steps"=some (some (.ref f52))) (l52:K.lookup f52=some ⟨oc52,od52,.func (Y04 "_law_steps" "_law_steps" (Z03 Z0C) (Z01 Z0C) (Z00 Z0C) .none kV52 dc52 pm52 an52 cd52 ct52),sl52⟩) (c52:Y0d K cd52 "_law_steps"=true) (k52:Y0a K (.ref f52)=true)
  (a53:Y07 K mainGlobals "_law_are"=some (some (.ref f53))) (l53:K.lookup f53=some ⟨oc53,od53,.func (Y04 "_law_are" "_law_are" (Z03 Z10) (Z01 Z10) (Z00 Z10) .none kV53 dc53 pm53 an53 cd53 ct53),sl53⟩) (c53:Y0d K cd53 "_law_are"=true) (k53:Y0a K (.ref f53)=true)
  (a54:Y07 K mainGlobals "law"=some (some (.ref f54))) (l54:K.lookup f54=some ⟨oc54,od54,.func (Y04 "law" "law" (Z03 Z6n) (Z01 Z6n) (Z00 Z6n) .none kV54 dc54 pm54 an54 cd54 ct54),sl54⟩) (c54:Y0d K cd54 "law"=true) (k54:Y0a K (.ref f54)=true)
  (z1:Y07 K mainGlobals "all"=some none)
  (z2:Y07 K mainGlobals "bool"=some none)
  (z3:Y07 K mainGlobals "dict"=some none)
  (z4:Y07 K mainGlobals "int"=some none)
  (z5:Y07 K mainGlobals "isinstance"=some none)
  (z6:Y07 K mainGlobals "len"=some none)
  (z7:Y07 K mainGlobals "list"=some none)
  (z8:Y07 K mainGlobals "max"=some none)
  (z9:Y07 K mainGlobals "min"=some none)
  (z10:Y07 K mainGlobals "range"=some none)
  (z11:Y07 K mainGlobals "set"=some none)
  (z12:Y07 K mainGlobals "sorted"=some none)
  (z13:Y07 K mainGlobals "tuple"=some none)
  (g1:Y07 K mainGlobals "MOST_WIDTH"=some (some (.int 64 tk1)))
  (g2:Y07 K mainGlobals "MOST_LETTERS"=some (some (.int 8 tk2)))
  (g3:Y07 K mainGlobals "MOST_ISLANDS"=some (some (.int 5 tk3)))
  (g4:Y07 K mainGlobals "MOST_FERRIES"=some (some (.int 6 tk4)))
  (g5:Y07 K mainGlobals "MOST_VARS"=some (some (.int 6 tk5)))
  (g6:Y07 K mainGlobals "MOST_STEPS"=some (some (.int 12 tk6)))
  (g7:Y07 K mainGlobals "MOST_PARTS"=some (some (.int 30 tk7)))
  (g8:Y07 K mainGlobals "MOST_DEPTH"=some (some (.int 8 tk8)))
  (g9:Y07 K mainGlobals "MOST_K"=some (some (.int 3 tk9)))
  (g10:Y07 K mainGlobals "MOST_STAGES"=some (some (.int 3 tk10))):
  ∃fd:FuncData,(∀(s:Shared) (v:Value),BindsTo s fd ⟨[v],[]⟩ [("script",v)])/\∀base:Heap,K.In base->base.Ns mainGlobals mg->FnOk l.prog w K mg base CX0 60 fa fd ["script"] (Zel K):=by
 have e:=hfa.symm.trans (Y0c X G a54)
 cases e
 have T:Txt K mg ⟨f1,Y04 "is_whole" "is_whole" (Z03 Z0Y) (Z01 Z0Y) (Z00 Z0Y) .none kV1 dc1 pm1 an1 cd1 ct1,f2,Y04 "is_width" "is_width" (Z03 Z0X) (Z01 Z0X) (Z00 Z0X) .none kV2 dc2 pm2 an2 cd2 ct2,f3,Y04 "two_to" "two_to" (Z03 Z1J) (Z01 Z1J) (Z00 Z1J) .none kV3 dc3 pm3 an3 cd3 ct3,f4,Y04 "fits" "fits" (Z03 Z42) (Z01 Z42) (Z00 Z42) .none kV4 dc4 pm4 an4 cd4 ct4,f5,Y04 "cut" "cut" (Z03 Z8I) (Z01 Z8I) (Z00 Z8I) .none kV5 dc5 pm5 an5 cd5 ct5,f6,Y04 "parts_within" "parts_within" (Z03 Z0m) (Z01 Z0m) (Z00 Z0m) .none kV6 dc6 pm6 an6 cd6 ct6,f7,Y04 "size_of" "size_of" (Z03 Z1d) (Z01 Z1d) (Z00 Z1d) .none kV7 dc7 pm7 an7 cd7 ct7,f8,Y04 "names_read" "names_read" (Z03 Z0A) (Z01 Z0A) (Z00 Z0A) .none kV8 dc8 pm8 an8 cd8 ct8,f9,Y04 "vars_in" "vars_in" (Z03 Z1c) (Z01 Z1c) (Z00 Z1c) .none kV9 dc9 pm9 an9 cd9 ct9,f10,Y04 "worth_of_two" "worth_of_two" (Z03 Z0j) (Z01 Z0j) (Z00 Z0j) .none kV10 dc10 pm10 an10 cd10 ct10,f11,Y04 "worth" "worth" (Z03 Z2u) (Z01 Z2u) (Z00 Z2u) .none kV11 dc11 pm11 an11 cd11 ct11,f12,Y04 "wish" "wish" (Z03 Z40) (Z01 Z40) (Z00 Z40) .none kV12 dc12 pm12 an12 cd12 ct12,f13,Y04 "number_after" "number_after" (Z03 Z0n) (Z01 Z0n) (Z00 Z0n) .none kV13 dc13 pm13 an13 cd13 ct13,f14,Y04 "words_after" "words_after" (Z03 Z0p) (Z01 Z0p) (Z00 Z0p) .none kV14 dc14 pm14 an14 cd14 ct14,f15,Y04 "after" "after" (Z03 Z2w) (Z01 Z2w) (Z00 Z2w) .none kV15 dc15 pm15 an15 cd15 ct15,f16,Y04 "is_name" "is_name" (Z03 Z1e) (Z01 Z1e) (Z00 Z1e) .none kV16 dc16 pm16 an16 cd16 ct16,f17,Y04 "refuse_name" "refuse_name" (Z03 Z0s) (Z01 Z0s) (Z00 Z0s) .none kV17 dc17 pm17 an17 cd17 ct17,f18,Y04 "refuse_unknown" "refuse_unknown" (Z03 Z0e) (Z01 Z0e) (Z00 Z0e) .none kV18 dc18 pm18 an18 cd18 ct18,f19,Y04 "refuse_ferry_names" "refuse_ferry_names" (Z03 Z08) (Z01 Z08) (Z00 Z08) .none kV19 dc19 pm19 an19 cd19 ct19,f20,Y04 "refuse_variables" "refuse_variables" (Z03 Z0d) (Z01 Z0d) (Z00 Z0d) .none kV20 dc20 pm20 an20 cd20 ct20,f21,Y04 "refuse_term" "refuse_term" (Z03 Z0q) (Z01 Z0q) (Z00 Z0q) .none kV21 dc21 pm21 an21 cd21 ct21,f22,Y04 "refuse_step" "refuse_step" (Z03 Z0r) (Z01 Z0r) (Z00 Z0r) .none kV22 dc22 pm22 an22 cd22 ct22,f23,Y04 "refuse_island" "refuse_island" (Z03 Z0h) (Z01 Z0h) (Z00 Z0h) .none kV23 dc23 pm23 an23 cd23 ct23,f24,Y04 "refuse_islands" "refuse_islands" (Z03 Z0f) (Z01 Z0f) (Z00 Z0f) .none kV24 dc24 pm24 an24 cd24 ct24,f25,Y04 "refuse_ferry" "refuse_ferry" (Z03 Z0l) (Z01 Z0l) (Z00 Z0l) .none kV25 dc25 pm25 an25 cd25 ct25,f26,Y04 "refuse_wrong_end" "refuse_wrong_end" (Z03 Z0c) (Z01 Z0c) (Z00 Z0c) .none kV26 dc26 pm26 an26 cd26 ct26,f27,Y04 "refuse_wrong_ends" "refuse_wrong_ends" (Z03 Z0b) (Z01 Z0b) (Z00 Z0b) .none kV27 dc27 pm27 an27 cd27 ct27,f28,Y04 "frozen" "frozen" (Z03 Z1K) (Z01 Z1K) (Z00 Z1K) .none kV28 dc28 pm28 an28 cd28 ct28,f29,Y04 "made" "made" (Z03 Z41) (Z01 Z41) (Z00 Z41) .none kV29 dc29 pm29 an29 cd29 ct29,f30,Y04 "one_called" "one_called" (Z03 Z0z) (Z01 Z0z) (Z00 Z0z) .none kV30 dc30 pm30 an30 cd30 ct30,f31,Y04 "island_of" "island_of" (Z03 Z0L) (Z01 Z0L) (Z00 Z0L) .none kV31 dc31 pm31 an31 cd31 ct31,f32,Y04 "ferry_of" "ferry_of" (Z03 Z0Z) (Z01 Z0Z) (Z00 Z0Z) .none kV32 dc32 pm32 an32 cd32 ct32,f33,Y04 "first_stand" "first_stand" (Z03 Z0t) (Z01 Z0t) (Z00 Z0t) .none kV33 dc33 pm33 an33 cd33 ct33,f34,Y04 "copy_of" "copy_of" (Z03 Z1g) (Z01 Z1g) (Z00 Z1g) .none kV34 dc34 pm34 an34 cd34 ct34,f35,Y04 "wish_of" "wish_of" (Z03 Z1b) (Z01 Z1b) (Z00 Z1b) .none kV35 dc35 pm35 an35 cd35 ct35,f36,Y04 "can_be" "can_be" (Z03 Z1L) (Z01 Z1L) (Z00 Z1L) .none kV36 dc36 pm36 an36 cd36 ct36,f37,Y04 "do_step" "do_step" (Z03 Z1f) (Z01 Z1f) (Z00 Z1f) .none kV37 dc37 pm37 an37 cd37 ct37,f38,Y04 "round_of" "round_of" (Z03 Z0W) (Z01 Z0W) (Z00 Z0W) .none kV38 dc38 pm38 an38 cd38 ct38,f39,Y04 "stretches" "stretches" (Z03 Z0K) (Z01 Z0K) (Z00 Z0K) .none kV39 dc39 pm39 an39 cd39 ct39,f40,Y04 "track" "track" (Z03 Z2v) (Z01 Z2v) (Z00 Z2v) .none kV40 dc40 pm40 an40 cd40 ct40,f41,Y04 "steps_behind" "steps_behind" (Z03 Z0k) (Z01 Z0k) (Z00 Z0k) .none kV41 dc41 pm41 an41 cd41 ct41,f42,Y04 "stretches_a_round" "stretches_a_round" (Z03 Z0a) (Z01 Z0a) (Z00 Z0a) .none kV42 dc42 pm42 an42 cd42 ct42,f43,Y04 "bounds" "bounds" (Z03 Z1M) (Z01 Z1M) (Z00 Z1M) .none kV43 dc43 pm43 an43 cd43 ct43,f44,Y04 "_law_cell_at" "_law_cell_at" (Z03 Z0o) (Z01 Z0o) (Z00 Z0o) .none kV44 dc44 pm44 an44 cd44 ct44,f45,Y04 "_law_whole" "_law_whole" (Z03 Z0B) (Z01 Z0B) (Z00 Z0B) .none kV45 dc45 pm45 an45 cd45 ct45,f46,Y04 "_law_name" "_law_name" (Z03 Z0O) (Z01 Z0O) (Z00 Z0O) .none kV46 dc46 pm46 an46 cd46 ct46,f47,Y04 "_law_term" "_law_term" (Z03 Z0M) (Z01 Z0M) (Z00 Z0M) .none kV47 dc47 pm47 an47 cd47 ct47,f48,Y04 "_law_step" "_law_step" (Z03 Z0N) (Z01 Z0N) (Z00 Z0N) .none kV48 dc48 pm48 an48 cd48 ct48,f49,Y04 "_law_island" "_law_island" (Z03 Z0v) (Z01 Z0v) (Z00 Z0v) .none kV49 dc49 pm49 an49 cd49 ct49,f50,Y04 "_law_things" "_law_things" (Z03 Z0u) (Z01 Z0u) (Z00 Z0u) .none kV50 dc50 pm50 an50 cd50 ct50,f51,Y04 "_law_rings" "_law_rings" (Z03 Z0D) (Z01 Z0D) (Z00 Z0D) .none kV51 dc51 pm51 an51 cd51 ct51,f52,Y04 "_law_steps" "_law_steps" (Z03 Z0C) (Z01 Z0C) (Z00 Z0C) .none kV52 dc52 pm52 an52 cd52 ct52,f53,Y04 "_law_are" "_law_are" (Z03 Z10) (Z01 Z10) (Z00 Z10) .none kV53 dc53 pm53 an53 cd53 ct53,fa,Y04 "law" "law" (Z03 Z6n) (Z01 Z6n) (Z00 Z6n) .none kV54 dc54 pm54 an54 cd54 ct54⟩:={
  F_is_whole:=Z04 (st:=Z0Y) l1 c1 k1
  b_is_whole:=(Z04 (st:=Z0Y) l1 c1 k1).binds (ps:=["value"]) fun _ _ _ _ _ _=>us1 (fun _=>rfl)
  m_is_whole:=Y0c X G a1
  F_is_width:=Z04 (st:=Z0X) l2 c2 k2
  b_is_width:=(Z04 (st:=Z0X) l2 c2 k2).binds (ps:=["number"]) fun _ _ _ _ _ _=>us1 (fun _=>rfl)
  m_is_width:=Y0c X G a2
  F_two_to:=Z04 (st:=Z1J) l3 c3 k3
  b_two_to:=(Z04 (st:=Z1J) l3 c3 k3).binds (ps:=["exponent"]) fun _ _ _ _ _ _=>us1 (fun _=>rfl)
  m_two_to:=Y0c X G a3
  F_fits:=Z04 (st:=Z42) l4 c4 k4
  b_fits:=(Z04 (st:=Z42) l4 c4 k4).binds (ps:=["width","number"]) fun _ _ _ _ _ _=>us2 (fun _ _=>rfl)
  m_fits:=Y0c X G a4
  F_cut:=Z04 (st:=Z8I) l5 c5 k5
  b_cut:=(Z04 (st:=Z8I) l5 c5 k5).binds (ps:=["width","number"]) fun _ _ _ _ _ _=>us2 (fun _ _=>rfl)
  m_cut:=Y0c X G a5
  F_parts_within:=Z04 (st:=Z0m) l6 c6 k6
  b_parts_within:=(Z04 (st:=Z0m) l6 c6 k6).binds (ps:=["T"]) fun _ _ _ _ _ _=>us1 (fun _=>rfl)
  m_parts_within:=Y0c X G a6
  F_size_of:=Z04 (st:=Z1d) l7 c7 k7
  b_size_of:=(Z04 (st:=Z1d) l7 c7 k7).binds (ps:=["T"]) fun _ _ _ _ _ _=>us1 (fun _=>rfl)
  m_size_of:=Y0c X G a7
  F_names_read:=Z04 (st:=Z0A) l8 c8 k8
  b_names_read:=(Z04 (st:=Z0A) l8 c8 k8).binds (ps:=["T"]) fun _ _ _ _ _ _=>us1 (fun _=>rfl)
  m_names_read:=Y0c X G a8
  F_vars_in:=Z04 (st:=Z1c) l9 c9 k9
  b_vars_in:=(Z04 (st:=Z1c) l9 c9 k9).binds (ps:=["T"]) fun _ _ _ _ _ _=>us1 (fun _=>rfl)
  m_vars_in:=Y0c X G a9
  F_worth_of_two:=Z04 (st:=Z0j) l10 c10 k10
  b_worth_of_two:=(Z04 (st:=Z0j) l10 c10 k10).binds (ps:=["form","left","right","width"]) fun _ _ _ _ _ _=>us4 (fun _ _ _ _=>rfl)
  m_worth_of_two:=Y0c X G a10
  F_worth:=Z04 (st:=Z2u) l11 c11 k11
  b_worth:=(Z04 (st:=Z2u) l11 c11 k11).binds (ps:=["T","width","words"]) fun _ _ _ _ _ _=>us3 (fun _ _ _=>rfl)
  m_worth:=Y0c X G a11
  F_wish:=Z04 (st:=Z40) l12 c12 k12
  b_wish:=(Z04 (st:=Z40) l12 c12 k12).binds (ps:=["width","steps","number","words"]) fun _ _ _ _ _ _=>us4 (fun _ _ _ _=>rfl)
  m_wish:=Y0c X G a12
  F_number_after:=Z04 (st:=Z0n) l13 c13 k13
  b_number_after:=(Z04 (st:=Z0n) l13 c13 k13).binds (ps:=["width","steps","number","words"]) fun _ _ _ _ _ _=>us4 (fun _ _ _ _=>rfl)
  m_number_after:=Y0c X G a13
  F_words_after:=Z04 (st:=Z0p) l14 c14 k14
  b_words_after:=(Z04 (st:=Z0p) l14 c14 k14).binds (ps:=["width","step","words","word"]) fun _ _ _ _ _ _=>us4 (fun _ _ _ _=>rfl)
  m_words_after:=Y0c X G a14
  F_after:=Z04 (st:=Z2w) l15 c15 k15
  b_after:=(Z04 (st:=Z2w) l15 c15 k15).binds (ps:=["width","steps","number","words","word"]) fun _ _ _ _ _ _=>us5 (fun _ _ _ _ _=>rfl)
  m_after:=Y0c X G a15
  F_is_name:=Z04 (st:=Z1e) l16 c16 k16
  b_is_name:=(Z04 (st:=Z1e) l16 c16 k16).binds (ps:=["text"]) fun _ _ _ _ _ _=>us1 (fun _=>rfl)
  m_is_name:=Y0c X G a16
  F_refuse_name:=Z04 (st:=Z0s) l17 c17 k17
  b_refuse_name:=(Z04 (st:=Z0s) l17 c17 k17).binds (ps:=["text","earlier"]) fun _ _ _ _ _ _=>us2 (fun _ _=>rfl)
  m_refuse_name:=Y0c X G a17
  F_refuse_unknown:=Z04 (st:=Z0e) l18 c18 k18
  b_refuse_unknown:=(Z04 (st:=Z0e) l18 c18 k18).binds (ps:=["name","known"]) fun _ _ _ _ _ _=>us2 (fun _ _=>rfl)
  m_refuse_unknown:=Y0c X G a18
  F_refuse_ferry_names:=Z04 (st:=Z08) l19 c19 k19
  b_refuse_ferry_names:=(Z04 (st:=Z08) l19 c19 k19).binds (ps:=["ferries"]) fun _ _ _ _ _ _=>us1 (fun _=>rfl)
  m_refuse_ferry_names:=Y0c X G a19
  F_refuse_variables:=Z04 (st:=Z0d) l20 c20 k20
  b_refuse_variables:=(Z04 (st:=Z0d) l20 c20 k20).binds (ps:=["width","pairs"]) fun _ _ _ _ _ _=>us2 (fun _ _=>rfl)
  m_refuse_variables:=Y0c X G a20
  F_refuse_term:=Z04 (st:=Z0q) l21 c21 k21
  b_refuse_term:=(Z04 (st:=Z0q) l21 c21 k21).binds (ps:=["T","known"]) fun _ _ _ _ _ _=>us2 (fun _ _=>rfl)
  m_refuse_term:=Y0c X G a21
  F_refuse_step:=Z04 (st:=Z0r) l22 c22 k22
  b_refuse_step:=(Z04 (st:=Z0r) l22 c22 k22).binds (ps:=["step","known","count","ferry_names"]) fun _ _ _ _ _ _=>us4 (fun _ _ _ _=>rfl)
  m_refuse_step:=Y0c X G a22
  F_refuse_island:=Z04 (st:=Z0h) l23 c23 k23
  b_refuse_island:=(Z04 (st:=Z0h) l23 c23 k23).binds (ps:=["width","island","ferry_names"]) fun _ _ _ _ _ _=>us3 (fun _ _ _=>rfl)
  m_refuse_island:=Y0c X G a23
  F_refuse_islands:=Z04 (st:=Z0f) l24 c24 k24
  b_refuse_islands:=(Z04 (st:=Z0f) l24 c24 k24).binds (ps:=["width","islands","ferry_names"]) fun _ _ _ _ _ _=>us3 (fun _ _ _=>rfl)
  m_refuse_islands:=Y0c X G a24
  F_refuse_ferry:=Z04 (st:=Z0l) l25 c25 k25
  b_refuse_ferry:=(Z04 (st:=Z0l) l25 c25 k25).binds (ps:=["ferry","island_names"]) fun _ _ _ _ _ _=>us2 (fun _ _=>rfl)
  m_refuse_ferry:=Y0c X G a25
  F_refuse_wrong_end:=Z04 (st:=Z0c) l26 c26 k26
  b_refuse_wrong_end:=(Z04 (st:=Z0c) l26 c26 k26).binds (ps:=["name","step","givers","takers"]) fun _ _ _ _ _ _=>us4 (fun _ _ _ _=>rfl)
  m_refuse_wrong_end:=Y0c X G a26
  F_refuse_wrong_ends:=Z04 (st:=Z0b) l27 c27 k27
  b_refuse_wrong_ends:=(Z04 (st:=Z0b) l27 c27 k27).binds (ps:=["islands","ferries"]) fun _ _ _ _ _ _=>us2 (fun _ _=>rfl)
  m_refuse_wrong_ends:=Y0c X G a27
  F_frozen:=Z04 (st:=Z1K) l28 c28 k28
  b_frozen:=(Z04 (st:=Z1K) l28 c28 k28).binds (ps:=["value"]) fun _ _ _ _ _ _=>us1 (fun _=>rfl)
  m_frozen:=Y0c X G a28
  F_made:=Z04 (st:=Z41) l29 c29 k29
  b_made:=(Z04 (st:=Z41) l29 c29 k29).binds (ps:=["width","islands","ferries"]) fun _ _ _ _ _ _=>us3 (fun _ _ _=>rfl)
  m_made:=Y0c X G a29
  F_one_called:=Z04 (st:=Z0z) l30 c30 k30
  b_one_called:=(Z04 (st:=Z0z) l30 c30 k30).binds (ps:=["row","name"]) fun _ _ _ _ _ _=>us2 (fun _ _=>rfl)
  m_one_called:=Y0c X G a30
  F_island_of:=Z04 (st:=Z0L) l31 c31 k31
  b_island_of:=(Z04 (st:=Z0L) l31 c31 k31).binds (ps:=["world","name"]) fun _ _ _ _ _ _=>us2 (fun _ _=>rfl)
  m_island_of:=Y0c X G a31
  F_ferry_of:=Z04 (st:=Z0Z) l32 c32 k32
  b_ferry_of:=(Z04 (st:=Z0Z) l32 c32 k32).binds (ps:=["world","name"]) fun _ _ _ _ _ _=>us2 (fun _ _=>rfl)
  m_ferry_of:=Y0c X G a32
  F_first_stand:=Z04 (st:=Z0t) l33 c33 k33
  b_first_stand:=(Z04 (st:=Z0t) l33 c33 k33).binds (ps:=["world"]) fun _ _ _ _ _ _=>us1 (fun _=>rfl)
  m_first_stand:=Y0c X G a33
  F_copy_of:=Z04 (st:=Z1g) l34 c34 k34
  b_copy_of:=(Z04 (st:=Z1g) l34 c34 k34).binds (ps:=["stand"]) fun _ _ _ _ _ _=>us1 (fun _=>rfl)
  m_copy_of:=Y0c X G a34
  F_wish_of:=Z04 (st:=Z1b) l35 c35 k35
  b_wish_of:=(Z04 (st:=Z1b) l35 c35 k35).binds (ps:=["world","stand","name"]) fun _ _ _ _ _ _=>us3 (fun _ _ _=>rfl)
  m_wish_of:=Y0c X G a35
  F_can_be:=Z04 (st:=Z1L) l36 c36 k36
  b_can_be:=(Z04 (st:=Z1L) l36 c36 k36).binds (ps:=["world","stand","asked"]) fun _ _ _ _ _ _=>us3 (fun _ _ _=>rfl)
  m_can_be:=Y0c X G a36
  F_do_step:=Z04 (st:=Z1f) l37 c37 k37
  b_do_step:=(Z04 (st:=Z1f) l37 c37 k37).binds (ps:=["world","stand","name","asked","behind"]) fun _ _ _ _ _ _=>us5 (fun _ _ _ _ _=>rfl)
  m_do_step:=Y0c X G a37
  F_round_of:=Z04 (st:=Z0W) l38 c38 k38
  b_round_of:=(Z04 (st:=Z0W) l38 c38 k38).binds (ps:=["world","stand"]) fun _ _ _ _ _ _=>us2 (fun _ _=>rfl)
  m_round_of:=Y0c X G a38
  F_stretches:=Z04 (st:=Z0K) l39 c39 k39
  b_stretches:=(Z04 (st:=Z0K) l39 c39 k39).binds (ps:=["world","names"]) fun _ _ _ _ _ _=>us2 (fun _ _=>rfl)
  m_stretches:=Y0c X G a39
  F_track:=Z04 (st:=Z2v) l40 c40 k40
  b_track:=(Z04 (st:=Z2v) l40 c40 k40).binds (ps:=["world","n"]) fun _ _ _ _ _ _=>us2 (fun _ _=>rfl)
  m_track:=Y0c X G a40
  F_steps_behind:=Z04 (st:=Z0k) l41 c41 k41
  b_steps_behind:=(Z04 (st:=Z0k) l41 c41 k41).binds (ps:=["world","n"]) fun _ _ _ _ _ _=>us2 (fun _ _=>rfl)
  m_steps_behind:=Y0c X G a41
  F_stretches_a_round:=Z04 (st:=Z0a) l42 c42 k42
  b_stretches_a_round:=(Z04 (st:=Z0a) l42 c42 k42).binds (ps:=["world"]) fun _ _ _ _ _ _=>us1 (fun _=>rfl)
  m_stretches_a_round:=Y0c X G a42
  F_bounds:=Z04 (st:=Z1M) l43 c43 k43
  b_bounds:=(Z04 (st:=Z1M) l43 c43 k43).binds (ps:=["world","names"]) fun _ _ _ _ _ _=>us2 (fun _ _=>rfl)
  m_bounds:=Y0c X G a43
  F__law_cell_at:=Z04 (st:=Z0o) l44 c44 k44
  b__law_cell_at:=(Z04 (st:=Z0o) l44 c44 k44).binds (ps:=["script","k"]) fun _ _ _ _ _ _=>us2 (fun _ _=>rfl)
  m__law_cell_at:=Y0c X G a44
  F__law_whole:=Z04 (st:=Z0B) l45 c45 k45
  b__law_whole:=(Z04 (st:=Z0B) l45 c45 k45).binds (ps:=["found"]) fun _ _ _ _ _ _=>us1 (fun _=>rfl)
  m__law_whole:=Y0c X G a45
  F__law_name:=Z04 (st:=Z0O) l46 c46 k46
  b__law_name:=(Z04 (st:=Z0O) l46 c46 k46).binds (ps:=["number","k"]) fun _ _ _ _ _ _=>us2 (fun _ _=>rfl)
  m__law_name:=Y0c X G a46
  F__law_term:=Z04 (st:=Z0M) l47 c47 k47
  b__law_term:=(Z04 (st:=Z0M) l47 c47 k47).binds (ps:=["number","names"]) fun _ _ _ _ _ _=>us2 (fun _ _=>rfl)
  m__law_term:=Y0c X G a47
  F__law_step:=Z04 (st:=Z0N) l48 c48 k48
  b__law_step:=(Z04 (st:=Z0N) l48 c48 k48).binds (ps:=["number","name","names","ferries","many"]) fun _ _ _ _ _ _=>us5 (fun _ _ _ _ _=>rfl)
  m__law_step:=Y0c X G a48
  F__law_island:=Z04 (st:=Z0v) l49 c49 k49
  b__law_island:=(Z04 (st:=Z0v) l49 c49 k49).binds (ps:=["number","k","naming","ferries","around"]) fun _ _ _ _ _ _=>us5 (fun _ _ _ _ _=>rfl)
  m__law_island:=Y0c X G a49
  F__law_things:=Z04 (st:=Z0u) l50 c50 k50
  b__law_things:=(Z04 (st:=Z0u) l50 c50 k50).binds (ps:=["script","around"]) fun _ _ _ _ _ _=>us2 (fun _ _=>rfl)
  m__law_things:=Y0c X G a50
  F__law_rings:=Z04 (st:=Z0D) l51 c51 k51
  b__law_rings:=(Z04 (st:=Z0D) l51 c51 k51).binds (ps:=["cells","islands"]) fun _ _ _ _ _ _=>us2 (fun _ _=>rfl)
  m__law_rings:=Y0c X G a51
  F__law_steps:=Z04 (st:=Z0C) l52 c52 k52
  b__law_steps:=(Z04 (st:=Z0C) l52 c52 k52).binds (ps:=["world","islands","rounds"]) fun _ _ _ _ _ _=>us3 (fun _ _ _=>rfl)
  m__law_steps:=Y0c X G a52
  F__law_are:=Z04 (st:=Z10) l53 c53 k53
  b__law_are:=(Z04 (st:=Z10) l53 c53 k53).binds (ps:=["found","due"]) fun _ _ _ _ _ _=>us2 (fun _ _=>rfl)
  m__law_are:=Y0c X G a53
  F_law:=Z04 (st:=Z6n) l54 c54 k54
  b_law:=(Z04 (st:=Z6n) l54 c54 k54).binds (ps:=["script"]) fun _ _ _ _ _ _=>us1 (fun _=>rfl)
  m_law:=Y0c X G a54
  z_all:=Y0V X G z1
  z_bool:=Y0V X G z2
  z_dict:=Y0V X G z3
  z_int:=Y0V X G z4
  z_isinstance:=Y0V X G z5
  z_len:=Y0V X G z6
  z_list:=Y0V X G z7
  z_max:=Y0V X G z8
  z_min:=Y0V X G z9
  z_range:=Y0V X G z10
  z_set:=Y0V X G z11
  z_sorted:=Y0V X G z12
  z_tuple:=Y0V X G z13
  c_MOST_WIDTH:=⟨_,Y0c X G g1⟩
  c_MOST_LETTERS:=⟨_,Y0c X G g2⟩
  c_MOST_ISLANDS:=⟨_,Y0c X G g3⟩
  c_MOST_FERRIES:=⟨_,Y0c X G g4⟩
  c_MOST_VARS:=⟨_,Y0c X G g5⟩
  c_MOST_STEPS:=⟨_,Y0c X G g6⟩
  c_MOST_PARTS:=⟨_,Y0c X G g7⟩
  c_MOST_DEPTH:=⟨_,Y0c X G g8⟩
  c_MOST_K:=⟨_,Y0c X G g9⟩
  c_MOST_STAGES:=⟨_,Y0c X G g10⟩
 }
 exact⟨Y04 "law" "law" (Z03 Z6n) (Z01 Z6n) (Z00 Z6n) .none kV54 dc54 pm54 an54 cd54 ct54,fun s v=>.of_eq rfl,fun base _ _=>Zlq (FnOk.mono (ZnN T) (by decide))⟩
theorem walk{l:Y3q}{q:Program}{loose:List Str}{XP:(Str->Option Value)->Heap->Prop}{YP:World->Heap->Prop}{d:DefRec}{K:Params->Y02}(hn:l.most=some 63)(hdf:d.params.defaults=[])
  (hY:∀(w:World) (h:Heap),YP w h->(K w.params).In h)
  (F:∀(w:World) (mg:Str->Option Value) (fa:Addr) (h:Heap),(K w.params).In h->h.Ns mainGlobals mg->mg d.name=some (.ref fa)->
   ∃fd:FuncData,(∀(s:Shared) (u:Value),BindsTo s fd ⟨[u],[]⟩ [("script",u)])/\∀base:Heap,(K w.params).In base->base.Ns mainGlobals mg->FnOk l.prog w (K w.params) mg base CX0 60 fa fd ["script"] (Zel (K w.params))):
  PySem.W.WalkO q loose XP YP l.row.toRowW d [] (λf vs=>PySem.call f vs):=
 L2.walk_of (n:=63) (k:=60) (x:="script") (CX:=fun _=>CX0) (sp:=fun w=>Zel (K w.params)) hn (by decide) hdf ⟨rfl,by decide,by decide⟩ hY F (fun _ H a ns hl hO hS=>⟨a,ns,rfl,Zol hO hS,hl,fun _=>rfl⟩) fun _ _ _ _ _ z=>z
end My
structure PySem.W.Fast:Prop where
 (tw6147419564412123581 tw16294341649578304716 tw13700452911596529796 tw3175750486171364046 tw10352816278731403554 tw1239944612995993304 tw16338301303001305522 tw10631330067873747162 tw756360831708189326 tw4146489638673924695 tw2446247784079141895 tw10886308522440771719 tw3094525753941794543 tw12869356779978841886 tw7547769255353214259 tw16990156126568806447 tw11820468361558709999 tw10199891406281587442 tw3364727942478954771 tw6777833596052774654 tw5845491198425469503 tw13372105345080965343 tw17756809219818016595 tw17765229178513066034 tw14481406458621670687 tw10399448151316037842 tw3622502696903918142 tw8040529654493310563 tw16345763182153573055 tw10172649920527682950 tw6421067167125869388 tw10318525319110051066 tw10874724038197453010 tw15921075138148479878 tw2596988822059446335 tw17314480991500861625 tw12260186328973338898 tw9382689837434585764 tw5197280889782369212 tw1168849933990595777 tw14884304516185289762 tw9619835334428762148 tw4727564292324161728 tw10873526091817932063 tw2921208224588539708 tw8042914823737483060 tw14912500487849613632 tw9288848874187927974 tw16434861933507178020 tw85992759423794997 tw772838619477887388 tw8121424868930314086 tw12093703182267674445 tw1035767720178439965 tw4925695363434181105 tw17929821030954485483 tw8742847117618516515 tw6910831433984266150 tw12226138820447102246 tw16531394029543277009 tw13556753984553276164 tw11332868506281978858 tw6383769417514787823 tw2564155860021925050 tw1009482822599917738 tw5176301624225488399 tw8504408403458386454 tw5028474511177278247 tw17643420018496943403 tw3985715160251041035 tw13201879560257525192 tw14511345550775276035 tw10232007269975016563 tw10596937683600277474 tw8106759304241255750 tw8185145374835292603 tw17772046101334735295 tw11936441843668019755 tw4345658291552045553 tw9117877978667149392 tw17268174513842353897 tw681367835287165355 tw5109612550761434363 tw14184394830600699230 tw15473480482441459264 tw15978066250353968685 tw6484639873279921456 tw3533293225053794979 tw7559562284603653701 tw16365503521944214099 tw1782558898938858513 tw5369034789738497260 tw5954942962307623367 tw11991837652128406844 tw2520369970076283671 tw18201821559587051211 tw11762749850279233751 tw344706589742196844 tw10528232940830526522 tw3478514414193293118 tw13744686053464477573 tw8892960248177031155 tw7203034297539390129 tw8833932034734968346 tw3580737521589950040 tw2881132916499528772 tw3966869467750932119 tw6304268733431743818 tw6255270072948083338 tw4185372101089752333 tw14621432993823117506 tw7900346041911033586 tw1465404097649903864 tw12160521979454004023 tw2477567433813497874 tw2646357728388765010 tw11994925552362156774 tw17822227686507818398 tw6642706013113841529 tw16241594810826286075 tw6817824313361057973 tw14494257559203781451 tw8493852492764088012 tw13717626288367712729 tw2283238786798824252 tw2215585040628476646 tw10391278180254332795 tw5896498243848542750 tw7304069073287661439 tw17175651704876361001 tw173825717326535014 tw18289367551805854099 tw9828443652794070725 tw7711359754261294290 tw3362995293489916197 tw12310687772146431521 tw6990114059066640620 tw15025401548576777228 tw10264273149666698882 tw14004671014862688194 tw11665461906217659933 tw7175128863065779757 tw16318930909376408905 tw8251407100387166081 tw852682604362276282 tw1073607658686624080 tw15112670043360595411 tw2689754437021941821 tw12130998100562689235 tw7137339065633381084 tw4476116627375658801 tw16855035060393042214 tw18367768123511116185 tw15100713486415507816 tw9618080958974045865 tw17747355089139442549 tw13436849273503397948 tw4562541045925016903 tw2822591870371580497 tw14090297582874396011 tw9639789475275822262 tw5388554465638159746 tw11014977930072632278 tw14249525998739807599 tw3764390044706404775 tw3696073529645334770 tw3134925422350638668 tw13959787343587348421 tw17838937703719854220 tw2516648593627654369 tw15348868410695997579 tw6053605485275248532 tw3041225939742679242 tw17750706331640009563 tw4645553561605348803 tw8671647765540504411 tw13683196590693497533 tw13876314680403205393 tw11895137545346230002 tw13748064626839445127 tw7307542215330245816 tw5638723620957424806 tw8688728970434131620 tw14243938894241799781 tw11832257932993188893 tw7717039538431792001 tw16025586041277254384 tw5229160968247597861 tw2218101241442785960 tw3825961996314234501 tw1919456786300065943 tw3217961748023453004 tw14907628214250545256 tw12876427709998604976 tw11170041114178486926 tw17474059680140397331 tw6000276466590227374 tw6180358529142019743 tw2535340923098239153 tw3662987373213925220 tw3973868923338381196 tw5289750365708815553 tw6712351714671662272 tw3003783952975252899 tw14184779628225565632 tw4930577090747758376 tw15467770866665569191 tw5646923502881387369 tw6893997210468294933 tw11173935549078411023 tw7402008542161256027 tw10691340152825168859 tw8742245374531788085 tw18412575847844701631 tw17820078463659508684 tw12017504919139610746 tw16628529042182884456 tw11083280308351057633 tw2195845808213208133 tw12707573995498562311 tw1286956679907150804 tw14080253816801513894 tw6301279219797972723 tw15816306554886397828 tw12373436950004766971 tw6464481363372493626 tw11056929309898120991 tw14686583272930929677 tw4479238241817956294 tw337149544448350007 tw16805323967928858702 tw1115917623078631540 tw10428045766830719841 tw8905976335258538252 tw13411723306028833312 tw174092484808918092 tw11822850264555602613 tw14955195991970230951 tw5551606559021497041 tw14163389574181851227 tw1421183873704183031 tw4822432027847961500 tw7526285348657831614 tw13106962266336632519 tw13391417988555240601 tw10518426607835650062 tw8973857424190436193 tw6750237957959782236 tw3184305499814079514 tw14489800397062829735 tw5014602366793463572 tw6023890949643187630 tw1300417354956794130 tw12920780946402902698 tw1208273688250802313 tw7214493070152102988 tw9574460623698434808 tw13232098247568991023 tw15407054559571870787 tw4456356543663417394 tw11161209312119234412 tw13794087126459859152 tw7404578871803406823 tw18311039942297495931 tw6404255672701817324 tw12174392139882072795 tw10726798439446267291 tw17200097699818419857 tw16216038504743296621 tw12782071955546424886 tw16945167407997418995 tw17280504752527911701 tw1658529608759162922 tw817679226411798603 tw13384529445954642649 tw9290990195681210931 tw16247321648841013948 tw4666400633218061215 tw6619985074173034113 tw10206175805115824490 tw13214935294344198577 tw7015216503626309404 tw5239561661792999093 tw15283556798457297902 tw599682998783525914 tw4794664965748966001 tw1637393059643708791 tw9591092002598768557 tw3238955146030885519 tw1979024574437156774 tw13555572151030201659 tw15063833769278231354 tw2885892899228074538 tw3344238193235792394 tw3738993113162332220 tw9509394339616715538 tw12624842163249614361 tw10016912189089278019 tw6705741673843254197 tw14132814846608546922 tw13519005641059723276 tw4439054060635401571 tw7832761984300628063 tw10102698660456120133 tw11691083100349800912 tw15861917763963481234 tw11612692001504636306 tw4813859015099434108 tw955602264602359569 tw7904027885662498832 tw5258410360848632752 tw15765830417576638727 tw3816624277219826197 tw6463127352827206241 tw13006658952915321213 tw1882577164469999250 tw17391255862092359865 tw1103860931549866744 tw8714107948012999008 tw13196649193873565041 tw3889804319565613452 tw12284678300120723447 tw5691786530517881763 tw1485336822457026913 tw3190918665140105424 tw8923326898612140081 tw7562355241401536909 tw6356214845789565640 tw14656377350010268227 tw10740410092238807959 tw3907062763233009523 tw6857547991816858874 tw5430833680058260559 tw14374079088533189836 tw3654422137134468402 tw7634035725184667942 tw5558635588897669968 tw2146655783092016423 tw8680799006875026624 tw12339024363865893211 tw15595336035129710292 tw7617170263338941063 tw10416463491023094859 tw15920531055535703887 tw16230006662316522294 tw17964106576576404922 tw3780633088161535878 tw3408018502707817029 tw12067482896833843826 tw9759115246088859507 tw18226443732972168041 tw3234126273167828362 tw9010213691451846966 tw6388699092632699598 tw10872555835297747568 tw15683115709765399068 tw1135976603254132580 tw17645998695168966501 tw12360797203403650194 tw13112282187762049994 tw13297726876628116866 tw13506052416866473120 tw13620288648919427816 tw8654399223071897191 tw308033778593572199 tw11136601318836696622 tw10709147178746159325 tw11047355415311687666 tw10843567854677650584 tw6482461600648497399 tw11988151608588557000 tw11554844964941568691 tw5484276057277644343 tw14374691724411632200 tw14459271881089557272 tw10141246728246961022 tw6877138754271416979 tw2900569117797327275 tw9806456170091775244 tw5796506263151546181 tw18394657141585752518 tw12941812247546200757 tw230684278711967160 tw12680684694921315495 tw17511147530397717439 tw17191879553902891443 tw15376039614404019556 tw1828809604284540439 tw18386891211459492275 tw482963460915035385 tw3316343884732240792 tw2492683809171114467 tw5284815041867354186 tw6280479570533585040 tw7833059859199515983 tw6009645996009903077 tw965423911636727591 tw15062497490287376403 tw9522036557290376073 tw8674081146247348856 tw10526582724718925133 tw5995957133172174445 tw3648237942594447669 tw6199017965694657475 tw8482263695373656794 tw9827361273274174604 tw13204816986442135954 tw17972489890515414231 tw2426567309417666870 tw17055511269131850999 tw15512939447965073381 tw5028153497696582494 tw12965411932553374955 tw4629745554117126384 tw16864088981728829355 tw1160933943914792048 tw6837963525158247619 tw2928566324222495281 tw11435194699967091354 tw10957206669836630356 tw10541342666848677887 tw15103474392317689078 tw9632835480227266019 tw1014324697438260936 tw17445251866662526765 tw5019722561230083017 tw4885299114510763751 tw3806966833157420789 tw5239439999123205372 tw15977151619828915099 tw16914031661375454260 tw4508083631124084828 tw41590766863343901 tw4004662883327971632 tw15549335229004773955 tw58154106023721798 tw938627166263008859 tw13372439787749597763 tw18167189565136997357 tw13755011774676361545 tw205641725438287545 tw6381268972970503435 tw7844676862975624135 tw17111029281992995849 tw11269198940002517634 tw8591409799038593115 tw11672704103761019040 tw17004221995007271042 tw4823722113819635045 tw18204645749380221946 tw5598399949357893437 tw2980625283443232561 tw9970513698114751410 tw771180284746343304:True)
open PySem PySem.W PyProof.Rows
set_option maxRecDepth 100000 in
set_option maxHeartbeats 0 in
theorem PySem.Challenge.cw_bellferry_k63_bounds_told_holds:PySem.Challenge.rw_bellferry_k63_bounds_told.Holds:=by
 w_on;o_law;k_head;(case hw=>w_witness2)
 k_fill
 refine My.walk (l:=PySem.Challenge.rw_bellferry_k63_bounds_told) rfl rfl (λw h Y=>PySem.W.kIn_of Y) ?F
 case F=>
  intro w mg fa h KX G hmg
  refine' My.all_mk KX G hmg ?a1 ?l1 ?c1 ?k1 ?a2 ?l2 ?c2 ?k2 ?a3 ?l3 ?c3 ?k3 ?a4 ?l4 ?c4 ?k4 ?a5 ?l5 ?c5 ?k5 ?a6 ?l6 ?c6 ?k6 ?a7 ?l7 ?c7 ?k7 ?a8 ?l8 ?c8 ?k8 ?a9 ?l9 ?c9 ?k9 ?a10 ?l10 ?c10 ?k10 ?a11 ?l11 ?c11 ?k11 ?a12 ?l12 ?c12 ?k12 ?a13 ?l13 ?c13 ?k13 ?a14 ?l14 ?c14 ?k14 ?a15 ?l15 ?c15 ?k15 ?a16 ?l16 ?c16 ?k16 ?a17 ?l17 ?c17 ?k17 ?a18 ?l18 ?c18 ?k18 ?a19 ?l19 ?c19 ?k19 ?a20 ?l20 ?c20 ?k20 ?a21 ?l21 ?c21 ?k21 ?a22 ?l22 ?c22 ?k22 ?a23 ?l23 ?c23 ?k23 ?a24 ?l24 ?c24 ?k24 ?a25 ?l25 ?c25 ?k25 ?a26 ?l26 ?c26 ?k26 ?a27 ?l27 ?c27 ?k27 ?a28 ?l28 ?c28 ?k28 ?a29 ?l29 ?c29 ?k29 ?a30 ?l30 ?c30 ?k30 ?a31 ?l31 ?c31 ?k31 ?a32 ?l32 ?c32 ?k32 ?a33 ?l33 ?c33 ?k33 ?a34 ?l34 ?c34 ?k34 ?a35 ?l35 ?c35 ?k35 ?a36 ?l36 ?c36 ?k36 ?a37 ?l37 ?c37 ?k37 ?a38 ?l38 ?c38 ?k38 ?a39 ?l39 ?c39 ?k39 ?a40 ?l40 ?c40 ?k40 ?a41 ?l41 ?c41 ?k41 ?a42 ?l42 ?c42 ?k42 ?a43 ?l43 ?c43 ?k43 ?a44 ?l44 ?c44 ?k44 ?a45 ?l45 ?c45 ?k45 ?a46 ?l46 ?c46 ?k46 ?a47 ?l47 ?c47 ?k47 ?a48 ?l48 ?c48 ?k48 ?a49 ?l49 ?c49 ?k49 ?a50 ?l50 ?c50 ?k50 ?a51 ?l51 ?c51 ?k51 ?a52 ?l52 ?c52 ?k52 ?a53 ?l53 ?c53 ?k53 ?a54 ?l54 ?c54 ?k54 ?z1 ?z2 ?z3 ?z4 ?z5 ?z6 ?z7 ?z8 ?z9 ?z10 ?z11 ?z12 ?z13 ?g1 ?g2 ?g3 ?g4 ?g5 ?g6 ?g7 ?g8 ?g9 ?g10
  (case a1=>k_is)
  (case l1=>k_is)
  (case c1=>k_is)
  (case k1=>k_is)
  (case a2=>k_is)
  (case l2=>k_is)
  (case c2=>k_is)
  (case k2=>k_is)
  (case a3=>k_is)
  (case l3=>k_is)
  (case c3=>k_is)
  (case k3=>k_is)
  (case a4=>k_is)
  (case l4=>k_is)
  (case c4=>k_is)
  (case k4=>k_is)
  (case a5=>k_is)
  (case l5=>k_is)
  (case c5=>k_is)
  (case k5=>k_is)
  (case a6=>k_is)
  (case l6=>k_is)
  (case c6=>k_is)
  (case k6=>k_is)
  (case a7=>k_is)
  (case l7=>k_is)
  (case c7=>k_is)
  (case k7=>k_is)
  (case a8=>k_is)
  (case l8=>k_is)
  (case c8=>k_is)
  (case k8=>k_is)
  (case a9=>k_is)
  (case l9=>k_is)
  (case c9=>k_is)
  (case k9=>k_is)
  (case a10=>k_is)
  (case l10=>k_is)
  (case c10=>k_is)
  (case k10=>k_is)
  (case a11=>k_is)
  (case l11=>k_is)
  (case c11=>k_is)
  (case k11=>k_is)
  (case a12=>k_is)
  (case l12=>k_is)
  (case c12=>k_is)
  (case k12=>k_is)
  (case a13=>k_is)
  (case l13=>k_is)
  (case c13=>k_is)
  (case k13=>k_is)
  (case a14=>k_is)
  (case l14=>k_is)
  (case c14=>k_is)
  (case k14=>k_is)
  (case a15=>k_is)
  (case l15=>k_is)
  (case c15=>k_is)
  (case k15=>k_is)
  (case a16=>k_is)
  (case l16=>k_is)
  (case c16=>k_is)
  (case k16=>k_is)
  (case a17=>k_is)
  (case l17=>k_is)
  (case c17=>k_is)
  (case k17=>k_is)
  (case a18=>k_is)
  (case l18=>k_is)
  (case c18=>k_is)
  (case k18=>k_is)
  (case a19=>k_is)
  (case l19=>k_is)
  (case c19=>k_is)
  (case k19=>k_is)
  (case a20=>k_is)
  (case l20=>k_is)
  (case c20=>k_is)
  (case k20=>k_is)
  (case a21=>k_is)
  (case l21=>k_is)
  (case c21=>k_is)
  (case k21=>k_is)
  (case a22=>k_is)
  (case l22=>k_is)
  (case c22=>k_is)
  (case k22=>k_is)
  (case a23=>k_is)
  (case l23=>k_is)
  (case c23=>k_is)
  (case k23=>k_is)
  (case a24=>k_is)
  (case l24=>k_is)
  (case c24=>k_is)
  (case k24=>k_is)
  (case a25=>k_is)
  (case l25=>k_is)
  (case c25=>k_is)
  (case k25=>k_is)
  (case a26=>k_is)
  (case l26=>k_is)
  (case c26=>k_is)
  (case k26=>k_is)
  (case a27=>k_is)
  (case l27=>k_is)
  (case c27=>k_is)
  (case k27=>k_is)
  (case a28=>k_is)
  (case l28=>k_is)
  (case c28=>k_is)
  (case k28=>k_is)
  (case a29=>k_is)
  (case l29=>k_is)
  (case c29=>k_is)
  (case k29=>k_is)
  (case a30=>k_is)
  (case l30=>k_is)
  (case c30=>k_is)
  (case k30=>k_is)
  (case a31=>k_is)
  (case l31=>k_is)
  (case c31=>k_is)
  (case k31=>k_is)
  (case a32=>k_is)
  (case l32=>k_is)
  (case c32=>k_is)
  (case k32=>k_is)
  (case a33=>k_is)
  (case l33=>k_is)
  (case c33=>k_is)
  (case k33=>k_is)
  (case a34=>k_is)
  (case l34=>k_is)
  (case c34=>k_is)
  (case k34=>k_is)
  (case a35=>k_is)
  (case l35=>k_is)
  (case c35=>k_is)
  (case k35=>k_is)
  (case a36=>k_is)
  (case l36=>k_is)
  (case c36=>k_is)
  (case k36=>k_is)
  (case a37=>k_is)
  (case l37=>k_is)
  (case c37=>k_is)
  (case k37=>k_is)
  (case a38=>k_is)
  (case l38=>k_is)
  (case c38=>k_is)
  (case k38=>k_is)
  (case a39=>k_is)
  (case l39=>k_is)
  (case c39=>k_is)
  (case k39=>k_is)
  (case a40=>k_is)
  (case l40=>k_is)
  (case c40=>k_is)
  (case k40=>k_is)
  (case a41=>k_is)
  (case l41=>k_is)
  (case c41=>k_is)
  (case k41=>k_is)
  (case a42=>k_is)
  (case l42=>k_is)
  (case c42=>k_is)
  (case k42=>k_is)
  (case a43=>k_is)
  (case l43=>k_is)
  (case c43=>k_is)
  (case k43=>k_is)
  (case a44=>k_is)
  (case l44=>k_is)
  (case c44=>k_is)
  (case k44=>k_is)
  (case a45=>k_is)
  (case l45=>k_is)
  (case c45=>k_is)
  (case k45=>k_is)
  (case a46=>k_is)
  (case l46=>k_is)
  (case c46=>k_is)
  (case k46=>k_is)
  (case a47=>k_is)
  (case l47=>k_is)
  (case c47=>k_is)
  (case k47=>k_is)
  (case a48=>k_is)
  (case l48=>k_is)
  (case c48=>k_is)
  (case k48=>k_is)
  (case a49=>k_is)
  (case l49=>k_is)
  (case c49=>k_is)
  (case k49=>k_is)
  (case a50=>k_is)
  (case l50=>k_is)
  (case c50=>k_is)
  (case k50=>k_is)
  (case a51=>k_is)
  (case l51=>k_is)
  (case c51=>k_is)
  (case k51=>k_is)
  (case a52=>k_is)
  (case l52=>k_is)
  (case c52=>k_is)
  (case k52=>k_is)
  (case a53=>k_is)
  (case l53=>k_is)
  (case c53=>k_is)
  (case k53=>k_is)
  (case a54=>k_is)
  (case l54=>k_is)
  (case c54=>k_is)
  (case k54=>k_is)
  (case z1=>k_is)
  (case z2=>k_is)
  (case z3=>k_is)
  (case z4=>k_is)
  (case z5=>k_is)
  (case z6=>k_is)
  (case z7=>k_is)
  (case z8=>k_is)
  (case z9=>k_is)
  (case z10=>k_is)
  (case z11=>k_is)
  (case z12=>k_is)
  (case z13=>k_is)
  (case g1=>k_is)
  (case g2=>k_is)
  (case g3=>k_is)
  (case g4=>k_is)
  (case g5=>k_is)
  (case g6=>k_is)
  (case g7=>k_is)
  (case g8=>k_is)
  (case g9=>k_is)
  (case g10=>k_is)
#print axioms PySem.Challenge.cw_bellferry_k63_bounds_told_holds
