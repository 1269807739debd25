import PyProof.Rows.All
import Wide.All
import OpenK.AllK
import Wide.FinOn
import Lean
import PyProof.EqAt
import PyProof.EqKinds
import PyProof.TupleCall
import PySem.Challenge.RW_bellferry_k06_no_code
import PyProof.Rows.SetFrom
import PyProof.FactsAll.set_1
import PyProof.CollectWalk
import PyProof.Rows.SortStr
import PyProof.IsiH_list
import PyProof.ConsumeWalk
import PyProof.StrWalks
import PyProof.IsiH_tuple
import PyProof.SliceStr2
import PyProof.ListRange
import PyProof.Rows.Range3
import PyProof.Rows.CallKwBuiltin
import PyProof.WalkInts
import PyProof.FString5
import PyProof.ExcClass2
import PyProof.ExcBaseAll.ValueError
import OpenK.KNot
import PyProof.ExcArgsOwn
import PyProof.ExcAttrAll.ValueError
import PyProof.NsDelKeeps
import PyProof.Rows.CatchOwn
set_option Elab.async false
set_option linter.all false
set_option maxRecDepth 100000
set_option maxHeartbeats 8000000
set_option genSizeOf false
set_option genSizeOfSpec false
noncomputable section
set_option bootstrap.genMatcherCode false
set_option compiler.extract_closed false
open PySem.W renaming Frag→Y00, nsIn→Y0f, keepIn→Y0v, mg_none_of→Y0w, kia_one→Y0F, kia_tup→Y0G, emptyDict→Y0M, mg_of→Y11, instObj→Y18, kitOne→Y1f, fnOf→Y1i, findIn→Y1n, hideAll→Y1s, kitx_list→Y1v, kitx_dict→Y1w, isIn→Y1S, kitAny→Y1V, methodObj→Y1X, cellsFrom_some→Y2b, OpenLaw→Y2p, lookIn→Y2C, codeIn→Y2E, hideAll_get→Y2J
open Bool renaming false_ne_true→Y01, and_eq_true→Y04, false_eq_true→Y12, not_eq_true'→Y1z, eq_iff_iff→Y1H, or_true→Y1Q, false_and→Y1U, not_true→Y2Q, false_or→Y2R
open PySem.Heap renaming get?_push_of_some→Y02, lt_size→Y08, get?_push_size→Y09, FlyingW→Y1C, get?_update_other→Y2e, size_push→Y2D, MadeExcOf→Y2I
open List renaming forall_mem_cons→Y03, length_map→Y05, size_toArray→Y06, mem_cons_of_mem→Y0b, replicate→Y0c, getElem?_map→Y0d, mem_cons_self→Y0e, getElem?_eq_getElem→Y0h, getElem?_eq_some_iff→Y0j, map_cons→Y0l, mem_cons→Y0m, mem_append_right→Y0n, getElem?_append_left→Y0q, length_cons→Y0r, range→Y0z, getElem?_append_right→Y0A, getD_eq_getElem?_getD→Y0B, mem_of_getElem?→Y0C, length_append→Y0E, lookup_cons→Y0H, getElem?_set→Y0I, nodup_cons→Y0L, replicate_succ→Y0N, length_take→Y0Q, length_drop→Y0R, eq_nil_of_length_eq_zero→Y0S, getElem?_set_ne→Y0T, append_nil→Y0X, contains_cons→Y13, flatten_cons→Y1a, filterMap_cons→Y1c, any_cons→Y1d, all_eq_true→Y1e, find?_cons→Y1j, all_cons→Y1m, mem_singleton→Y1t, length_range→Y1x, eraseIdx_eq_take_drop_succ→Y1y, mem_range→Y1A, mem_append→Y1F, mem_filterMap→Y1P, mem_map→Y1T, foldl→Y1Z, getElem?_replicate→Y22, length_eq_zero_iff→Y27, getElem_mem→Y29, getElem?_set_self→Y2a, take_of_length_le→Y2i, drop_eq_nil_of_le→Y2j, of_mem_zip→Y2m, map_nil→Y2n, map_append→Y2x
open Nat renaming le_refl→Y07, ne_of_lt→Y0i, lt_of_lt_of_le→Y0k, le_trans→Y0D, lt_irrefl→Y1b, zero_le→Y1p, ne_of_gt→Y2k, le_of_eq→Y2l, lt_trans→Y2o
open PySem.Value renaming ref→Y0a, none→Y0p, type→Y0u, str→Y0J, bool→Y0W, builtin→Y1E, int→Y2M
open False renaming elim→Y0g
open PySem.NameKind renaming free→Y0o, cell→Y1u
open PyProof.Rows renaming callWith_type1→Y0s, slot_tuple_getitem→Y0t, callWith_builtin1→Y1B
open Option.some renaming inj→Y0x, injEq→Y2V
open Array renaming length_toList→Y0y, getElem?_eq_getElem→Y15, getElem?_toList→Y2q
open PySem.Builtin.Range renaming rangeSize→Y0K, small→Y2L
open PySem.Builtin.Tuple renaming tupleCompareSizes→Y0O, tupleExact→Y19, tupleItemsOf→Y1M, tupleTooMany→Y1N, tupleIsExact→Y1O
open PySem.AutoSeq1 renaming wpAny_loadPart'→Y0P, sub_tuple_tuple→Y20, sub_list_list→Y2f, idx_int→Y2h
open PySem.Around renaming under_plainId→Y0U
open PySem.Str renaming ofString→Y0V, empty→Y2P, length→Y2U
open PySem renaming mem_of_lookup→Y0Y
open PySem.Builtin.Str renaming strSliceIndices→Y0Z
open True renaming intro→Y10
open PySem.Builtin.Slice renaming slicePlaces→Y14, sliceAdjust→Y1o, sliceApplied→Y1L
open PySem.Builtin.Dict renaming dictSlotArgs→Y16, updateFrom→Y28, samePairs→Y2g
open PySem.F renaming slot_tuple_getattribute→Y17, slot_tuple_mul→Y1g, slot_dict_keyiterator_iter→Y1r, typeOf_object_class→Y1D, args_tuple_add_2→Y1Y, args_tuple_mul_2→Y21, entry_tuple_add→Y23, slot_tuple_rmul→Y25, entry_tuple_mul→Y26, slot_tuple_add→Y2c, sub_dict_dict→Y2r, slot_int_rmul→Y2s, slot_list_pop→Y2t, type_list_pop→Y2u, slot_dict_get→Y2v, type_dict_get→Y2w, slot_dict_eq→Y2y, slot_dict_ne→Y2z, slot_list_eq→Y2F, slot_list_ne→Y2G
open PySem.Calls renaming spliced_cons→Y1h, spliced_nil→Y1l, Name_function_global→Y1K, callWith_builtin→Y2d
open PySem.SeqAt renaming shaped→Y1k
open PySem.Builtin.List renaming listTooLong→Y1q
open PySem.Data renaming fields→Y1G, seq→Y24
open ForInStep renaming yield→Y1I
open Int renaming toNat_of_nonneg→Y1J
open PySem.ScopeKind renaming function→Y1R
open Classical renaming byContradiction→Y1W
open PySem.Builtin renaming bitAnd→Y2A, bitXor→Y2B
open PySem.Manifest renaming find?→Y2H
open Ne renaming symm→Y2K
open PySem.SeqAt.EqAt renaming int_str→Y2N, str_int→Y2O
open Sum renaming inl→Y2S, inr→Y2T
open Char renaming toNat→Y2W
open Nat.succ renaming inj→Y2X
open PySem.IsRange renaming new→Y2Y
open Iff renaming rfl→Y2Z
namespace L2
open PySem PySem.Spec PyProof.Rows
noncomputable abbrev Key := Sum Int Str
noncomputable def keyIs : Key → Value → Bool
  | .inl k, v => Value.isInt k v
  | .inr x, v => Value.isStrOf x v
noncomputable def keyH (w : World) : Key → Int
  | .inl k => hashInt k
  | .inr x => hashStr w x
theorem keyIs_shape : ∀ {k : Key} {v : Value}, keyIs k v = true → (∃ i t, k = Y2S i ∧ v = Y2M i t) ∨ (∃ x t, k = Y2T x ∧ v = Y0J x t)
  | .inl i, v, h => by
    obtain ⟨t, e⟩ := Value.isInt_shape (k := i) (v := v) h
    exact .inl ⟨i, t, rfl, e⟩
  | .inr x, v, h => by
    obtain ⟨t, e⟩ := Value.isStrOf_shape (x := x) (v := v) h
    exact .inr ⟨x, t, rfl, e⟩
theorem keyIs_int (i : Int) (t : Tok) : keyIs (.inl i) (.int i t) = true := by simp [keyIs, Value.isInt]
theorem keyIs_str (x : Str) (t : Tok) : keyIs (.inr x) (.str x t) = true := by simp [keyIs, Value.isStrOf]
theorem key_ll (a b : Int) : decide ((Y2S a : Key) = Y2S b) = (a == b) := by
  by_cases e : a = b
  · subst e; simp
  · have h : ¬ (Y2S a : Key) = Y2S b := λq => e (Sum.inl.inj q)
    rw [decide_eq_false h]
    exact (beq_eq_false_iff_ne.mpr e).symm
theorem key_rr (a b : Str) : decide ((Y2T a : Key) = Y2T b) = decide (a = b) := by
  by_cases e : a = b
  · subst e; simp
  · have h : ¬ (Y2T a : Key) = Y2T b := λq => e (Sum.inr.inj q)
    rw [decide_eq_false h, decide_eq_false e]
theorem key_lr (a : Int) (b : Str) : decide ((Y2S a : Key) = Y2T b) = false := decide_eq_false (λq => nomatch q)
theorem key_rl (a : Str) (b : Int) : decide ((Y2T a : Key) = Y2S b) = false := decide_eq_false (λq => nomatch q)
noncomputable def mixKind (prog : Program) (w : World) : PySem.KeyKind prog w Key where
  is := keyIs
  hash := keyH w
  inj := λv a b ha hb => by
    rcases keyIs_shape ha with ⟨i, t, rfl, rfl⟩ | ⟨x, t, rfl, rfl⟩
    · rcases keyIs_shape hb with ⟨j, u, rfl, e⟩ | ⟨y, u, rfl, e⟩
      · injection e with e1 _; rw [e1]
      · exact nomatch e
    · rcases keyIs_shape hb with ⟨j, u, rfl, e⟩ | ⟨y, u, rfl, e⟩
      · exact nomatch e
      · injection e with e1 _; rw [e1]
  byValue := λk v h => by
    rcases keyIs_shape h with ⟨i, t, rfl, rfl⟩ | ⟨x, t, rfl, rfl⟩ <;> rfl
  pyHash := λhv h => by
    rcases keyIs_shape hv with ⟨i, t, rfl, rfl⟩ | ⟨x, t, rfl, rfl⟩
    · exact wpAny_pyHash_int h
    · exact wpAny_pyHash_str h
  eqBool := λhu hv h => by
    rcases keyIs_shape hu with ⟨i, t, rfl, rfl⟩ | ⟨x, t, rfl, rfl⟩
    · rcases keyIs_shape hv with ⟨j, u, rfl, rfl⟩ | ⟨y, u, rfl, rfl⟩
      · rw [key_ll] at h; exact wpAny_eqBool_int h
      · rw [key_lr] at h; exact Y2N i t y u _ _ _ _ h
    · rcases keyIs_shape hv with ⟨j, u, rfl, rfl⟩ | ⟨y, u, rfl, rfl⟩
      · rw [key_rl] at h; exact Y2O x t j u _ _ _ _ h
      · rw [key_rr] at h; exact wpAny_eqBool_str h
  «strs» := λk x t v h => by
    rcases keyIs_shape h with ⟨i, u, rfl, e⟩ | ⟨y, u, rfl, e⟩
    · exact nomatch e
    · injection e with e1 _
      subst e1
      cases v <;> rfl
theorem mixKind_int (prog : Program) (w : World) (i : Int) (t : Tok) : (mixKind prog w).is (.inl i) (.int i t) = true := keyIs_int i t
theorem mixKind_str (prog : Program) (w : World) (x : Str) (t : Tok) : (mixKind prog w).is (.inr x) (.str x t) = true := keyIs_str x t
end L2
namespace L2
open PySem PySem.Spec PyProof.Rows
inductive V where
  | non | bl (b : Bool) | int (i : Int) | str (x : Str) | byt (b : Array UInt8) | flt (b : UInt64) | ref (a : Addr) | ty (n : String)
  deriving DecidableEq
noncomputable def RelV : V → Value → Prop
  | .non, u => u = Y0p
  | .bl b, u => u = Y0W b
  | .int i, u => ∃ t, u = Y2M i t
  | .str x, u => ∃ t, u = Y0J x t
  | .byt b, u => ∃ t, u = Value.bytes b t
  | .flt b, u => ∃ t, u = Value.float b t
  | .ref a, u => u = Y0a a
  | .ty n, u => u = Y0u n
noncomputable abbrev Vals : List V → List Value → Prop := Paired RelV
theorem Vals.length {xs : List V} {us : List Value} (r : Vals xs us) : xs.length = us.length := Paired.length r
theorem Vals.get : ∀ {xs : List V} {us : List Value} {i : Nat} {x : V}, Vals xs us → xs[i]? = some x → ∃ u, us[i]? = some u ∧ RelV x u
  | _, _, _, _, .nil, e => by simp at e
  | _, _, 0, _, .cons r _, e => by simp at e; subst e; exact ⟨_, rfl, r⟩
  | _, _, i + 1, x, .cons _ t, e => by
    obtain ⟨u, h1, h2⟩ := Vals.get (i := i) (x := x) t (by simpa using e)
    exact ⟨u, by simpa using h1, h2⟩
theorem Vals.set {x : V} {u : Value} (r : RelV x u) : ∀ {xs : List V} {us : List Value} (i : Nat), Vals xs us → Vals (xs.set i x) (us.set i u)
  | _, _, _, .nil => .nil
  | _, _, 0, .cons _ t => .cons r t
  | _, _, i + 1, .cons q t => .cons q (Vals.set r i t)
theorem Vals.append : ∀ {xs ys : List V} {us ws : List Value}, Vals xs us → Vals ys ws → Vals (xs ++ ys) (us ++ ws)
  | _, _, _, _, .nil, s => s
  | _, _, _, _, .cons r t, s => .cons r (Vals.append t s)
theorem Vals.take : ∀ {xs : List V} {us : List Value} (n : Nat), Vals xs us → Vals (xs.take n) (us.take n)
  | _, _, 0, _ => .nil
  | _, _, _ + 1, .nil => .nil
  | _, _, n + 1, .cons r t => .cons r (Vals.take n t)
theorem Vals.drop : ∀ {xs : List V} {us : List Value} (n : Nat), Vals xs us → Vals (xs.drop n) (us.drop n)
  | _, _, 0, r => r
  | _, _, _ + 1, .nil => .nil
  | _, _, n + 1, .cons _ t => Vals.drop n t
noncomputable def RelO : Option V → Option Value → Prop
  | some v, some u => RelV v u
  | none, none => True
  | _, _ => False
noncomputable def KV {κ : Type} : List (κ × V) → List (κ × Value) → Prop := Paired λ(p : κ × V) (q : κ × Value) => p.1 = q.1 ∧ RelV p.2 q.2
noncomputable def kV : Key → V
  | .inl i => .int i
  | .inr x => .str x
inductive HO where
  | lst (xs : List V)
  | tup (xs : List V)
  | dK (kvs : List (Key × V)) | dT (kvs : List (List Key × V))
  | set (S : Int → Bool) (n : Nat)
  | ins (C dx : Addr) (fs : List (Str × V))
  | own (x : Addr)
  | xd (fs : List (Str × V))
  | met (f x : Addr)
  | rng (lo hi : Int)
  | frz (o : Obj) (u : HO)
  | tbl (ps : Array Value)
  | ext (φ : Heap → Prop)
noncomputable abbrev Hp := Addr → Option HO
noncomputable def upd (H : Hp) (a : Addr) (o : HO) : Hp := λb => if b = a then some o else H b
theorem upd_same {H : Hp} {a : Addr} {o : HO} : upd H a o a = some o := by unfold upd; rw [if_pos rfl]
theorem upd_ne {H : Hp} {a b : Addr} {o : HO} (h : b ≠ a) : upd H a o b = H b := by unfold upd; rw [if_neg h]
theorem ne_of {H : Hp} {a b : Addr} {o u : HO} (h : H a = some o) (h' : H b = some u) (d : o ≠ u) : a ≠ b := by
  intro e; subst e; rw [h] at h'; exact d (Y0x h')
theorem ne_of_none {H : Hp} {a b : Addr} {o : HO} (h : H a = some o) (h' : H b = none) : a ≠ b := by
  intro e; subst e; rw [h] at h'; cases h'
section
variable (P : Program) (w : World)
noncomputable def ObjOk (H : Hp) (h : Heap) (a : Addr) : HO → Prop
  | .lst xs => xs.length ≤ sizeLine ∧ ∃ (its : List Value) (n : Nat), Vals xs its ∧ h.get? a = some { cls := .type "list", data := .seq its.toArray n }
  | .tup xs => xs.length ≤ sizeLine ∧ ∃ its : List Value, Vals xs its ∧ IsTup h a its.toArray ∧ ∃ o, h.get? a = some o ∧ o.dict = none
  | .dK kvs => kvs.length ≤ sizeLine ∧ (a == sysModules) = false ∧ ∃ vs, KV kvs vs ∧ h.DictOf (mixKind P w) a vs
  | .dT kvs => kvs.length ≤ sizeLine ∧ (a == sysModules) = false ∧ ∃ xs : List (List Key × Addr × Value),
      Paired (λ(p : List Key × V) (q : List Key × Addr × Value) => p.1 = q.1 ∧ H q.2.1 = some (.tup (p.1.map kV)) ∧ RelV p.2 q.2.2) kvs xs ∧
      ∃ o es ep, h.get? a = some o ∧ o.ExactDict ∧ o.data = .dict es ep ∧ es.toList = xs.map (entryOfKey (tupleKind (mixKind P w))) ∧ (xs.map (·.1)).Nodup
  | .set S n => h.SetOf (intKind P w) a S n
  | .ins C dx fs => H dx = some (.own a) ∧ fs.length ≤ 1000 ∧ dx ≠ a ∧ h.get? a = some (Y18 C dx) ∧
      ∃ mA, h.Ns1 dx mA ∧ (∀ f, RelO (fs.lookup f) (mA f)) ∧ PySem.Within mA (fs.map (·.1))
  | .own _ => ∃ o, h.get? a = some o
  | .xd fs => ∃ mA, h.Ns1 a mA ∧ ∀ f, RelO (fs.lookup f) (mA f)
  | .rng lo hi => ∃ t u v, h.get? a = some { cls := .type "range", data := .fields #[.int lo t, .int hi u, .int 1 v] }
  | .frz o u => h.get? a = some o ∧ ObjOk H h a u
  | .tbl ps => h.get? a = some { cls := .none, data := .fields ps }
  | .met f x => h.get? a = some (Y1X (.ref f) (.ref x))
  | .ext φ => φ h ∧ (∃ o, h.get? a = some o) ∧ ∀ h1 h2 : Heap, φ h1 → (∀ o, h1.get? a = some o → h2.get? a = some o) → φ h2
noncomputable def HOk (H : Hp) (h : Heap) : Prop := ∀ a o, H a = some o → ObjOk P w H h a o
end
section
variable {P : Program} {w : World} {H H' : Hp} {h h' : Heap} {a : Addr} {o : HO}
theorem ObjOk.lt (x : ObjOk P w H h a o) : a < h.objs.size := by
  cases o with
  | lst xs => obtain ⟨_, _, _, _, e⟩ := x; exact Y08 e
  | tup xs => obtain ⟨_, _, _, p⟩ := x; exact p.1.lt
  | dK kvs => obtain ⟨_, _, _, _, o, _, _, e, _⟩ := x; exact Y08 e
  | dT kvs => obtain ⟨_, _, _, _, o, _, _, e, _⟩ := x; exact Y08 e
  | set S n => obtain ⟨o, _, _, _, e, _⟩ := x; exact Y08 e
  | ins C dx fs => obtain ⟨_, _, _, e, _⟩ := x; exact Y08 e
  | own y => obtain ⟨_, e⟩ := x; exact Y08 e
  | xd fs => obtain ⟨_, ⟨_, _, _, e, _⟩, _⟩ := x; exact Y08 e
  | rng lo hi => obtain ⟨_, _, _, e⟩ := x; exact Y08 e
  | frz ob u => obtain ⟨e, _⟩ := x; exact Y08 e
  | tbl ps => exact Y08 (show h.get? a = some _ from x)
  | met f y => exact Y08 (show h.get? a = some _ from x)
  | ext φ => obtain ⟨_, ⟨_, e⟩, _⟩ := x; exact Y08 e
theorem Paired.mapP {α β : Type} {F G : α → β → Prop} : ∀ {l₁ : List α} {l₂ : List β}, Paired F l₁ l₂ → (∀ a b, F a b → G a b) → Paired G l₁ l₂
  | _, _, .nil, _ => .nil
  | _, _, .cons r t, f => .cons (f _ _ r) (Paired.mapP t f)
theorem ObjOk.stay (x : ObjOk P w H h a o) (k : ∀ b u, (b = a ∨ H b = some (.own a)) → h.get? b = some u → h'.get? b = some u)
    (ho : ∀ b, H b = some (.own a) → H' b = some (.own a)) (ht : ∀ b xs, H b = some (.tup xs) → H' b = some (.tup xs)) : ObjOk P w H' h' a o := by
  induction o with
  | lst xs => obtain ⟨z, its, n, r, e⟩ := x; exact ⟨z, its, n, r, k _ _ (.inl rfl) e⟩
  | tup xs => obtain ⟨z, its, r, ⟨ob, e, c⟩, o2, e2, c2⟩ := x; exact ⟨z, its, r, ⟨ob, k _ _ (.inl rfl) e, c⟩, o2, k _ _ (.inl rfl) e2, c2⟩
  | dK kvs => obtain ⟨z, y, vs, r, ob, es, ep, e, c⟩ := x; exact ⟨z, y, vs, r, ob, es, ep, k _ _ (.inl rfl) e, c⟩
  | dT kvs =>
    obtain ⟨z, y, xs, r, ob, es, ep, e, c⟩ := x
    exact ⟨z, y, xs, Paired.mapP r λp q z => ⟨z.1, ht _ _ z.2.1, z.2.2⟩, ob, es, ep, k _ _ (.inl rfl) e, c⟩
  | set S n => obtain ⟨ob, es, ep, t, e, c⟩ := x; exact ⟨ob, es, ep, t, k _ _ (.inl rfl) e, c⟩
  | ins C dx fs =>
    obtain ⟨d, z, ne, e, mA, ⟨od, es, ep, e2, c⟩, r⟩ := x
    exact ⟨ho _ d, z, ne, k _ _ (.inl rfl) e, mA, ⟨od, es, ep, k _ _ (.inr d) e2, c⟩, r⟩
  | own y => obtain ⟨ob, e⟩ := x; exact ⟨ob, k _ _ (.inl rfl) e⟩
  | xd fs => obtain ⟨mA, ⟨od, es, ep, e, c⟩, r⟩ := x; exact ⟨mA, ⟨od, es, ep, k _ _ (.inl rfl) e, c⟩, r⟩
  | rng lo hi => obtain ⟨t, u, v, e⟩ := x; exact ⟨t, u, v, k _ _ (.inl rfl) e⟩
  | frz ob u ih => obtain ⟨e, q⟩ := x; exact ⟨k _ _ (.inl rfl) e, ih q⟩
  | tbl ps =>
    have e : h.get? a = some { cls := .none, data := .fields ps } := x
    show h'.get? a = some { cls := .none, data := .fields ps }
    exact k a _ (.inl rfl) e
  | met f y =>
    have e : h.get? a = some (Y1X (.ref f) (.ref y)) := x
    show h'.get? a = some (Y1X (.ref f) (.ref y))
    exact k a _ (.inl rfl) e
  | ext φ => obtain ⟨p, ⟨o, e⟩, st⟩ := x; exact ⟨st _ _ p λo q => k _ _ (.inl rfl) q, ⟨o, k _ _ (.inl rfl) e⟩, st⟩
theorem HOk.lt (x : HOk P w H h) (e : H a = some o) : a < h.objs.size := (x a o e).lt
theorem HOk.fresh (x : HOk P w H h) (e : h.objs.size ≤ a) : H a = none := by
  cases q : H a with
  | none => rfl
  | some u => exact absurd (Y0k (x.lt q) e) (Y1b _)
theorem HOk.kept (x : HOk P w H h) (k : ∀ b u, h.get? b = some u → h'.get? b = some u) : HOk P w H h' := λa o e =>
  (x a o e).stay (λb u _ q => k b u q) (λ_ q => q) λ_ _ q => q
theorem HOk.laid (x : HOk P w H h) (k : ∀ b u, h.get? b = some u → h'.get? b = some u) (hp : h.objs.size ≤ a) (new : ObjOk P w (upd H a o) h' a o) : HOk P w (upd H a o) h' := λb u e => by
  have hn := x.fresh hp
  by_cases hb : b = a
  · subst hb; rw [upd_same] at e; cases e; exact new
  · rw [upd_ne hb] at e
    exact (x b u e).stay (λc v _ q => k c v q) (λc q => by rw [upd_ne (ne_of_none q hn)]; exact q) λc xs q => by rw [upd_ne (ne_of_none q hn)]; exact q
end
noncomputable def Rd (H : Hp) (a : Addr) (u : HO) : Prop := H a = some u ∨ ∃ o, H a = some (.frz o u)
theorem Rd.of {H : Hp} {a : Addr} {u : HO} (h : H a = some u) : Rd H a u := .inl h
theorem Rd.ok {P : Program} {w : World} {H : Hp} {h : Heap} {a : Addr} {u : HO} (r : Rd H a u) (x : HOk P w H h) : ObjOk P w H h a u := by
  rcases r with r | ⟨o, r⟩
  · exact x a u r
  · obtain ⟨_, q⟩ := x a _ r
    exact q
noncomputable def Mut : Option HO → Prop
  | some (.lst _) => True
  | some (.dK _) => True
  | some (.dT _) => True
  | some (.set _ _) => True
  | some (.ins _ _ _) => True
  | some (.ext _) => True
  | _ => False
section
variable {P : Program} {w : World} {H : Hp} {h h' : Heap} {x e : Addr} {o' : HO}
theorem HOk.write (ok : HOk P w H h) (mu : Mut (H x)) (he : e = x ∨ H e = some (.own x)) (k : ∀ b u, b ≠ e → h.get? b = some u → h'.get? b = some u) (heo : ∃ u, h'.get? e = some u)
    (new : ObjOk P w (upd H x o') h' x o') : HOk P w (upd H x o') h' := λb u q => by
  have nown : ∀ c y, H c = some (.own y) → c ≠ x := λc y r z => by subst z; rw [r] at mu; exact mu
  have ntup : ∀ c xs, H c = some (.tup xs) → c ≠ x := λc xs r z => by subst z; rw [r] at mu; exact mu
  by_cases hb : b = x
  · subst hb; rw [upd_same] at q; cases q; exact new
  · rw [upd_ne hb] at q
    by_cases hbe : b = e
    · have q' : H b = some (.own x) := by
        rcases he with z | z
        · exact absurd (hbe.trans z) hb
        · rw [hbe]; exact z
      rw [q] at q'; cases q'
      obtain ⟨v, hv⟩ := heo
      exact ⟨v, by rw [hbe]; exact hv⟩
    · refine (ok b u q).stay (λc v hc r => k c v ?_ r) (λc r => by rw [upd_ne (nown c b r)]; exact r) λc xs r => by rw [upd_ne (ntup c xs r)]; exact r
      rcases hc with rfl | hc
      · exact hbe
      · rintro rfl
        rcases he with z | z
        · exact nown c b hc z
        · rw [hc] at z; cases z; exact hb rfl
end
structure Un (fs ex : List Addr) (H H' : Hp) (h h' : Heap) : Prop where
  keep : ∀ b o, h.get? b = some o → H b = none → b ∉ fs → b ∉ ex → h'.get? b = some o
  slot : ∀ b o, h.get? b = some o → H b = none → b ∈ fs → b ∉ ex → ∃ sl, h'.get? b = some { o with slots := sl }
  free : ∀ b o, h.get? b = some o → H b = none → b ∉ ex → H' b = none
  there : ∀ b o, h.get? b = some o → b ∉ ex → ∃ o', h'.get? b = some o'
  tups : ∀ b xs, H b = some (.tup xs) → H' b = some (.tup xs)
  frzs : ∀ b o u, H b = some (.frz o u) → H' b = some (.frz o u)
  tbls : ∀ b ps, H b = some (.tbl ps) → ∃ more, H' b = some (.tbl (ps ++ more))
section
variable {fs fs' ex ex' : List Addr} {H H1 H2 : Hp} {h h1 h2 h' : Heap} {a x e : Addr} {o : HO}
theorem Un.any (u : Un fs ex H H1 h h1) {b : Addr} {ob : Obj} (q : h.get? b = some ob) (n : H b = none) (hx : b ∉ ex) : ∃ sl, h1.get? b = some { ob with slots := sl } := by
  by_cases hb : b ∈ fs
  · exact u.slot b ob q n hb hx
  · exact ⟨ob.slots, u.keep b ob q n hb hx⟩
theorem Un.trans (a : Un fs ex H H1 h h1) (b : Un fs ex H1 H2 h1 h2) : Un fs ex H H2 h h2 where
  keep := λc ob q n hc hx => b.keep c ob (a.keep c ob q n hc hx) (a.free c ob q n hx) hc hx
  slot := λc ob q n hc hx => by
    obtain ⟨sl, e1⟩ := a.slot c ob q n hc hx
    obtain ⟨sl', e2⟩ := b.slot c _ e1 (a.free c ob q n hx) hc hx
    exact ⟨sl', e2⟩
  free := λc ob q n hx => by
    obtain ⟨o', e1⟩ := a.there c ob q hx
    exact b.free c o' e1 (a.free c ob q n hx) hx
  there := λc ob q hx => by
    obtain ⟨o', e1⟩ := a.there c ob q hx
    exact b.there c o' e1 hx
  tups := λc xs q => b.tups c xs (a.tups c xs q)
  frzs := λc ob xs q => b.frzs c ob xs (a.frzs c ob xs q)
  tbls := λc ps q => by
    obtain ⟨m1, e1⟩ := a.tbls c ps q
    obtain ⟨m2, e2⟩ := b.tbls c _ e1
    exact ⟨m1 ++ m2, by rw [e2, Array.append_assoc]⟩
theorem Un.kept (k : ∀ b u, h.get? b = some u → h'.get? b = some u) : Un fs ex H H h h' :=
  ⟨λb ob q _ _ _ => k b ob q, λb ob q _ _ _ => ⟨ob.slots, k b ob q⟩, λ_ _ _ n _ => n, λb ob q _ => ⟨ob, k b ob q⟩, λ_ _ q => q, λ_ _ _ q => q, λ_ ps q => ⟨#[], by rw [q]; simp⟩⟩
theorem Un.refl : Un fs ex H H h h := Un.kept λ_ _ q => q
theorem Un.laid (k : ∀ b u, h.get? b = some u → h'.get? b = some u) (hp : h.objs.size ≤ a) (hn : H a = none) : Un fs ex H (upd H a o) h h' where
  keep := λb u q _ _ _ => k b u q
  slot := λb u q _ _ _ => ⟨u.slots, k b u q⟩
  free := λb u q n _ => by rw [upd_ne (Y0i (Y0k (Y08 q) hp))]; exact n
  there := λb u q _ => ⟨u, k b u q⟩
  tups := λb xs q => by rw [upd_ne (ne_of_none q hn)]; exact q
  frzs := λb u xs q => by rw [upd_ne (ne_of_none q hn)]; exact q
  tbls := λb ps q => ⟨#[], by rw [upd_ne (ne_of_none q hn), q]; simp⟩
theorem Un.write (mu : Mut (H x)) (he : e = x ∨ H e = some (.own x)) (k : ∀ b u, b ≠ e → h.get? b = some u → h'.get? b = some u) (heo : ∃ u, h'.get? e = some u) : Un fs ex H (upd H x o) h h' := by
  have hx : ∀ b, H b = none → b ≠ x := λb n z => by subst z; rw [n] at mu; exact mu
  have hb : ∀ b, H b = none → b ≠ e := λb n z => by
    subst z
    rcases he with r | r
    · exact hx b n r
    · rw [n] at r; cases r
  have hm : ∀ b u, H b = some u → ¬ Mut (some u) → b ≠ x := λb u q nm z => by subst z; rw [q] at mu; exact nm mu
  refine ⟨λb u q n _ _ => k b u (hb b n) q, λb u q n _ _ => ⟨u.slots, k b u (hb b n) q⟩, λb u q n _ => by rw [upd_ne (hx b n)]; exact n, λb u q _ => ?_,
    λb xs q => by rw [upd_ne (hm b _ q λz => z)]; exact q, λb u xs q => by rw [upd_ne (hm b _ q λz => z)]; exact q, λb ps q => ⟨#[], by rw [upd_ne (hm b _ q λz => z), q]; simp⟩⟩
  by_cases hbe : b = e
  · subst hbe; exact heo
  · exact ⟨u, k b u hbe q⟩
end
noncomputable def trk (h : Heap) (H : Hp) : List Addr := (Y0z h.objs.size).filter λa => (H a).isSome
noncomputable def hidT (h : Heap) (H : Hp) : Heap := Y1s h (trk h H)
theorem hidT_size (h : Heap) (H : Hp) : (hidT h H).objs.size = h.objs.size := PySem.W.hideAll_size _ _
theorem hidT_get {h : Heap} {H : Hp} {b : Addr} {o : Obj} (e : h.get? b = some o) (n : H b = none) : (hidT h H).get? b = some o :=
  Y2J _ e λhm => by
    have q : (H b).isSome = true := (List.mem_filter.mp hm).2
    rw [n] at q; simp at q
theorem of_hidT {h : Heap} {H : Hp} {b : Addr} {o : Obj} (e : (hidT h H).get? b = some o) : h.get? b = some o ∧ H b = none := by
  have e' : h.get? b = some o := PySem.W.of_hideAll (trk h H) e
  refine ⟨e', ?_⟩
  cases q : H b with
  | none => rfl
  | some x =>
    have hm : b ∈ trk h H := List.mem_filter.mpr ⟨Y1A.mpr (Y08 e'), by simp [q]⟩
    have z : (hidT h H).get? b = none := PySem.W.hideAll_none (trk h H) hm
    rw [z] at e; cases e
noncomputable def allNews (g h : Heap) (L : Addr) : List (Addr × Obj) := (Y0z h.objs.size).filterMap λa => if a = L ∨ (g.get? a).isSome = true then none else (h.get? a).map λo => (a, o)
noncomputable def rest (g h : Heap) (L d : Addr) : List (Addr × Obj) := (allNews g h L).filter λp => decide (p.1 ≠ d)
end L2
namespace L2
open PySem PySem.Spec PyProof.Rows
structure Mod (K : Y00) (mg : Str → Option Value) (base : Heap) : Prop where
  kin : K.In base
  glob : base.Ns mainGlobals mg
  blt : ∃ mb, base.Ns builtinsNs mb ∧ ∀ x : Str, x ≠ "__name__" → mb x = bootBuiltins x
  nolimit : base.NoLimit
structure Cx where
  prog : Program
  w : World
  K : Y00
  mg : Str → Option Value
  base : Heap
  A : Around
  N : List Str
  s₀ : Shared
  H₀ : Hp
  env : Env
  outer : List Env
  stack : List Env
  ex : List Addr
  fn : Str → Bool
  calm : Bool
  pn : List (Addr × Obj)
  xe : Value → Shared → Prop
noncomputable def frs (l : List Env) : List Addr := l.filterMap (·.frame)
noncomputable abbrev Cx.fs (X : Cx) : List Addr := frs X.outer
noncomputable def Vis (sc : Scope) (x : Str) : Prop := sc.names.lookup x = some .local ∨ sc.names.lookup x = some .cell ∨ sc.names.lookup x = some .free
noncomputable def Loc (sc : Scope) (x : Str) : Prop := sc.names.lookup x = some .local ∨ sc.names.lookup x = some .cell
noncomputable def Look (env : Env) (h : Heap) (m : Str → Option Value) (x : Str) (u : Value) : Prop :=
  (env.kindOf x = some .local ∧ m x = some u) ∨ ((env.kindOf x = some .cell ∨ env.kindOf x = some .free) ∧ ∃ c, env.cells.lookup x = some c ∧ h.IsCell c (some u))
structure Cx.Ok (X : Cx) : Prop where
  mod : Mod X.K X.mg X.base
  kind : X.env.scope.kind = .function
  glob : X.env.globals = mainGlobals
  blt : X.env.builtins = builtinsNs
  above : X.s₀.heap.objs.size ≤ X.env.locals
  inj : ∀ x y c, X.env.cells.lookup x = some c → X.env.cells.lookup y = some c → x = y
  has : ∀ x, (X.env.kindOf x = some .cell ∨ X.env.kindOf x = some .free) → ∃ c, X.env.cells.lookup x = some c
  cab : ∀ x c, X.fn x = true → X.env.cells.lookup x = some c → X.s₀.heap.objs.size ≤ c
  hd : X.calm = true → X.A.handled = none
  frames : X.A.frames = some X.stack
  stk : X.stack = X.outer ∨ (X.stack = X.env :: X.outer ∧ X.env.frame = some X.env.locals)
  exf : ∀ b ∈ X.ex, b ≠ X.env.locals ∧ ∀ x c, X.env.cells.lookup x = some c → c ≠ b
  bs : ∀ b o, X.base.get? b = some o → X.s₀.heap.get? b = some o ∧ X.H₀ b = none
  bsz : X.base.objs.size ≤ X.s₀.heap.objs.size
  noex : ∀ b o, X.base.get? b = some o → b ∉ X.ex
  exfs : ∀ b ∈ X.ex, b ∉ X.fs
  funs : X.s₀.heap.FunFrames X.base X.outer
  frf : ∀ b ∈ X.fs, X.H₀ b = none
structure Inv (X : Cx) (pins : List (Addr × Obj)) (σ : List (Option V)) (H : Hp) (s : Shared) : Prop where
  ok : X.Ok
  os : s.os = X.s₀.os
  bare : AllBare s.gens
  base : Un X.fs X.ex X.H₀ H X.s₀.heap s.heap
  loc : ∃ m, s.heap.Ns X.env.locals m ∧ ∀ (i : Nat) (x : Str) (v : V), X.N[i]? = some x → σ[i]? = some (some v) → Vis X.env.scope x → ∃ u, RelV v u ∧ Look X.env s.heap m x u
  cell : ∀ x c, X.env.cells.lookup x = some c → ∃ v, s.heap.IsCell c v
  free : H X.env.locals = none
  freeC : ∀ x c, X.env.cells.lookup x = some c → H c = none
  pin : ∀ p ∈ X.pn ++ pins, s.heap.get? p.1 = some p.2 ∧ H p.1 = none ∧ p.1 ≠ X.env.locals ∧ p.1 ∉ X.fs ∧ ∀ v, p.2.data ≠ .cell v
  hok : HOk X.prog X.w H s.heap
  len : σ.length = X.N.length
section
variable {X : Cx} {pins : List (Addr × Obj)} {σ : List (Option V)} {H H' : Hp} {s : Shared} {h' : Heap}
theorem Cx.Ok.nofr (ok : X.Ok) {b : Addr} {o : Obj} (e : X.base.get? b = some o) : b ∉ X.fs := λhb => by
  have := (ok.funs.mem hb).1
  rw [e] at this; cases this
theorem Inv.bs (I : Inv X pins σ H s) : ∀ b o, X.base.get? b = some o → s.heap.get? b = some o ∧ H b = none := λb o e =>
  ⟨I.base.keep b o (I.ok.bs b o e).1 (I.ok.bs b o e).2 (I.ok.nofr e) (I.ok.noex b o e), I.base.free b o (I.ok.bs b o e).1 (I.ok.bs b o e).2 (I.ok.noex b o e)⟩
theorem Inv.bk (I : Inv X pins σ H s) : ∀ b o, X.base.get? b = some o → s.heap.get? b = some o := λb o e => (I.bs b o e).1
theorem Inv.mod (I : Inv X pins σ H s) : Mod X.K X.mg X.base := I.ok.mod
theorem Inv.kIn (I : Inv X pins σ H s) : X.K.In s.heap := I.ok.mod.kin.keeps I.bk
theorem Inv.fr (I : Inv X pins σ H s) : ∃ m, Fr X.base X.env.locals s.heap m :=
  let ⟨m, hn, _⟩ := I.loc
  ⟨m, hn, I.bk, Y0D I.ok.bsz I.ok.above⟩
theorem Inv.lt (I : Inv X pins σ H s) : X.env.locals < s.heap.objs.size := let ⟨_, hn, _⟩ := I.loc; hn.lt
theorem Inv.sz (I : Inv X pins σ H s) : X.s₀.heap.objs.size ≤ s.heap.objs.size := Y0D I.ok.above (Nat.le_of_lt I.lt)
theorem Inv.nofs (I : Inv X pins σ H s) {a : Addr} (h : s.heap.objs.size ≤ a) : a ∉ X.fs := λhb => by
  obtain ⟨_, o, ho, _⟩ := I.ok.funs.mem hb
  exact absurd (Y0k (Y08 ho) (Y0D I.sz h)) (Y1b _)
theorem Inv.cne (I : Inv X pins σ H s) : ∀ x c, X.env.cells.lookup x = some c → c ≠ X.env.locals := λx c e z => by
  obtain ⟨v, o, ho, hd⟩ := I.cell x c e
  obtain ⟨m, ⟨o', es, ep, ho', hd', _⟩, _⟩ := I.loc
  rw [z, ho'] at ho; cases ho; rw [hd'] at hd; cases hd
theorem Inv.funs (I : Inv X pins σ H s) : s.heap.FunFrames X.base X.outer := by
  have all : ∀ (l : List Env), (∀ b ∈ frs l, b ∈ X.fs) → X.s₀.heap.FunFrames X.base l → s.heap.FunFrames X.base l := by
    intro l
    induction l with
    | nil => intro _ _; trivial
    | cons env r ih =>
      intro hs hl
      obtain ⟨hk, ⟨L, o, hf, hn, ho, hd⟩, hr⟩ := hl
      have hL : L ∈ X.fs := hs L (by unfold frs; rw [Y1c, hf]; exact Y0e)
      obtain ⟨sl, e⟩ := I.base.slot L o ho (I.ok.frf L hL) hL λz => I.ok.exfs L z hL
      exact ⟨hk, ⟨L, _, hf, hn, e, hd⟩, ih (λb hb => hs b (by unfold frs; rw [Y1c, hf]; exact Y0b _ hb)) hr⟩
  exact all X.outer (λ_ hb => hb) I.ok.funs
theorem Inv.stack (I : Inv X pins σ H s) : s.heap.FunFrames X.base X.stack := by
  rcases I.ok.stk with e | ⟨e, hf⟩
  · rw [e]; exact I.funs
  · rw [e]
    obtain ⟨m, hn, _⟩ := I.loc
    refine .cons (by rw [I.ok.kind]; decide) hf hn ?_ I.funs
    exact Heap.get?_none_of_le (Y0D I.ok.bsz I.ok.above)
theorem Inv.stkSub (I : Inv X pins σ H s) : ∀ b ∈ frs X.stack, b ∈ X.env.locals :: X.fs := λb hb => by
  rcases I.ok.stk with e | ⟨e, hf⟩
  · rw [e] at hb; exact Y0b _ hb
  · rw [e] at hb
    unfold frs at hb
    rw [Y1c, hf] at hb
    exact hb
theorem Inv.stkFree (I : Inv X pins σ H s) : ∀ b ∈ frs X.stack, H b = none := λb hb => by
  rcases Y0m.mp (I.stkSub b hb) with e | hb
  · rw [e]; exact I.free
  · obtain ⟨_, o, ho, _⟩ := I.ok.funs.mem hb
    exact I.base.free b o ho (I.ok.frf b hb) λz => I.ok.exfs b z hb
theorem Inv.step {g' : Array GenState} {t' : Nat} {d' : Drawn} {ch : List Addr} (I : Inv X pins σ H s)
    (hch : ∀ b ∈ ch, (b ∈ X.ex ∨ X.s₀.heap.objs.size ≤ b) ∧ b ≠ X.env.locals ∧ (∀ x c, X.env.cells.lookup x = some c → c ≠ b) ∧ ∀ p ∈ X.pn ++ pins, p.1 ≠ b)
    (keep : ∀ b o, b ≠ X.env.locals → b ∉ X.fs → b ∉ ch → s.heap.get? b = some o → H b = none → h'.get? b = some o)
    (slot : ∀ b o, b ≠ X.env.locals → b ∈ X.fs → b ∉ ch → s.heap.get? b = some o → H b = none → ∃ sl, h'.get? b = some { o with slots := sl }) (free : ∀ b o, b ∉ ch → s.heap.get? b = some o → H b = none → H' b = none)
    (there : ∀ b o, b ∉ ch → s.heap.get? b = some o → ∃ o', h'.get? b = some o')
    (tups : ∀ b xs, H b = some (.tup xs) → H' b = some (.tup xs)) (frzs : ∀ b o u, H b = some (.frz o u) → H' b = some (.frz o u)) (tbls : ∀ b ps, H b = some (.tbl ps) → ∃ more, H' b = some (.tbl (ps ++ more)))
    (ns : ∀ m, s.heap.Ns X.env.locals m → h'.Ns X.env.locals m) (hok : HOk X.prog X.w H' h') (hg : AllBare g') :
    Inv X pins σ H' { s with heap := h', gens := g', drawn := d', toks := t' } := by
  have neL : ∀ b o, X.s₀.heap.get? b = some o → b ≠ X.env.locals := λb o e => Y0i (Y0k (Y08 e) I.ok.above)
  have neC : ∀ b o, X.s₀.heap.get? b = some o → b ∉ X.ex → b ∉ ch := λb o e hx hb => by
    rcases (hch b hb).1 with z | z
    · exact hx z
    · exact absurd (Y0k (Y08 e) z) (Y1b _)
  have cellK : ∀ x c, X.env.cells.lookup x = some c → ∀ v, s.heap.IsCell c v → h'.IsCell c v := λx c e v ⟨o, ho, hd⟩ => by
    have nch : c ∉ ch := λz => (hch c z).2.2.1 x c e rfl
    by_cases hc : c ∈ X.fs
    · obtain ⟨sl, q⟩ := slot c o (I.cne x c e) hc nch ho (I.freeC x c e)
      exact ⟨_, q, hd⟩
    · exact ⟨o, keep c o (I.cne x c e) hc nch ho (I.freeC x c e), hd⟩
  refine ⟨I.ok, I.os, hg, ⟨λb o e n hb hx => ?_, λb o e n hb hx => ?_, λb o e n hx => ?_, λb o e hx => ?_, λb xs e => tups b xs (I.base.tups b xs e), λb o xs e => frzs b o xs (I.base.frzs b o xs e), λb ps e => ?_⟩, ?_, λx c e => ?_, ?_, λx c e => ?_, λp hp => ?_, hok, I.len⟩
  · exact keep b o (neL b o e) hb (neC b o e hx) (I.base.keep b o e n hb hx) (I.base.free b o e n hx)
  · obtain ⟨sl, e1⟩ := I.base.slot b o e n hb hx
    obtain ⟨sl', e2⟩ := slot b _ (neL b o e) hb (neC b o e hx) e1 (I.base.free b o e n hx)
    exact ⟨sl', e2⟩
  · obtain ⟨o', e1⟩ := I.base.there b o e hx
    exact free b o' (neC b o e hx) e1 (I.base.free b o e n hx)
  · obtain ⟨o', e1⟩ := I.base.there b o e hx
    exact there b o' (neC b o e hx) e1
  · obtain ⟨m1, e1⟩ := I.base.tbls b ps e
    obtain ⟨m2, e2⟩ := tbls b _ e1
    exact ⟨m1 ++ m2, by rw [e2, Array.append_assoc]⟩
  · obtain ⟨m, hn, hl⟩ := I.loc
    refine ⟨m, ns m hn, λi x v e1 e2 e3 => ?_⟩
    obtain ⟨u, r, l⟩ := hl i x v e1 e2 e3
    refine ⟨u, r, ?_⟩
    rcases l with l | ⟨k, c, e, z⟩
    · exact .inl l
    · exact .inr ⟨k, c, e, cellK x c e _ z⟩
  · obtain ⟨v, z⟩ := I.cell x c e
    exact ⟨v, cellK x c e v z⟩
  · obtain ⟨m, ⟨o, _, _, ho, _⟩, _⟩ := I.loc
    exact free _ o (λz => (hch _ z).2.1 rfl) ho I.free
  · obtain ⟨v, o, ho, hd⟩ := I.cell x c e
    exact free c o (λz => (hch c z).2.2.1 x c e rfl) ho (I.freeC x c e)
  · obtain ⟨e, n, ne, nf, d⟩ := I.pin p hp
    have nch : p.1 ∉ ch := λz => (hch p.1 z).2.2.2 p hp rfl
    exact ⟨keep p.1 p.2 ne nf nch e n, free p.1 p.2 nch e n, ne, nf, d⟩
theorem Inv.un {t' : Nat} (I : Inv X pins σ H s) (u : Un X.fs [] H H' s.heap h') (hok : HOk X.prog X.w H' h') : Inv X pins σ H' { s with heap := h', toks := t' } := by
  obtain ⟨m, ⟨o, es, ep, ho, r⟩, _⟩ := id I.loc
  obtain ⟨sl, hL⟩ := u.any ho I.free (by simp)
  exact I.step (g' := s.gens) (d' := s.drawn) (ch := []) (λ_ z => nomatch z) (λb o _ hb _ e n => u.keep b o e n hb (by simp)) (λb o _ hb _ e n => u.slot b o e n hb (by simp)) (λb o _ e n => u.free b o e n (by simp)) (λb o _ e => u.there b o e (by simp)) u.tups u.frzs u.tbls (λm' hm => by
    obtain ⟨o', es', ep', ho', r'⟩ := hm
    rw [ho] at ho'; cases ho'
    exact ⟨_, es', ep', hL, r'⟩) hok I.bare
theorem Inv.call {g' : Array GenState} {t' : Nat} {d' : Drawn} {ch : List Addr} (I : Inv X pins σ H s) (u : Un (frs X.stack) ch H H' s.heap h') (hok : HOk X.prog X.w H' h') (hg : AllBare g')
    (hch : ∀ b ∈ ch, (b ∈ X.ex ∨ X.s₀.heap.objs.size ≤ b) ∧ b ≠ X.env.locals ∧ (∀ x c, X.env.cells.lookup x = some c → c ≠ b) ∧ ∀ p ∈ X.pn ++ pins, p.1 ≠ b) :
    Inv X pins σ H' { s with heap := h', gens := g', drawn := d', toks := t' } := by
  obtain ⟨m, ⟨o, es, ep, ho, r⟩, _⟩ := id I.loc
  obtain ⟨sl, hL⟩ := u.any ho I.free λz => (hch _ z).2.1 rfl
  exact I.step (ch := ch) hch (λb o hL hb hc e n => u.keep b o e n (λz => (Y0m.mp (I.stkSub b z)).elim hL hb) hc) (λb o _ _ hc e n => u.any e n hc) (λb o hc e n => u.free b o e n hc) (λb o hc e => u.there b o e hc) u.tups u.frzs u.tbls (λm' hm => by
    obtain ⟨o', es', ep', ho', r'⟩ := hm
    rw [ho] at ho'; cases ho'
    exact ⟨_, es', ep', hL, r'⟩) hok hg
theorem Inv.turned {t' : Nat} {it : Addr} (I : Inv X pins σ H s) (k : ∀ b o, b ≠ it → s.heap.get? b = some o → h'.get? b = some o) (hn : H it = none) (hL : it ≠ X.env.locals)
    (h1 : it ∈ X.ex ∨ X.s₀.heap.objs.size ≤ it) (h2 : ∀ x c, X.env.cells.lookup x = some c → c ≠ it) (h3 : ∀ p ∈ X.pn ++ pins, p.1 ≠ it) : Inv X pins σ H { s with heap := h', toks := t' } := by
  have nit : ∀ b u, H b = some u → b ≠ it := λb u e z => by rw [z, hn] at e; cases e
  refine I.step (g' := s.gens) (d' := s.drawn) (ch := [it]) (λb hb => ?_) (λb o _ _ hc e _ => k b o (λz => hc (by simp [z])) e) (λb o _ _ hc e _ => ⟨o.slots, k b o (λz => hc (by simp [z])) e⟩) (λ_ _ _ _ n => n)
    (λb o hc e => ⟨o, k b o (λz => hc (by simp [z])) e⟩) (λ_ _ e => e) (λ_ _ _ e => e) (λb ps e => ⟨#[], by rw [e]; simp⟩) (λm hm => ?_) (λb u e => ?_) I.bare
  · have e : b = it := by simpa using hb
    subst e
    exact ⟨h1, hL, h2, h3⟩
  · obtain ⟨o, es, ep, ho, r⟩ := hm
    exact ⟨o, es, ep, k _ o (Y2K hL) ho, r⟩
  · refine (I.hok b u e).stay (λc v hc q => k c v ?_ q) (λ_ q => q) λ_ _ q => q
    rcases hc with z | z
    · rw [z]; exact nit b u e
    · exact nit c _ z
theorem Inv.tok (I : Inv X pins σ H s) (t : Nat) : Inv X pins σ H { s with toks := t } := I.un (h' := s.heap) (t' := t) Un.refl I.hok
theorem Inv.kept {t' : Nat} (I : Inv X pins σ H s) (k : ∀ b u, s.heap.get? b = some u → h'.get? b = some u) : Inv X pins σ H { s with heap := h', toks := t' } := I.un (Un.kept k) (I.hok.kept k)
theorem Inv.laid {a : Addr} {o : HO} {t' : Nat} (I : Inv X pins σ H s) (k : ∀ b u, s.heap.get? b = some u → h'.get? b = some u) (hp : s.heap.objs.size ≤ a) (new : ObjOk X.prog X.w (upd H a o) h' a o) :
    Inv X pins σ (upd H a o) { s with heap := h', toks := t' } := I.un (Un.laid k hp (I.hok.fresh hp)) (I.hok.laid k hp new)
theorem Inv.write {x e : Addr} {o : HO} {t' : Nat} (I : Inv X pins σ H s) (mu : Mut (H x)) (he : e = x ∨ H e = some (.own x)) (k : ∀ b u, b ≠ e → s.heap.get? b = some u → h'.get? b = some u) (heo : ∃ u, h'.get? e = some u)
    (new : ObjOk X.prog X.w (upd H x o) h' x o) : Inv X pins σ (upd H x o) { s with heap := h', toks := t' } := I.un (Un.write mu he k heo) (I.hok.write mu he k heo new)
theorem Inv.weak {σ' : List (Option V)} (I : Inv X pins σ H s) (hl : σ'.length = σ.length) (w : ∀ (i : Nat) v, σ'[i]? = some (some v) → σ[i]? = some (some v)) : Inv X pins σ' H s :=
  ⟨I.ok, I.os, I.bare, I.base, let ⟨m, hn, hl'⟩ := I.loc; ⟨m, hn, λi x v e1 e2 e3 => hl' i x v e1 (w i v e2) e3⟩, I.cell, I.free, I.freeC, I.pin, I.hok, hl.trans I.len⟩
theorem Inv.pins_of {pins' : List (Addr × Obj)} (I : Inv X pins σ H s) (h : ∀ p ∈ pins', s.heap.get? p.1 = some p.2 ∧ H p.1 = none ∧ p.1 ≠ X.env.locals ∧ p.1 ∉ X.fs ∧ ∀ v, p.2.data ≠ .cell v) : Inv X pins' σ H s :=
  ⟨I.ok, I.os, I.bare, I.base, I.loc, I.cell, I.free, I.freeC, λp hp => (Y1F.mp hp).elim (λz => I.pin p (List.mem_append_left _ z)) (h p), I.hok, I.len⟩
theorem nodup_ix {N : List Str} (hN : N.Nodup) {i j : Nat} {x : Str} (a : N[i]? = some x) (b : N[j]? = some x) : i = j := by
  obtain ⟨h1, e1⟩ := Y0j.mp a
  obtain ⟨h2, e2⟩ := Y0j.mp b
  exact (List.getElem_inj hN).mp (e1.trans e2.symm)
theorem store_ok2 {M : Model} {A : Around} {E : Value → Shared → Prop} {i : Nat} {x : Str} {v : V} {u : Value} {Q : Unit → Shared → Prop} (I : Inv X pins σ H s) (hN : X.N.Nodup) (hi : X.N[i]? = some x) (hx : Loc X.env.scope x) (r : RelV v u)
    (h : ∀ s', Inv X pins (σ.set i (some v)) H s' → (∃ a, Heap.SameBut a s.heap s'.heap ∧ (a = X.env.locals ∨ X.env.cells.lookup x = some a)) → Q () s') (hf : X.fn x = true ∨ X.env.scope.names.lookup x = some .local := by first | exact .inl rfl | exact .inr rfl | assumption) : wpAny M A (storeName X.env x u) Q E s := by
  obtain ⟨m, hn, hl⟩ := id I.loc
  have hcls : (X.env.scope.kind == .class || (X.env.scope.kind == .module && X.env.locals != X.env.globals)) = false := by rw [I.ok.kind]; rfl
  have hiσ : i < σ.length := by rw [I.len]; exact (Y0j.mp hi).1
  have cne := I.cne
  have tracked : ∀ {a : Addr} {h' : Heap}, (∃ o, s.heap.get? a = some o ∧ H a = none) → Heap.SameBut a s.heap h' → HOk X.prog X.w H h' := fun {a h'} ha hs b ob e => by
    obtain ⟨_, _, hfree⟩ := ha
    refine (I.hok b ob e).stay (λc w' hc q => (hs.2 c ?_).trans q) (λ_ q => q) λ_ _ q => q
    rintro rfl
    rcases hc with rfl | hc
    · rw [hfree] at e; cases e
    · rw [hfree] at hc; cases hc
  rcases hx with hk | hk
  · refine wpAny_storeName_local hk hn (λh' hn' hs => ?_) hcls
    obtain ⟨oL, _, _, hoL, _⟩ := id hn
    refine h _ ⟨I.ok, I.os, I.bare, ⟨λb o e n hb hx => ?_, λb o e n hb hx => ?_, I.base.free, λb o e hx => ?_, I.base.tups, I.base.frzs, I.base.tbls⟩, ⟨_, hn', λj y v' e1 e2 e3 => ?_⟩, λy c e => ?_, I.free, I.freeC, λp hp => ?_, tracked ⟨oL, hoL, I.free⟩ hs, by simpa using I.len⟩ ⟨_, hs, .inl rfl⟩
    · exact (hs.2 b (Y0i (Y0k (Y08 e) I.ok.above))).trans (I.base.keep b o e n hb hx)
    · obtain ⟨sl, e1⟩ := I.base.slot b o e n hb hx
      exact ⟨sl, (hs.2 b (Y0i (Y0k (Y08 e) I.ok.above))).trans e1⟩
    · obtain ⟨o', e1⟩ := I.base.there b o e hx
      exact ⟨o', (hs.2 b (Y0i (Y0k (Y08 e) I.ok.above))).trans e1⟩
    · by_cases hj : j = i
      · subst hj
        rw [hi] at e1; cases e1
        rw [Y2a hiσ] at e2
        cases e2
        exact ⟨u, r, .inl ⟨hk, by simp⟩⟩
      · rw [Y0T (Y2K hj)] at e2
        obtain ⟨u', r', q⟩ := hl j y v' e1 e2 e3
        refine ⟨u', r', ?_⟩
        rcases q with ⟨k, e⟩ | ⟨k, c, e, z⟩
        · refine .inl ⟨k, ?_⟩
          have : y ≠ x := λe => hj (nodup_ix hN e1 (e ▸ hi))
          simp [this, e]
        · exact .inr ⟨k, c, e, z.sameBut hs (cne y c e)⟩
    · obtain ⟨w', z⟩ := I.cell y c e
      exact ⟨w', z.sameBut hs (cne y c e)⟩
    · obtain ⟨e, n, ne, nf, d⟩ := I.pin p hp
      exact ⟨(hs.2 p.1 ne).trans e, n, ne, nf, d⟩
  · have hfn : X.fn x = true := by
      rcases hf with z | z
      · exact z
      · rw [z] at hk; cases hk
    obtain ⟨c, hc⟩ := I.ok.has x (.inl hk)
    obtain ⟨w', z⟩ := I.cell x c hc
    refine wpAny_storeName_cell I.ok.kind hk hc z (λh' hc' hs => ?_)
    obtain ⟨oc, hoc, hocd⟩ := id z
    refine h { s with heap := h' } ⟨I.ok, I.os, I.bare, ⟨λb o e n hb hx => ?_, λb o e n hb hx => ?_, I.base.free, λb o e hx => ?_, I.base.tups, I.base.frzs, I.base.tbls⟩, ⟨m, hn.sameBut hs (Y2K (cne x c hc)), λj y v' e1 e2 e3 => ?_⟩, λy c' e => ?_, I.free, I.freeC, λp hp => ?_, tracked ⟨oc, hoc, I.freeC x c hc⟩ hs, by simpa using I.len⟩ ⟨c, hs, .inr hc⟩
    · exact (hs.2 b (Y0i (Y0k (Y08 e) (I.ok.cab x c hfn hc)))).trans (I.base.keep b o e n hb hx)
    · obtain ⟨sl, e1⟩ := I.base.slot b o e n hb hx
      exact ⟨sl, (hs.2 b (Y0i (Y0k (Y08 e) (I.ok.cab x c hfn hc)))).trans e1⟩
    · obtain ⟨o', e1⟩ := I.base.there b o e hx
      exact ⟨o', (hs.2 b (Y0i (Y0k (Y08 e) (I.ok.cab x c hfn hc)))).trans e1⟩
    · by_cases hj : j = i
      · subst hj
        rw [hi] at e1; cases e1
        rw [Y2a hiσ] at e2
        cases e2
        exact ⟨u, r, .inr ⟨.inl hk, c, hc, hc'⟩⟩
      · rw [Y0T (Y2K hj)] at e2
        obtain ⟨u', r', q⟩ := hl j y v' e1 e2 e3
        refine ⟨u', r', ?_⟩
        rcases q with q | ⟨k, c', e, z'⟩
        · exact .inl q
        · refine .inr ⟨k, c', e, z'.sameBut hs ?_⟩
          rintro rfl
          exact hj (nodup_ix hN e1 (I.ok.inj _ _ _ e hc ▸ hi))
    · by_cases hcc : c' = c
      · subst hcc; exact ⟨_, hc'⟩
      · obtain ⟨w2, z2⟩ := I.cell y c' e
        exact ⟨w2, z2.sameBut hs hcc⟩
    · obtain ⟨e, n, ne, nf, d⟩ := I.pin p hp
      refine ⟨(hs.2 p.1 ?_).trans e, n, ne, nf, d⟩
      intro q
      rw [q, hoc] at e
      have q' : oc = p.2 := Y0x e
      exact d w' (by rw [← q']; exact hocd)
theorem store_ok {M : Model} {A : Around} {E : Value → Shared → Prop} {i : Nat} {x : Str} {v : V} {u : Value} {Q : Unit → Shared → Prop} (I : Inv X pins σ H s) (hN : X.N.Nodup) (hi : X.N[i]? = some x) (hx : Loc X.env.scope x) (r : RelV v u)
    (h : ∀ s', Inv X pins (σ.set i (some v)) H s' → Q () s') (hf : X.fn x = true ∨ X.env.scope.names.lookup x = some .local := by first | exact .inl rfl | exact .inr rfl | assumption) : wpAny M A (storeName X.env x u) Q E s :=
  store_ok2 I hN hi hx r (λs' I' _ => h s' I') hf
theorem Inv.call' {s' : Shared} {ch : List Addr} (I : Inv X pins σ H s) (ho : s'.os = s.os) (u : Un (frs X.stack) ch H H' s.heap s'.heap) (hok : HOk X.prog X.w H' s'.heap) (hg : AllBare s'.gens)
    (hch : ∀ b ∈ ch, (b ∈ X.ex ∨ X.s₀.heap.objs.size ≤ b) ∧ b ≠ X.env.locals ∧ (∀ x c, X.env.cells.lookup x = some c → c ≠ b) ∧ ∀ p ∈ X.pn ++ pins, p.1 ≠ b) : Inv X pins σ H' s' := by
  obtain ⟨h', g', d', t', o'⟩ := s'
  have e : o' = s.os := ho
  subst e
  exact I.call (g' := g') (t' := t') (d' := d') u hok hg hch
end
noncomputable abbrev XK := Value → Option Addr → Hp → Prop
noncomputable abbrev St := List (Option V)
noncomputable abbrev VK := V → Hp → Prop
noncomputable abbrev TE := St → Hp → VK → Prop
noncomputable abbrev TT := St → Hp → (Bool → Hp → Prop) → Prop
noncomputable abbrev TA := St → Hp → (List V → Hp → Prop) → Prop
structure Ends where
  nx : St → Hp → Prop
  rt : VK
  bk : St → Hp → Prop := λ_ _ => False
  ct : St → Hp → Prop := λ_ _ => False
noncomputable abbrev TS := Ends → St → Hp → Prop
noncomputable def EP (X : Cx) (pins : List (Addr × Obj)) (σ : St) (Q : VK) (u : Value) (s' : Shared) : Prop := ∃ v H', Inv X pins σ H' s' ∧ RelV v u ∧ Q v H'
noncomputable def TP (X : Cx) (pins : List (Addr × Obj)) (σ : St) (Q : Bool → Hp → Prop) (b : Bool) (s' : Shared) : Prop := ∃ H', Inv X pins σ H' s' ∧ Q b H'
noncomputable def AP (X : Cx) (pins : List (Addr × Obj)) (σ : St) (Q : List V → Hp → Prop) (us : List Value) (s' : Shared) : Prop := ∃ vs H', Inv X pins σ H' s' ∧ Vals vs us ∧ Q vs H'
noncomputable def SP (X : Cx) (pins : List (Addr × Obj)) (D : Ends) (f : Flow) (s' : Shared) : Prop :=
  match f with
  | .next => ∃ σ' H', Inv X pins σ' H' s' ∧ D.nx σ' H'
  | .brk => ∃ σ' H', Inv X pins σ' H' s' ∧ D.bk σ' H'
  | .cont => ∃ σ' H', Inv X pins σ' H' s' ∧ D.ct σ' H'
  | .ret u => ∃ v σ' H', Inv X pins σ' H' s' ∧ RelV v u ∧ D.rt v H'
noncomputable def PE (X : Cx) (e : Expr) (t : TE) : Prop :=
  ∀ (pins : List (Addr × Obj)) (s : Shared) (σ : St) (H : Hp) (Q : VK), Inv X pins σ H s → t σ H Q → wpAny (model X.prog X.w) X.A (eval e X.env) (EP X pins σ Q) X.xe s
noncomputable def PT (X : Cx) (e : Expr) (t : TT) : Prop :=
  ∀ (pins : List (Addr × Obj)) (s : Shared) (σ : St) (H : Hp) (Q : Bool → Hp → Prop), Inv X pins σ H s → t σ H Q → wpAny (model X.prog X.w) X.A (isTrue e X.env (eval e X.env)) (TP X pins σ Q) X.xe s
noncomputable def PW (X : Cx) (e : Expr) (t : TT) : Prop :=
  ∀ (whole : Sem Value) (pins : List (Addr × Obj)) (s : Shared) (σ : St) (H : Hp) (Q : Bool → Hp → Prop), Inv X pins σ H s → t σ H Q → wpAny (model X.prog X.w) X.A (isTrue e X.env whole) (TP X pins σ Q) X.xe s
theorem PW.pt {X : Cx} {e : Expr} {t : TT} (h : PW X e t) : PT X e t := h _
noncomputable def PA (X : Cx) (es : List Expr) (t : TA) : Prop :=
  ∀ (pos : Pos) (pins : List (Addr × Obj)) (s : Shared) (σ : St) (H : Hp) (Q : List V → Hp → Prop), Inv X pins σ H s → t σ H Q → wpAny (model X.prog X.w) X.A (spliced (backTo pos (starEach es X.env))) (AP X pins σ Q) X.xe s
noncomputable def PS (X : Cx) (st : Stmt) (t : TS) : Prop :=
  ∀ (pins : List (Addr × Obj)) (s : Shared) (σ : St) (H : Hp) (D : Ends), Inv X pins σ H s → t D σ H → wpAny (model X.prog X.w) X.A (exec st X.env) (SP X pins D) X.xe s
noncomputable def PSs (X : Cx) (st : List Stmt) (t : TS) : Prop :=
  ∀ (pins : List (Addr × Obj)) (s : Shared) (σ : St) (H : Hp) (D : Ends), Inv X pins σ H s → t D σ H → wpAny (model X.prog X.w) X.A (execs st X.env) (SP X pins D) X.xe s
theorem thn {α : Type} {t : Sem α} {Q Q' : α → Shared → Prop} {M : Model} {A : Around} {E : Value → Shared → Prop} {s : Shared} (h : wpAny M A t Q E s) (hQ : ∀ a s, Q a s → Q' a s) : wpAny M A t Q' E s := wpAny_mono h hQ λ_ _ x => x
end L2
namespace L2
open PySem PySem.Spec PyProof.Rows
section
variable {X : Cx}
theorem bin {a b : Expr} {ta tb : TE} (ha : PE X a ta) (hb : PE X b tb) {pins : List (Addr × Obj)} {s : Shared} {σ : St} {H : Hp} {R : V → V → Hp → Prop} (I : Inv X pins σ H s) (h : ta σ H λx H1 => tb σ H1 λy H2 => R x y H2)
    {α : Type} {Q : α → Shared → Prop} {f : Value → Value → Sem α}
    (hf : ∀ v u s2 x y H2, Inv X pins σ H2 s2 → RelV x v → RelV y u → R x y H2 → wpAny (model X.prog X.w) X.A (f v u) Q X.xe s2) :
    wpAny (model X.prog X.w) X.A (eval a X.env) (λv s₁ => wpAny (model X.prog X.w) X.A (eval b X.env) (λu s₂ => wpAny (model X.prog X.w) X.A (f v u) Q X.xe s₂) X.xe s₁) X.xe s := by
  refine thn (ha pins s σ H _ I h) λv s1 ⟨x, H1, I1, r1, q1⟩ => ?_
  refine thn (hb pins s1 σ H1 _ I1 q1) λu s2 ⟨y, H2, I2, r2, q2⟩ => ?_
  exact hf v u s2 x y H2 I2 r1 r2 q2
noncomputable def tVar (i : Nat) : TE := λσ H Q => ∃ v, σ[i]? = some (some v) ∧ Q v H
noncomputable def tC (v : V) : TE := λ_ H Q => Q v H
theorem pe_var {i : Nat} {x : Str} {pos : Pos} (hN : X.N[i]? = some x) (hv : Vis X.env.scope x) (hd : (x == ("__debug__" : Str)) = false := by decide) (hcd : (x == ("__classdict__" : Str)) = false := by decide) : PE X (.Name x pos) (tVar i) := by
  intro pins s σ H Q I h
  obtain ⟨v, e, h⟩ := h
  obtain ⟨m, hn, hl⟩ := I.loc
  obtain ⟨u, r, l⟩ := hl i x v hN e hv
  have fin : EP X pins σ Q u s := ⟨v, H, I, r, h⟩
  rcases l with ⟨hk, hm⟩ | ⟨hk, c, hc, hcell⟩
  · exact wpAny_Name (wpAny_loadName_local I.ok.kind hk hn hm fin) hd
  · rcases hk with hk | hk
    · exact wpAny_Name (wpAny_loadName_cell I.ok.kind hk hc hcell fin) hd
    · exact wpAny_Name (wpAny_loadName_free I.ok.kind hk hc hcell fin hcd) hd
theorem pe_int {i j pos} : PE X (.Constant (.int i) j pos) (tC (.int i)) := λ_ _ _ H _ I h => wpAny_Constant_int ⟨.int i, H, I.tok _, ⟨_, rfl⟩, h⟩
theorem pe_bl {b j pos} : PE X (.Constant (.bool b) j pos) (tC (.bl b)) := λ_ _ _ H _ I h => Constant_bool ⟨.bl b, H, I, rfl, h⟩
theorem pe_non {j pos} : PE X (.Constant .none j pos) (tC .non) := λ_ _ _ H _ I h => Constant_none ⟨.non, H, I, rfl, h⟩
theorem pe_str {x j pos} : PE X (.Constant (.str x) j pos) (tC (.str x)) := λ_ _ _ H _ I h => Calls.Constant_str ⟨.str x, H, I.tok _, ⟨_, rfl⟩, h⟩
noncomputable def Gl (X : Cx) (x : Str) : Prop := X.env.kindOf x = some .globalImplicit
theorem ld_glob {E : Value → Shared → Prop} {pins : List (Addr × Obj)} {s : Shared} {σ : St} {H : Hp} {x : Str} {u : Value} {pos : Pos} {Q : Value → Shared → Prop} (I : Inv X pins σ H s) (hg : Gl X x) (hm : X.mg x = some u) (h : Q u s)
    (hd : (x == ("__debug__" : Str)) = false := by decide) : wpAny (model X.prog X.w) X.A (eval (.Name x pos) X.env) Q E s :=
  Y1K I.ok.kind hg (Calls.loadGlobal_global (by rw [I.ok.glob]; exact I.mod.glob.keeps I.bk) hm h) hd
theorem ld_blt {E : Value → Shared → Prop} {pins : List (Addr × Obj)} {s : Shared} {σ : St} {H : Hp} {x : Str} {u : Value} {pos : Pos} {Q : Value → Shared → Prop} (I : Inv X pins σ H s) (hg : Gl X x) (hm : X.mg x = none) (hv : bootBuiltins x = some u) (h : Q u s)
    (hn : x ≠ "__name__" := by decide) (hd : (x == ("__debug__" : Str)) = false := by decide) : wpAny (model X.prog X.w) X.A (eval (.Name x pos) X.env) Q E s := by
  obtain ⟨mb, h1, h2⟩ := I.mod.blt
  exact Y1K I.ok.kind hg (Calls.loadGlobal_builtin (by rw [I.ok.glob]; exact I.mod.glob.keeps I.bk) hm (by rw [I.ok.blt]; exact h1.keeps I.bk) ((h2 x hn).trans hv) h) hd
theorem pe_glob {x : Str} {v : V} {u : Value} {pos : Pos} (hg : Gl X x) (hm : X.mg x = some u) (r : RelV v u) (hd : (x == ("__debug__" : Str)) = false := by decide) : PE X (.Name x pos) (tC v) :=
  λ_ _ _ H _ I h => ld_glob I hg hm ⟨v, H, I, r, h⟩ hd
theorem pe_bltn {x : Str} {v : V} {u : Value} {pos : Pos} (hg : Gl X x) (hm : X.mg x = none) (hv : bootBuiltins x = some u) (r : RelV v u) (hn : x ≠ "__name__" := by decide) (hd : (x == ("__debug__" : Str)) = false := by decide) : PE X (.Name x pos) (tC v) :=
  λ_ _ _ H _ I h => ld_blt I hg hm hv ⟨v, H, I, r, h⟩ hn hd
variable {a b : Expr} {ta tb : TE} {pos : Pos}
noncomputable def tB (t : TE) : TT := λσ H Q => t σ H λx H1 => ∃ c, x = .bl c ∧ Q c H1
theorem pt_val {e : Expr} {t : TE} (h : PE X e t) (he : ∀ whole, isTrue e X.env whole = (do let v ← whole; standAt e.pos; holding [v] (truthy v)) := by intro _; rfl) : PT X e (tB t) := by
  intro pins s σ H Q I hw
  refine isTrue_plain (thn (h pins s σ H _ I hw) λv s1 ⟨x, H1, I1, r1, q1⟩ => ?_) (he _)
  obtain ⟨d, rfl, q⟩ := q1
  cases r1
  exact wpAny_truthy_bool ⟨H1, I1, q⟩
variable {tA tB' : TT} {rest : List Expr}
noncomputable def tAnd (t u : TT) : TT := λσ H Q => t σ H λc H1 => if c = true then u σ H1 Q else Q false H1
noncomputable def tOr (t u : TT) : TT := λσ H Q => t σ H λc H1 => if c = true then Q true H1 else u σ H1 Q
noncomputable def tNot (t : TT) : TT := λσ H Q => t σ H λc H1 => Q (!c) H1
theorem pw_and1 (ha : PT X a tA) : PW X (.BoolOp .And [a] pos) tA := by
  intro wh pins s σ H Q I h
  refine isTrue_and (thn (ha pins s σ H Q I h) λc s1 e => ?_)
  cases c with
  | true => exact isTrue_and_nil e
  | false => exact e
theorem pw_or1 (ha : PT X a tA) : PW X (.BoolOp .Or [a] pos) tA := by
  intro wh pins s σ H Q I h
  refine isTrue_or (thn (ha pins s σ H Q I h) λc s1 e => ?_)
  cases c with
  | false => exact isTrue_or_nil e
  | true => exact e
theorem pw_and (ha : PT X a tA) (hb : PW X (.BoolOp .And (b :: rest) pos) tB') : PW X (.BoolOp .And (a :: b :: rest) pos) (tAnd tA tB') := by
  intro wh pins s σ H Q I h
  refine isTrue_and (thn (ha pins s σ H _ I h) λc s1 ⟨H1, I1, q1⟩ => ?_)
  cases c with
  | true => exact hb wh pins s1 σ H1 Q I1 q1
  | false => exact ⟨H1, I1, q1⟩
theorem pw_or (ha : PT X a tA) (hb : PW X (.BoolOp .Or (b :: rest) pos) tB') : PW X (.BoolOp .Or (a :: b :: rest) pos) (tOr tA tB') := by
  intro wh pins s σ H Q I h
  refine isTrue_or (thn (ha pins s σ H _ I h) λc s1 ⟨H1, I1, q1⟩ => ?_)
  cases c with
  | true => exact ⟨H1, I1, q1⟩
  | false => exact hb wh pins s1 σ H1 Q I1 q1
theorem pt_not (ha : PT X a tA) : PT X (.UnaryOp .Not a pos) (tNot tA) := by
  intro pins s σ H Q I h
  exact isTrue_not (ha pins s σ H (λc H1 => Q (!c) H1) I h)
noncomputable def tAndV (ta tb : TE) : TE := λσ H Q => ta σ H λx H1 => ∃ c, x = .bl c ∧ if c = true then tb σ H1 Q else Q (.bl false) H1
noncomputable def tOrV (ta tb : TE) : TE := λσ H Q => ta σ H λx H1 => ∃ c, x = .bl c ∧ if c = true then Q (.bl true) H1 else tb σ H1 Q
noncomputable def tNotV (ta : TE) : TE := λσ H Q => ta σ H λx H1 => ∃ c, x = .bl c ∧ Q (.bl (!c)) H1
theorem pe_one {op} {t : TE} (h : PE X a t) : PE X (.BoolOp op [a] pos) t := λpins s σ H Q I hw => BoolOp_one (h pins s σ H Q I hw)
theorem pe_and (ha : PE X a ta) (hb : PE X (.BoolOp .And (b :: rest) pos) tb) : PE X (.BoolOp .And (a :: b :: rest) pos) (tAndV ta tb) := by
  intro pins s σ H Q I h
  refine BoolOp_and (thn (ha pins s σ H _ I h) λv s1 ⟨x, H1, I1, r1, q1⟩ => ?_)
  obtain ⟨c, rfl, q1⟩ := q1
  cases r1
  refine wpAny_truthy_bool ?_
  cases c with
  | true => exact hb pins s1 σ H1 Q I1 q1
  | false => exact ⟨.bl false, H1, I1, rfl, q1⟩
theorem pe_or (ha : PE X a ta) (hb : PE X (.BoolOp .Or (b :: rest) pos) tb) : PE X (.BoolOp .Or (a :: b :: rest) pos) (tOrV ta tb) := by
  intro pins s σ H Q I h
  refine BoolOp_or (thn (ha pins s σ H _ I h) λv s1 ⟨x, H1, I1, r1, q1⟩ => ?_)
  obtain ⟨c, rfl, q1⟩ := q1
  cases r1
  refine wpAny_truthy_bool ?_
  cases c with
  | false => exact hb pins s1 σ H1 Q I1 q1
  | true => exact ⟨.bl true, H1, I1, rfl, q1⟩
theorem pe_not (ha : PE X a ta) : PE X (.UnaryOp .Not a pos) (tNotV ta) := by
  intro pins s σ H Q I h
  refine UnaryOp_ (thn (ha pins s σ H _ I h) λv s1 ⟨x, H1, I1, r1, q1⟩ => ?_)
  obtain ⟨c, rfl, q1⟩ := q1
  cases r1
  exact not_of (wpAny_truthy_bool ⟨.bl (!c), H1, I1, rfl, q1⟩)
end
end L2
namespace L2
open PySem PySem.Spec PyProof.Rows
noncomputable def SqL (K : Y00) (H : Hp) (a : Addr) (xs : List V) : Prop :=
  Rd H a (.lst xs) ∨
    ∃ (o : Obj) (its : Array Value) (n : Nat), K.lookup a = some o ∧ o.cls = .type "list" ∧ o.dict = none ∧ o.data = .seq its n ∧ its.size ≤ sizeLine ∧ Vals xs its.toList
noncomputable def SqT (K : Y00) (H : Hp) (a : Addr) (xs : List V) : Prop :=
  Rd H a (.tup xs) ∨
    ∃ (o : Obj) (its : Array Value) (n : Nat), K.lookup a = some o ∧ o.cls = .type "tuple" ∧ o.data = .seq its n ∧ its.size ≤ sizeLine ∧ Vals xs its.toList
noncomputable def absV : Value → Option V
  | .none => some .non
  | .bool b => some (.bl b)
  | .int i _ => some (.int i)
  | .str x _ => some (.str x)
  | .bytes b _ => some (.byt b)
  | .float b _ => some (.flt b)
  | .ref a => some (.ref a)
  | .type n => some (.ty n)
  | _ => none
theorem RelV.abs {x : V} {u : Value} (r : RelV x u) : absV u = some x := by
  cases x with
  | non => cases r; rfl
  | bl _ => cases r; rfl
  | int _ => obtain ⟨t, rfl⟩ := r; rfl
  | str _ => obtain ⟨t, rfl⟩ := r; rfl
  | byt _ => obtain ⟨t, rfl⟩ := r; rfl
  | flt _ => obtain ⟨t, rfl⟩ := r; rfl
  | ref _ => cases r; rfl
  | ty _ => cases r; rfl
theorem RelV.inj {x y : V} {u : Value} (r : RelV x u) (q : RelV y u) : x = y := Y0x (r.abs.symm.trans q.abs)
theorem Vals.inj : ∀ {xs ys : List V} {us : List Value}, Vals xs us → Vals ys us → xs = ys
  | _, _, _, .nil, .nil => rfl
  | _, _, _, .cons r t, .cons r' t' => by rw [r.inj r', Vals.inj t t']
section
variable {X : Cx} {pins : List (Addr × Obj)} {σ : St} {H : Hp} {s : Shared} {a : Addr} {xs ys : List V}
theorem SqL.of {K : Y00} (h : H a = some (.lst xs)) : SqL K H a xs := .inl (.inl h)
theorem SqT.of {K : Y00} (h : H a = some (.tup xs)) : SqT K H a xs := .inl (.inl h)
theorem Inv.list (I : Inv X pins σ H s) (h : SqL X.K H a xs) : ∃ its : List Value, Vals xs its ∧ PlainL s.heap a its.toArray ∧ xs.length ≤ sizeLine := by
  rcases h with h | ⟨o, its, n, hk, hc, hd, hs, hz, r⟩
  · obtain ⟨z, its, n, r, e⟩ := h.ok I.hok
    exact ⟨its, r, ⟨_, n, e, rfl, rfl, rfl⟩, z⟩
  · refine ⟨its.toList, r, ⟨o, n, I.kIn a o hk, hc, hd, by simpa using hs⟩, ?_⟩
    have e := r.length
    simp only [Y0y] at e
    lia
theorem Inv.tuple (I : Inv X pins σ H s) (h : SqT X.K H a xs) : ∃ its : List Value, Vals xs its ∧ IsTup s.heap a its.toArray ∧ xs.length ≤ sizeLine := by
  rcases h with h | ⟨o, its, n, hk, hc, hs, hz, r⟩
  · obtain ⟨z, its, r, p⟩ := h.ok I.hok
    exact ⟨its, r, p.1, z⟩
  · refine ⟨its.toList, r, ⟨o, I.kIn a o hk, hc, n, by simpa using hs⟩, ?_⟩
    have e := r.length
    simp only [Y0y] at e
    lia
theorem Inv.list_inj (I : Inv X pins σ H s) (h : SqL X.K H a xs) (h' : SqL X.K H a ys) : xs = ys := by
  obtain ⟨its, r, ⟨o, n, e, _, _, d⟩, _⟩ := I.list h
  obtain ⟨its', r', ⟨o', n', e', _, _, d'⟩, _⟩ := I.list h'
  rw [e] at e'; cases e'
  rw [d] at d'
  injection d' with d1 _
  have : its = its' := by simpa using congrArg Array.toList d1
  subst this
  exact r.inj r'
theorem Inv.tuple_inj (I : Inv X pins σ H s) (h : SqT X.K H a xs) (h' : SqT X.K H a ys) : xs = ys := by
  obtain ⟨its, r, ⟨o, e, _, n, d⟩, _⟩ := I.tuple h
  obtain ⟨its', r', ⟨o', e', _, n', d'⟩, _⟩ := I.tuple h'
  rw [e] at e'; cases e'
  rw [d] at d'
  injection d' with d1 _
  have : its = its' := by simpa using congrArg Array.toList d1
  subst this
  exact r.inj r'
end
noncomputable abbrev Cx.wish (X : Cx) (E : Value → Shared → Prop) : Cx := { X with xe := E }
noncomputable abbrev Cx.nox (X : Cx) : Cx := X.wish λ_ _ => False
theorem Cx.Ok.wish {X : Cx} (ok : X.Ok) (E : Value → Shared → Prop) : (X.wish E).Ok :=
  ⟨ok.mod, ok.kind, ok.glob, ok.blt, ok.above, ok.inj, ok.has, ok.cab, ok.hd, ok.frames, ok.stk, ok.exf, ok.bs, ok.bsz, ok.noex, ok.exfs, ok.funs, ok.frf⟩
theorem Cx.Ok.unwish {X : Cx} {E : Value → Shared → Prop} (ok : (X.wish E).Ok) : X.Ok :=
  ⟨ok.mod, ok.kind, ok.glob, ok.blt, ok.above, ok.inj, ok.has, ok.cab, ok.hd, ok.frames, ok.stk, ok.exf, ok.bs, ok.bsz, ok.noex, ok.exfs, ok.funs, ok.frf⟩
section
variable {X : Cx} {pins : List (Addr × Obj)} {σ : St} {H : Hp} {s : Shared} {E : Value → Shared → Prop}
theorem Inv.wish (I : Inv X pins σ H s) (E : Value → Shared → Prop) : Inv (X.wish E) pins σ H s := ⟨I.ok.wish E, I.os, I.bare, I.base, I.loc, I.cell, I.free, I.freeC, I.pin, I.hok, I.len⟩
theorem Inv.unwish (I : Inv (X.wish E) pins σ H s) : Inv X pins σ H s := ⟨I.ok.unwish, I.os, I.bare, I.base, I.loc, I.cell, I.free, I.freeC, I.pin, I.hok, I.len⟩
theorem SP.unwish {D : Ends} {f : Flow} {s' : Shared} (h : SP (X.wish E) pins D f s') : SP X pins D f s' := by
  cases f with
  | next => obtain ⟨σ', H', I, q⟩ := h; exact ⟨σ', H', I.unwish, q⟩
  | brk => obtain ⟨σ', H', I, q⟩ := h; exact ⟨σ', H', I.unwish, q⟩
  | cont => obtain ⟨σ', H', I, q⟩ := h; exact ⟨σ', H', I.unwish, q⟩
  | ret u => obtain ⟨v, σ', H', I, r, q⟩ := h; exact ⟨v, σ', H', I.unwish, r, q⟩
theorem PT.nox {e : Expr} {t : TT} (h : PT X.nox e t) : PT X e t := λpins s σ H Q I hw =>
  wpAny_mono (h pins s σ H Q (I.wish _) hw) (λ_ _ ⟨H', I', q⟩ => ⟨H', I'.unwish, q⟩) λ_ _ z => Y0g z
theorem PSs.nox {st : List Stmt} {t : TS} (h : PSs X.nox st t) : PSs X st t := λpins s σ H D I hw =>
  wpAny_mono (h pins s σ H D (I.wish _) hw) (λ_ _ q => q.unwish) λ_ _ z => Y0g z
end
section
variable {X : Cx} {st : Stmt} {rest : List Stmt} {t u : TS} {e : Expr} {te : TE} {pos : Pos}
noncomputable def tNext : TS := λD σ H => D.nx σ H
noncomputable def tSeq (t u : TS) : TS := λD σ H => t { D with nx := u D } σ H
theorem pss_nil : PSs X [] tNext := λ_ _ σ H _ I h => wpAny_execs_nil ⟨σ, H, I, h⟩
theorem pss_cons (h1 : PS X st t) (h2 : PSs X rest u) : PSs X (st :: rest) (tSeq t u) := by
  intro pins s σ H D I h
  refine wpAny_execs_cons (thn (h1 pins s σ H { D with nx := u D } I h) λf s1 q => ?_)
  cases f with
  | next =>
    obtain ⟨σ', H', I', q⟩ := q
    exact h2 pins s1 σ' H' D I' q
  | ret v => exact q
  | brk => exact q
  | cont => exact q
theorem pss_one (h1 : PS X st t) : PSs X [st] t := by
  intro pins s σ H D I h
  refine wpAny_execs_cons (thn (h1 pins s σ H D I h) λf s1 q => ?_)
  cases f with
  | next => exact wpAny_execs_nil q
  | ret v => exact q
  | brk => exact q
  | cont => exact q
theorem Inv.quiet {pins : List (Addr × Obj)} {σ : St} {H : Hp} {s : Shared} (I : Inv X pins σ H s) : interactive X.env = false := by simp [interactive, I.ok.kind]
noncomputable def tDrop (te : TE) : TS := λD σ H => te σ H λ_ H1 => D.nx σ H1
theorem ps_expr (he : PE X e te) (hs : swapsWith e none pos.line X.env = pure false := by rfl) : PS X (.Expr e pos) (tDrop te) := by
  intro pins s σ H D I h
  exact wpAny_Expr_any (thn (he pins s σ H _ I h) λv s1 ⟨x, H1, I1, r1, q1⟩ => ⟨σ, H1, I1, q1⟩) I.quiet hs
noncomputable def tRet (te : TE) : TS := λD σ H => te σ H D.rt
theorem ps_ret (he : PE X e te) : PS X (.Return (some e) pos) (tRet te) := by
  intro pins s σ H D I h
  exact wpAny_Return_some (thn (he pins s σ H _ I h) λv s1 ⟨x, H1, I1, r1, q1⟩ => ⟨x, σ, H1, I1, r1, q1⟩)
noncomputable def tIfS (c : TT) (t u : TS) : TS := λD σ H => c σ H λb H1 => if b = true then t D σ H1 else u D σ H1
theorem ps_if {c : Expr} {a b : List Stmt} {tc : TT} (hc : PT X c tc) (ha : PSs X a t) (hb : PSs X b u) : PS X (.If c a b pos) (tIfS tc t u) := by
  intro pins s σ H D I h
  refine wpAny_If (thn (hc pins s σ H _ I h) λd s1 ⟨H1, I1, q1⟩ => ?_)
  cases d with
  | true => exact ha pins s1 σ H1 D I1 q1
  | false => exact hb pins s1 σ H1 D I1 q1
noncomputable def tNever : TS := λ_ _ _ => False
theorem ps_never : PS X st tNever := λ_ _ _ _ _ _ h => h.elim
end
noncomputable abbrev TG := V → St → Hp → (St → Hp → Prop) → Prop
noncomputable abbrev TGs := List V → St → Hp → (St → Hp → Prop) → Prop
noncomputable def PG (X : Cx) (target : Expr) (t : TG) : Prop :=
  ∀ (pins : List (Addr × Obj)) (s : Shared) (σ : St) (H : Hp) (v : V) (u : Value) (Q : St → Hp → Prop), Inv X pins σ H s → RelV v u → t v σ H Q →
    wpAny (model X.prog X.w) X.A (assign target X.env u) (λ_ s' => ∃ σ' H', Inv X pins σ' H' s' ∧ Q σ' H') X.xe s
noncomputable def PGs (X : Cx) (ts : List Expr) (t : TGs) : Prop :=
  ∀ (pins : List (Addr × Obj)) (s : Shared) (σ : St) (H : Hp) (vs : List V) (us : List Value) (Q : St → Hp → Prop), Inv X pins σ H s → Vals vs us → t vs σ H Q →
    wpAny (model X.prog X.w) X.A (assignInOrder ((assignEach ts X.env).map (·.2)) us) (λ_ s' => ∃ σ' H', Inv X pins σ' H' s' ∧ Q σ' H') X.xe s
section
variable {X : Cx} {pos : Pos}
noncomputable def gName (i : Nat) : TG := λv σ H Q => Q (σ.set i (some v)) H
theorem pg_name {i : Nat} {x : Str} (hN : X.N.Nodup) (hi : X.N[i]? = some x) (hx : Loc X.env.scope x) (hf : X.fn x = true ∨ X.env.scope.names.lookup x = some .local := by first | exact .inl rfl | exact .inr rfl | assumption) : PG X (.Name x pos) (gName i) := by
  intro pins s σ H v u Q I r h
  exact wpAny_assign_Name (store_ok I hN hi hx r (λs' I' => ⟨_, H, I', h⟩) hf)
noncomputable def gNil : TGs := λvs σ H Q => vs = [] ∧ Q σ H
noncomputable def gCons (t : TG) (u : TGs) : TGs := λvs σ H Q => ∃ v r, vs = v :: r ∧ t v σ H λσ' H' => u r σ' H' Q
theorem pgs_nil : PGs X [] gNil := by
  intro pins s σ H vs us Q I r h
  obtain ⟨e, h⟩ := h
  subst e
  cases r
  exact assignInOrder_nil ⟨σ, H, I, h⟩
theorem pgs_cons {e : Expr} {es : List Expr} {t : TG} {u : TGs} (h1 : PG X e t) (h2 : PGs X es u)
    (hs : (assignEach (e :: es) X.env).map (·.2) = assign e X.env :: (assignEach es X.env).map (·.2) := by rfl) : PGs X (e :: es) (gCons t u) := by
  intro pins s σ H vs us Q I r h
  obtain ⟨v, vr, e1, h⟩ := h
  subst e1
  cases r with
  | cons r rr =>
    rw [hs]
    refine assignInOrder_cons (thn (h1 pins s σ H _ _ _ I r h) λ_ s1 ⟨σ1, H1, I1, q1⟩ => ?_)
    exact h2 pins s1 σ1 H1 _ _ Q I1 rr q1
noncomputable def gTup (K : Y00) (n : Nat) (t : TGs) : TG := λv σ H Q => ∃ a xs, v = .ref a ∧ SqT K H a xs ∧ xs.length = n ∧ t xs σ H Q
theorem pg_tup {es : List Expr} {k : Nat} {t : TGs} {n : Nat} (hc : X.calm = true) (h : PGs X es t)
    (hn : (assignEach es X.env).length = n := by rfl) (hst : (assignEach es X.env).findIdx? (·.1) = none := by rfl) : PG X (.Tuple es k pos) (gTup X.K n t) := by
  intro pins s σ H v u Q I r hw
  obtain ⟨a, xs, e1, hq, hl, hw⟩ := hw
  subst e1
  cases r
  obtain ⟨its, rv, ht, hz⟩ := I.tuple hq
  refine assign_Tuple_tuple (I.ok.hd hc) ht (by simp [hn, ← hl, rv.length]) hst λh' hx => ?_
  have I1 : Inv X pins σ H { s with heap := h' } := I.kept (t' := s.toks) λb o e => hx b o (Y0i (Y08 e)) e
  exact h pins _ σ H xs _ Q I1 (by simpa using rv) hw
noncomputable def tAsg (te : TE) (g : TG) : TS := λD σ H => te σ H λx H1 => g x σ H1 D.nx
theorem ps_asg {tg e : Expr} {te : TE} {g : TG} (he : PE X e te) (hg : PG X tg g) (hs : swapsWithSole [tg] e pos.line X.env = pure false := by rfl) (hw : swappedStores [tg] e X.env = pure none := by rfl)
    (h1 : (assignEach [tg] X.env).map (·.2) = [assign tg X.env] := by rfl) : PS X (.Assign [tg] e pos) (tAsg te g) := by
  intro pins s σ H D I h
  refine wpAny_Assign_stores (thn (he pins s σ H _ I h) λv s1 ⟨x, H1, I1, r1, q1⟩ => ?_) hs hw
  rw [h1]
  exact thn (hg pins s1 σ H1 x v _ I1 r1 q1) λ_ s2 q => q
theorem ps_set {i : Nat} {x : Str} {e : Expr} {te : TE} {pos' : Pos} (hN : X.N.Nodup) (hi : X.N[i]? = some x) (hx : Loc X.env.scope x) (he : PE X e te) (hs : swapsWith e (some (.Name x pos')) pos.line X.env = pure false := by rfl) (hf : X.fn x = true ∨ X.env.scope.names.lookup x = some .local := by first | exact .inl rfl | exact .inr rfl | assumption) :
    PS X (.Assign [.Name x pos'] e pos) (tAsg te (gName i)) := by
  intro pins s σ H D I h
  refine wpAny_Assign_Name (thn (he pins s σ H _ I h) λv s1 ⟨y, H1, I1, r1, q1⟩ => ?_) hs
  exact store_ok I1 hN hi hx r1 (λs2 I2 => ⟨_, H1, I2, q1⟩) hf
end
section
variable {X : Cx} {pos : Pos}
noncomputable def tWhile (c : TT) (tb : TS) : TS := λD σ H => ∃ W : Nat → St → Hp → Prop, (∃ m, W m σ H) ∧ ∀ m σ H, W m σ H →
  c σ H λb H1 => if b = true then ∃ N : St → Hp → Prop, (∀ σ' H', N σ' H' → ∃ m', m' < m ∧ W m' σ' H') ∧ tb { D with nx := N, ct := N, bk := D.nx } σ H1 else D.nx σ H1
theorem ps_while {c : Expr} {body : List Stmt} {tc : TT} {tb : TS} (hp : PassesOwn (model X.prog X.w) X.A X.env X.xe) (hc : PT X c tc) (hb : PSs X body tb) : PS X (.While c body [] pos) (tWhile tc tb) := by
  intro pins s σ H D I h
  obtain ⟨W, ⟨m0, w0⟩, turn⟩ := h
  refine wpAny_While (codeAny_whileLoop (λn s' => ∃ σ' H', Inv X pins σ' H' s' ∧ W n σ' H') ?_ m0 ⟨σ, H, I, w0⟩)
  rintro n s1 ⟨σ1, H1, I1, w1⟩
  refine wpAny_passesOwn hp (thn (hc pins s1 σ1 H1 _ I1 (turn n σ1 H1 w1)) λb s2 ⟨H2, I2, q2⟩ => ?_)
  cases b with
  | true =>
    obtain ⟨N, hN, q2⟩ := q2
    rw [if_pos rfl]
    refine wpAny_passesOwn hp (thn (hb pins s2 σ1 H2 _ I2 q2) λf s3 q3 => ?_)
    cases f with
    | next =>
      obtain ⟨σ3, H3, I3, n3⟩ := q3
      obtain ⟨m', hm, w3⟩ := hN σ3 H3 n3
      exact ⟨m', hm, σ3, H3, I3, w3⟩
    | cont =>
      obtain ⟨σ3, H3, I3, n3⟩ := q3
      obtain ⟨m', hm, w3⟩ := hN σ3 H3 n3
      exact ⟨m', hm, σ3, H3, I3, w3⟩
    | brk => exact q3
    | ret v => exact q3
  | false =>
    rw [if_neg Y01]
    exact wpAny_execs_nil ⟨σ1, H2, I2, q2⟩
end
structure It where
  go : Nat → Hp → Prop
  yld : Nat → Hp → V → Hp → Prop
  stop : Nat → Hp → Prop
noncomputable def FpOk (X : Cx) (pins : List (Addr × Obj)) (H : Hp) (b : Addr) : Prop :=
  H b = none ∧ b ≠ X.env.locals ∧ b ∉ X.fs ∧ (b ∈ X.ex ∨ X.s₀.heap.objs.size ≤ b) ∧ (∀ x c, X.env.cells.lookup x = some c → c ≠ b) ∧ ∀ p ∈ X.pn ++ pins, p.1 ≠ b
theorem Inv.fpOk {X : Cx} {pins : List (Addr × Obj)} {σ : St} {H H' : Hp} {s : Shared} {b : Addr} (I : Inv X pins σ H s) (hb : s.heap.objs.size ≤ b) (hn : H' b = none) : FpOk X pins H' b := by
  refine ⟨hn, Y2k (Y0k I.lt hb), I.nofs hb, .inr (Y0D I.sz hb), λx c e z => ?_, λp hp z => ?_⟩
  · obtain ⟨v, q⟩ := I.cell x c e
    exact absurd (Y0k q.lt (by rw [z]; exact hb)) (Y1b _)
  · exact absurd (Y0k (Y08 (I.pin p hp).1) (by rw [z]; exact hb)) (Y1b _)
structure Turn (P : Program) (w : World) (K : Y00) (tg : Expr) (J : It) (fp : List Addr) (it : Addr) (tn : Nat → Heap → Prop) : Prop where
  mem : it ∈ fp
  obj : ∀ i h, tn i h → ∀ b ∈ fp, ∃ o, h.get? b = some o ∧ ∀ v, o.data ≠ .cell v
  keep : ∀ i h h', tn i h → (∀ b ∈ fp, ∀ o, h.get? b = some o → h'.get? b = some o) → tn i h'
  item : ∀ (X : Cx), X.prog = P → X.w = w → X.K = K → X.calm = true → ∀ (i : Nat) (pins : List (Addr × Obj)) (s : Shared) (σ : St) (H : Hp) (E : Value → Shared → Prop), Inv X pins σ H s → (∀ b ∈ fp, FpOk X pins H b) → tn i s.heap → J.go i H →
    wpAny (model P w) X.A (pyNext (.ref it)) (λr s1 => ∃ u, r = some u ∧
      wpAny (model P w) X.A (letOwnedTupleGo tg (.ref it) u) (λ_ s2 => ∃ x H', Inv X pins σ H' s2 ∧ RelV x u ∧ J.yld i H x H' ∧ tn (i + 1) s2.heap ∧ ∀ b ∈ fp, H' b = none) E s1) E s
  done : ∀ (X : Cx), X.prog = P → X.w = w → X.K = K → X.calm = true → ∀ (i : Nat) (pins : List (Addr × Obj)) (s : Shared) (σ : St) (H : Hp) (E : Value → Shared → Prop), Inv X pins σ H s → (∀ b ∈ fp, FpOk X pins H b) → tn i s.heap → J.stop i H →
    wpAny (model P w) X.A (pyNext (.ref it)) (λr s1 => r = none ∧ Inv X pins σ H s1) E s
  self : ∀ (A : Around) (i : Nat) (s : Shared) (Q : Value → Shared → Prop) (E : Value → Shared → Prop), tn i s.heap → Q (.ref it) s → wpAny (model P w) A (pyIter (.ref it)) Q E s
noncomputable abbrev TI := St → Hp → (It → Hp → Prop) → Prop
noncomputable def PIE (X : Cx) (pins : List (Addr × Obj)) (σ : St) (tg : Expr) (R : It → Hp → Prop) (itv : Value) (s2 : Shared) : Prop :=
  ∃ (it : Addr) (fp : List Addr) (tn : Nat → Heap → Prop) (J : It) (H' : Hp), itv = .ref it ∧ Inv X pins σ H' s2 ∧ Turn X.prog X.w X.K tg J fp it tn ∧ tn 0 s2.heap ∧ (∀ b ∈ fp, FpOk X pins H' b) ∧ R J H'
noncomputable def PI (X : Cx) (tg iter : Expr) (wi : TI) : Prop :=
  ∀ (pins : List (Addr × Obj)) (s : Shared) (σ : St) (H : Hp) (R : It → Hp → Prop), Inv X pins σ H s → wi σ H R →
    wpAny (model X.prog X.w) X.A (eval iter X.env) (λv s1 => wpAny (model X.prog X.w) X.A (pyIter v) (PIE X pins σ tg R) X.xe s1) X.xe s
theorem go_of {M : Model} {A : Around} {E : Value → Shared → Prop} {s : Shared} {tg : Expr} {it : Addr} {u : Value} {o : Obj} {n : String} {vs : Array Value} {Q : Unit → Shared → Prop} (ho : s.heap.get? it = some o) (hc : o.cls = .type n) (hd : o.data = .fields vs)
    (hn : ["enumerate", "zip", "dict_itemiterator", "dict_reverseitemiterator", "odict_iterator", "itertools.zip_longest", "itertools.pairwise"].contains n = false) (hQ : Q () s) : wpAny M A (letOwnedTupleGo tg (.ref it) u) Q E s := by
  unfold letOwnedTupleGo
  cases tg <;> first
    | exact wpAny_pure hQ
    | (cases u <;> first
        | exact wpAny_pure hQ
        | (refine wpAny_bind (wpAny_load ho ?_)
           rw [hc, hd]
           show wpAny M A (if (["enumerate", "zip", "dict_itemiterator", "dict_reverseitemiterator", "odict_iterator", "itertools.zip_longest", "itertools.pairwise"].contains n && vs[0]? == some (rawInt _)) = true then _ else _) Q E s
           rw [if_neg (by intro h; rw [hn, Y1U] at h; cases h)]
           exact wpAny_pure hQ))
noncomputable def Itl (K : Y00) (a : Addr) : It :=
  ⟨λi H => ∃ xs x, SqL K H a xs ∧ xs[i]? = some x, λi H x H' => H' = H ∧ ∀ xs, SqL K H a xs → xs[i]? = some x, λi H => ∃ xs, SqL K H a xs ∧ xs.length ≤ i⟩
noncomputable def Itt (K : Y00) (a : Addr) : It :=
  ⟨λi H => ∃ xs x, SqT K H a xs ∧ xs[i]? = some x, λi H x H' => H' = H ∧ ∀ xs, SqT K H a xs → xs[i]? = some x, λi H => ∃ xs, SqT K H a xs ∧ xs.length ≤ i⟩
noncomputable def Itr (lo : Int) (n : Nat) : It := ⟨λi _ => i < n, λi H x H' => H' = H ∧ x = .int (lo + i), λi _ => n ≤ i⟩
theorem turn_list {P : Program} {w : World} {K : Y00} {tg : Expr} (a it : Addr) : Turn P w K tg (Itl K a) [it] it (λi h => h.IsListIter it a i) where
  mem := by simp
  obj := λi h st b hb => by
    have e : b = it := by simpa using hb
    subst e
    obtain ⟨o, e, c, d⟩ := st
    exact ⟨o, e, λv z => by rw [d] at z; cases z⟩
  keep := λi h h' st k => st.at λo e => k it (by simp) o e
  item := by
    intro X hP hw hK hc i pins s σ H E I hf st hg
    subst hP hw hK
    obtain ⟨xs, x, hq, hx⟩ := hg
    obtain ⟨its, rv, p, hz⟩ := I.list hq
    obtain ⟨u, hu, ru⟩ := rv.get hx
    obtain ⟨f0, f1, f2, f3, f4, f5⟩ := hf it (by simp)
    refine wpAny_pyNext_list_item st p.isList (x := u) (by simpa using hu) λh' st' sb => ?_
    have I1 : Inv X pins σ H { s with heap := h' } := I.turned (t' := s.toks) (λb o hb e => (sb.2 b hb).trans e) f0 f1 f3 f4 f5
    obtain ⟨o, e, c, d⟩ := id st'
    exact ⟨u, rfl, go_of (s := { s with heap := h' }) e c d (by decide) ⟨x, H, I1, ru, ⟨rfl, λys hy => by rw [I.list_inj hy hq]; exact hx⟩, st', λb hb => (hf b hb).1⟩⟩
  done := by
    intro X hP hw hK hc i pins s σ H E I hf st hg
    subst hP hw hK
    obtain ⟨xs, hq, hx⟩ := hg
    obtain ⟨its, rv, p, hz⟩ := I.list hq
    obtain ⟨f0, f1, f2, f3, f4, f5⟩ := hf it (by simp)
    have hl := rv.length
    exact wpAny_pyNext_list_end (I.ok.hd hc) st p.isList (by simp; lia) λh' eb => ⟨rfl, I.turned (t' := s.toks) (λb o hb e => eb b o hb e) f0 f1 f3 f4 f5⟩
  self := λ_ _ _ _ _ st h => wpAny_pyIter_listiter st h
theorem turn_tuple {P : Program} {w : World} {K : Y00} {tg : Expr} (a it : Addr) : Turn P w K tg (Itt K a) [it] it (λi h => h.IsTupleIter it a i) where
  mem := by simp
  obj := λi h st b hb => by
    have e : b = it := by simpa using hb
    subst e
    obtain ⟨o, e, c, d⟩ := st
    exact ⟨o, e, λv z => by rw [d] at z; cases z⟩
  keep := λi h h' st k => st.at λo e => k it (by simp) o e
  item := by
    intro X hP hw hK hc i pins s σ H E I hf st hg
    subst hP hw hK
    obtain ⟨xs, x, hq, hx⟩ := hg
    obtain ⟨its, rv, p, hz⟩ := I.tuple hq
    obtain ⟨u, hu, ru⟩ := rv.get hx
    obtain ⟨f0, f1, f2, f3, f4, f5⟩ := hf it (by simp)
    refine wpAny_pyNext_tuple_item st (show s.heap.IsTuple a its.toArray from p) (x := u) (by simpa using hu) λh' st' sb => ?_
    have I1 : Inv X pins σ H { s with heap := h' } := I.turned (t' := s.toks) (λb o hb e => (sb.2 b hb).trans e) f0 f1 f3 f4 f5
    obtain ⟨o, e, c, d⟩ := id st'
    exact ⟨u, rfl, go_of (s := { s with heap := h' }) e c d (by decide) ⟨x, H, I1, ru, ⟨rfl, λys hy => by rw [I.tuple_inj hy hq]; exact hx⟩, st', λb hb => (hf b hb).1⟩⟩
  done := by
    intro X hP hw hK hc i pins s σ H E I hf st hg
    subst hP hw hK
    obtain ⟨xs, hq, hx⟩ := hg
    obtain ⟨its, rv, p, hz⟩ := I.tuple hq
    obtain ⟨f0, f1, f2, f3, f4, f5⟩ := hf it (by simp)
    have hl := rv.length
    exact wpAny_pyNext_tuple_end (I.ok.hd hc) st (show s.heap.IsTuple a its.toArray from p) (by simp; lia) λh' eb => ⟨rfl, I.turned (t' := s.toks) (λb o hb e => eb b o hb e) f0 f1 f3 f4 f5⟩
  self := λ_ _ _ _ _ st h => wpAny_pyIter_tupleiter st h
theorem turn_range {P : Program} {w : World} {K : Y00} {tg : Expr} (it : Addr) (lo : Int) (n : Nat) : Turn P w K tg (Itr lo n) [it] it (λi h => IsRangeIter h it (lo + (i : Nat) * 1) ((n : Int) - (i : Nat)) 1) where
  mem := by simp
  obj := λi h st b hb => by
    have e : b = it := by simpa using hb
    subst e
    exact ⟨_, st, λv z => by
      have z' : Y1G _ = Data.cell v := z
      cases z'⟩
  keep := λi h h' st k => k it (by simp) _ st
  item := by
    intro X hP hw hK hc i pins s σ H E I hf st hg
    subst hP hw hK
    obtain ⟨f0, f1, f2, f3, f4, f5⟩ := hf it (by simp)
    have W := Walks.range (prog := X.prog) (w := X.w) (I.ok.hd hc) it lo 1 n
    refine W.item i s _ _ hg st λv h' tk hv st' kk => ?_
    obtain ⟨t, rfl⟩ := hv
    have I1 : Inv X pins σ H { s with heap := h', toks := tk } := I.turned (λb o hb e => kk b o (by simpa using hb) e) f0 f1 f3 f4 f5
    refine ⟨_, rfl, go_of (s := { s with heap := h', toks := tk }) (n := "range_iterator") st' rfl rfl (by decide) ⟨.int (lo + i), H, I1, ⟨t, ?_⟩, ⟨rfl, rfl⟩, st', fun b hb => (hf b hb).1⟩⟩
    rw [Int.mul_one]
  done := by
    intro X hP hw hK hc i pins s σ H E I hf st hg
    subst hP hw hK
    obtain ⟨f0, f1, f2, f3, f4, f5⟩ := hf it (by simp)
    exact wpAny_pyNext_range_end (I.ok.hd hc) st (by have : n ≤ i := hg; lia) λh' eb => ⟨rfl, I.turned (t' := s.toks) (λb o hb e => eb b o hb e) f0 f1 f3 f4 f5⟩
  self := λ_ _ _ _ _ st h => wpAny_pyIter_rangeiter st h
end L2
namespace L2
open PySem PySem.Spec PyProof.Rows
section
variable {X : Cx} {tg : Expr}
theorem range_it {pins : List (Addr × Obj)} {σ : St} {H : Hp} {s : Shared} {R : It → Hp → Prop} {E : Value → Shared → Prop} {lo hi : Int} {t u v : Tok} {tk : Nat} (I : Inv X pins σ H s) (h1 : -(2 ^ 62) ≤ lo) (h2 : lo < 2 ^ 62) (h3 : -(2 ^ 62) ≤ hi) (h4 : hi < 2 ^ 62)
    (q : R (Itr lo (hi - lo).toNat) H) : wpAny (model X.prog X.w) X.A (pyIter (.ref s.heap.objs.size)) (PIE X pins σ tg R) E { s with heap := s.heap.push { cls := .type "range", data := .fields #[.int lo t, .int hi u, .int 1 v] }, toks := tk } := by
  refine wpAny_pyIter_range (Y2Y ..) (small_one h1 h2 h3 h4) ?_
  have I1 : Inv X pins σ H { s with heap := s.heap.push { cls := .type "range", data := .fields #[.int lo t, .int hi u, .int 1 v] }, toks := tk } := I.kept fun b o e => Y02 _ e
  refine ⟨(s.heap.push { cls := .type "range", data := .fields #[.int lo t, .int hi u, .int 1 v] }).objs.size, [(s.heap.push { cls := .type "range", data := .fields #[.int lo t, .int hi u, .int 1 v] }).objs.size], _, _, H, rfl,
    I1.kept (t' := tk) λb o e => Y02 _ e, turn_range _ lo (hi - lo).toNat, ?_, λb hb => ?_, q⟩
  · have e1 : lo + ((0 : Nat) : Int) * 1 = lo := by simp
    have e2 : (((hi - lo).toNat : Nat) : Int) - ((0 : Nat) : Int) = Y0K lo hi 1 := by rw [rangeSize_one]; split <;> lia
    show IsRangeIter _ _ (lo + ((0 : Nat) : Int) * 1) ((((hi - lo).toNat : Nat) : Int) - ((0 : Nat) : Int)) 1
    rw [e1, e2]
    exact Y09 _ rfl
  · have e : b = (s.heap.push { cls := .type "range", data := .fields #[.int lo t, .int hi u, .int 1 v] }).objs.size := by simpa using hb
    subst e
    exact I1.fpOk (Y07 _) (I1.hok.fresh (Y07 _))
noncomputable def iRng1 (ta : TA) : TI := λσ H R => ta σ H λvs H1 => ∃ j : Int, vs = [.int j] ∧ -(2 ^ 62) ≤ j ∧ j < 2 ^ 62 ∧ R (Itr 0 j.toNat) H1
noncomputable def iRng2 (ta : TA) : TI := λσ H R => ta σ H λvs H1 => ∃ i j : Int, vs = [.int i, .int j] ∧ (-(2 ^ 62) ≤ i ∧ i < 2 ^ 62 ∧ -(2 ^ 62) ≤ j ∧ j < 2 ^ 62) ∧ R (Itr i (j - i).toNat) H1
theorem pi_range1 {a : Expr} {ta : TA} {p pos : Pos} (hg : Gl X "range") (hm : X.mg "range" = none) (ha : PA X [a] ta) (hs : starEach [a] X.env = [(false, eval a X.env)] := by rfl) : PI X tg (.Call (.Name "range" p) [a] [] pos) (iRng1 ta) := by
  intro pins s σ H R I h
  refine Call_ (ld_blt I hg hm boot_range (Y0s (thn (ha pos pins s σ H _ I h) λus s1 ⟨vs, H1, I1, r1, q1⟩ => ?_) hs rfl))
  obtain ⟨j, e, q1, q2, q⟩ := q1
  subst e
  cases r1 with
  | cons r rr =>
    cases rr
    obtain ⟨t, rfl⟩ := r
    exact call_range_1 (range_it I1 (by lia) (by lia) q1 q2 (by simpa using q))
theorem pi_range2 {a b : Expr} {ta : TA} {p pos : Pos} (hg : Gl X "range") (hm : X.mg "range" = none) (ha : PA X [a, b] ta) (hs : starEach [a, b] X.env = [(false, eval a X.env), (false, eval b X.env)] := by rfl) (hs2 : starEach [b] X.env = [(false, eval b X.env)] := by rfl) :
    PI X tg (.Call (.Name "range" p) [a, b] [] pos) (iRng2 ta) := by
  intro pins s σ H R I h
  refine Call_ (ld_blt I hg hm boot_range (Y0s (thn (ha pos pins s σ H _ I h) λus s1 ⟨vs, H1, I1, r1, q1⟩ => ?_) (by rw [hs, hs2]) (by rw [hs2]; rfl)))
  obtain ⟨i, j, e, ⟨q1, q2, q3, q4⟩, q⟩ := q1
  subst e
  cases r1 with
  | cons r rr =>
    cases rr with
    | cons r' rr =>
      cases rr
      obtain ⟨t, rfl⟩ := r
      obtain ⟨t', rfl⟩ := r'
      exact call_range_2 (range_it I1 q1 q2 q3 q4 q)
noncomputable def tFor (wi : TI) (g : TG) (tb : TS) : TS := λD σ H => wi σ H λJ H1 => ∃ W : Nat → Nat → St → Hp → Prop, (∃ m, W 0 m σ H1) ∧ ∀ i m σ H, W i m σ H →
  (J.stop i H ∧ D.nx σ H) ∨ (J.go i H ∧ ∃ N : St → Hp → Prop, (∀ σ' H', N σ' H' → ∃ m', m' < m ∧ W (i + 1) m' σ' H') ∧ ∀ x H', J.yld i H x H' → g x σ H' λσ2 H2 => tb { D with nx := N, ct := N, bk := D.nx } σ2 H2)
noncomputable def pinsAt (fp : List Addr) (h : Heap) : List (Addr × Obj) := fp.filterMap λb => (h.get? b).map λo => (b, o)
theorem mem_pinsAt {fp : List Addr} {h : Heap} {b : Addr} {o : Obj} (hb : b ∈ fp) (e : h.get? b = some o) : (b, o) ∈ pinsAt fp h := Y1P.mpr ⟨b, hb, by rw [e]; rfl⟩
theorem of_pinsAt {fp : List Addr} {h : Heap} {p : Addr × Obj} (hp : p ∈ pinsAt fp h) : p.1 ∈ fp ∧ h.get? p.1 = some p.2 := by
  obtain ⟨b, hb, e⟩ := Y1P.mp hp
  cases q : h.get? b with
  | none => rw [q] at e; cases e
  | some o =>
    rw [q] at e
    have e' : (b, o) = p := Y0x e
    subst e'
    exact ⟨hb, q⟩
theorem Inv.pinned {pins : List (Addr × Obj)} {σ : St} {H : Hp} {s : Shared} {fp : List Addr} (I : Inv X pins σ H s) (hf : ∀ b ∈ fp, FpOk X pins H b) (ho : ∀ b ∈ fp, ∃ o, s.heap.get? b = some o ∧ ∀ v, o.data ≠ .cell v) : Inv X (pins ++ pinsAt fp s.heap) σ H s :=
  I.pins_of λp hp => (Y1F.mp hp).elim (λz => I.pin p (Y0n _ z)) λz => by
    obtain ⟨hb, e⟩ := of_pinsAt z
    obtain ⟨f0, f1, f2, _⟩ := hf p.1 hb
    obtain ⟨o, e', d⟩ := ho p.1 hb
    rw [e] at e'; cases e'
    exact ⟨e, f0, f1, f2, d⟩
theorem Inv.unpinned {pins pl : List (Addr × Obj)} {σ : St} {H : Hp} {s : Shared} (I : Inv X (pins ++ pl) σ H s) : Inv X pins σ H s := I.pins_of λp hp => I.pin p (Y0n _ (List.mem_append_left _ hp))
theorem ps_for {iter : Expr} {body : List Stmt} {wi : TI} {g : TG} {tb : TS} {pos : Pos} (hp : PassesOwn (model X.prog X.w) X.A X.env X.xe) (hc : X.calm = true) (hi : PI X tg iter wi) (hg : PG X tg g) (hb : PSs X body tb)
    (hs : ∀ x, foldedSetIterable iter X.env x = pure x := by intro _; rfl) : PS X (.For tg iter body [] pos) (tFor wi g tb) := by
  intro pins s σ H D I h
  refine wpAny_For (thn (hi pins s σ H _ I h) λv s1 h1 => thn h1 λitv s2 h2 => ?_) hs
  obtain ⟨it, fp, tn, J, H2, e, I2, T, st2, f2, W, ⟨m0, w0⟩, turn⟩ := h2
  subst e
  have stat : ∀ {H' : Hp}, (∀ b ∈ fp, H' b = none) → ∀ b ∈ fp, FpOk X pins H' b := λhn b hb => ⟨hn b hb, (f2 b hb).2⟩
  refine codeAny_forLoop_any (λn s' => ∃ i σ' H', Inv X pins σ' H' s' ∧ tn i s'.heap ∧ (∀ b ∈ fp, H' b = none) ∧ W i n σ' H') ?_ m0 ⟨0, σ, H2, I2, st2, λb hb => (f2 b hb).1, w0⟩
  rintro n s3 ⟨i, σ3, H3, I3, st3, fr3, w3⟩
  rcases turn i n σ3 H3 w3 with ⟨stop, qn⟩ | ⟨go, N, hN, step⟩
  · refine wpAny_passesOwn hp (thn (T.done X rfl rfl rfl hc i pins s3 σ3 H3 X.xe I3 (stat fr3) st3 stop) λr s4 ⟨hr, I4⟩ => ?_)
    subst hr
    exact wpAny_execs_nil ⟨σ3, H3, I4, qn⟩
  · refine wpAny_passesOwn hp (thn (T.item X rfl rfl rfl hc i pins s3 σ3 H3 X.xe I3 (stat fr3) st3 go) λr s4 ⟨u, hr, h4⟩ => ?_)
    subst hr
    refine wpAny_passesOwn hp (thn h4 λ_ s5 ⟨x, H5, I5, r5, y5, st5, fr5⟩ => ?_)
    have I5' := I5.pinned (stat fr5) (T.obj _ _ st5)
    refine wpAny_passesOwn hp (thn (hg _ s5 σ3 H5 x u _ I5' r5 (step x H5 y5)) λ_ s6 ⟨σ6, H6, I6, q6⟩ => ?_)
    refine wpAny_passesOwn hp (thn (hb _ s6 σ6 H6 _ I6 q6) λf s7 q7 => ?_)
    have again : ∀ {σ7 : St} {H7 : Hp}, Inv X (pins ++ pinsAt fp s5.heap) σ7 H7 s7 → N σ7 H7 → ∃ m, m < n ∧ ∃ i σ' H', Inv X pins σ' H' s7 ∧ tn i s7.heap ∧ (∀ b ∈ fp, H' b = none) ∧ W i m σ' H' := fun {σ7 H7} I7 n7 => by
      obtain ⟨m', hm, w7⟩ := hN σ7 H7 n7
      refine ⟨m', hm, i + 1, σ7, H7, I7.unpinned, T.keep _ _ _ st5 λb hb o e => (I7.pin (b, o) (Y0n _ (Y0n _ (mem_pinsAt hb e)))).1, λb hb => ?_, w7⟩
      obtain ⟨o, e, d⟩ := T.obj _ _ st5 b hb
      exact (I7.pin (b, o) (Y0n _ (Y0n _ (mem_pinsAt hb e)))).2.1
    cases f with
    | next => obtain ⟨σ7, H7, I7, n7⟩ := q7; exact again I7 n7
    | cont => obtain ⟨σ7, H7, I7, n7⟩ := q7; exact again I7 n7
    | brk => obtain ⟨σ7, H7, I7, q7⟩ := q7; exact ⟨σ7, H7, I7.unpinned, q7⟩
    | ret v => obtain ⟨x7, σ7, H7, I7, r7, q7⟩ := q7; exact ⟨x7, σ7, H7, I7.unpinned, r7, q7⟩
end
end L2
namespace L2
open PySem PySem.Spec PyProof.Rows
noncomputable abbrev R2 := V → V → Hp → VK → Prop
noncomputable def OpR (X : Cx) (f : Value → Value → Sem Value) (r : R2) : Prop :=
  ∀ (pins : List (Addr × Obj)) (s : Shared) (σ : St) (H : Hp) (x y : V) (v u : Value) (Q : VK), Inv X pins σ H s → RelV x v → RelV y u → r x y H Q →
    wpAny (model X.prog X.w) X.A (f v u) (EP X pins σ Q) X.xe s
noncomputable def UnR (X : Cx) (f : Value → Sem Value) (r : V → Hp → VK → Prop) : Prop :=
  ∀ (pins : List (Addr × Obj)) (s : Shared) (σ : St) (H : Hp) (x : V) (v : Value) (Q : VK), Inv X pins σ H s → RelV x v → r x H Q →
    wpAny (model X.prog X.w) X.A (f v) (EP X pins σ Q) X.xe s
noncomputable def CallR (X : Cx) (f : Value) (r : List V → Hp → VK → Prop) : Prop :=
  ∀ (pins : List (Addr × Obj)) (s : Shared) (σ : St) (H : Hp) (xs : List V) (us : List Value) (Q : VK), Inv X pins σ H s → Vals xs us → r xs H Q →
    wpAny (model X.prog X.w) X.A (call f us) (EP X pins σ Q) X.xe s
noncomputable def tOp (r : R2) (ta tb : TE) : TE := λσ H Q => ta σ H λx H1 => tb σ H1 λy H2 => r x y H2 Q
noncomputable def tUn (r : V → Hp → VK → Prop) (ta : TE) : TE := λσ H Q => ta σ H λx H1 => r x H1 Q
noncomputable def rI (C : Int → Int → Prop) (g : Int → Int → V) : R2 := λx y H Q => ∃ i j, x = .int i ∧ y = .int j ∧ C i j ∧ Q (g i j) H
noncomputable def rI0 (g : Int → Int → V) : R2 := λx y H Q => ∃ i j, x = .int i ∧ y = .int j ∧ Q (g i j) H
noncomputable def rU (g : Int → V) : V → Hp → VK → Prop := λx H Q => ∃ i, x = .int i ∧ Q (g i) H
section
variable {X : Cx} {a b c : Expr} {ta tb tc : TE} {pos : Pos}
theorem binT (ha : PE X a ta) (hb : PE X b tb) {pins : List (Addr × Obj)} {s : Shared} {σ : St} {H : Hp} {R : V → V → Hp → Prop} (I : Inv X pins σ H s)
    (h : ta σ H λx H1 => tb σ H1 λy H2 => R x y H2) {Q : Value → Shared → Prop} {f : Value → Value → Sem Value}
    (hf : ∀ v u s2 x y H2, Inv X pins σ H2 s2 → RelV x v → RelV y u → R x y H2 → wpAny (model X.prog X.w) X.A (f v u) Q X.xe s2) :
    wpAny (model X.prog X.w) X.A (eval a X.env) (λv s₁ => wpAny (model X.prog X.w) X.A (eval b X.env) (λu s₂ => wpAny (model X.prog X.w) X.A (f v u) Q X.xe s₂) X.xe s₁) X.xe s := by
  refine thn (ha pins s σ H _ I h) λv s1 ⟨x, H1, I1, r1, q1⟩ => ?_
  refine thn (hb pins s1 σ H1 _ I1 q1) λu s2 ⟨y, H2, I2, r2, q2⟩ => ?_
  exact hf v u s2 x y H2 I2 r1 r2 q2
theorem pe_op {op : Operator} {r : R2} (ho : OpR X (binaryOp op) r) (ha : PE X a ta) (hb : PE X b tb) : PE X (.BinOp a op b pos) (tOp r ta tb) := by
  intro pins s σ H Q I h
  exact wpAny_BinOp (binT ha hb I h λv u s2 x y H2 I2 rx ry q => ho pins s2 σ H2 x y v u Q I2 rx ry q)
theorem pe_un {op : UnaryOp} {r : V → Hp → VK → Prop} (ho : UnR X (unaryOp op) r) (ha : PE X a ta) : PE X (.UnaryOp op a pos) (tUn r ta) := by
  intro pins s σ H Q I h
  exact UnaryOp_ (thn (ha pins s σ H _ I h) λv s1 ⟨x, H1, I1, r1, q1⟩ => ho pins s1 σ H1 x v Q I1 r1 q1)
theorem opI {f : Value → Value → Sem Value} {C : Int → Int → Prop} {g : Int → Int → Int}
    (rule : ∀ (i j : Int) (t u : Tok) (s : Shared) (Q : Value → Shared → Prop) (E : Value → Shared → Prop), C i j → Q (.int (g i j) s.toks) { s with toks := s.toks + 1 } → wpAny (model X.prog X.w) X.A (f (.int i t) (.int j u)) Q E s) :
    OpR X f (rI C λi j => .int (g i j)) := by
  intro pins s σ H x y v u Q I rx ry h
  obtain ⟨i, j, rfl, rfl, hc, q⟩ := h
  obtain ⟨t, rfl⟩ := rx
  obtain ⟨t', rfl⟩ := ry
  exact rule i j t t' s _ _ hc ⟨.int (g i j), H, I.tok _, ⟨_, rfl⟩, q⟩
theorem opI0 {f : Value → Value → Sem Value} {g : Int → Int → Int}
    (rule : ∀ (i j : Int) (t u : Tok) (s : Shared) (Q : Value → Shared → Prop) (E : Value → Shared → Prop), Q (.int (g i j) s.toks) { s with toks := s.toks + 1 } → wpAny (model X.prog X.w) X.A (f (.int i t) (.int j u)) Q E s) :
    OpR X f (rI0 λi j => .int (g i j)) := by
  intro pins s σ H x y v u Q I rx ry h
  obtain ⟨i, j, rfl, rfl, q⟩ := h
  obtain ⟨t, rfl⟩ := rx
  obtain ⟨t', rfl⟩ := ry
  exact rule i j t t' s _ _ ⟨.int (g i j), H, I.tok _, ⟨_, rfl⟩, q⟩
theorem opB0 {f : Value → Value → Sem Value} {g : Int → Int → Bool}
    (rule : ∀ (i j : Int) (t u : Tok) (s : Shared) (Q : Value → Shared → Prop) (E : Value → Shared → Prop), Q (.bool (g i j)) s → wpAny (model X.prog X.w) X.A (f (.int i t) (.int j u)) Q E s) :
    OpR X f (rI0 λi j => .bl (g i j)) := by
  intro pins s σ H x y v u Q I rx ry h
  obtain ⟨i, j, rfl, rfl, q⟩ := h
  obtain ⟨t, rfl⟩ := rx
  obtain ⟨t', rfl⟩ := ry
  exact rule i j t t' s _ _ ⟨.bl (g i j), H, I, rfl, q⟩
noncomputable def CPow (i j : Int) : Prop := 0 ≤ j ∧ j ≤ 1000000 ∧ i.natAbs < 2 ^ 64
noncomputable def CMul (i j : Int) : Prop := (-(2 ^ 64) < i ∧ i < 2 ^ 64) ∨ (-(2 ^ 64) < j ∧ j < 2 ^ 64)
theorem CMul.ok {i j : Int} (h : CMul i j) : IntMulOk i j := by
  rcases h with ⟨h1, h2⟩ | ⟨h1, h2⟩
  · exact .of_left (intBits_le_64 h1 h2)
  · exact .of_right (intBits_le_64 h1 h2)
theorem op_add : OpR X (binaryOp .Add) (rI0 λi j => .int (i + j)) := opI0 λ_ _ _ _ _ _ _ q => add_int q
theorem op_sub : OpR X (binaryOp .Sub) (rI0 λi j => .int (i - j)) := opI0 λ_ _ _ _ _ _ _ q => sub_int q
theorem op_mul : OpR X (binaryOp .Mult) (rI CMul λi j => .int (i * j)) := opI λ_ _ _ _ _ _ _ hc q => mul_int q hc.ok
theorem op_mod : OpR X (binaryOp .Mod) (rI (λ_ j => 0 < j) λi j => .int (i % j)) := opI λi j _ _ _ _ _ hc q => by
  have h1 : (0 : Int) < j := hc
  exact mod_int' (by lia) (by rw [Int.fmod_eq_emod_of_nonneg i (by lia)]; exact q)
theorem op_pow : OpR X (binaryOp .Pow) (rI CPow λi j => .int (i ^ j.toNat)) := opI λ_ _ _ _ _ _ _ hc q => pow_int_small hc.1 hc.2.1 hc.2.2 q
theorem op_and : OpR X (binaryOp .BitAnd) (rI0 λi j => .int (Y2A i j)) := opI0 λ_ _ _ _ _ _ _ q => and_int q
theorem op_xor : OpR X (binaryOp .BitXor) (rI0 λi j => .int (Y2B i j)) := opI0 λ_ _ _ _ _ _ _ q => xor_int q
theorem unI {f : Value → Sem Value} {g : Int → Int}
    (rule : ∀ (i : Int) (t : Tok) (s : Shared) (Q : Value → Shared → Prop) (E : Value → Shared → Prop), Q (.int (g i) s.toks) { s with toks := s.toks + 1 } → wpAny (model X.prog X.w) X.A (f (.int i t)) Q E s) :
    UnR X f (rU λi => .int (g i)) := by
  intro pins s σ H x v Q I rx h
  obtain ⟨i, rfl, q⟩ := h
  obtain ⟨t, rfl⟩ := rx
  exact rule i t s _ _ ⟨.int (g i), H, I.tok _, ⟨_, rfl⟩, q⟩
theorem un_neg : UnR X (unaryOp .USub) (rU λi => .int (-i)) := unI λ_ _ _ _ _ q => neg_int q
end
noncomputable def scal : V → V → Bool
  | .non, .non => true | .non, .int _ => true | .int _, .non => true | .non, .bl _ => true | .bl _, .non => true | .non, .str _ => true | .str _, .non => true
  | .int _, .int _ => true | .bl _, .bl _ => true | .str _, .str _ => true | .byt _, .byt _ => true
  | .int _, .str _ => true | .str _, .int _ => true | .bl _, .str _ => true | .str _, .bl _ => true
  | _, _ => false
noncomputable def rEq : R2 := λx y H Q => scal x y = true ∧ Q (.bl (decide (x = y))) H
noncomputable def rNe : R2 := λx y H Q => scal x y = true ∧ Q (.bl (!decide (x = y))) H
theorem dec_int {i j : Int} : decide (V.int i = V.int j) = (i == j) := by
  rw [Y1H]
  simp
theorem dec_bl {i j : Bool} : decide (V.bl i = V.bl j) = (i == j) := by
  rw [Y1H]
  simp
theorem dec_str {i j : Str} : decide (V.str i = V.str j) = (i == j) := by
  rw [Y1H]
  simp
theorem dec_byt {i j : Array UInt8} : decide (V.byt i = V.byt j) = (i.toList == j.toList) := by
  rw [Y1H]
  cases i
  cases j
  simp
section
variable {X : Cx} {a b c : Expr} {ta tb tc : TE} {pos : Pos}
theorem fin_bl {pins : List (Addr × Obj)} {σ : St} {H : Hp} {s : Shared} {Q : VK} {k k' : Bool} (I : Inv X pins σ H s) (q : Q (.bl k) H) (e : k = k') : EP X pins σ Q (.bool k') s := by
  subst e
  exact ⟨.bl k, H, I, rfl, q⟩
theorem op_eq : OpR X (compareOp .Eq) rEq := by
  intro pins s σ H x y v u Q I rx ry h
  obtain ⟨hs, q⟩ := h
  cases x with
  | non =>
    cases rx
    cases y with
    | non => cases ry; exact PySem.EqNone.eq_none_none (fin_bl I q (by simp))
    | bl j => cases ry; exact PySem.EqNone.eq_none_bool (fin_bl I q (by simp))
    | int j => obtain ⟨t', rfl⟩ := ry; exact PySem.EqNone.eq_none_int (fin_bl I q (by simp))
    | str j => obtain ⟨t', rfl⟩ := ry; exact PySem.EqNone.eq_none_str (fin_bl I q (by simp))
    | _ => exact absurd (show false = true from hs) Y01
  | bl i =>
    cases rx
    cases y with
    | non => cases ry; exact PySem.EqNone.eq_bool_none (fin_bl I q (by simp))
    | bl j => cases ry; exact eq_bool (fin_bl I q dec_bl)
    | str j => obtain ⟨t', rfl⟩ := ry; exact PySem.EqMixed.eq_bool_str (fin_bl I q (by simp))
    | _ => exact absurd (show false = true from hs) Y01
  | int i =>
    obtain ⟨t, rfl⟩ := rx
    cases y with
    | non => cases ry; exact PySem.EqNone.eq_int_none (fin_bl I q (by simp))
    | int j => obtain ⟨t', rfl⟩ := ry; exact eq_int (fin_bl I q dec_int)
    | str j => obtain ⟨t', rfl⟩ := ry; exact PySem.EqMixed.eq_int_str (fin_bl I q (by simp))
    | _ => exact absurd (show false = true from hs) Y01
  | str i =>
    obtain ⟨t, rfl⟩ := rx
    cases y with
    | non => cases ry; exact PySem.EqNone.eq_str_none (fin_bl I q (by simp))
    | bl j => cases ry; exact PySem.EqMixed.eq_str_bool (fin_bl I q (by simp))
    | int j => obtain ⟨t', rfl⟩ := ry; exact PySem.EqMixed.eq_str_int (fin_bl I q (by simp))
    | str j => obtain ⟨t', rfl⟩ := ry; exact eq_str (fin_bl I q dec_str)
    | _ => exact absurd (show false = true from hs) Y01
  | byt i =>
    obtain ⟨t, rfl⟩ := rx
    cases y with
    | byt j => obtain ⟨t', rfl⟩ := ry; exact PySem.W.eq_bytes (fin_bl I q dec_byt)
    | _ => exact absurd (show false = true from hs) Y01
  | _ => cases y <;> exact absurd (show false = true from hs) Y01
theorem op_ne : OpR X (compareOp .NotEq) rNe := by
  intro pins s σ H x y v u Q I rx ry h
  obtain ⟨hs, q⟩ := h
  cases x with
  | non =>
    cases rx
    cases y with
    | non => cases ry; exact PySem.EqNone.ne_none_none (fin_bl I q (by simp))
    | bl j => cases ry; exact PySem.EqNone.ne_none_bool (fin_bl I q (by simp))
    | int j => obtain ⟨t', rfl⟩ := ry; exact PySem.EqNone.ne_none_int (fin_bl I q (by simp))
    | str j => obtain ⟨t', rfl⟩ := ry; exact PySem.EqNone.ne_none_str (fin_bl I q (by simp))
    | _ => exact absurd (show false = true from hs) Y01
  | bl i =>
    cases rx
    cases y with
    | non => cases ry; exact PySem.EqNone.ne_bool_none (fin_bl I q (by simp))
    | bl j => cases ry; exact ne_bool (fin_bl I q (congrArg not dec_bl))
    | str j => obtain ⟨t', rfl⟩ := ry; exact PySem.EqMixed.ne_bool_str (fin_bl I q (by simp))
    | _ => exact absurd (show false = true from hs) Y01
  | int i =>
    obtain ⟨t, rfl⟩ := rx
    cases y with
    | non => cases ry; exact PySem.EqNone.ne_int_none (fin_bl I q (by simp))
    | int j => obtain ⟨t', rfl⟩ := ry; exact ne_int (fin_bl I q (congrArg not dec_int))
    | str j => obtain ⟨t', rfl⟩ := ry; exact PySem.EqMixed.ne_int_str (fin_bl I q (by simp))
    | _ => exact absurd (show false = true from hs) Y01
  | str i =>
    obtain ⟨t, rfl⟩ := rx
    cases y with
    | non => cases ry; exact PySem.EqNone.ne_str_none (fin_bl I q (by simp))
    | bl j => cases ry; exact PySem.EqMixed.ne_str_bool (fin_bl I q (by simp))
    | int j => obtain ⟨t', rfl⟩ := ry; exact PySem.EqMixed.ne_str_int (fin_bl I q (by simp))
    | str j => obtain ⟨t', rfl⟩ := ry; exact ne_str (fin_bl I q (congrArg not dec_str))
    | _ => exact absurd (show false = true from hs) Y01
  | byt i =>
    obtain ⟨t, rfl⟩ := rx
    cases y with
    | byt j => obtain ⟨t', rfl⟩ := ry; exact PySem.W.ne_bytes (fin_bl I q (congrArg not dec_byt))
    | _ => exact absurd (show false = true from hs) Y01
  | _ => cases y <;> exact absurd (show false = true from hs) Y01
theorem op_lt : OpR X (compareOp .Lt) (rI0 λi j => .bl (decide (i < j))) := opB0 λ_ _ _ _ _ _ _ q => lt_int q
theorem op_le : OpR X (compareOp .LtE) (rI0 λi j => .bl (decide (i ≤ j))) := opB0 λ_ _ _ _ _ _ _ q => le_int q
theorem op_gt : OpR X (compareOp .Gt) (rI0 λi j => .bl (decide (j < i))) := opB0 λ_ _ _ _ _ _ _ q => gt_int q
theorem op_ge : OpR X (compareOp .GtE) (rI0 λi j => .bl (decide (j ≤ i))) := opB0 λ_ _ _ _ _ _ _ q => ge_int q
theorem op_isN : OpR X (compareOp .Is) (λx y H Q => y = .non ∧ Q (.bl (decide (x = .non))) H) := by
  intro pins s σ H x y v u Q I rx ry h
  obtain ⟨rfl, q⟩ := h
  cases ry
  refine is_none_gen (fin_bl I q ?_)
  cases x <;> first
    | (cases rx; rfl)
    | (obtain ⟨t, rfl⟩ := rx; rfl)
theorem op_notN : OpR X (compareOp .IsNot) (λx y H Q => y = .non ∧ Q (.bl (!decide (x = .non))) H) := by
  intro pins s σ H x y v u Q I rx ry h
  obtain ⟨rfl, q⟩ := h
  cases ry
  refine isnot_none_gen (fin_bl I q ?_)
  cases x <;> first
    | (cases rx; rfl)
    | (obtain ⟨t, rfl⟩ := rx; rfl)
theorem OpR.or {f : Value → Value → Sem Value} {r r' : R2} (h : OpR X f r) (h' : OpR X f r') : OpR X f (λx y H Q => r x y H Q ∨ r' x y H Q) := by
  intro pins s σ H x y v u Q I rx ry q
  rcases q with q | q
  · exact h pins s σ H x y v u Q I rx ry q
  · exact h' pins s σ H x y v u Q I rx ry q
theorem nomark (b : Expr) {op : CmpOp} (h : op ≠ .In := by decide) (h2 : op ≠ .NotIn := by decide) : behindInMarks op b = false := by
  have e1 : (op == CmpOp.In) = false := by cases op <;> first | rfl | exact absurd rfl h
  have e2 : (op == CmpOp.NotIn) = false := by cases op <;> first | rfl | exact absurd rfl h2
  cases b <;> simp [behindInMarks, e1, e2]
theorem pe_cmpR {op : CmpOp} {r : R2} (ho : OpR X (compareOp op) r) (ha : PE X a ta) (hb : PE X b tb) (hm : behindInMarks op b = false) : PE X (.Compare a [op] [b] pos) (tOp r ta tb) := by
  intro pins s σ H Q I h
  exact wpAny_Compare1 (binT ha hb I h λv u s2 x y H2 I2 rx ry q => ho pins s2 σ H2 x y v u Q I2 rx ry q) hm
noncomputable def tTest (t : TE) : TT := λσ H Q => t σ H λx H' => ∃ k, x = .bl k ∧ Q k H'
theorem pt_cmpR {op : CmpOp} {r : R2} (ho : OpR X (compareOp op) r) (ha : PE X a ta) (hb : PE X b tb) (hm : behindInMarks op b = false) : PT X (.Compare a [op] [b] pos) (tTest (tOp r ta tb)) := by
  intro pins s σ H Q I h
  refine wpAny_isTrue_Compare1 (thn (ha pins s σ H _ I h) λv s1 ⟨x, H1, I1, r1, q1⟩ => thn (hb pins s1 σ H1 _ I1 q1) λu s2 ⟨y, H2, I2, r2, q2⟩ =>
    thn (ho pins s2 σ H2 x y v u _ I2 r1 r2 q2) λc s3 ⟨z, H3, I3, r3, k, e, q3⟩ => ?_) hm
  subst e
  cases r3
  exact wpAny_truthy_bool ⟨H3, I3, q3⟩
noncomputable def tChain (r r' : R2) (ta tb tc : TE) : TE := λσ H Q => ta σ H λx H1 => tb σ H1 λy H2 => r x y H2 λz H3 => ∃ k, z = .bl k ∧
  (if k = true then tc σ H3 λw' H4 => r' y w' H4 Q else Q (.bl false) H3)
theorem pe_chain {op op' : CmpOp} {r r' : R2} (ho : OpR X (compareOp op) r) (ho' : OpR X (compareOp op') r') (ha : PE X a ta) (hb : PE X b tb) (hc : PE X c tc)
    (hm : lastMarks [op, op'] [b, c] = false := by with_unfolding_all rfl) : PE X (.Compare a [op, op'] [b, c] pos) (tChain r r' ta tb tc) := by
  intro pins s σ H Q I h
  refine Compare_chain (thn (ha pins s σ H _ I h) λv s1 ⟨x, H1, I1, r1, q1⟩ => chain_link (thn (hb pins s1 σ H1 _ I1 q1) λu s2 ⟨y, H2, I2, r2, q2⟩ =>
    thn (ho pins s2 σ H2 x y v u _ I2 r1 r2 q2) λd s3 ⟨z, H3, I3, r3, k, e, q3⟩ => ?_)) hm
  subst e
  cases r3
  refine wpAny_truthy_bool ?_
  cases k with
  | false => exact ite_ff ⟨.bl false, H3, I3, rfl, q3⟩
  | true => exact ite_tt (chain_last (thn (hc pins s3 σ H3 _ I3 q3) λw' s4 ⟨z', H4, I4, r4, q4⟩ => ho' pins s4 σ H4 y z' u w' Q I4 r2 r4 q4))
theorem pt_chain {op op' : CmpOp} {r r' : R2} (ho : OpR X (compareOp op) r) (ho' : OpR X (compareOp op') r') (ha : PE X a ta) (hb : PE X b tb) (hc : PE X c tc)
    (hm : lastMarks [op, op'] [b, c] = false := by with_unfolding_all rfl) : PT X (.Compare a [op, op'] [b, c] pos) (tTest (tChain r r' ta tb tc)) := by
  intro pins s σ H Q I h
  refine isTrue_chain (thn (ha pins s σ H _ I h) λv s1 ⟨x, H1, I1, r1, q1⟩ => test_link (thn (hb pins s1 σ H1 _ I1 q1) λu s2 ⟨y, H2, I2, r2, q2⟩ =>
    thn (ho pins s2 σ H2 x y v u _ I2 r1 r2 q2) λd s3 ⟨z, H3, I3, r3, k, e, q3⟩ => ?_)) hm
  subst e
  cases r3
  refine wpAny_truthy_bool ?_
  cases k with
  | false =>
    obtain ⟨k', e', q'⟩ := q3
    cases e'
    exact ite_ff ⟨H3, I3, q'⟩
  | true =>
    refine ite_tt (test_last (thn (hc pins s3 σ H3 _ I3 q3) λw' s4 ⟨z', H4, I4, r4, q4⟩ => thn (ho' pins s4 σ H4 y z' u w' _ I4 r2 r4 q4) λd' s5 ⟨z2, H5, I5, r5, k2, e2, q5⟩ => ?_))
    subst e2
    cases r5
    exact wpAny_truthy_bool ⟨H5, I5, q5⟩
theorem line63 : (sizeLine : Nat) < 2 ^ 63 := by rw [sizeLine_eq]; decide
theorem op_add_str : OpR X (binaryOp .Add) (λx y H Q => ∃ i j, x = .str i ∧ y = .str j ∧ i.length + j.length ≤ sizeLine ∧ Q (.str (i ++ j)) H) := by
  intro pins s σ H x y v u Q I rx ry h
  obtain ⟨i, j, rfl, rfl, hz, q⟩ := h
  obtain ⟨t, rfl⟩ := rx
  obtain ⟨t', rfl⟩ := ry
  exact add_str (λt' tk => ⟨.str (i ++ j), H, I.tok _, ⟨_, rfl⟩, q⟩) hz
theorem vals1 {x : V} {us : List Value} (r : Vals [x] us) : ∃ u, us = [u] ∧ RelV x u := by
  cases r with
  | cons r1 r2 => cases r2; exact ⟨_, rfl, r1⟩
theorem vals2 {x y : V} {us : List Value} (r : Vals [x, y] us) : ∃ u w', us = [u, w'] ∧ RelV x u ∧ RelV y w' := by
  cases r with
  | cons r1 r2 =>
    cases r2 with
    | cons r3 r4 => cases r4; exact ⟨_, _, rfl, r1, r3⟩
theorem call_abs : CallR X (.builtin "abs") (fun xs H Q => ∃ i, xs = [.int i] ∧ Q (.int (if i < 0 then -i else i)) H) := by
  intro pins s σ H xs us Q I r h
  obtain ⟨i, rfl, q⟩ := h
  obtain ⟨u, rfl, t, rfl⟩ := vals1 r
  exact call_abs_int λu tk => ⟨.int (if i < 0 then -i else i), H, I.tok _, ⟨_, rfl⟩, q⟩
theorem call_int1 : CallR X (.type "int") (fun xs H Q => (∃ i, xs = [.int i] ∧ Q (.int i) H) ∨ ∃ k, xs = [.bl k] ∧ Q (.int (if k then 1 else 0)) H) := by
  intro pins s σ H xs us Q I r h
  rcases h with ⟨i, rfl, q⟩ | ⟨k, rfl, q⟩
  · obtain ⟨u, rfl, t, rfl⟩ := vals1 r
    exact call_int_int ⟨.int i, H, I, ⟨_, rfl⟩, q⟩
  · obtain ⟨u, rfl, r1⟩ := vals1 r
    cases r1
    exact call_int_bool ⟨.int (if k then 1 else 0), H, I.tok _, ⟨_, rfl⟩, q⟩
end
end L2
namespace L2
open PySem PySem.Spec PyProof.Rows
structure ObjM (h : Heap) (x dx C : Addr) (mA : Str → Option Value) : Prop where
  obj : h.get? x = some (Y18 C dx)
  ns : h.Ns1 dx mA
  ne : dx ≠ x
theorem lookIn_ns {h : Heap} {dx : Addr} {mA : Str → Option Value} (n : h.Ns1 dx mA) : ∃ od, h.get? dx = some od ∧ ∀ name, Y2C name od = some (mA name) := by
  obtain ⟨o, es, ep, ho, hd, hk, _, hm⟩ := n
  refine ⟨o, ho, λname => ?_⟩
  have e := hm name
  unfold nsFind findBy at e
  rw [← Array.find?_toList] at e
  unfold Y2C
  rw [hd]
  dsimp only
  split
  · rename_i y q
    rw [q] at e
    exact congrArg some e
  · rename_i q
    rw [q] at e
    have a : es.toList.any (·.refKey) = false := by
      rw [List.any_eq_false]
      intro y hy
      obtain ⟨z, t, hkey⟩ := hk y (Array.mem_toList_iff.mp hy)
      simp [DictEntry.refKey, hkey]
    have a' : ¬ es.toList.any (·.refKey) = true := by rw [a]; exact Y01
    rw [if_neg a']
    exact congrArg some e
theorem ObjM.look {h : Heap} {x dx C : Addr} {mA : Str → Option Value} (I : ObjM h x dx C mA) : ∃ od, PySem.W.InstAt h x (Y18 C dx) C (some od) ∧ ∀ name, Y2C name od = some (mA name) :=
  let ⟨od, ho, hl⟩ := lookIn_ns I.ns
  ⟨od, ⟨I.obj, rfl, rfl, ho⟩, hl⟩
section
variable {prog : Program} {w : World} {A : Around} {E : Value → Shared → Prop} {s : Shared} {K : Y00} {x dx C f : Addr} {mA : Str → Option Value} {name : Str} {v : Value}
end
theorem RelO.some_of {v : V} {o : Option Value} (r : RelO (some v) o) : ∃ u, o = some u ∧ RelV v u := by
  cases o with
  | none => exact (show False from r).elim
  | some u => exact ⟨u, rfl, r⟩
theorem RelO.none_of {o : Option Value} (r : RelO none o) : o = none := by
  cases o with
  | none => rfl
  | some u => exact (show False from r).elim
section
variable {P : Program} {w : World} {H H' : Hp} {h h' : Heap} {a C dx : Addr} {fs fs' : List (Str × V)}
theorem ins_get (hok : HOk P w H h) (e : H a = some (.ins C dx fs)) : ∃ mA, ObjM h a dx C mA ∧ (∀ f, RelO (fs.lookup f) (mA f)) ∧ PySem.Within mA (fs.map (·.1)) ∧ fs.length ≤ 1000 ∧ H dx = some (.own a) := by
  obtain ⟨d, z, ne, ob, mA, n, r, q⟩ := (show ObjOk P w H h a (.ins C dx fs) from hok a _ e)
  exact ⟨mA, ⟨ob, n, ne⟩, r, q, z, d⟩
end
structure Cls (K : Y00) (C : Addr) : Prop where
  pg : PySem.W.plainGet K C Y2P = true
  hd : PySem.W.hasDictIn K C = true
  po : PySem.W.plainOver K C = true
  sa : Y1n K (.ref C) "__setattr__" = some (some (.builtin "object.__setattr__"))
theorem Cls.get {K : Y00} {C : Addr} (c : Cls K C) (f : Str) : PySem.W.plainGet K C f = true := c.pg
noncomputable def NoAttr (K : Y00) (C : Addr) (f : Str) : Prop := Y1n K (.ref C) f = some none
structure Con (K : Y00) (C : Addr) (f : Str) (v : V) (u : Value) : Prop where
  at_ : Y1n K (.ref C) f = some (some u)
  rel : RelV v u
  get : PySem.W.specialIn K u "__get__" = some none
  cp : PySem.W.copiedNames.contains f = false
structure Meth (K : Y00) (C : Addr) (m : Str) (f : Addr) : Prop where
  at_ : Y1n K (.ref C) m = some (some (.ref f))
  fn : PySem.W.isFn K (.ref f) = true
  kp : Y0v K (.ref f) = true
section
variable {X : Cx} {pins : List (Addr × Obj)} {σ : St} {H : Hp} {s : Shared} {a C dx : Addr} {fs : List (Str × V)} {f : Str} {v : V} {A : Around} {E : Value → Shared → Prop}
theorem Inv.made (I : Inv X pins σ H s) : Inv X pins σ (upd (upd H s.heap.objs.size (.own (s.heap.objs.size + 1))) (s.heap.objs.size + 1) (.ins C s.heap.objs.size []))
    { s with heap := (s.heap.push Y0M).push (Y18 C s.heap.objs.size) } := by
  have e1 : (s.heap.push Y0M).get? s.heap.objs.size = some Y0M := Y09 s.heap rfl
  have e2 : ((s.heap.push Y0M).push (Y18 C s.heap.objs.size)).get? (s.heap.objs.size + 1) = some (Y18 C s.heap.objs.size) := by
    have := Y09 (s.heap.push Y0M) (o := Y18 C s.heap.objs.size) rfl
    rwa [Y2D] at this
  have e3 : (s.heap.push Y0M).Ns s.heap.objs.size (λ_ => none) := ⟨Y0M, #[], _, e1, rfl, (λe he => absurd he (by simp)), λ_ => rfl⟩
  have I1 := I.laid (a := s.heap.objs.size) (o := .own (s.heap.objs.size + 1)) (h' := s.heap.push Y0M) (t' := s.toks) (λb u q => Y02 _ q) (Y07 _) ⟨_, e1⟩
  refine I1.laid (a := s.heap.objs.size + 1) (o := .ins C s.heap.objs.size []) (t' := s.toks) (λb u q => Y02 _ q) (Y2l (Y2D _ _)) ?_
  have ne : s.heap.objs.size ≠ s.heap.objs.size + 1 := Y0i (Nat.lt_succ_self _)
  refine ⟨by rw [upd_ne ne, upd_same], Y1p _, ne, e2, λ_ => none, (Heap.Ns1.of_empty e3).at λo q => Y02 _ q, λ_ => Y10, λy hy => absurd rfl hy⟩
end
section
variable {X : Cx} {o e value : Expr} {f : Str} {pos pos' tpos : Pos} {ta tv : TE}
end
section
variable {X : Cx} {pins : List (Addr × Obj)} {σ : St} {H : Hp} {s : Shared} {A : Around} {E : Value → Shared → Prop} {Q : Value → Shared → Prop} {c : Value} {b : Bool}
inductive TyOf (K : Y00) (H : Hp) : V → Value → Prop where
  | non : TyOf K H .non (.type "NoneType")
  | bl (x : Bool) : TyOf K H (.bl x) (.type "bool")
  | int (i : Int) : TyOf K H (.int i) (.type "int")
  | str (x : Str) : TyOf K H (.str x) (.type "str")
  | flt (x : UInt64) : TyOf K H (.flt x) (.type "float")
  | lst {a : Addr} {xs : List V} (e : H a = some (.lst xs)) : TyOf K H (.ref a) (.type "list")
  | frz {a : Addr} {o : Obj} {xs : List V} (e : H a = some (.frz o (.lst xs))) : TyOf K H (.ref a) (.type "list")
  | tup {a : Addr} {xs : List V} (e : H a = some (.tup xs)) : TyOf K H (.ref a) (.type "tuple")
  | dK {a : Addr} {kvs : List (Key × V)} (e : H a = some (.dK kvs)) : TyOf K H (.ref a) (.type "dict")
  | dT {a : Addr} {kvs : List (List Key × V)} (e : H a = some (.dT kvs)) : TyOf K H (.ref a) (.type "dict")
  | ins {a C dx : Addr} {fs : List (Str × V)} (e : H a = some (.ins C dx fs)) (cl : Cls K C) (ha : Y1n K (.ref C) "__class__" = some (some (.builtin "object.__class__")))
      (hn : PySem.W.specialIn K (.builtin "object.__class__") "__get__" = some (some (.builtin "getset_descriptor.__get__"))) (htk : PySem.W.takesIn K (.builtin "object.__class__") = some true)
      (hm : PySem.W.mroIn K C (.type "object") = some true) : TyOf K H (.ref a) (.ref C)
theorem isinst_ok {x : V} {u t : Value} (I : Inv X pins σ H s) (rx : RelV x u) (ty : TyOf X.K H x t) (e : Y1f X.K t c = some b) (h : ∀ tk, Q (.bool b) { s with toks := tk }) :
    wpAny (model X.prog X.w) A (call (.builtin "isinstance") [u, c]) Q E s := by
  cases ty with
  | non => cases (show u = Y0p from rx); exact Y0F PySem.W.kitx_none I.kIn Y10 e (λz => nomatch z) h
  | bl y => cases (show u = Y0W y from rx); exact Y0F PySem.W.kitx_bool I.kIn Y10 e (λz => nomatch z) h
  | int i => obtain ⟨t, q⟩ := (show ∃ t, u = Y2M i t from rx); cases q; exact Y0F PySem.W.kitx_int I.kIn Y10 e (λz => nomatch z) h
  | str y => obtain ⟨t, q⟩ := (show ∃ t, u = Y0J y t from rx); cases q; exact Y0F PySem.W.kitx_str I.kIn Y10 e (λz => nomatch z) h
  | flt y => obtain ⟨t, q⟩ := (show ∃ t, u = Value.float y t from rx); cases q; exact Y0F PySem.W.kitx_float I.kIn Y10 e (λz => nomatch z) h
  | @lst a xs ea =>
    cases (show u = Y0a a from rx)
    obtain ⟨_, _, n, _, h1⟩ := (show ObjOk X.prog X.w H s.heap a (.lst xs) from I.hok a _ ea)
    exact Y0F Y1v I.kIn ⟨_, h1, rfl⟩ e (λz => nomatch z) h
  | @frz a ob xs ea =>
    cases (show u = Y0a a from rx)
    obtain ⟨_, _, _, n, _, h1⟩ := (show ObjOk X.prog X.w H s.heap a (.frz ob (.lst xs)) from I.hok a _ ea)
    exact Y0F Y1v I.kIn ⟨_, h1, rfl⟩ e (λz => nomatch z) h
  | @tup a xs ea =>
    cases (show u = Y0a a from rx)
    obtain ⟨_, _, _, p⟩ := (show ObjOk X.prog X.w H s.heap a (.tup xs) from I.hok a _ ea)
    obtain ⟨o, h1, h2, _⟩ := p.1
    exact Y0F PySem.W.kitx_tuple I.kIn ⟨o, h1, h2⟩ e (λz => nomatch z) h
  | @dK a kvs ea =>
    cases (show u = Y0a a from rx)
    obtain ⟨_, _, vs, _, p⟩ := (show ObjOk X.prog X.w H s.heap a (.dK kvs) from I.hok a _ ea)
    obtain ⟨o, es, ep, h1, h2, _⟩ := p
    exact Y0F Y1w I.kIn ⟨o, h1, h2.1⟩ e (λz => nomatch z) h
  | @dT a kvs ea =>
    cases (show u = Y0a a from rx)
    obtain ⟨_, _, xs, _, o, es, ep, h1, h2, _⟩ := (show ObjOk X.prog X.w H s.heap a (.dT kvs) from I.hok a _ ea)
    exact Y0F Y1w I.kIn ⟨o, h1, h2.1⟩ e (λz => nomatch z) h
  | @ins a C dx fs ea cl ha hn htk hm =>
    cases (show u = Y0a a from rx)
    obtain ⟨mA, O, _⟩ := ins_get I.hok ea
    obtain ⟨od, J, _⟩ := O.look
    exact Y0F (PySem.W.kitx_own (cl.get _) cl.hd ha hn htk hm) I.kIn J e (λz => nomatch z) h
end
end L2
namespace L2
open PySem PySem.Spec PyProof.Rows
structure Room (k : Nat) (A : Around) : Prop where
  hd : A.handled = none
  dp : A.depth + 3 * k + 5 < recursionLimit
  un : A.units + 16 * k + 200 < cLine
theorem Room.mono {j k : Nat} {A : Around} (r : Room k A) (h : j ≤ k) : Room j A := ⟨r.hd, by have := r.dp; lia, by have := r.un; lia⟩
theorem Room.deeper {k : Nat} {A : Around} (r : Room (k + 1) A) (env : Env) : Room k (A.deeper env) :=
  ⟨r.hd, by have := r.dp; show A.depth + 1 + 3 * k + 5 < _; lia, by have := r.un; show A.units + 3 + 16 * k + 200 < _; lia⟩
theorem Room.depth {k : Nat} {A : Around} (r : Room k A) : A.depth < recursionLimit := by have := r.dp; lia
noncomputable def tNil : TA := λ_ H Q => Q [] H
noncomputable def tCons (ta : TE) (tr : TA) : TA := λσ H Q => ta σ H λx H1 => tr σ H1 λxs H2 => Q (x :: xs) H2
section
variable {X : Cx} {e : Expr} {es : List Expr} {te : TE} {t : TA} {pos : Pos}
theorem pa_nil : PA X [] tNil := λ_ _ _ _ H Q I h => Y1l ⟨[], H, I, .nil, h⟩
theorem pa_cons (ha : PE X e te) (hr : PA X es t) (hs : starEach (e :: es) X.env = (false, eval e X.env) :: starEach es X.env := by rfl) : PA X (e :: es) (tCons te t) := by
  intro pos pins s σ H Q I h
  rw [hs]
  show wpAny _ _ (spliced ((false, eval e X.env) :: backTo pos (starEach es X.env))) _ _ s
  refine Y1h (thn (ha pins s σ H _ I h) λu s1 ⟨x, H1, I1, r1, q1⟩ => ?_)
  exact thn (hr pos pins s1 σ H1 _ I1 q1) λus s2 ⟨xs, H2, I2, r2, q2⟩ => ⟨x :: xs, H2, I2, .cons r1 r2, q2⟩
noncomputable def tTup (t : TA) : TE := λσ H Q => t σ H λxs H1 => xs.length ≤ sizeLine ∧ ∀ p, H1 p = none → Q (.ref p) (upd H1 p (.tup xs))
noncomputable def tLst (t : TA) : TE := λσ H Q => t σ H λxs H1 => xs.length ≤ sizeLine ∧ ∀ p, H1 p = none → Q (.ref p) (upd H1 p (.lst xs))
theorem pe_tup {x1} (h : PA X es t) : PE X (.Tuple es x1 pos) (tTup t) := by
  intro pins s σ H Q I hq
  refine wpAny_Tuple_spliced (thn (h pos pins s σ H _ I hq) λus s1 ⟨xs, H1, I1, r, z, q⟩ => ⟨by rw [← r.length]; exact z, ?_⟩)
  have hf : H1 s1.heap.objs.size = none := I1.hok.fresh (Y07 _)
  refine ⟨.ref s1.heap.objs.size, upd H1 s1.heap.objs.size (.tup xs), I1.laid (t' := s1.toks) (λb u e => Y02 _ e) (Y07 _) ?_, rfl, q _ hf⟩
  exact ⟨z, us, r, ⟨_, Y09 _ rfl, rfl, _, rfl⟩, _, Y09 _ rfl, rfl⟩
theorem pe_lst (h : PA X es t) : PE X (.List es pos) (tLst t) := by
  intro pins s σ H Q I hq
  refine wpAny_List_spliced (thn (h pos pins s σ H _ I hq) λus s1 ⟨xs, H1, I1, r, z, q⟩ => ⟨by rw [← r.length]; exact z, ?_⟩)
  have hf : H1 s1.heap.objs.size = none := I1.hok.fresh (Y07 _)
  refine ⟨.ref s1.heap.objs.size, upd H1 s1.heap.objs.size (.lst xs), I1.laid (t' := s1.toks) (λb u e => Y02 _ e) (Y07 _) ?_, rfl, q _ hf⟩
  exact ⟨z, us, 0, r, Y09 _ rfl⟩
end
noncomputable abbrev Sp := List V → Hp → VK → XK → Prop
noncomputable abbrev CXT := List Env → Hp → Shared → XK → Value → Shared → Prop
structure Env0 (P : Program) (w : World) (K : Y00) (mg : Str → Option Value) (base : Heap) (A : Around) (outer : List Env) (s : Shared) (H : Hp) : Prop where
  frames : A.frames = some outer
  mod : Mod K mg base
  bs : ∀ b o, base.get? b = some o → s.heap.get? b = some o ∧ H b = none
  bsz : base.objs.size ≤ s.heap.objs.size
  funs : s.heap.FunFrames base outer
  frf : ∀ b ∈ frs outer, H b = none
  hok : HOk P w H s.heap
  bare : AllBare s.gens
noncomputable def CE (outer : List Env) (P : Program) (w : World) (H : Hp) (s : Shared) (Q : VK) (u : Value) (s' : Shared) : Prop :=
  ∃ v H', s'.os = s.os ∧ AllBare s'.gens ∧ Un (frs outer) [] H H' s.heap s'.heap ∧ HOk P w H' s'.heap ∧ RelV v u ∧ Q v H'
noncomputable def CR (CX : CXT) (outer : List Env) (P : Program) (w : World) (H : Hp) (s : Shared) (Q : VK) (E : XK) (r : Result) (s' : Shared) : Prop :=
  match r with
  | .ok (.ret u) => CE outer P w H s Q u s'
  | .ok _ => False
  | .error e => CX outer H s E e s'
structure FnOk (P : Program) (w : World) (K : Y00) (mg : Str → Option Value) (base : Heap) (CX : CXT) (k : Nat) (f : Addr) (fd : FuncData) (ps : List Str) (sp : Sp) : Prop where
  len : ∀ vs H Q E, sp vs H Q E → vs.length = ps.length
  run : ∀ (A : Around) (outer : List Env) (s : Shared) (H : Hp) (args : Args) (us : List Value) (vs : List V) (Q : VK) (E : XK), Room k A → Env0 P w K mg base A outer s H → BindsTo s fd args (ps.zip us) → Vals vs us → sp vs H Q E →
    codeAny (model P w) A (.call (.ref f) args) (CR CX outer P w H s Q E) s
theorem FnOk.mono {P : Program} {w : World} {K : Y00} {mg : Str → Option Value} {base : Heap} {CX : CXT} {j k : Nat} {f : Addr} {fd : FuncData} {ps : List Str} {sp : Sp} (F : FnOk P w K mg base CX j f fd ps sp) (h : j ≤ k) :
    FnOk P w K mg base CX k f fd ps sp := ⟨F.len, λA outer s H args us vs Q E hr => F.run A outer s H args us vs Q E (hr.mono h)⟩
theorem FnOk.imp {P : Program} {w : World} {K : Y00} {mg : Str → Option Value} {base : Heap} {CX : CXT} {k : Nat} {f : Addr} {fd : FuncData} {ps : List Str} {sp sp' : Sp} (F : FnOk P w K mg base CX k f fd ps sp)
    (h : ∀ vs H Q E, sp' vs H Q E → sp vs H Q E) : FnOk P w K mg base CX k f fd ps sp' :=
  ⟨λvs H Q E q => F.len vs H Q E (h _ _ _ _ q), λA outer s H args us vs Q E hr he hb hv hs => F.run A outer s H args us vs Q E hr he hb hv (h _ _ _ _ hs)⟩
section
variable {X : Cx} {pins : List (Addr × Obj)} {σ : St} {H : Hp} {s s' : Shared}
theorem Inv.env0 (I : Inv X pins σ H s) : Env0 X.prog X.w X.K X.mg X.base X.A X.stack s H :=
  ⟨I.ok.frames, I.ok.mod, I.bs, Y0D I.ok.bsz I.sz, I.stack, I.stkFree, I.hok, I.bare⟩
theorem Inv.after {Q : VK} {u : Value} (I : Inv X pins σ H s) (h : CE X.stack X.prog X.w H s Q u s') : EP X pins σ Q u s' := by
  obtain ⟨v, H', os, bare, un, hok, r, q⟩ := h
  obtain ⟨hh, g, d, t, os'⟩ := s'
  obtain rfl : os' = s.os := os
  exact ⟨v, H', I.call (h' := hh) (g' := g) (d' := d) (t' := t) (ch := []) un hok bare (λb z => absurd z (by simp)), r, q⟩
end
noncomputable def tCall (sp : Sp) (dvs : List V) (E : XK) (t : TA) : TE := λσ H Q => t σ H λvs H1 => sp (vs ++ dvs) H1 Q E
noncomputable def Binds (K : Y00) (fd : FuncData) (ps : List Str) (ds : List Value) : Prop :=
  ∀ (s : Shared) (us : List Value), K.In s.heap → (us ++ ds).length = ps.length → BindsTo s fd ⟨us, []⟩ (ps.zip (us ++ ds))
theorem Binds.all {K : Y00} {fd : FuncData} {ps : List Str} (h : ∀ us : List Value, us.length = ps.length → bindArgs fd ⟨us, []⟩ = pure (ps.zip us)) : Binds K fd ps [] := λs us _ hl => by
  rw [Y0X] at hl ⊢
  exact .of_eq (h us hl)
noncomputable def Passes (CX : CXT) (X : Cx) (E : XK) : Prop := ∀ (pins : List (Addr × Obj)) (σ : St) (H : Hp) (s : Shared) (e : Value) (s' : Shared), Inv X pins σ H s → CX X.stack H s E e s' → X.xe e s'
section
variable {X : Cx} {CX : CXT} {k : Nat} {f C : Addr} {fd : FuncData} {ps : List Str} {sp : Sp} {dvs : List V} {ds : List Value} {E : XK} {x m : Str} {p pos apos : Pos} {e o : Expr} {es : List Expr} {ta : TE} {t : TA}
theorem run_fn {pins : List (Addr × Obj)} {σ : St} {H : Hp} {s : Shared} {Q : VK} {us : List Value} {vs : List V} (F : FnOk X.prog X.w X.K X.mg X.base CX k f fd ps sp) (hr : Room k X.A) (hb : Binds X.K fd ps ds) (hd : Vals dvs ds) (hx : Passes CX X E)
    (I : Inv X pins σ H s) (r : Vals vs us) (h : sp (vs ++ dvs) H Q E) : wpAny (model X.prog X.w) X.A (call (.ref f) us) (EP X pins σ Q) X.xe s := by
  have r2 : Vals (vs ++ dvs) (us ++ ds) := r.append hd
  have hl : (us ++ ds).length = ps.length := by rw [← r2.length]; exact F.len _ _ _ _ h
  refine wpAny_call (codeAny_mono (F.run X.A X.stack s H ⟨us, []⟩ (us ++ ds) (vs ++ dvs) Q E hr I.env0 (hb s us I.kIn hl) r2 h) λr s' hq => ?_)
  cases r with
  | error e => exact hx pins σ H s e s' I hq
  | ok fl =>
    cases fl with
    | ret u => exact I.after hq
    | next => exact Y0g hq
    | brk => exact Y0g hq
    | cont => exact Y0g hq
theorem pe_call (F : FnOk X.prog X.w X.K X.mg X.base CX k f fd ps sp) (hr : Room k X.A) (hg : Gl X x) (hm : X.mg x = some (.ref f)) (hk : Y0v X.K (.ref f) = true) (hb : Binds X.K fd ps ds) (hd : Vals dvs ds) (hx : Passes CX X E)
    (ha : PA X (e :: es) t) (hdb : (x == ("__debug__" : Str)) = false := by decide) (he : starEach (e :: es) X.env = (false, eval e X.env) :: starEach es X.env := by rfl) (hpl : (backTo pos (starEach es X.env)).any (·.1) = false := by rfl) :
    PE X (.Call (.Name x p) (e :: es) [] pos) (tCall sp dvs E t) := by
  intro pins s σ H Q I h
  refine wpAny_Call_Name_kw (ld_glob I hg hm ?_ hdb)
  refine PySem.W.callWith_K (h₀ := X.base) I.ok.mod.kin hk (thn (ha pos pins s σ H _ I h) λus s1 ⟨vs, H1, I1, r, q⟩ => ⟨I1.kIn, ?_⟩) he hpl
  exact run_fn F hr hb hd hx I1 r q
structure Mk (K : Y00) (C f : Addr) : Prop where
  makes : PySem.W.makesIn K C = true
  init : Y1n K (.ref C) "__init__" = some (some (.ref f))
  fn : PySem.W.isFn K (.ref f) = true
  kp : Y0v K (.ref C) = true
end
section
variable {X : Cx} {CX : CXT} {k : Nat} {f C : Addr} {fd : FuncData} {ps ks : List Str} {sp : Sp} {E : XK} {x m : Str} {p pos apos kpos : Pos} {e o : Expr} {es : List Expr} {kws : List Keyword} {te ta : TE} {t tk : TA} {nm : Option Str}
structure KBinds (K : Y00) (fd : FuncData) (ps ks : List Str) (g : List Value → List Value → List Value) (gV : List V → List V → List V) : Prop where
  to : ∀ (s : Shared) (us ws : List Value), K.In s.heap → (g us ws).length = ps.length → BindsTo s fd ⟨us, ks.zip ws⟩ (ps.zip (g us ws))
  rel : ∀ {vs : List V} {us : List Value} {zs : List V} {ws : List Value}, Vals vs us → Vals zs ws → Vals (gV vs zs) (g us ws)
variable {g : List Value → List Value → List Value} {gV : List V → List V → List V}
end
structure FnScope (N P : List Str) (sc : Scope) : Prop where
  kind : sc.kind = .function
  co : sc.isCoroutine = false
  gen : sc.isGenerator = false
  nd : N.Nodup
  pre : N.take P.length = P
  par : ∀ x ∈ P, sc.names.lookup x = some .local ∨ sc.names.lookup x = some .cell
  nofree : ∀ y ∈ sc.names, y.2 ≠ .free
theorem bindL_out {kindOf : Str → Option NameKind} {x : Str} : ∀ {binds : List (Str × Value)} {m : Str → Option Value}, (∀ v, (x, v) ∉ binds) → bindL kindOf binds m x = m x
  | [], _, _ => rfl
  | (n, v) :: r, m, h => by
    unfold bindL
    rw [bindL_out λw hw => h w (Y0b _ hw)]
    split
    · have : x ≠ n := by rintro rfl; exact h v Y0e
      simp [this]
    · rfl
theorem bindC_out {kindOf : Str → Option NameKind} {x : Str} : ∀ {binds : List (Str × Value)} {m : Str → Option Value}, (∀ v, (x, v) ∉ binds) → bindC kindOf binds m x = m x
  | [], _, _ => rfl
  | (n, v) :: r, m, h => by
    unfold bindC
    rw [bindC_out λw hw => h w (Y0b _ hw)]
    split
    · rfl
    · have : x ≠ n := by rintro rfl; exact h v Y0e
      simp [this]
theorem bindL_get {kindOf : Str → Option NameKind} {x : Str} {v : Value} : ∀ {P : List Str} {vs : List Value} {i : Nat} {m : Str → Option Value}, P.Nodup → P[i]? = some x → vs[i]? = some v → kindOf x = some .local →
    bindL kindOf (P.zip vs) m x = some v
  | [], _, _, _, _, h, _, _ => by simp at h
  | _ :: _, [], _, _, _, _, h, _ => by simp at h
  | p :: P, w :: vs, 0, m, nd, h1, h2, hk => by
    simp at h1 h2; subst h1; subst h2
    show bindL kindOf ((p, w) :: P.zip vs) m p = _
    unfold bindL
    rw [bindL_out λv hv => (Y0L.mp nd).1 (Y2m hv).1, if_pos hk]
    simp
  | p :: P, w :: vs, i + 1, m, nd, h1, h2, hk => by
    show bindL kindOf ((p, w) :: P.zip vs) m x = _
    unfold bindL
    exact bindL_get (i := i) (Y0L.mp nd).2 (by simpa using h1) (by simpa using h2) hk
theorem bindC_get {kindOf : Str → Option NameKind} {x : Str} {v : Value} : ∀ {P : List Str} {vs : List Value} {i : Nat} {m : Str → Option Value}, P.Nodup → P[i]? = some x → vs[i]? = some v → kindOf x ≠ some .local →
    bindC kindOf (P.zip vs) m x = some v
  | [], _, _, _, _, h, _, _ => by simp at h
  | _ :: _, [], _, _, _, _, h, _ => by simp at h
  | p :: P, w :: vs, 0, m, nd, h1, h2, hk => by
    simp at h1 h2; subst h1; subst h2
    show bindC kindOf ((p, w) :: P.zip vs) m p = _
    unfold bindC
    rw [bindC_out λv hv => (Y0L.mp nd).1 (Y2m hv).1, if_neg hk]
    simp
  | p :: P, w :: vs, i + 1, m, nd, h1, h2, hk => by
    show bindC kindOf ((p, w) :: P.zip vs) m x = _
    unfold bindC
    exact bindC_get (i := i) (Y0L.mp nd).2 (by simpa using h1) (by simpa using h2) hk
noncomputable def start (N : List Str) (vs : List V) : St := vs.map some ++ Y0c (N.length - vs.length) none
noncomputable def cxOf (CX : CXT) (P : Program) (w : World) (K : Y00) (mg : Str → Option Value) (base : Heap) (N : List Str) (qual : Str) (scope : Scope) (f : Addr) (cd : Value) (A : Around) (outer : List Env) (s : Shared) (H : Hp) (E : XK) : Cx where
  prog := P
  w := w
  K := K
  mg := mg
  base := base
  A := A.deeper (envOfC qual scope s.heap.objs.size f cd)
  N := N
  s₀ := s
  H₀ := H
  env := envOfC qual scope s.heap.objs.size f cd
  outer := outer
  stack := envOfC qual scope s.heap.objs.size f cd :: outer
  ex := []
  calm := true
  fn := λ_ => true
  pn := []
  xe := λe s' => wpAny (model P w) (A.deeper (envOfC qual scope s.heap.objs.size f cd)) (leaving (envOfC qual scope s.heap.objs.size f cd) e) (λ_ s'' => CX outer H s E e s'') (λe' s'' => CX outer H s E e' s'') s'
theorem cell_has {sc : Scope} {n : Nat} {x : Str} (h : sc.names.lookup x = some .cell) : ∃ c, (cellsFrom n sc.names []).lookup x = some c := by
  have q := Y2b sc.names n [] (.inl h)
  exact Option.isSome_iff_exists.mp q
theorem inv_start {CX : CXT} {P : Program} {w : World} {K : Y00} {mg : Str → Option Value} {base : Heap} {N ps : List Str} {qual : Str} {scope : Scope} {f : Addr} {cd : Value} {A : Around} {outer : List Env} {s s1 : Shared} {H : Hp} {E : XK} {us : List Value} {vs : List V}
    (S : FnScope N ps scope) (hd : A.handled = none) (e0 : Env0 P w K mg base A outer s H) (hl : vs.length = ps.length) (r : Vals vs us)
    (x : InCallC s s.heap.objs.size (bindL (envOfC qual scope s.heap.objs.size f cd).kindOf (ps.zip us) λ_ => none) (cellsFrom (s.heap.objs.size + 1) scope.names []) (bindC (envOfC qual scope s.heap.objs.size f cd).kindOf (ps.zip us) λ_ => none) s1) :
    Inv (cxOf CX P w K mg base N qual scope f cd A outer s H E) [] (start N vs) H s1 := by
  have hpl : ps.length ≤ N.length := by have := congrArg List.length S.pre; rw [Y0Q] at this; lia
  obtain ⟨h1, tk, rfl, hk⟩ := x.done
  have noA : ∀ b : Addr, b ∉ (cxOf CX P w K mg base N qual scope f cd A outer s H E).ex := λb z => absurd (show b ∈ ([] : List Addr) from z) (by simp)
  refine ⟨⟨e0.mod, S.kind, rfl, rfl, Y07 _, λy z c h1 h2 => ?_, λy hy => ?_, λy c _ h => ?_, λ_ => hd, Around.frames_deeper e0.frames, .inr ⟨rfl, rfl⟩, λb z => absurd z (noA b), e0.bs, e0.bsz, λb _ _ => noA b, λb z => absurd z (noA b), e0.funs, e0.frf⟩,
    rfl, e0.bare, Un.kept hk, ⟨_, x.toInCall.ns, λi y v h1 h2 h3 => ?_⟩, λy c h => ⟨_, x.cell y c h⟩, e0.hok.fresh (Y07 _), λy c h => ?_, λp hp => absurd (show p ∈ ([] : List (Addr × Obj)) from hp) (by simp), e0.hok.kept hk, ?_⟩
  · exact name_of_addr x.apart (Y0Y h1) (Y0Y h2)
  · have hy : scope.names.lookup y = some .cell ∨ scope.names.lookup y = some .free := hy
    rcases hy with hy | hy
    · exact cell_has hy
    · exact absurd rfl (S.nofree _ (Y0Y hy))
  · exact Nat.le_of_lt (x.above y c (Y0Y h))
  · have hi : i < vs.length := by
      unfold start at h2
      by_cases hi : i < vs.length
      · exact hi
      · rw [Y0A (by simpa using hi)] at h2
        rw [Y22] at h2
        split at h2 <;> cases h2
    have ha : vs[i]? = some v := by
      unfold start at h2
      rw [Y0q (by simpa using hi), Y0d] at h2
      cases e : vs[i]? with
      | none => rw [e] at h2; cases h2
      | some a => rw [e] at h2; cases h2; rfl
    obtain ⟨u, hu, rv⟩ := r.get ha
    have hp : ps[i]? = some y := by
      rw [← S.pre, List.getElem?_take_of_lt (by lia)]; exact h1
    have ndP : ps.Nodup := by rw [← S.pre]; exact S.nd.sublist (List.take_sublist _ _)
    refine ⟨u, rv, ?_⟩
    rcases S.par y (Y0C hp) with k | k
    · exact .inl ⟨k, bindL_get ndP hp hu k⟩
    · obtain ⟨c, e⟩ := cell_has (n := s.heap.objs.size + 1) k
      refine .inr ⟨.inl k, c, e, ?_⟩
      have q := x.cell y c e
      rw [bindC_get ndP hp hu (by show scope.names.lookup y ≠ _; rw [k]; decide)] at q
      exact q
  · exact e0.hok.fresh (Nat.le_of_lt (x.above y c (Y0Y h)))
  · unfold start
    show _ = N.length
    rw [Y0E, Y05, List.length_replicate]
    lia
theorem fn_of {CX : CXT} {P : Program} {w : World} {K : Y00} {mg : Str → Option Value} {base : Heap} {k : Nat} {f : Addr} {name qual : Str} {params : Arguments} {body : List Stmt} {scope : Scope} {dV kV doc pm cdv ct oc : Value} {an od : Option Addr}
    {osl : Array (Option Value)} {N ps : List Str} {sp : Sp} (lk : K.lookup f = some ⟨oc, od, .func (Y1i name qual params body scope dV kV doc pm an cdv ct), osl⟩) (hcd : Y2E K cdv qual = true) (S : FnScope N ps scope)
    (len : ∀ vs H Q E, sp vs H Q E → vs.length = ps.length)
    (hbody : ∀ (A : Around) (outer : List Env) (s : Shared) (H : Hp) (vs : List V) (Q : VK) (E : XK), Room k (A.deeper (envOfC qual scope s.heap.objs.size f cdv)) → sp vs H Q E →
      ∃ t, PSs (cxOf CX P w K mg base N qual scope f cdv A outer s H E) body t ∧ t { nx := λ_ H' => Q .non H', rt := Q } (start N vs) H) :
    FnOk P w K mg base CX (k + 1) f (Y1i name qual params body scope dV kV doc pm an cdv ct) ps sp := by
  refine ⟨len, λA outer s H args us vs Q E hr e0 hb r hsp => ?_⟩
  have hl := len _ _ _ _ hsp
  have KX : K.In s.heap := e0.mod.kin.keeps λb o e => (e0.bs b o e).1
  have lim : s.heap.NoLimit := e0.mod.nolimit.keeps λb o e => (e0.bs b o e).1
  have hkind : ∀ y ∈ ps.zip us, scope.names.lookup y.1 = some .local ∨ (scope.names.lookup y.1 = some .cell ∧ ((cellsFrom (s.heap.objs.size + 1) scope.names []).lookup y.1).isSome = true) := λ⟨n, v⟩ hy => by
    rcases S.par n (Y2m hy).1 with q | q
    · exact .inl q
    · exact .inr ⟨q, Y2b _ _ _ (.inl q)⟩
  refine codeAny_call_function hr.depth (KX _ _ lk) rfl S.co S.gen rfl (PySem.W.codeRec_of KX hcd) (hb _ _ _ _ ?_)
  refine wpAny_newFunctionEnv_cells S.kind hkind λenv he s1 x => ?_
  subst he
  refine ⟨lim.keeps x.toInCall.keep, codeAny_func ?_⟩
  obtain ⟨t, ht, hq⟩ := hbody A outer s H vs Q E (hr.deeper _) hsp
  have I : Inv (cxOf CX P w K mg base N qual scope f cdv A outer s H E) [] (start N vs) H s1 := inv_start S hr.hd e0 hl r x
  refine wpAny_mono (ht [] s1 (start N vs) H _ I hq) (λfl s' hs => ?_) λe s' hs => hs
  have fin : ∀ {σ' : St} {H' : Hp} {v : V} {u : Value}, Inv (cxOf CX P w K mg base N qual scope f cdv A outer s H E) [] σ' H' s' → RelV v u → Q v H' → CE outer P w H s Q u s' :=
    fun {σ' H' v u} J rv q => ⟨v, H', J.os, J.bare, J.base, J.hok, rv, q⟩
  cases fl with
  | ret u =>
    obtain ⟨v, σ', H', J, rv, q⟩ := hs
    exact fin J rv q
  | next =>
    obtain ⟨σ', H', J, q⟩ := hs
    exact fin (v := V.non) (u := Y0p) J rfl q
  | brk =>
    obtain ⟨_, _, _, q⟩ := hs
    exact Y0g q
  | cont =>
    obtain ⟨_, _, _, q⟩ := hs
    exact Y0g q
end L2
namespace L2
open PySem PySem.Spec PyProof.Rows
section
variable {X : Cx} {x : Str} {p pos : Pos} {e : Expr} {es : List Expr} {t : TA} {id T : String} {r : List V → Hp → VK → Prop}
noncomputable def tCB (r : List V → Hp → VK → Prop) (t : TA) : TE := λσ H Q => t σ H λvs H1 => r vs H1 Q
theorem pe_callB (hc : CallR X (.builtin id) r) (hg : Gl X x) (hm : X.mg x = none) (hv : bootBuiltins x = some (.builtin id)) (ha : PA X (e :: es) t) (hn : x ≠ "__name__" := by decide) (hdb : (x == ("__debug__" : Str)) = false := by decide)
    (he : starEach (e :: es) X.env = (false, eval e X.env) :: starEach es X.env := by rfl) (hpl : (backTo pos (starEach es X.env)).any (·.1) = false := by rfl) : PE X (.Call (.Name x p) (e :: es) [] pos) (tCB r t) := by
  intro pins s σ H Q I h
  refine wpAny_Call_Name_kw (ld_blt I hg hm hv ?_ hn hdb)
  exact Y1B (thn (ha pos pins s σ H _ I h) λus s1 ⟨vs, H1, I1, r1, q1⟩ => hc pins s1 σ H1 vs us Q I1 r1 q1) he hpl
theorem pe_callTy (hc : CallR X (.type T) r) (hg : Gl X x) (hm : X.mg x = none) (hv : bootBuiltins x = some (.type T)) (ha : PA X (e :: es) t) (hn : x ≠ "__name__" := by decide) (hdb : (x == ("__debug__" : Str)) = false := by decide)
    (he : starEach (e :: es) X.env = (false, eval e X.env) :: starEach es X.env := by rfl) (hpl : (backTo pos (starEach es X.env)).any (·.1) = false := by rfl) : PE X (.Call (.Name x p) (e :: es) [] pos) (tCB r t) := by
  intro pins s σ H Q I h
  refine wpAny_Call_Name_kw (ld_blt I hg hm hv ?_ hn hdb)
  exact Y0s (thn (ha pos pins s σ H _ I h) λus s1 ⟨vs, H1, I1, r1, q1⟩ => hc pins s1 σ H1 vs us Q I1 r1 q1) he hpl
end
end L2
namespace HT
open PySem PyProof.Rows
section
open PySem.SeqAt
open PySem.AutoSeq1 (wpAny_loadPart')
open PySem.MeetsSeq PySem.MeetsSeq2 PySem.MeetsSeq3
end
section
variable {prog : Program} {w : World} {A : Around} {E : Value → Shared → Prop} {s : Shared}
theorem cat_tup {t b : Addr} {vs ws : List Value} {Q : Value → Shared → Prop} (ht : IsTup s.heap t vs.toArray) (hb : IsTup s.heap b ws.toArray) (hv : vs ≠ [])
    (h1 : ws = [] → Q (.ref t) s) (h2 : ws ≠ [] → Q (.ref s.heap.objs.size) { s with heap := s.heap.push { cls := .type "tuple", data := .seq (vs ++ ws).toArray } })
    (hsz : vs.length + ws.length ≤ sizeLine) : wpAny (model prog w) A (binaryOp .Add (.ref t) (.ref b)) Q E s := by
  obtain ⟨⟨cls, dd, data, sl⟩, ho, hc, n, hd⟩ := id ht
  obtain ⟨⟨cls2, dd2, data2, sl2⟩, ho2, hc2, n2, hd2⟩ := id hb
  simp only at hc hd hc2 hd2
  subst hc hd hc2 hd2
  have e : vs.toArray ++ ws.toArray = (vs ++ ws).toArray := by simp
  by_cases hw : ws = []
  · exact concat_meets ⟨_, ho, rfl⟩ ⟨_, ho2, rfl⟩ noFill_tuple_add seq_tuple_add Y2c Y23 (Y1Y _ _)
      (tuple_addW1 t b vs.toArray ws.toArray n n2 dd dd2 sl sl2 (by simpa using hv) (by simp [hw])) ⟨ho, ho2, h1 hw⟩
  · refine concat_meets ⟨_, ho, rfl⟩ ⟨_, ho2, rfl⟩ noFill_tuple_add seq_tuple_add Y2c Y23 (Y1Y _ _)
      (tuple_addW2 t b vs.toArray ws.toArray n n2 dd dd2 sl sl2 (by simpa using hv) (by simpa using hw) (by rw [Y06, Y06]; exact hsz)) ⟨ho, ho2, ?_⟩
    rw [e]
    exact h2 hw
noncomputable def sIx (n d : Nat) : Option Int → Nat
  | none => d
  | some v => if v < 0 then (v + (n : Int)).toNat else min v.toNat n
theorem sIx_none (n d : Nat) : sIx n d none = d := rfl
theorem sIx_nat (n d k : Nat) : sIx n d (some (k : Int)) = min k n := by
  show (if (k : Int) < 0 then ((k : Int) + (n : Int)).toNat else min (k : Int).toNat n) = min k n
  rw [if_neg (by lia), Int.toNat_natCast]
theorem sIx_le (n d : Nat) (hd : d ≤ n) (o : Option Int) : sIx n d o ≤ n := by
  cases o with
  | none => exact hd
  | some v =>
    show (if v < 0 then (v + (n : Int)).toNat else min v.toNat n) ≤ n
    by_cases hv : v < 0
    · rw [if_pos hv]; lia
    · rw [if_neg hv]; exact Nat.min_le_right _ _
theorem clip_eq (v : Int) (n d : Nat) : (if v < 0 then max (v + (n : Int)) 0 else min v (n : Int)) = ((sIx n d (some v) : Nat) : Int) := by
  show (if v < 0 then max (v + (n : Int)) 0 else min v (n : Int)) = (((if v < 0 then (v + (n : Int)).toNat else min v.toNat n) : Nat) : Int)
  by_cases hv : v < 0
  · simp only [if_pos hv]; lia
  · simp only [if_neg hv]; lia
theorem adjust_gen (lo hi : Option Int) (n : Nat) : Y1o lo hi 1 (n : Int) = (((sIx n 0 lo : Nat) : Int), ((sIx n n hi : Nat) : Int)) := by
  have h1 : ¬ ((1 : Int) < 0) := by lia
  unfold Y1o
  simp only [h1, if_false]
  refine Prod.ext ?_ ?_
  · cases lo with
    | none => rfl
    | some v => exact clip_eq v n 0
  · cases hi with
    | none => rfl
    | some v => exact clip_eq v n n
theorem places_gen (i j : Nat) : Y14 (i : Int) (j : Int) 1 = j - i := by
  unfold Y14
  have h1 : (1 : Int) > 0 := by lia
  simp only [h1, if_true, Int.ediv_one]
  split <;> lia
theorem slicePart_ {v : Value} {o : Option Int} {Q : Option Int → Shared → Prop} (p : IsPart v o) (h : Q o s) : wpAny (model prog w) A (Builtin.Slice.slicePartIndex v) Q E s := by
  cases p with
  | none => exact slicePart_none h
  | int i t => exact slicePart_int h
theorem sliceApplied_gen {sl : Addr} {vl vu : Value} {lo hi : Option Int} {n : Nat} {Q : Int × Int × Nat → Shared → Prop} (hs : s.heap.IsSliceOf sl vl vu .none) (pl : IsPart vl lo) (pu : IsPart vu hi)
    (h : Q (((sIx n 0 lo : Nat) : Int), 1, sIx n n hi - sIx n 0 lo) s) : wpAny (model prog w) A (Y1L (.ref sl) (pure (n : Int))) Q E s := by
  obtain ⟨os, hos, hcs, hds⟩ := id hs
  unfold Y1L Builtin.Slice.sliceFields
  refine wpAny_bind (wpAny_bind (wpAny_field hos hds (x := vl) rfl (wpAny_bind (wpAny_field hos hds (x := vu) rfl (wpAny_bind (wpAny_field hos hds (x := .none) rfl (wpAny_pure ?_)))))))
  refine wpAny_bind (slicePart_none ?_)
  show wpAny _ _ (if ((1 : Int) == 0) = true then _ else _) _ _ s
  rw [if_neg (by decide)]
  refine wpAny_bind (slicePart_ pl (wpAny_bind (slicePart_ pu (wpAny_bind (wpAny_pure ?_)))))
  show wpAny _ _ (match Y1o lo hi 1 (n : Int) with | (lo, hi) => pure (lo, (1 : Int), Y14 lo hi 1)) _ _ s
  rw [adjust_gen lo hi n]
  show wpAny _ _ (pure (((sIx n 0 lo : Nat) : Int), (1 : Int), Y14 ((sIx n 0 lo : Nat) : Int) ((sIx n n hi : Nat) : Int) 1)) _ _ s
  rw [places_gen]
  exact wpAny_pure h
theorem pick_gen (xs : Array Value) (i k : Nat) : ((Y0z k).filterMap λ(m : Nat) => xs[((i : Int) + (m : Int) * 1).toNat]?).toArray = ((xs.toList.drop i).take k).toArray := by
  have e : (λ(m : Nat) => xs[((i : Int) + (m : Int) * 1).toNat]?) = λm => xs[i + m]? := by
    funext m
    have : ((i : Int) + (m : Int) * 1).toNat = i + m := by lia
    rw [this]
  rw [e]
  have := pick_run xs i k
  rw [List.filterMap_map] at this
  have e2 : ((λx => xs[x]?) ∘ λx => i + x) = λm => xs[i + m]? := rfl
  rw [e2] at this
  rw [this]
theorem getItem_tuple_cut {t sl : Addr} {items : Array Value} {vl vu : Value} {lo hi : Option Int} {Q : Value → Shared → Prop} (ht : IsTup s.heap t items) (hs : s.heap.IsSliceOf sl vl vu .none) (pl : IsPart vl lo) (pu : IsPart vu hi)
    (hw : ¬ (sIx items.size 0 lo = 0 ∧ sIx items.size items.size hi = items.size))
    (h : Q (.ref s.heap.objs.size) { s with heap := s.heap.push { cls := .type "tuple", data := .seq ((items.toList.drop (sIx items.size 0 lo)).take (sIx items.size items.size hi - sIx items.size 0 lo)).toArray } })
    (hsz : items.size ≤ sizeLine) : wpAny (model prog w) A (getItem (.ref t) (.ref sl)) Q E s := by
  have htake : sizeOk (.seq ((items.toList.drop (sIx items.size 0 lo)).take (sIx items.size items.size hi - sIx items.size 0 lo)).toArray) := by
    show ((items.toList.drop (sIx items.size 0 lo)).take (sIx items.size items.size hi - sIx items.size 0 lo)).toArray.size ≤ sizeLine
    rw [Y06, Y0Q, Y0R, Y0y]
    lia
  have hj : sIx items.size items.size hi ≤ items.size := sIx_le _ _ (Y07 _) hi
  obtain ⟨os, hos, hcs, hds⟩ := id hs
  have hTs : s.TypeIs (.ref sl) "slice" := ⟨os, hos, hcs⟩
  unfold getItem
  try with_reducible refine wpAny_holding ?_
  first | refine wpAny_bind (wpAny_pure ?_) | skip
  refine wpAny_bind (wpAny_sequenceKey ht.typeIs (by decide) ?_)
  refine wpAny_bind (wpAny_callSpecial?_slot (name := Y0V "__getitem__") ht.typeIs Y0t
    (wpAny_call_entry Y0t ht.typeIs entry_tuple_getitem ?_ (args_tuple_getitem _ _)))
  show wpAny _ _ (Y1M (.ref t) >>= _) _ _ s
  refine wpAny_bind (tupleItemsOf_ ht ?_)
  refine wpAny_bind (wpAny_typeOf hTs ?_)
  rw [if_pos (by decide)]
  refine wpAny_bind (sliceApplied_gen hs pl pu ?_)
  have hno : ¬ ((((sIx items.size 0 lo : Nat) : Int) == 0 && (1 : Int) == 1 && (sIx items.size items.size hi - sIx items.size 0 lo) == items.size) = true) := by
    intro q
    rw [Y04, Y04] at q
    have q1 : ((sIx items.size 0 lo : Nat) : Int) = 0 := eq_of_beq q.1.1
    have q2 : sIx items.size items.size hi - sIx items.size 0 lo = items.size := eq_of_beq q.2
    exact hw ⟨by lia, by lia⟩
  show wpAny _ _ (if (((sIx items.size 0 lo : Nat) : Int) == 0 && (1 : Int) == 1 && (sIx items.size items.size hi - sIx items.size 0 lo) == items.size) = true then _ else _) _ _ s
  rw [if_neg hno, pick_gen]
  first
    | exact wpAny_bind (m := Y19 _) (wpAny_newObj_type (wpAny_pure ⟨_, rfl, wpAny_pure h⟩) htake)
    | exact wpAny_bind (m := Y19 _) (wpAny_newObj_type (wpAny_bind (wpAny_pure (wpAny_pure ⟨_, rfl, wpAny_pure h⟩))) htake)
    | exact wpAny_bind (wpAny_bind (m := Y19 _) (wpAny_newObj_type (wpAny_pure (wpAny_pure ⟨_, rfl, wpAny_pure h⟩)) htake))
    | exact wpAny_bind (wpAny_bind (m := Y19 _) (wpAny_newObj_type (wpAny_pure ⟨_, rfl, wpAny_pure h⟩) htake))
end
end HT
namespace L2
open PySem PySem.Spec PyProof.Rows
noncomputable abbrev TO := St → Hp → (Option Int → Hp → Prop) → Prop
noncomputable def PO (X : Cx) (e : Option Expr) (t : TO) : Prop :=
  ∀ (pins : List (Addr × Obj)) (s : Shared) (σ : St) (H : Hp) (Q : Option Int → Hp → Prop), Inv X pins σ H s → t σ H Q →
    wpAny (model X.prog X.w) X.A (evalPart e X.env) (λu s' => ∃ o H', Inv X pins σ H' s' ∧ IsPart u o ∧ Q o H') X.xe s
noncomputable def tNoPart : TO := λ_ H Q => Q none H
noncomputable def tPart (t : TE) : TO := λσ H Q => t σ H λx H1 => ∃ i, x = .int i ∧ Q (some i) H1
theorem intsAre_of {ns : List Int} : ∀ {us : List Value}, Vals (ns.map V.int) us → IntsAre us ns := by
  induction ns with
  | nil => intro us r; rw [Y2n] at r; cases r; exact .nil
  | cons n ns ih =>
    intro us r
    rw [Y0l] at r
    cases r with
    | cons r1 r2 =>
      obtain ⟨t, e⟩ := r1
      subst e
      exact .cons n t (ih r2)
section
variable {X : Cx} {e : Expr} {te : TE} {lo hi : Option Expr} {tl th : TO} {pos p2 : Pos}
theorem po_none : PO X none tNoPart := by
  intro pins s σ H Q I h
  rw [evalPart_none]
  exact wpAny_pure ⟨none, H, I, .none, h⟩
theorem po_some (h : PE X e te) : PO X (some e) (tPart te) := by
  intro pins s σ H Q I hw
  rw [evalPart_some]
  refine thn (h pins s σ H _ I hw) λu s1 ⟨x, H1, I1, r1, q1⟩ => ?_
  obtain ⟨i, rfl, q⟩ := q1
  obtain ⟨t, rfl⟩ := r1
  exact ⟨some i, H1, I1, .int i t, q⟩
noncomputable def SlR (X : Cx) (r : V → Option Int → Option Int → Hp → VK → Prop) : Prop :=
  ∀ (pins : List (Addr × Obj)) (s : Shared) (σ : St) (H : Hp) (x : V) (v vl vu : Value) (lo hi : Option Int) (sl : Addr) (Q : VK), Inv X pins σ H s → RelV x v → s.heap.IsSliceOf sl vl vu .none → IsPart vl lo → IsPart vu hi → r x lo hi H Q →
    ∃ T id, typeLookup (.type T) "__getitem__" = pure (some (.builtin id)) ∧ s.TypeIs v T ∧ wpAny (model X.prog X.w) X.A (getItem v (.ref sl)) (EP X pins σ Q) X.xe s
theorem SlR.or {r r' : V → Option Int → Option Int → Hp → VK → Prop} (h : SlR X r) (h' : SlR X r') : SlR X (λx lo hi H Q => r x lo hi H Q ∨ r' x lo hi H Q) := by
  intro pins s σ H x v vl vu lo hi sl Q I rx hs pl pu q
  rcases q with q | q
  · exact h pins s σ H x v vl vu lo hi sl Q I rx hs pl pu q
  · exact h' pins s σ H x v vl vu lo hi sl Q I rx hs pl pu q
noncomputable def tSl (r : V → Option Int → Option Int → Hp → VK → Prop) (te : TE) (tl th : TO) : TE := λσ H Q => te σ H λx H1 => tl σ H1 λl H2 => th σ H2 λu H3 => r x l u H3 Q
theorem pe_slice {r : V → Option Int → Option Int → Hp → VK → Prop} (hr : SlR X r) (he : PE X e te) (hl : PO X lo tl) (hu : PO X hi th) : PE X (.Subscript e (.Slice lo hi none p2) pos) (tSl r te tl th) := by
  intro pins s σ H Q I h
  refine Subscript_ (thn (he pins s σ H _ I h) λv s1 ⟨x, H1, I1, r1, q1⟩ => ?_)
  refine wpAny_Slice (thn (hl pins s1 σ H1 _ I1 q1) λvl s2 ⟨l, H2, I2, pl, q2⟩ => thn (hu pins s2 σ H2 _ I2 q2) λvu s3 ⟨u, H3, I3, pu, q3⟩ => ?_)
  rw [evalPart_none]
  refine wpAny_pure ?_
  have I4 : Inv X pins σ H3 { s3 with heap := s3.heap.push { cls := .type "slice", data := .fields #[vl, vu, .none] } } := I3.kept (t' := s3.toks) fun b ob q => Y02 _ q
  obtain ⟨T, id, hT, ht, hg⟩ := hr pins { s3 with heap := s3.heap.push { cls := .type "slice", data := .fields #[vl, vu, .none] } } σ H3 x v vl vu l u s3.heap.objs.size Q I4 r1 (Heap.IsSliceOf.new ..) pl pu q3
  show wpAny (model X.prog X.w) X.A (subscriptTail e (.Slice lo hi none p2) v (.ref s3.heap.objs.size)) (EP X pins σ Q) X.xe { s3 with heap := s3.heap.push { cls := .type "slice", data := .fields #[vl, vu, .none] } }
  exact tail_any (ops := [.ref s3.heap.objs.size, v]) ht hT hg (by with_unfolding_all rfl)
noncomputable def cutV (xs : List V) (lo hi : Option Int) : List V := (xs.drop (HT.sIx xs.length 0 lo)).take (HT.sIx xs.length xs.length hi - HT.sIx xs.length 0 lo)
theorem cutV_length (xs : List V) (lo hi : Option Int) : (cutV xs lo hi).length ≤ xs.length := by
  unfold cutV
  rw [Y0Q, Y0R]
  lia
noncomputable def rSlT (K : Y00) : V → Option Int → Option Int → Hp → VK → Prop := λx lo hi H Q => ∃ a xs, x = .ref a ∧ SqT K H a xs ∧
  ¬ (HT.sIx xs.length 0 lo = 0 ∧ HT.sIx xs.length xs.length hi = xs.length) ∧ ∀ p, H p = none → Q (.ref p) (upd H p (.tup (cutV xs lo hi)))
theorem sl_tup : SlR X (rSlT X.K) := by
  intro pins s σ H x v vl vu lo hi sl Q I rx hs pl pu h
  obtain ⟨a, xs, rfl, hx, hw, q⟩ := h
  cases rx
  obtain ⟨its, r, ht, hz⟩ := I.tuple hx
  have hlen : its.toArray.size = xs.length := by rw [Y06]; exact r.length.symm
  refine ⟨"tuple", _, Y0t.lookup, ht.typeIs, ?_⟩
  refine HT.getItem_tuple_cut ht hs pl pu (by rw [hlen]; exact hw) ?_ (by rw [hlen]; exact hz)
  rw [hlen]
  refine ⟨.ref s.heap.objs.size, _, I.laid (t' := s.toks) (o := .tup (cutV xs lo hi)) (λb ob q => Y02 _ q) (Y07 _) ?_, rfl, q _ (I.hok.fresh (Y07 _))⟩
  exact ⟨Y0D (cutV_length xs lo hi) hz, _, (r.drop (HT.sIx xs.length 0 lo)).take (HT.sIx xs.length xs.length hi - HT.sIx xs.length 0 lo), IsTup.new _ _, _, Y09 _ rfl, rfl⟩
noncomputable def rCatT (K : Y00) : R2 := λx y H Q => ∃ a b xs ys, x = .ref a ∧ y = .ref b ∧ SqT K H a xs ∧ SqT K H b ys ∧ xs ≠ [] ∧ xs.length + ys.length ≤ sizeLine ∧
  (ys = [] → Q (.ref a) H) ∧ (ys ≠ [] → ∀ p, H p = none → Q (.ref p) (upd H p (.tup (xs ++ ys))))
theorem Vals.nil_iff {xs : List V} {us : List Value} (r : Vals xs us) : us = [] ↔ xs = [] := by
  cases r with
  | nil => simp
  | cons _ _ => simp
theorem op_catT : OpR X (binaryOp .Add) (rCatT X.K) := by
  intro pins s σ H x y v u Q I rx ry h
  obtain ⟨a, b, xs, ys, rfl, rfl, ha, hb, hx, hz, q1, q2⟩ := h
  cases rx
  cases ry
  obtain ⟨its, r1, p1, _⟩ := I.tuple ha
  obtain ⟨its2, r2, p2, _⟩ := I.tuple hb
  refine HT.cat_tup p1 p2 (λz => hx (r1.nil_iff.mp z)) (λz => ⟨.ref a, H, I, rfl, q1 (r2.nil_iff.mp z)⟩) (λz => ?_) (by rw [← r1.length, ← r2.length]; exact hz)
  refine ⟨.ref s.heap.objs.size, _, I.laid (t' := s.toks) (o := .tup (xs ++ ys)) (λb ob q => Y02 _ q) (Y07 _) ?_, rfl, q2 (λw => z (r2.nil_iff.mpr w)) _ (I.hok.fresh (Y07 _))⟩
  exact ⟨by rw [Y0E]; exact hz, _, r1.append r2, IsTup.new _ _, _, Y09 _ rfl, rfl⟩
end
end L2
namespace L2
open PySem PySem.Spec PyProof.Rows
noncomputable def ixN (n : Nat) (i : Int) : Option Nat := if 0 ≤ i then (if i < n then some i.toNat else none) else if -(n : Int) ≤ i then some (i + n).toNat else none
noncomputable def atI {α : Type} (xs : List α) (i : Int) : Option α := (ixN xs.length i).bind λj => xs[j]?
theorem ixN_seq {n : Nat} {i : Int} {j : Nat} (h : ixN n i = some j) : seqIndex? i n = some j ∧ j < n ∧ -(n : Int) ≤ i ∧ i < n := by
  unfold ixN at h
  by_cases h0 : 0 ≤ i
  · rw [if_pos h0] at h
    by_cases h1 : i < n
    · rw [if_pos h1] at h
      have e : i.toNat = j := Y0x h
      exact ⟨by rw [seqIndex_of h0 h1, e], by lia, by lia, h1⟩
    · rw [if_neg h1] at h; cases h
  · rw [if_neg h0] at h
    by_cases h1 : -(n : Int) ≤ i
    · rw [if_pos h1] at h
      have e : (i + n).toNat = j := Y0x h
      exact ⟨by rw [seqIndex_neg (by lia) h1, e], by lia, h1, by lia⟩
    · rw [if_neg h1] at h; cases h
theorem atI_get {α : Type} {xs : List α} {i : Int} {v : α} (h : atI xs i = some v) : ∃ j, seqIndex? i xs.length = some j ∧ xs[j]? = some v ∧ j < xs.length ∧ -(xs.length : Int) ≤ i ∧ i < xs.length := by
  unfold atI at h
  cases e : ixN xs.length i with
  | none => rw [e] at h; cases h
  | some j =>
    rw [e] at h
    obtain ⟨h1, h2, h3, h4⟩ := ixN_seq e
    exact ⟨j, h1, h, h2, h3, h4⟩
theorem atI_nat {α : Type} {xs : List α} {j : Nat} {v : α} (h : xs[j]? = some v) : atI xs (j : Int) = some v := by
  have hj : j < xs.length := (Y0j.mp h).1
  have e : ixN xs.length (j : Int) = some j := by
    unfold ixN
    rw [if_pos (by lia), if_pos (by lia)]; simp
  unfold atI; rw [e]; exact h
noncomputable def PlainIx (b : Expr) : Prop := ∀ o i, subscripted b false o i = operate [o, i] (getItem o i)
noncomputable def IxR (X : Cx) (r : R2) : Prop :=
  ∀ (value slice : Expr) (pins : List (Addr × Obj)) (s : Shared) (σ : St) (H : Hp) (x y : V) (v u : Value) (Q : VK), Inv X pins σ H s → RelV x v → RelV y u → r x y H Q →
    subscripted slice false v u = operate [v, u] (getItem v u) → wpAny (model X.prog X.w) X.A (subscriptTail value slice v u) (EP X pins σ Q) X.xe s
noncomputable def MtR (X : Cx) (id : String) (r : V → List V → Hp → VK → Prop) : Prop :=
  ∀ (pins : List (Addr × Obj)) (s : Shared) (σ : St) (H : Hp) (x : V) (xs : List V) (v : Value) (us : List Value) (Q : VK), Inv X pins σ H s → RelV x v → Vals xs us → r x xs H Q →
    wpAny (model X.prog X.w) X.A (call (.builtin id) (v :: us)) (EP X pins σ Q) X.xe s
section
variable {X : Cx} {a b : Expr} {ta tb : TE} {pos : Pos}
theorem IxR.or {r r' : R2} (h : IxR X r) (h' : IxR X r') : IxR X (λx y H Q => r x y H Q ∨ r' x y H Q) := by
  intro value slice pins s σ H x y v u Q I rx ry q hs
  rcases q with q | q
  · exact h value slice pins s σ H x y v u Q I rx ry q hs
  · exact h' value slice pins s σ H x y v u Q I rx ry q hs
theorem MtR.or {id : String} {r r' : V → List V → Hp → VK → Prop} (h : MtR X id r) (h' : MtR X id r') : MtR X id (λx xs H Q => r x xs H Q ∨ r' x xs H Q) := by
  intro pins s σ H x xs v us Q I rx rs q
  rcases q with q | q
  · exact h pins s σ H x xs v us Q I rx rs q
  · exact h' pins s σ H x xs v us Q I rx rs q
theorem pe_ix {r : R2} (hr : IxR X r) (ha : PE X a ta) (hb : PE X b tb) (hs : PlainIx b) : PE X (.Subscript a b pos) (tOp r ta tb) := by
  intro pins s σ H Q I h
  exact Subscript_ (binT ha hb I h λv u s2 x y H2 I2 rx ry q => hr a b pins s2 σ H2 x y v u Q I2 rx ry q (hs _ _))
noncomputable def rIxL (K : Y00) : R2 := λx y H Q => ∃ p xs i v, x = .ref p ∧ y = .int i ∧ SqL K H p xs ∧ atI xs i = some v ∧ Q v H
noncomputable def rIxT (K : Y00) : R2 := λx y H Q => ∃ p xs i v, x = .ref p ∧ y = .int i ∧ SqT K H p xs ∧ atI xs i = some v ∧ Q v H
noncomputable def rIxS : R2 := λx y H Q => ∃ z i c, x = .str z ∧ y = .int i ∧ z.length ≤ sizeLine ∧ atI z.cps.toList i = some c ∧ Q (.str ⟨#[c]⟩) H
theorem ix_list : IxR X (rIxL X.K) := by
  intro value slice pins s σ H x y v u Q I rx ry h hs
  obtain ⟨p, xs, i, z, rfl, rfl, hq, he, q⟩ := h
  cases rx
  obtain ⟨t, rfl⟩ := ry
  obtain ⟨its, r, pl, hz⟩ := I.list hq
  obtain ⟨j, h1, h2, h3, h4, h5⟩ := atI_get he
  obtain ⟨w, ew, rw'⟩ := r.get h2
  have hl := r.length
  have hn := line63
  have fin : EP X pins σ Q w s := ⟨z, H, I, rw', q⟩
  by_cases h0 : 0 ≤ i
  · have hj : i.toNat = j := by
      rw [seqIndex_of h0 h5] at h1
      exact Y0x h1
    exact item_listR pl.isList h0 (by lia) (by rw [hj]; simpa using ew) fin hs
  · have hj : (i + (its.toArray.size : Int)).toNat = j := by
      rw [seqIndex_neg (by lia) h4] at h1
      rw [Y06, ← hl]
      exact Y0x h1
    exact subscriptTail_builtinR (x := w) pl.isList.typeIs slot_list_getitem.lookup
      (wpAny_getItem_list_neg (Q := λr s' => r = w ∧ EP X pins σ Q r s') pl.isList (by lia) (by rw [Y06] <;> lia) (by lia) (by rw [hj]; simpa using ew) ⟨rfl, fin⟩) hs
theorem ix_tup : IxR X (rIxT X.K) := by
  intro value slice pins s σ H x y v u Q I rx ry h hs
  obtain ⟨p, xs, i, z, rfl, rfl, hq, he, q⟩ := h
  cases rx
  obtain ⟨t, rfl⟩ := ry
  obtain ⟨its, r, pl, hz⟩ := I.tuple hq
  obtain ⟨j, h1, h2, h3, h4, h5⟩ := atI_get he
  obtain ⟨w, ew, rw'⟩ := r.get h2
  have hl := r.length
  have hn := line63
  have fin : EP X pins σ Q w s := ⟨z, H, I, rw', q⟩
  exact subscriptTail_builtinR (x := w) pl.typeIs slot_tuple_getitem.lookup
    (getItem_tuple (j := j) (Q := λr s' => r = w ∧ EP X pins σ Q r s') pl (by lia) (by lia) (by rw [Y06, ← hl]; exact h1) (by simpa using ew) ⟨rfl, fin⟩) hs
theorem ix_str : IxR X rIxS := by
  intro value slice pins s σ H x y v u Q I rx ry h hs
  obtain ⟨z, i, c, rfl, rfl, hz, he, q⟩ := h
  obtain ⟨t, rfl⟩ := rx
  obtain ⟨t', rfl⟩ := ry
  obtain ⟨j, h1, h2, h3, h4, h5⟩ := atI_get he
  have hl : z.cps.toList.length = z.length := by simp [Y2U]
  rw [hl] at h1 h4 h5
  have hn := line63
  exact tail_any (typeIs_str s z t) slot_str_getitem.lookup (getItem_str (c := c) (by
    have e1 : decide (i < -(2 ^ 63 : Int)) = false := decide_eq_false (by lia)
    have e2 : decide (i ≥ 2 ^ 63) = false := decide_eq_false (by lia)
    rw [e1, e2, Bool.or_false]) (by rw [h1]; simpa using h2) ⟨.str ⟨#[c]⟩, H, I.tok _, ⟨_, rfl⟩, q⟩) hs
theorem Inv.lst {pins : List (Addr × Obj)} {σ : St} {H : Hp} {s : Shared} {p : Addr} {xs : List V} (I : Inv X pins σ H s) (h : H p = some (.lst xs)) :
    ∃ (its : List Value) (n : Nat), Vals xs its ∧ s.heap.get? p = some { cls := .type "list", data := .seq its.toArray n } ∧ xs.length ≤ sizeLine := by
  obtain ⟨z, its, n, r, e⟩ := I.hok p _ h
  exact ⟨its, n, r, e, z⟩
theorem slice_bounds (lo hi : Option Int) (n : Nat) : (sliceBounds lo hi none n).1 = ((HT.sIx n 0 lo : Nat) : Int) ∧ (sliceBounds lo hi none n).2.1 = ((HT.sIx n n hi : Nat) : Int) ∧ (sliceBounds lo hi none n).2.2 = 1 := by
  refine ⟨?_, ?_, rfl⟩
  · cases lo with
    | none => simp [sliceBounds, HT.sIx]
    | some i =>
      simp only [sliceBounds, HT.sIx, Option.getD_none, show (1 : Int) > 0 by decide, if_true]
      by_cases h : i < 0
      · simp only [h, if_true] <;> lia
      · simp only [h, if_false] <;> lia
  · cases hi with
    | none => simp [sliceBounds, HT.sIx]
    | some i =>
      simp only [sliceBounds, HT.sIx, Option.getD_none, show (1 : Int) > 0 by decide, if_true]
      by_cases h : i < 0
      · simp only [h, if_true] <;> lia
      · simp only [h, if_false] <;> lia
theorem slicePick_cut (its : List Value) (lo hi : Option Int) : slicePick its.toArray lo hi none = ((its.drop (HT.sIx its.length 0 lo)).take (HT.sIx its.length its.length hi - HT.sIx its.length 0 lo)).toArray := by
  obtain ⟨h1, h2, h3⟩ := slice_bounds lo hi its.toArray.size
  unfold slicePick
  rw [h1, h2, h3]
  simp only [sliceRange_one, pick_run, Y06] <;> rfl
noncomputable def rSlL (K : Y00) : V → Option Int → Option Int → Hp → VK → Prop := λx lo hi H Q => ∃ a xs, x = .ref a ∧ SqL K H a xs ∧ ∀ p, H p = none → Q (.ref p) (upd H p (.lst (cutV xs lo hi)))
theorem sl_list : SlR X (rSlL X.K) := by
  intro pins s σ H x v vl vu lo hi sl Q I rx hs pl pu h
  obtain ⟨a, xs, rfl, hx, q⟩ := h
  cases rx
  obtain ⟨its, r, ht, hz⟩ := I.list hx
  have hlen := r.length
  refine ⟨"list", _, slot_list_getitem.lookup, ht.isList.typeIs, ?_⟩
  refine wpAny_getItem_list_slice ht.isList hs pl pu .none (by simp) ?_ (by rw [Y06] <;> lia)
  rw [slicePick_cut, ← hlen]
  refine ⟨.ref s.heap.objs.size, _, I.laid (t' := s.toks) (o := .lst (cutV xs lo hi)) (λb ob q => Y02 _ q) (Y07 _) ?_, rfl, q _ (I.hok.fresh (Y07 _))⟩
  exact ⟨Y0D (cutV_length xs lo hi) hz, _, 0, (r.drop (HT.sIx xs.length 0 lo)).take (HT.sIx xs.length xs.length hi - HT.sIx xs.length 0 lo), Y09 _ rfl⟩
noncomputable def flatV : V → Bool
  | .non => true
  | .bl _ => true
  | .int _ => true
  | .str _ => true
  | _ => false
noncomputable def eqV : V → V → Bool
  | .non, .non => true
  | .bl a, .bl b => a == b
  | .bl a, .int b => (if a then 1 else 0) == b
  | .int a, .bl b => a == (if b then 1 else 0)
  | .int a, .int b => a == b
  | .str a, .str b => a == b
  | _, _ => false
theorem eqAt_V {A : Around} {s : Shared} {y x : V} {u v : Value} (ry : RelV y u) (rx : RelV x v) (fy : flatV y = true) (fx : flatV x = true) : SeqAt.EqAt A s u v (eqV y x) := by
  cases y with
  | non =>
    cases ry
    cases x with
    | non => cases rx; exact SeqAt.EqAt.same _
    | bl b => cases rx; exact SeqAt.EqAt.none_bool b
    | int b => obtain ⟨t, rfl⟩ := rx; exact SeqAt.EqAt.none_int b t
    | str b => obtain ⟨t, rfl⟩ := rx; exact SeqAt.EqAt.none_str b t
    | _ => exact absurd (show false = true from fx) Y01
  | bl a =>
    cases ry
    cases x with
    | non => cases rx; exact SeqAt.EqAt.bool_none a
    | bl b => cases rx; exact SeqAt.EqAt.bool_bool a b
    | int b => obtain ⟨t, rfl⟩ := rx; exact SeqAt.EqAt.bool_int a b t
    | str b => obtain ⟨t, rfl⟩ := rx; exact SeqAt.EqAt.bool_str a b t
    | _ => exact absurd (show false = true from fx) Y01
  | int a =>
    obtain ⟨t', rfl⟩ := ry
    cases x with
    | non => cases rx; exact SeqAt.EqAt.int_none a t'
    | bl b => cases rx; exact SeqAt.EqAt.int_bool a t' b
    | int b => obtain ⟨t, rfl⟩ := rx; exact SeqAt.EqAt.int_int a t' b t
    | str b => obtain ⟨t, rfl⟩ := rx; exact Y2N a t' b t
    | _ => exact absurd (show false = true from fx) Y01
  | str a =>
    obtain ⟨t', rfl⟩ := ry
    cases x with
    | non => cases rx; exact SeqAt.EqAt.str_none a t'
    | bl b => cases rx; exact SeqAt.EqAt.str_bool a t' b
    | int b => obtain ⟨t, rfl⟩ := rx; exact Y2O a t' b t
    | str b => obtain ⟨t, rfl⟩ := rx; exact SeqAt.EqAt.str_str a t' b t
    | _ => exact absurd (show false = true from fx) Y01
  | _ => exact absurd (show false = true from fy) Y01
noncomputable def eqU (x : V) (u : Value) : Bool := match u with
  | .none => eqV .non x
  | .bool b => eqV (.bl b) x
  | .int i _ => eqV (.int i) x
  | .str z _ => eqV (.str z) x
  | _ => false
theorem eqU_of {x y : V} {u : Value} (r : RelV y u) (f : flatV y = true) : eqU x u = eqV y x := by
  cases y with
  | non => cases r; rfl
  | bl b => cases r; rfl
  | int i => obtain ⟨t, rfl⟩ := r; rfl
  | str z => obtain ⟨t, rfl⟩ := r; rfl
  | _ => exact absurd (show false = true from f) Y01
theorem any_eqU {x : V} : ∀ {xs : List V} {us : List Value}, Vals xs us → xs.all flatV = true → us.any (eqU x) = xs.any λy => eqV y x
  | _, _, .nil, _ => rfl
  | y :: xs, u :: us, .cons r t, f => by
    rw [Y1m, Y04] at f
    rw [Y1d, Y1d, eqU_of r f.1, any_eqU t f.2]
theorem mem_eqAt {A : Around} {s : Shared} {x : V} {v : Value} (rx : RelV x v) (fx : flatV x = true) : ∀ {xs : List V} {us : List Value}, Vals xs us → xs.all flatV = true → ∀ u ∈ us, SeqAt.EqAt A s u v (eqU x u)
  | _, _, .nil, _ => λu hu => by cases hu
  | y :: xs, u :: us, .cons r t, f => λu' hu => by
    rw [Y1m, Y04] at f
    rcases Y0m.mp hu with rfl | hu
    · rw [eqU_of r f.1]; exact eqAt_V r rx f.1 fx
    · exact mem_eqAt rx fx t f.2 u' hu
noncomputable def inV (x : V) (xs : List V) : Bool := xs.any λy => eqV y x
noncomputable def rIn (K : Y00) (neg : Bool) : R2 := λx y H Q => ∃ p xs, y = .ref p ∧ (SqL K H p xs ∨ SqT K H p xs) ∧ flatV x = true ∧ xs.all flatV = true ∧ Q (.bl (if neg then !inV x xs else inV x xs)) H
theorem op_in_seq : OpR X (compareOp .In) (rIn X.K false) := by
  intro pins s σ H x y v u Q I rx ry h
  obtain ⟨p, xs, rfl, hq, fx, fs, q⟩ := h
  cases ry
  rcases hq with hq | hq
  · obtain ⟨its, r, pl, hz⟩ := I.list hq
    refine SeqAt.in_listAt (eqU x) pl.isList (λw hw => mem_eqAt rx fx r fs w (by simpa using hw)) ⟨.bl _, H, I, rfl, ?_⟩
    rw [show its.toArray.any (eqU x) = its.any (eqU x) by simp, any_eqU r fs]
    exact q
  · obtain ⟨its, r, pl, hz⟩ := I.tuple hq
    refine SeqAt.in_tupleAt (eqU x) pl (λw hw => mem_eqAt rx fx r fs w (by simpa using hw)) ⟨.bl _, H, I, rfl, ?_⟩
    rw [show its.toArray.any (eqU x) = its.any (eqU x) by simp, any_eqU r fs]
    exact q
theorem op_notIn_seq : OpR X (compareOp .NotIn) (rIn X.K true) := by
  intro pins s σ H x y v u Q I rx ry h
  obtain ⟨p, xs, rfl, hq, fx, fs, q⟩ := h
  cases ry
  rcases hq with hq | hq
  · obtain ⟨its, r, pl, hz⟩ := I.list hq
    refine SeqAt.notIn_listAt (eqU x) pl.isList (λw hw => mem_eqAt rx fx r fs w (by simpa using hw)) ⟨.bl _, H, I, rfl, ?_⟩
    rw [show its.toArray.any (eqU x) = its.any (eqU x) by simp, any_eqU r fs]
    exact q
  · obtain ⟨its, r, pl, hz⟩ := I.tuple hq
    refine SeqAt.notIn_tupleAt (eqU x) pl (λw hw => mem_eqAt rx fx r fs w (by simpa using hw)) ⟨.bl _, H, I, rfl, ?_⟩
    rw [show its.toArray.any (eqU x) = its.any (eqU x) by simp, any_eqU r fs]
    exact q
theorem call_len_seq : CallR X (.builtin "len") (fun xs H Q => ∃ p ys, xs = [.ref p] ∧ (SqL X.K H p ys ∨ SqT X.K H p ys) ∧ Q (.int ys.length) H) := by
  intro pins s σ H xs us Q I r h
  obtain ⟨p, ys, rfl, hq, q⟩ := h
  obtain ⟨u, rfl, rx⟩ := vals1 r
  cases rx
  have hn := line63
  rcases hq with hq | hq
  · obtain ⟨its, r', pl, hz⟩ := I.list hq
    have hlen := r'.length
    exact Calls.call_len_list pl.isList (by simp only [Y06] <;> lia) ⟨.int ys.length, H, I.tok _, ⟨s.toks + 1, by rw [Y06, hlen]⟩, q⟩
  · obtain ⟨its, r', pl, hz⟩ := I.tuple hq
    have hlen := r'.length
    exact len_tuple pl (by simp only [Y06] <;> lia) ⟨.int ys.length, H, I.tok _, ⟨s.toks + 1, by rw [Y06, hlen]⟩, q⟩
theorem call_len_str : CallR X (.builtin "len") (fun xs H Q => ∃ z, xs = [.str z] ∧ z.length ≤ sizeLine ∧ Q (.int z.length) H) := by
  intro pins s σ H xs us Q I r h
  obtain ⟨z, rfl, hz, q⟩ := h
  obtain ⟨u, rfl, t, rfl⟩ := vals1 r
  have hn := line63
  exact len_str (by lia) ⟨.int z.length, H, I.tok _, ⟨_, rfl⟩, q⟩
theorem CallR.or {f : Value} {r r' : List V → Hp → VK → Prop} (h : CallR X f r) (h' : CallR X f r') : CallR X f (λxs H Q => r xs H Q ∨ r' xs H Q) := by
  intro pins s σ H xs us Q I rs q
  rcases q with q | q
  · exact h pins s σ H xs us Q I rs q
  · exact h' pins s σ H xs us Q I rs q
theorem call_list_of : CallR X (.type "list") (fun xs H Q => ∃ p ys, xs = [.ref p] ∧ (SqL X.K H p ys ∨ SqT X.K H p ys) ∧ ∀ l, H l = none → Q (.ref l) (upd H l (.lst ys))) := by
  intro pins s σ H xs us Q I r h
  obtain ⟨p, ys, rfl, hq, q⟩ := h
  obtain ⟨u, rfl, rx⟩ := vals1 r
  cases rx
  have fin : ∀ (its : List Value), Vals ys its → ys.length ≤ sizeLine → ∀ (h' : Heap) (c' : Nat), (∀ b o', s.heap.get? b = some o' → h'.get? b = some o') →
      h'.get? s.heap.objs.size = some { cls := .type "list", dict := none, data := .seq its.toArray c', slots := #[] } → EP X pins σ Q (.ref s.heap.objs.size) { s with heap := h' } := fun its r' hz h' c' kp e =>
    ⟨.ref s.heap.objs.size, _, I.laid (t' := s.toks) kp (Y07 _) (show ObjOk X.prog X.w _ h' _ (.lst ys) from ⟨hz, its, c', r', e⟩), rfl, q _ (I.hok.fresh (Y07 _))⟩
  rcases hq with hq | hq
  · obtain ⟨its, r', pl, hz⟩ := I.list hq
    have hlen := r'.length
    obtain ⟨o, ho, hc, n, hd⟩ := pl.isList
    exact call_list_seq p (.inl rfl) ho hc hd (λh' c' kp e => fin its r' hz h' c' kp e) (by simp only [Y06] <;> lia)
  · obtain ⟨its, r', pl, hz⟩ := I.tuple hq
    have hlen := r'.length
    obtain ⟨o, ho, hc, n, hd⟩ := pl
    exact call_list_seq p (.inr rfl) ho hc hd (λh' c' kp e => fin its r' hz h' c' kp e) (by simp only [Y06] <;> lia)
theorem call_tuple_of : CallR X (.type "tuple") (fun xs H Q => ∃ p ys, xs = [.ref p] ∧ ((SqL X.K H p ys ∧ ∀ l, H l = none → Q (.ref l) (upd H l (.tup ys))) ∨ (SqT X.K H p ys ∧ Q (.ref p) H))) := by
  intro pins s σ H xs us Q I r h
  obtain ⟨p, ys, rfl, h⟩ := h
  obtain ⟨u, rfl, rx⟩ := vals1 r
  cases rx
  rcases h with ⟨hq, q⟩ | ⟨hq, q⟩
  · obtain ⟨its, r', pl, hz⟩ := I.list hq
    have hlen := r'.length
    refine call_tuple_list pl.isList (λh' kp => ?_) (by simp only [Y06] <;> lia)
    have I1 : Inv X pins σ H { s with heap := h' } := I.kept (t' := s.toks) kp
    have I2 : Inv X pins σ (upd H h'.objs.size (.tup ys)) { s with heap := h'.push { cls := .type "tuple", data := .seq its.toArray } } :=
      I1.laid (t' := s.toks) (λb o e => Y02 _ e) (Y07 _) (show ObjOk X.prog X.w _ _ _ (.tup ys) from ⟨hz, its, r', IsTup.new _ _, _, Y09 _ rfl, rfl⟩)
    exact ⟨.ref h'.objs.size, _, I2, rfl, q _ (I1.hok.fresh (Y07 _))⟩
  · obtain ⟨its, r', pl, hz⟩ := I.tuple hq
    exact call_tuple_same pl ⟨.ref p, H, I, rfl, q⟩
noncomputable def tyV (K : Y00) (T : String) (x : V) (H : Hp) : Prop := match x with
  | .str _ => T = "str"
  | .int _ => T = "int"
  | .ref p => (T = "list" ∧ ∃ xs, SqL K H p xs) ∨ (T = "tuple" ∧ ∃ o, K.lookup p = some o ∧ o.cls = .type "tuple" ∧ o.dict = none) ∨
      (T = "dict" ∧ ((∃ kvs, H p = some (.dK kvs)) ∨ ∃ kvs, H p = some (.dT kvs))) ∨ (T = "set" ∧ ∃ S n, H p = some (.set S n))
  | _ => False
theorem tyV_is {pins : List (Addr × Obj)} {σ : St} {H : Hp} {s : Shared} {T : String} {x : V} {v : Value} (I : Inv X pins σ H s) (r : RelV x v) (ty : tyV X.K T x H) :
    s.TypeIs v T ∧ ∀ a, v = .ref a → ∃ ob, s.heap.get? a = some ob ∧ ob.dict = none := by
  cases x with
  | str z =>
    obtain ⟨t, rfl⟩ := r
    cases (show T = "str" from ty)
    exact ⟨typeIs_str s z t, λ_ e => nomatch e⟩
  | int i =>
    obtain ⟨t, rfl⟩ := r
    cases (show T = "int" from ty)
    exact ⟨typeIs_int s i t, λ_ e => nomatch e⟩
  | ref p =>
    cases r
    rcases ty with ⟨rfl, xs, hq⟩ | ⟨rfl, o, hk, hc, hd⟩ | ⟨rfl, hk⟩ | ⟨rfl, S, n, hk⟩
    · obtain ⟨its, _, pl, _⟩ := I.list hq
      refine ⟨pl.isList.typeIs, λa e => ?_⟩
      cases e
      obtain ⟨o, n, e, c, hd, _⟩ := pl
      exact ⟨o, e, hd⟩
    · refine ⟨⟨o, I.kIn p o hk, hc⟩, λa e => ?_⟩
      cases e
      exact ⟨o, I.kIn _ o hk, hd⟩
    · have z : ∃ o, s.heap.get? p = some o ∧ o.ExactDict := by
        rcases hk with ⟨kvs, hk⟩ | ⟨kvs, hk⟩
        · obtain ⟨_, _, _, _, o, _, _, e, ex, _⟩ := I.hok p _ hk
          exact ⟨o, e, ex⟩
        · obtain ⟨_, _, _, _, o, _, _, e, ex, _⟩ := I.hok p _ hk
          exact ⟨o, e, ex⟩
      obtain ⟨o, e, ex⟩ := z
      refine ⟨⟨o, e, ex.1⟩, λa e2 => ?_⟩
      cases e2
      exact ⟨o, e, ex.2.1⟩
    · obtain ⟨o, _, _, _, e, ex, _⟩ := I.hok p _ hk
      refine ⟨⟨o, e, ex.1⟩, λa e2 => ?_⟩
      cases e2
      exact ⟨o, e, ex.2.1⟩
  | _ => exact Y0g ty
noncomputable def tBM0 (K : Y00) (T : String) (r : V → List V → Hp → VK → Prop) (to : TE) : TE := λσ H Q => to σ H λx H1 => tyV K T x H1 ∧ r x [] H1 Q
noncomputable def tBM (K : Y00) (T : String) (r : V → List V → Hp → VK → Prop) (to : TE) (t : TA) : TE := λσ H Q => to σ H λx H1 => tyV K T x H1 ∧ t σ H1 λxs H2 => r x xs H2 Q
variable {o e : Expr} {es : List Expr} {to : TE} {t : TA} {name : Str} {apos cpos : Pos} {T id : String} {r : V → List V → Hp → VK → Prop}
theorem pe_bm0 (pa : PlainAttrs T) (slot : Slot T name id) (hty : typeOf (.builtin id) = pure (.type "method_descriptor")) (hm : MtR X id r) (ho : PE X o to)
    (hbase : attributeBase o name X.env (eval o X.env) = eval o X.env := by rfl) (hline : (apos.endLine == cpos.line) = true := by rfl) : PE X (.Call (.Attribute o name apos) [] [] cpos) (tBM0 X.K T r to) := by
  intro pins s σ H Q I h
  refine wpAny_Call_method0_late hbase hline (thn (ho pins s σ H _ I h) λv s1 ⟨x, H1, I1, r1, ty, q1⟩ => ?_)
  obtain ⟨h1, h2⟩ := tyV_is I1 r1 ty
  exact ⟨T, id, pa, slot, hty, h1, h2, Y2d rfl (PySem.evalArgs_none (hm pins s1 σ H1 x [] v [] Q I1 r1 .nil q1))⟩
theorem pe_bm (pa : PlainAttrs T) (slot : Slot T name id) (hty : typeOf (.builtin id) = pure (.type "method_descriptor")) (hm : MtR X id r) (ho : PE X o to) (ha : PA X (e :: es) t)
    (hbase : attributeBase o name X.env (eval o X.env) = eval o X.env := by rfl)
    (hfew : ((backTo cpos (starEach (e :: es) X.env)).all (λx => !x.1) && (backToKw cpos (keywordEach [] X.env)).all (λx => x.1.isSome)
      && decide ((e :: es).length + ([] : List Keyword).length + (if ([] : List Keyword).isEmpty then 0 else 1) < 30)) = true := by rfl)
    (hline : (apos.endLine == cpos.line) = true := by rfl) (hs : starEach (e :: es) X.env = (false, eval e X.env) :: starEach es X.env := by rfl) (hplain : (backTo cpos (starEach es X.env)).any (·.1) = false := by rfl) :
    PE X (.Call (.Attribute o name apos) (e :: es) [] cpos) (tBM X.K T r to t) := by
  intro pins s σ H Q I h
  refine wpAny_Call_method_late hbase hfew hline rfl (thn (ho pins s σ H _ I h) λv s1 ⟨x, H1, I1, r1, ty, q1⟩ => ?_)
  obtain ⟨h1, h2⟩ := tyV_is I1 r1 ty
  refine ⟨T, id, pa, slot, hty, h1, h2, ?_⟩
  have hA := ha cpos pins s1 σ H1 _ I1 q1
  rw [hs] at hA ⊢
  refine Y2d (by show (false || (backTo cpos (starEach es X.env)).any (·.1)) = false; rw [hplain] <;> rfl) (Calls.evalArgs_plain ?_)
  exact thn hA λus s2 ⟨vs, H2, I2, r2, q2⟩ => hm pins s2 σ H2 x vs v us Q I2 r1 r2 q2
/- xs.append(e), list.index on a module's tuple .. are MtR facts of 06m -/
end
end L2
namespace L2
open PySem PySem.Spec PyProof.Rows
noncomputable def MtM (X : Cx) (id : String) (r : V → List V → Hp → VK → Prop) : Prop :=
  ∀ (pins : List (Addr × Obj)) (s : Shared) (σ : St) (H : Hp) (x : V) (xs : List V) (v : Value) (us : List Value) (Q : VK), Inv X pins σ H s → RelV x v → Vals xs us → r x xs H Q →
    wpAny (model X.prog X.w) X.A (call (.builtin id) (v :: us)) (EP X pins σ Q) X.xe s
theorem Vals.one : ∀ {x : V} {us : List Value}, Vals [x] us → ∃ u, us = [u] ∧ RelV x u
  | _, _, .cons r .nil => ⟨_, rfl, r⟩
theorem Vals.two : ∀ {x y : V} {us : List Value}, Vals [x, y] us → ∃ u v, us = [u, v] ∧ RelV x u ∧ RelV y v
  | _, _, _, .cons r (.cons q .nil) => ⟨_, _, rfl, r, q⟩
theorem Vals.eraseIdx : ∀ {xs : List V} {us : List Value} (i : Nat), Vals xs us → Vals (xs.eraseIdx i) (us.eraseIdx i)
  | _, _, _, .nil => .nil
  | _, _, 0, .cons _ t => t
  | _, _, i + 1, .cons r t => .cons r (Vals.eraseIdx i t)
theorem Vals.rep {xs : List V} {us : List Value} (h : Vals xs us) : ∀ k : Nat, Vals (Y0c k xs).flatten (Y0c k us).flatten
  | 0 => .nil
  | k + 1 => by
    rw [Y0N, Y0N, Y1a, Y1a]
    exact Vals.append h (Vals.rep h k)
theorem foldl_rep (its : List Value) : ∀ (k : Nat) (acc : List Value),
    Y1Z (λx1 x2 => x1 ++ x2) acc.toArray (Y0c k its.toArray) = (acc ++ (Y0c k its).flatten).toArray
  | 0, acc => by simp
  | k + 1, acc => by
    have e : acc.toArray ++ its.toArray = (acc ++ its).toArray := by simp
    have e2 : (acc ++ its) ++ (Y0c k its).flatten = acc ++ (Y0c (k + 1) its).flatten := by
      rw [Y0N, Y1a, List.append_assoc]
    rw [← e2, ← foldl_rep its k (acc ++ its), ← e, Y0N, List.foldl_cons]
section
variable {X : Cx} {pins : List (Addr × Obj)} {σ : St} {H : Hp} {s : Shared} {l b : Addr} {xs ys zs : List V}
theorem Inv.lset {its its' : List Value} {n : Nat} {f : Array Value → Array Value} {t' : Nat} (I : Inv X pins σ H s) (hH : H l = some (.lst xs))
    (e : s.heap.get? l = some { cls := .type "list", data := .seq its.toArray n }) (hf : f its.toArray = its'.toArray) (hv : Vals ys its') (hz : ys.length ≤ sizeLine) :
    Inv X pins σ (upd H l (.lst ys)) { s with heap := s.heap.update l (Obj.mapSeq f), toks := t' } := by
  have q := PySem.IsL.update e f
  rw [hf] at q
  refine I.write (x := l) (e := l) (by rw [hH]; exact trivial) (.inl rfl) (λb' u hb hu => (Y2e s.heap (Obj.mapSeq f) (Y2K hb)).trans hu) ⟨_, q⟩ ?_
  exact ⟨hz, its', _, hv, q⟩
theorem Inv.lnew {its : List Value} {t' : Nat} (I : Inv X pins σ H s) (hv : Vals ys its) (hz : ys.length ≤ sizeLine) :
    Inv X pins σ (upd H s.heap.objs.size (.lst ys)) { s with heap := s.heap.push { cls := .type "list", data := .seq its.toArray }, toks := t' } :=
  I.laid (λ_ _ q => Y02 _ q) (Y07 _) ⟨hz, its, 0, hv, Y09 _ rfl⟩
theorem Inv.fresh (I : Inv X pins σ H s) : H s.heap.objs.size = none := I.hok.fresh (Y07 _)
theorem Inv.lstM (I : Inv X pins σ H s) (hH : H l = some (.lst xs)) : xs.length ≤ sizeLine ∧ ∃ (its : List Value) (n : Nat), Vals xs its ∧ xs.length = its.length ∧ s.heap.get? l = some { cls := .type "list", data := .seq its.toArray n } := by
  obtain ⟨z, its, n, r, e⟩ := I.hok l _ hH
  exact ⟨z, its, n, r, r.length, e⟩
theorem notLongL {n : Nat} (h : n ≤ sizeLine) : Y1q n = false := by
  unfold Y1q
  exact decide_eq_false (by lia)
end
section
variable {X : Cx}
noncomputable def rAppend : V → List V → Hp → VK → Prop := λx vs H Q => ∃ l xs y, x = .ref l ∧ vs = [y] ∧ H l = some (.lst xs) ∧ xs.length < sizeLine ∧ Q .non (upd H l (.lst (xs ++ [y])))
theorem mt_append : MtM X "list.append" rAppend := by
  intro pins s σ H x vs v us Q I rx rv h
  obtain ⟨l, xs, y, rfl, rfl, hH, hz, q⟩ := h
  cases rx
  obtain ⟨u, rfl, ru⟩ := rv.one
  obtain ⟨z, its, n, r, hl, e⟩ := I.lstM hH
  refine call_meets F.slot_list_append ⟨_, e, rfl⟩ F.entry_list_append (F.args_list_append_2 _ _) (PySem.list_append l its.toArray n u (by rw [Y06]; lia)) ⟨e, ?_⟩
  refine ⟨.non, _, I.lset (its' := its ++ [u]) hH e (by simp) (r.append (.cons ru .nil)) ?_, rfl, q⟩
  rw [Y0E, List.length_singleton]
  lia
noncomputable def rCat : R2 := λx y H Q => ∃ l b xs zs, x = .ref l ∧ y = .ref b ∧ H l = some (.lst xs) ∧ H b = some (.lst zs) ∧ xs.length + zs.length ≤ sizeLine ∧ ∀ p, H p = none → Q (.ref p) (upd H p (.lst (xs ++ zs)))
theorem op_cat : OpR X (binaryOp .Add) rCat := by
  intro pins s σ H x y v u Q I rx ry h
  obtain ⟨l, b, xs, zs, rfl, rfl, hH, hB, hz, q⟩ := h
  cases rx
  cases ry
  obtain ⟨z, its, n, r, hl, e⟩ := I.lstM hH
  obtain ⟨z2, its2, n2, r2, hl2, e2⟩ := I.lstM hB
  refine PySem.P.add_list e e2 ?_ (by rw [Y06, Y06]; lia)
  have ea : its.toArray ++ its2.toArray = (its ++ its2).toArray := by simp
  rw [ea]
  exact ⟨.ref _, _, I.lnew (t' := s.toks) (r.append r2) (by rw [Y0E]; lia), rfl, q _ I.fresh⟩
noncomputable def rRep : R2 := λx y H Q => ∃ l k xs, x = .ref l ∧ y = .int k ∧ H l = some (.lst xs) ∧ -(2 ^ 63) ≤ k ∧ k < 2 ^ 63 ∧ xs.length * k.toNat ≤ sizeLine ∧
  ∀ p, H p = none → Q (.ref p) (upd H p (.lst (Y0c k.toNat xs).flatten))
theorem len_rep {α : Type} (xs : List α) (k : Nat) : (Y0c k xs).flatten.length = k * xs.length := by
  induction k with
  | zero => simp
  | succ k ih => rw [Y0N, Y1a, Y0E, ih, Nat.succ_mul, Nat.add_comm]
theorem op_rep : OpR X (binaryOp .Mult) rRep := by
  intro pins s σ H x y v u Q I rx ry h
  obtain ⟨l, k, xs, rfl, rfl, hH, h1, h2, hz, q⟩ := h
  cases rx
  obtain ⟨t, rfl⟩ := ry
  obtain ⟨z, its, n, r, hl, e⟩ := I.lstM hH
  have hlen : its.toArray.size * k.toNat ≤ sizeLine := by rw [Y06, ← hl]; exact hz
  have hcap : ¬ its.toArray.size * k.toNat > (2 ^ 63 - 1) / 8 := by
    have : (sizeLine : Nat) ≤ (2 ^ 63 - 1) / 8 := by decide
    lia
  have hfit : ¬ (!Builtin.List.listFitsIndex k) = true := by
    rw [fitsIndex_both h1 h2]
    exact Y01
  have hlong : ¬ Y1q (its.toArray.size * k.toNat) = true := by
    rw [notLongL hlen]
    exact Y01
  have hnew : Y1Z (λx1 x2 => x1 ++ x2) #[] (Y0c (if its.toArray.isEmpty = true then 0 else k.toNat) its.toArray) = (Y0c k.toNat its).flatten.toArray := by
    have f0 : ∀ m : Nat, Y1Z (λx1 x2 => x1 ++ x2) #[] (Y0c m its.toArray) = (Y0c m its).flatten.toArray := λm => by
      have := foldl_rep its m []
      rw [List.nil_append] at this
      exact this
    rw [f0]
    cases its with
    | nil => simp
    | cons a r' => rw [if_neg (by simp)]
  refine wpAny_binaryOp_repeat_ref (T := "list") (U := "int") (by decide) ⟨_, e, rfl⟩ (fun s' => typeIs_int s' k t) noFill_list_mul F.fills_int_mul F.slot_int_rmul repeat_list F.slot_int_index.lookup
    (call_meets F.slot_int_rmul (typeIs_int s k t) F.entry_int_rmul (F.args_int_rmul_2 _ _) (int___rmul___int_list k t l its.toArray n)
      ⟨e, rfl, ⟨_, e, rfl⟩, call_meets F.slot_list_mul ⟨_, e, rfl⟩ F.entry_list_mul (F.args_list_mul_2 _ _) (AutoListH.list___mul___list_int_3 l its.toArray n k t hfit hcap hlong) ⟨e, ?_⟩⟩)
  rw [hnew]
  exact ⟨.ref _, _, I.lnew (t' := s.toks) (r.rep k.toNat) (by rw [len_rep, Nat.mul_comm]; exact hz), rfl, q _ I.fresh⟩
end
section
variable {prog : Program} {w : World} {A : Around} {E : Value → Shared → Prop} {s : Shared}
set_option maxRecDepth 100000 in
end
section
variable {X : Cx}
end
end L2
namespace L2
open PySem PySem.Spec PyProof.Rows
section
variable {κ : Type} [DecidableEq κ]
noncomputable def valV (kvs : List (κ × V)) (k : κ) : Option V := (kvs.find? λkv => decide (kv.1 = k)).map (·.2)
noncomputable def putK (kvs : List (κ × V)) (k : κ) (v : V) : List (κ × V) :=
  if (kvs.any λkv => decide (kv.1 = k)) = true then kvs.map (λkv => if kv.1 = k then (kv.1, v) else kv) else kvs ++ [(k, v)]
noncomputable def dropK (kvs : List (κ × V)) (k : κ) : List (κ × V) := kvs.filter λkv => decide (kv.1 ≠ k)
theorem valV_pos {p : κ × V} {r : List (κ × V)} {k : κ} (e : p.1 = k) : valV (p :: r) k = some p.2 := by simp [valV, Y1j, e]
theorem valV_neg {p : κ × V} {r : List (κ × V)} {k : κ} (e : ¬ p.1 = k) : valV (p :: r) k = valV r k := by simp [valV, Y1j, e]
theorem RelO.isSome_eq {o : Option V} {u : Option Value} (r : RelO o u) : o.isSome = u.isSome := by
  cases o with
  | none => cases u with
    | none => rfl
    | some _ => exact (show False from r).elim
  | some _ => cases u with
    | none => exact (show False from r).elim
    | some _ => rfl
theorem KV.val {kvs : List (κ × V)} {vs : List (κ × Value)} (r : KV kvs vs) (k : κ) : RelO (valV kvs k) (valueAt vs k) := by
  unfold KV at r
  induction r with
  | nil => exact Y10
  | @cons p q ps qs h t ih =>
    obtain ⟨h1, h2⟩ := h
    by_cases e : p.1 = k
    · have e' : q.1 = k := h1.symm.trans e
      have b : valueAt (q :: qs) k = some q.2 := by simp [valueAt, Y1j, e']
      rw [valV_pos e, b]; exact h2
    · have e' : ¬ q.1 = k := λz => e (h1.trans z)
      have b : valueAt (q :: qs) k = valueAt qs k := by simp [valueAt, Y1j, e']
      rw [valV_neg e, b]; exact ih
theorem KV.any {kvs : List (κ × V)} {vs : List (κ × Value)} (r : KV kvs vs) (k : κ) : (kvs.any λkv => decide (kv.1 = k)) = vs.any λkv => decide (kv.1 = k) := by
  unfold KV at r
  induction r with
  | nil => rfl
  | cons h t ih => rw [Y1d, Y1d, ih, h.1]
theorem KV.repl {kvs : List (κ × V)} {vs : List (κ × Value)} (r : KV kvs vs) (k : κ) {y : V} {u : Value} (ry : RelV y u) :
    KV (kvs.map λkv => if kv.1 = k then (kv.1, y) else kv) (vs.map λkv => if kv.1 = k then (kv.1, u) else kv) := by
  unfold KV at r ⊢
  induction r with
  | nil => exact .nil
  | @cons p q ps qs h t ih =>
    rw [Y0l, Y0l]
    refine .cons ?_ ih
    obtain ⟨h1, h2⟩ := h
    by_cases e : p.1 = k
    · rw [if_pos e, if_pos (h1.symm.trans e)]; exact ⟨h1, ry⟩
    · rw [if_neg e, if_neg (λz => e (h1.trans z))]; exact ⟨h1, h2⟩
theorem KV.put {kvs : List (κ × V)} {vs : List (κ × Value)} (r : KV kvs vs) (k : κ) {y : V} {u : Value} (ry : RelV y u) : KV (putK kvs k y) (stored vs k u) := by
  unfold putK stored
  rw [r.any k]
  by_cases e : (vs.any λkv => decide (kv.1 = k)) = true
  · rw [if_pos e, if_pos e]; exact r.repl k ry
  · rw [if_neg e, if_neg e]; exact Paired.snoc r ⟨rfl, ry⟩
theorem KV.drop {kvs : List (κ × V)} {vs : List (κ × Value)} (r : KV kvs vs) (k : κ) : KV (dropK kvs k) (without vs k) := by
  unfold KV at r ⊢
  unfold dropK without
  induction r with
  | nil => exact .nil
  | @cons p q ps qs h t ih =>
    obtain ⟨h1, h2⟩ := h
    rw [List.filter_cons, List.filter_cons]
    by_cases e : p.1 = k
    · have a : ¬ decide (p.1 ≠ k) = true := by simp [e]
      have b : ¬ decide (q.1 ≠ k) = true := by simp [h1.symm.trans e]
      rw [if_neg a, if_neg b]; exact ih
    · have e' : ¬ q.1 = k := λz => e (h1.trans z)
      have a : decide (p.1 ≠ k) = true := by simp [e]
      have b : decide (q.1 ≠ k) = true := by simp [e']
      rw [if_pos a, if_pos b]; exact .cons ⟨h1, h2⟩ ih
theorem KV.keys {kvs : List (κ × V)} {vs : List (κ × Value)} (r : KV kvs vs) : kvs.map (·.1) = vs.map (·.1) := by
  unfold KV at r
  induction r with
  | nil => rfl
  | cons h t ih => rw [Y0l, Y0l, ih, h.1]
theorem KV.length {kvs : List (κ × V)} {vs : List (κ × Value)} (r : KV kvs vs) : kvs.length = vs.length := Paired.length r
end
theorem kV_is {P : Program} {w : World} {k : Key} {u : Value} (r : RelV (kV k) u) : (mixKind P w).is k u = true := by
  cases k with
  | inl i => obtain ⟨t, e⟩ := (show ∃ t, u = Y2M i t from r); subst e; exact mixKind_int P w i t
  | inr x => obtain ⟨t, e⟩ := (show ∃ t, u = Y0J x t from r); subst e; exact mixKind_str P w x t
theorem items_are {P : Program} {w : World} : ∀ {ks : List Key} {us : List Value}, Vals (ks.map kV) us → ItemsAre (mixKind P w) ks us
  | [], _, r => by rw [Y2n] at r; cases r; exact .nil
  | k :: ks, _, r => by
    rw [Y0l] at r
    cases r with
    | cons h t => exact .cons (kV_is h) (items_are t)
noncomputable abbrev KT (H : Hp) : List (List Key × V) → List (List Key × Addr × Value) → Prop := Paired λp q => p.1 = q.1 ∧ H q.2.1 = some (.tup (p.1.map kV)) ∧ RelV p.2 q.2.2
theorem KT.val {H : Hp} {kvs : List (List Key × V)} {xs : List (List Key × Addr × Value)} (r : KT H kvs xs) (k : List Key) : RelO (valV kvs k) ((atKey xs k).map (·.2)) := by
  induction r with
  | nil => exact Y10
  | @cons p q ps qs h t ih =>
    obtain ⟨h1, _, h2⟩ := h
    by_cases e : p.1 = k
    · have e' : q.1 = k := h1.symm.trans e
      have b : atKey (q :: qs) k = some q.2 := by simp [atKey, Y1j, e']
      rw [valV_pos e, b]; exact h2
    · have e' : ¬ q.1 = k := λz => e (h1.trans z)
      have b : atKey (q :: qs) k = atKey qs k := by simp [atKey, Y1j, e']
      rw [valV_neg e, b]; exact ih
section
variable {P : Program} {w : World} {H : Hp} {h : Heap} {a : Addr}
theorem rd_of {u : HO} (ok : HOk P w H h) (e : Rd H a u) : ObjOk P w H h a u := e.ok ok
theorem dk_rd {kvs : List (Key × V)} (ok : HOk P w H h) (e : Rd H a (.dK kvs)) : kvs.length ≤ sizeLine ∧ (a == sysModules) = false ∧ ∃ vs, KV kvs vs ∧ h.DictOf (mixKind P w) a vs :=
  show ObjOk P w H h a (.dK kvs) from rd_of ok e
theorem dk_of {kvs : List (Key × V)} (ok : HOk P w H h) (e : H a = some (.dK kvs)) : kvs.length ≤ sizeLine ∧ (a == sysModules) = false ∧ ∃ vs, KV kvs vs ∧ h.DictOf (mixKind P w) a vs := dk_rd ok (.inl e)
theorem key_of {ks : List Key} (ok : HOk P w H h) (e : H a = some (.tup (ks.map kV))) : (tupleKind (mixKind P w)).is h ks a := by
  obtain ⟨_, its, r, ⟨o, h1, h2, n, h3⟩, _⟩ := (show ObjOk P w H h a (.tup (ks.map kV)) from ok a _ e)
  exact ⟨o, its.toArray, n, h1, h2, h3, by simpa using items_are r⟩
theorem dt_rd {kvs : List (List Key × V)} (ok : HOk P w H h) (e : Rd H a (.dT kvs)) : kvs.length ≤ sizeLine ∧ (a == sysModules) = false ∧
    ∃ xs, KT H kvs xs ∧ h.DictOfH (tupleKind (mixKind P w)) a xs := by
  obtain ⟨z, y, xs, r, o, es, ep, h1, h2, h3, h4, h5⟩ := (show ObjOk P w H h a (.dT kvs) from rd_of ok e)
  refine ⟨z, y, xs, r, o, es, ep, h1, h2, h3, h4, λx hx => ?_, h5⟩
  have all : ∀ {l : List (List Key × V)} {m : List (List Key × Addr × Value)}, KT H l m → ∀ x ∈ m, (tupleKind (mixKind P w)).is h x.1 x.2.1 := by
    intro l m q
    induction q with
    | nil => intro x hx; exact nomatch hx
    | @cons p q ps qs hq t ih =>
      intro x hx
      rcases Y0m.mp hx with e | hx
      · subst e
        exact key_of ok (by rw [← hq.1]; exact hq.2.1)
      · exact ih x hx
  exact all r x hx
end
noncomputable def DGet (H : Hp) (a : Addr) (y : V) (r : Option V) : Prop :=
  (∃ kvs k, Rd H a (.dK kvs) ∧ y = kV k ∧ r = valV kvs k) ∨ ∃ kvs k b, Rd H a (.dT kvs) ∧ y = .ref b ∧ H b = some (.tup (k.map kV)) ∧ r = valV kvs k
noncomputable def DPut (H : Hp) (a : Addr) (y v : V) (H' : Hp) : Prop :=
  (∃ kvs k, H a = some (.dK kvs) ∧ y = kV k ∧ kvs.length < sizeLine ∧ H' = upd H a (.dK (putK kvs k v))) ∨
  ∃ kvs k b, H a = some (.dT kvs) ∧ y = .ref b ∧ H b = some (.tup (k.map kV)) ∧ kvs.length < sizeLine ∧ H' = upd H a (.dT (putK kvs k v))
theorem DGet.k {H : Hp} {a : Addr} {kvs : List (Key × V)} {k : Key} (e : H a = some (.dK kvs)) : DGet H a (kV k) (valV kvs k) := .inl ⟨kvs, k, .inl e, rfl, rfl⟩
theorem DGet.t {H : Hp} {a b : Addr} {kvs : List (List Key × V)} {k : List Key} (e : H a = some (.dT kvs)) (eb : H b = some (.tup (k.map kV))) : DGet H a (.ref b) (valV kvs k) := .inr ⟨kvs, k, b, .inl e, rfl, eb, rfl⟩
theorem DPut.k {H : Hp} {a : Addr} {kvs : List (Key × V)} {k : Key} {v : V} (e : H a = some (.dK kvs)) (hl : kvs.length < sizeLine) : DPut H a (kV k) v (upd H a (.dK (putK kvs k v))) := .inl ⟨kvs, k, e, rfl, hl, rfl⟩
theorem DPut.t {H : Hp} {a b : Addr} {kvs : List (List Key × V)} {k : List Key} {v : V} (e : H a = some (.dT kvs)) (eb : H b = some (.tup (k.map kV))) (hl : kvs.length < sizeLine) :
    DPut H a (.ref b) v (upd H a (.dT (putK kvs k v))) := .inr ⟨kvs, k, b, e, rfl, eb, hl, rfl⟩
section
variable {X : Cx} {pins : List (Addr × Obj)} {σ : St} {H : Hp} {s : Shared} {a : Addr} {y v : V} {u r : Value} {o : Option V} {A : Around} {E : Value → Shared → Prop}
theorem Inv.big (I : Inv X pins σ H s) : sysModules < s.heap.objs.size := by
  have h : mainGlobals < s.heap.objs.size := (I.mod.glob.keeps I.bk).lt
  exact Y2o (by decide) h
theorem d_getItem {Q : Value → Shared → Prop} (hu : A.units + 1 < cLine) (I : Inv X pins σ H s) (g : DGet H a y (some v)) (ry : RelV y u) (h : ∀ w' s', Inv X pins σ H s' → RelV v w' → Q w' s') :
    wpAny (model X.prog X.w) A (getItem (.ref a) u) Q E s := by
  rcases g with ⟨kvs, k, e, ey, l⟩ | ⟨kvs, k, b, e, ey, eb, l⟩
  · subst ey
    obtain ⟨z, hd, vs, rel, dd⟩ := dk_rd I.hok e
    obtain ⟨w', hw, rw'⟩ := RelO.some_of (v := v) (o := valueAt vs k) (by rw [l]; exact rel.val k)
    exact wpAny_getItem_of (kV_is ry) dd.mapOf hw (h w' _ (I.tok _) rw')
  · subst ey
    cases (show u = Y0a b from ry)
    obtain ⟨z, hd, xs, rel, dd⟩ := dt_rd I.hok e
    obtain ⟨w', hw, rw'⟩ := RelO.some_of (v := v) (o := (atKey xs k).map (·.2)) (by rw [l]; exact rel.val k)
    obtain ⟨p, hp, hp2⟩ := Option.map_eq_some_iff.mp hw
    refine wpAny_getItem_heap (tupleKind_room_in1 hu) (key_of I.hok eb) dd hp ?_
    rw [hp2]
    exact h w' _ (I.tok _) rw'
theorem d_in {Q : Value → Shared → Prop} (hu : A.units + 1 < cLine) (I : Inv X pins σ H s) (g : DGet H a y o) (ry : RelV y u) (h : ∀ s', Inv X pins σ H s' → Q (.bool o.isSome) s') :
    wpAny (model X.prog X.w) A (compareOp .In u (.ref a)) Q E s := by
  rcases g with ⟨kvs, k, e, ey, l⟩ | ⟨kvs, k, b, e, ey, eb, l⟩
  · subst ey
    obtain ⟨z, hd, vs, rel, dd⟩ := dk_rd I.hok e
    refine wpAny_in_of (kV_is ry) hd dd.mapOf ?_
    rw [← (rel.val k).isSome_eq, ← l]
    exact h _ (I.tok _)
  · subst ey
    cases (show u = Y0a b from ry)
    obtain ⟨z, hd, xs, rel, dd⟩ := dt_rd I.hok e
    refine wpAny_in_heap (tupleKind_room_in1 hu) (key_of I.hok eb) hd dd ?_
    have q := (rel.val k).isSome_eq
    rw [Option.isSome_map] at q
    rw [← q, ← l]
    exact h _ (I.tok _)
theorem d_notIn {Q : Value → Shared → Prop} (hu : A.units + 1 < cLine) (I : Inv X pins σ H s) (g : DGet H a y o) (ry : RelV y u) (h : ∀ s', Inv X pins σ H s' → Q (.bool (!o.isSome)) s') :
    wpAny (model X.prog X.w) A (compareOp .NotIn u (.ref a)) Q E s := by
  rcases g with ⟨kvs, k, e, ey, l⟩ | ⟨kvs, k, b, e, ey, eb, l⟩
  · subst ey
    obtain ⟨z, hd, vs, rel, dd⟩ := dk_rd I.hok e
    refine wpAny_notIn_of (kV_is ry) hd dd.mapOf ?_
    rw [← (rel.val k).isSome_eq, ← l]
    exact h _ (I.tok _)
  · subst ey
    cases (show u = Y0a b from ry)
    obtain ⟨z, hd, xs, rel, dd⟩ := dt_rd I.hok e
    refine wpAny_notIn_heap (tupleKind_room_in1 hu) (key_of I.hok eb) hd dd ?_
    have q := (rel.val k).isSome_eq
    rw [Option.isSome_map] at q
    rw [← q, ← l]
    exact h _ (I.tok _)
theorem dk_new {P : Program} {w : World} {H' : Hp} {h' : Heap} {kvs : List (Key × V)} {vs : List (Key × Value)} (z : kvs.length ≤ sizeLine) (hd : (a == sysModules) = false) (rel : KV kvs vs) (dd : h'.DictOf (mixKind P w) a vs) :
    ObjOk P w H' h' a (.dK kvs) := ⟨z, hd, vs, rel, dd⟩
end
section
variable {X : Cx} {pins : List (Addr × Obj)} {σ : St} {H : Hp} {s : Shared} {a : Addr} {kvs : List (Key × V)} {k : Key} {u : Value} {A : Around} {E : Value → Shared → Prop}
theorem d_len {Q : Value → Shared → Prop} (I : Inv X pins σ H s) (e : Rd H a (.dK kvs)) (h : ∀ t s', Inv X pins σ H s' → Q (.int kvs.length t) s') : wpAny (model X.prog X.w) A (call (.builtin "len") [.ref a]) Q E s := by
  obtain ⟨z, hd, vs, rel, dd⟩ := dk_rd I.hok e
  refine call_len_dict hd dd (by rw [← rel.length]; rw [sizeLine_eq] at z; lia) ?_
  rw [← rel.length]
  exact h _ _ (I.tok _)
end
theorem dict_typeIs {X : Cx} {pins : List (Addr × Obj)} {σ : St} {H : Hp} {s : Shared} {a : Addr} {y : V} {o : Option V} (I : Inv X pins σ H s) (g : DGet H a y o) : s.TypeIs (.ref a) "dict" := by
  rcases g with ⟨kvs, k, e, _, _⟩ | ⟨kvs, k, b, e, _, _, _⟩
  · obtain ⟨_, _, vs, _, dd⟩ := dk_rd I.hok e
    exact dd.typeIs
  · obtain ⟨_, _, xs, _, dd⟩ := dt_rd I.hok e
    exact dd.typeIs
section
variable {X : Cx} {o i e value : Expr} {pos pos' tpos : Pos} {td ty tv : TE}
end
section
variable {X : Cx} {pos : Pos}
end
noncomputable def tPairs : List (TE × TE) → St → Hp → (List (V × V) → Hp → Prop) → Prop
  | [], _, H, Q => Q [] H
  | (tk, tv) :: r, σ, H, Q => tk σ H λx H1 => tv σ H1 λy H2 => tPairs r σ H2 λps H3 => Q ((x, y) :: ps) H3
noncomputable abbrev VV : List (V × V) → List (Value × Value) → Prop := Paired λp q => RelV p.1 q.1 ∧ RelV p.2 q.2
noncomputable def PPs (X : Cx) (pos : Pos) (keys : List (Option Expr)) (values : List Expr) (trs : List (TE × TE)) : Prop :=
  ∀ (pins : List (Addr × Obj)) (s : Shared) (σ : St) (H : Hp) (Q : List (V × V) → Hp → Prop), Inv X pins σ H s → tPairs trs σ H Q →
    wpAny (model X.prog X.w) X.A (evalPairs (pairTrees keys values X.env pos)) (λvs s' => ∃ ps H', Inv X pins σ H' s' ∧ VV ps vs ∧ Q ps H') X.xe s
theorem pps_nil {X : Cx} {pos : Pos} : PPs X pos [] [] [] := λpins s σ H Q I h => pairTrees_nil_walk ⟨[], H, I, .nil, h⟩
theorem pps_cons {X : Cx} {pos : Pos} {k v : Expr} {ks : List (Option Expr)} {vs : List Expr} {tk tv : TE} {trs : List (TE × TE)} (hk : PE X k tk) (hv : PE X v tv) (hr : PPs X pos ks vs trs) :
    PPs X pos (some k :: ks) (v :: vs) ((tk, tv) :: trs) := λpins s σ H Q I h =>
  pairTrees_cons_walk (thn (hk pins s σ H _ I h) λu s1 ⟨x, H1, I1, rx, q1⟩ => thn (hv pins s1 σ H1 _ I1 q1) λw2 s2 ⟨y, H2, I2, ry, q2⟩ =>
    thn (hr pins s2 σ H2 _ I2 q2) λws s3 ⟨ps, H3, I3, rel, q3⟩ => ⟨(x, y) :: ps, H3, I3, .cons ⟨rx, ry⟩ rel, q3⟩)
structure M1 (X : Cx) (o : Expr) (m : Str) (apos : Pos) (e : Expr) (cpos : Pos) : Prop where
  base : attributeBase o m X.env (eval o X.env) = eval o X.env
  few : ((backTo cpos (starEach [e] X.env)).all (λx => !x.1) && (backToKw cpos (keywordEach [] X.env)).all (λx => x.1.isSome)
    && decide (([e] : List Expr).length + ([] : List Keyword).length + (if ([] : List Keyword).isEmpty then 0 else 1) < 30)) = true
  line : (apos.endLine == cpos.line) = true
  trees : backTo cpos (starEach [e] X.env) = [(false, eval e X.env)]
structure M2 (X : Cx) (o : Expr) (m : Str) (apos : Pos) (e f : Expr) (cpos : Pos) : Prop where
  base : attributeBase o m X.env (eval o X.env) = eval o X.env
  few : ((backTo cpos (starEach [e, f] X.env)).all (λx => !x.1) && (backToKw cpos (keywordEach [] X.env)).all (λx => x.1.isSome)
    && decide (([e, f] : List Expr).length + ([] : List Keyword).length + (if ([] : List Keyword).isEmpty then 0 else 1) < 30)) = true
  line : (apos.endLine == cpos.line) = true
  trees : backTo cpos (starEach [e, f] X.env) = [(false, eval e X.env), (false, eval f X.env)]
section
variable {X : Cx} {pins : List (Addr × Obj)} {σ : St} {H : Hp} {s : Shared} {a : Addr} {y d : V} {u r : Value} {o : Option V} {A : Around} {E : Value → Shared → Prop}
end
section
variable {X : Cx} {o e f : Expr} {apos cpos : Pos} {td ty tx : TE}
end
section
variable {X : Cx} {pins : List (Addr × Obj)} {σ : St} {H : Hp} {s : Shared} {a : Addr} {kvs : List (Key × V)} {A : Around} {E : Value → Shared → Prop}
theorem d_copyOf {Q : Value → Shared → Prop} (I : Inv X pins σ H s) (e : Rd H a (.dK kvs)) (h : ∀ p s', H p = none → Inv X pins σ (upd H p (.dK kvs)) s' → Q (.ref p) s') : wpAny (model X.prog X.w) A (call (.type "dict") [.ref a]) Q E s := by
  obtain ⟨z, hd, vs, rel, dd⟩ := dk_rd I.hok e
  refine kt_call_dict hd dd (by rw [← rel.length]; exact z) λh' dd' hs => ?_
  refine h _ _ (I.hok.fresh (Y07 _)) (I.laid (a := s.heap.objs.size) (o := .dK kvs) (t' := s.toks) (λb q hq => ?_) (Y07 _) (dk_new z (beq_eq_false_iff_ne.mpr (Y2K (Y0i I.big))) rel dd'))
  exact (hs.2 b (Y0i (Y08 hq))).trans (Y02 _ hq)
end
section
variable {X : Cx} {pins : List (Addr × Obj)} {σ : St} {H : Hp} {s : Shared} {a : Addr} {y : V} {u : Value} {A : Around} {E : Value → Shared → Prop}
end
end L2
namespace Att
open PySem PySem.W PySem.Calls PyProof.Rows
theorem ints_of_wellAll {P : Params} {h : Heap} : ∀ (ns : List Int) (vs : List Value), WellAll P h vs (ns.map WData.int) → IntsAre vs ns := by
  intro ns
  induction ns with
  | nil =>
    intro vs w
    rw [Y2n] at w
    cases w
    exact .nil
  | cons n ns ih =>
    intro vs w
    rw [Y0l] at w
    cases w with
    | cons a b =>
      cases a
      exact .cons _ _ (ih _ b)
theorem script_of {l : OpenLaw} {n : Nat} (hn : l.most = some n) {P : Params} {h : Heap} {args : List WData} {vals : List Value}
    (hpre : l.row.toRowW.claim.pre args = true) (hwl : WellAll P h vals args) :
    ∃ a vs ns, vals = [Y0a a] ∧ args = [WData.list (ns.map WData.int)] ∧ h.get? a = some { cls := .type "list", data := .seq vs.toArray } ∧ IntsAre vs ns ∧ ns.length ≤ n := by
  have hsh : WShape.hasAll [] args [.list .int] = true := (pre_splitW hpre).1
  have hc : l.pre.holds [] { args := args } = true := (pre_splitW hpre).2
  obtain ⟨d, r, rfl, h1, h2⟩ := hasAllW_cons hsh
  obtain rfl := hasAllW_nil h2
  obtain ⟨xs, rfl, h3⟩ := hasW_list h1
  obtain ⟨ns, rfl⟩ := items_int h3
  have hlen : ns.length ≤ n := by
    unfold OpenLaw.pre at hc
    have h4 : (WTm.not (.lt (.lit (.int (n : Int))) (.len (.arg 0)))).holds [] { args := [.list (ns.map .int)] } = true := by
      have h4 := (holds_andW hc).1
      rw [hn] at h4
      exact h4
    have h5 := condW_of h4 (w_not (w_lt w_lit (w_len_list (w_arg rfl))))
    rw [Y05] at h5
    refine Nat.le_of_not_lt λq => ?_
    have q' : (n : Int) < ((ns.length : Nat) : Int) := by lia
    first
      | (rw [decide_eq_true q'] at h5; exact absurd h5 (by decide))
      | (simp at h5; lia)
  cases hwl with
  | cons w1 w2 =>
    cases w2
    cases w1 with
    | list ho hall => exact ⟨_, _, ns, rfl, rfl, ho, ints_of_wellAll ns _ hall, hlen⟩
theorem post_true (l : OpenLaw) (args : List WData) : l.row.toRowW.claim.post args (.bool true) args = true :=
  postW_of (r := l.row.toRowW) (X := (true == true))
    (show WShape.has [] (.bool true) .bool = true by first | rfl | decide | simp [WShape.has, WShape.arms, WShape.armsAll])
    (show (WTm.eq .res (.lit (.bool true))).value [] { args := args, res := some (.bool true), after := args } = some (.bool (true == true)) from w_eq_bool (w_res rfl) w_lit) rfl
theorem attach_call {l : OpenLaw} {n : Nat} {q : Program} {loose : List Str} {XP : (Str → Option Value) → Heap → Prop} {YP : World → Heap → Prop} {d : DefRec}
    (hn : l.most = some n) (hdf : d.params.defaults = [])
    (call : ∀ (w : World) (s₀ s₁ : Shared) (mg mb : Str → Option Value) (fa : Addr) (o : Obj) (pm cd doc : Value) (a : Addr) (vs : List Value) (ns : List Int),
      Ground q loose [] XP w s₀ mg mb s₁.heap → YP w s₁.heap →
      s₁.heap.get? fa = some o → o.data = .func (docDef d.name d.params d.body d.scope pm cd doc) → s₁.heap.CodeRec cd d.name → mg d.name = some (.ref fa) →
      s₁.heap.get? a = some { cls := .type "list", data := .seq vs.toArray } → IntsAre vs ns → ns.length ≤ n → s₁.gens = #[] →
      codeAny (model l.prog w) callerA (.call (.ref fa) ⟨[.ref a], []⟩) (λr s' => r = .ok (.ret (.bool true)) ∧ OldK s₁.heap s'.heap ∧ s'.os = s₁.os ∧ AllBare s'.gens) s₁) :
    WalkO q loose XP YP l.row.toRowW d [] (λf vs => PySem.call f vs) := by
  intro w s₀ s₁ mg mb G Y fa o pm cd doc dV kV ho hd hcd hD hmg hg args vals as hpre hlay hrd hwl hlo
  obtain rfl : dV = .none := Dflts.none hD hdf
  obtain rfl : kV = .none := Dflts.noKw hD
  obtain ⟨a, vs, ns, rfl, rfl, hobj, hints, hlen⟩ := script_of hn hpre hwl
  refine enter_call (codeAny_mono (call w s₀ s₁ mg mb fa o pm cd doc a vs ns G Y ho (fd_plain hd) hcd hmg hobj hints hlen hg) λr s' hq => ?_)
  obtain ⟨rfl, h2, h3, h4⟩ := hq
  exact ⟨.inl ⟨.bool true, .bool true, [], rfl, λ_ => rfl, .bool true, post_true l _, λ_ => ⟨List.Pairwise.nil, λ_ hm => (nomatch hm)⟩⟩, h2, h3, h4⟩
section
variable {prog : Program} {w : World} {A : Around} {E : Value → Shared → Prop} {s : Shared} {K : Frag}
noncomputable def ledger (h : Heap) (L d : Addr) : List (Addr × Obj) := (Y0z h.objs.size).filterMap λa => if a = L ∨ a = d then none else (h.get? a).map λo => (a, o)
end
end Att
namespace L2
open PySem PySem.Spec PyProof.Rows
theorem vals_ints : ∀ {vs : List Value} {ns : List Int}, IntsAre vs ns → Vals (ns.map V.int) vs
  | _, _, .nil => .nil
  | _, _, .cons n t h => .cons ⟨t, rfl⟩ (vals_ints h)
noncomputable def Only (H : Hp) : Prop := ∀ b, H b = none ∨ ∃ o xs, H b = some (.frz o (.lst xs))
theorem law_call {P : Program} {w : World} {K : Y00} {mg mb : Str → Option Value} {CX : CXT} {k : Nat} {fa a : Addr} {fd : FuncData} {x : Str} {sp : Sp} {s₁ : Shared} {vs : List Value} {ns : List Int}
    (KX : K.In s₁.heap) (hns : s₁.heap.Ns mainGlobals mg) (hb : s₁.heap.Ns builtinsNs mb) (hbb : ∀ x : Str, x ≠ "__name__" → mb x = bootBuiltins x) (hlim : s₁.heap.NoLimit) (hg : s₁.gens = #[])
    (ha : s₁.heap.get? a = some { cls := .type "list", data := .seq vs.toArray }) (hi : IntsAre vs ns) (hl : ns.length ≤ sizeLine) (hr : Room k callerA)
    (F : ∀ base : Heap, K.In base → base.Ns mainGlobals mg → FnOk P w K mg base CX k fa fd [x] sp) (hbind : ∀ (s : Shared) (u : Value), BindsTo s fd ⟨[u], []⟩ [(x, u)])
    (hsp : ∀ H : Hp, Only H → SqL K H a (ns.map V.int) → sp [.ref a] H (λv _ => v = .bl true) λ_ _ _ => False)
    (hCX : ∀ H e s', CX [] H s₁ (λ_ _ _ => False) e s' → False) :
    codeAny (model P w) callerA (.call (.ref fa) ⟨[.ref a], []⟩) (λr s' => r = .ok (.ret (.bool true)) ∧ OldK s₁.heap s'.heap ∧ s'.os = s₁.os ∧ AllBare s'.gens) s₁ := by
  have rv := vals_ints hi
  have lenV := hi.length
  have core : ∀ H : Hp, Only H → SqL K H a (ns.map V.int) → HOk P w H s₁.heap → (∀ b, H b ≠ none → b = a) → (H a ≠ none → K.lookup a = none) →
      codeAny (model P w) callerA (.call (.ref fa) ⟨[.ref a], []⟩) (λr s' => r = .ok (.ret (.bool true)) ∧ OldK s₁.heap s'.heap ∧ s'.os = s₁.os ∧ AllBare s'.gens) s₁ := by
    intro H hO hS hok hA hK
    have base_of : ∀ {b : Addr} {o : Obj}, s₁.heap.get? b = some o → H b = none → (hidT s₁.heap H).get? b = some o := λe n => hidT_get e n
    have noA : ∀ {b : Addr} {o : Obj} {es : Array DictEntry} {ep : Nat}, s₁.heap.get? b = some o → o.data = .dict es ep → H b = none := fun {b o es ep} e d => by
      cases q : H b with
      | none => rfl
      | some u =>
        have e' : b = a := hA b (by rw [q]; simp)
        subst e'
        rw [ha] at e; cases e
        have d' : Y24 vs.toArray _ = Data.dict es ep := d
        cases d'
    have nsK : ∀ {b : Addr} {m : Str → Option Value}, s₁.heap.Ns b m → (hidT s₁.heap H).Ns b m := fun {b m} ⟨o, es, ep, e, d, r⟩ => ⟨o, es, ep, base_of e (noA e d), d, r⟩
    have hKb : K.In (hidT s₁.heap H) := λb o e => base_of (KX b o e) (by
      cases q : H b with
      | none => rfl
      | some u =>
        have e' : b = a := hA b (by rw [q]; simp)
        subst e'
        rw [hK (by rw [q]; simp)] at e; cases e)
    have hM : Mod K mg (hidT s₁.heap H) := ⟨hKb, nsK hns, ⟨mb, nsK hb, hbb⟩, let ⟨mc, h1, h2⟩ := hlim; ⟨mc, nsK h1, h2⟩⟩
    have e0 : Env0 P w K mg (hidT s₁.heap H) callerA [] s₁ H := ⟨rfl, hM, λb o e => of_hidT e, Y2l (hidT_size _ _), trivial, λb hb => absurd (show b ∈ ([] : List Addr) from hb) (by simp), hok, .of_eq hg⟩
    refine codeAny_mono ((F _ hKb (nsK hns)).run callerA [] s₁ H ⟨[.ref a], []⟩ [.ref a] [.ref a] _ _ hr e0 (hbind s₁ (.ref a)) (.cons rfl .nil) (hsp H hO hS)) λr s' h => ?_
    cases r with
    | error e => exact (hCX H e s' h).elim
    | ok fl =>
      cases fl with
      | next => exact Y0g h
      | brk => exact Y0g h
      | cont => exact Y0g h
      | ret u =>
        obtain ⟨v, H', os, bare, un, hok', r', q⟩ := h
        have q' : v = .bl true := q
        subst q'
        obtain rfl : u = Y0W true := r'
        refine ⟨rfl, OldK.of_keep λb o e => ?_, os, bare⟩
        cases q : H b with
        | none => exact un.keep b o e q (by intro z; exact absurd (show b ∈ ([] : List Addr) from z) (by simp)) (by simp)
        | some u =>
          rcases hO b with z | ⟨ob, xs, z⟩
          · rw [q] at z; cases z
          · have z2 := un.frzs b ob _ z
            obtain ⟨e1, _⟩ := hok b _ z
            obtain ⟨e2, _⟩ := hok' b _ z2
            rw [e] at e1; cases e1
            exact e2
  cases hk : K.lookup a with
  | some o =>
    have e := KX a o hk
    rw [ha] at e
    cases e
    refine core (λ_ => none) (λ_ => .inl rfl) (.inr ⟨_, vs.toArray, _, hk, rfl, rfl, rfl, by rw [Y06, lenV]; exact hl, by simpa using rv⟩) (λb u z => by have z' : (none : Option HO) = some u := z; cases z') (λb z => absurd rfl z) λz => absurd rfl z
  | none =>
    refine core (fun b => if b = a then some (.frz { cls := .type "list", data := .seq vs.toArray } (.lst (ns.map V.int))) else none) (fun b => ?_) (.inl (.inr ⟨{ cls := .type "list", data := .seq vs.toArray }, if_pos rfl⟩)) (fun b u z => ?_) (fun b z => ?_) fun _ => hk
    · by_cases hb : b = a
      · exact .inr ⟨_, _, if_pos hb⟩
      · exact .inl (if_neg hb)
    · by_cases hb : b = a
      · have z' := (if_pos hb).symm.trans z
        cases z'
        subst hb
        exact ⟨ha, by rw [Y05]; exact hl, vs, _, rv, ha⟩
      · have z' := (if_neg hb).symm.trans z
        cases z'
    · by_cases hb : b = a
      · exact hb
      · exact absurd (if_neg hb) z
end L2
namespace L2
open PySem PySem.Spec PyProof.Rows
noncomputable abbrev KOf {K : Y00} {h : Heap} (_ : K.In h) : Y00 := K
theorem walk_of {l : Y2p} {n k : Nat} {q : Program} {loose : List Str} {XP : (Str → Option Value) → Heap → Prop} {YP : World → Heap → Prop} {d : DefRec} {K : Params → Y00} {CX : World → CXT} {sp : World → Sp} {x : Str}
    (hn : l.most = some n) (hn2 : n ≤ sizeLine) (hdf : d.params.defaults = []) (hr : Room k callerA)
    (hY : ∀ (w : World) (h : Heap), YP w h → (K w.params).In h)
    (F : ∀ (w : World) (mg : Str → Option Value) (fa : Addr) (h : Heap), (K w.params).In h → h.Ns mainGlobals mg → mg d.name = some (.ref fa) →
      ∃ fd : FuncData, (∀ (s : Shared) (u : Value), BindsTo s fd ⟨[u], []⟩ [(x, u)]) ∧
        ∀ base : Heap, (K w.params).In base → base.Ns mainGlobals mg → FnOk l.prog w (K w.params) mg base (CX w) k fa fd [x] (sp w))
    (hsp : ∀ (w : World) (H : Hp) (a : Addr) (ns : List Int), ns.length ≤ n → Only H → SqL (K w.params) H a (ns.map V.int) → sp w [.ref a] H (λv _ => v = .bl true) λ_ _ _ => False)
    (hCX : ∀ (w : World) (H : Hp) (s : Shared) (e : Value) (s' : Shared), CX w [] H s (λ_ _ _ => False) e s' → False) :
    PySem.W.WalkO q loose XP YP l.row.toRowW d [] (λf vs => PySem.call f vs) := by
  refine Att.attach_call hn hdf λw s₀ s₁ mg mb fa o pm cd doc a vs ns G Y ho hd hcd hmg hobj hints hlen hg => ?_
  have KX := hY w _ Y
  obtain ⟨fd, hb, hF⟩ := F w mg fa _ KX G.T.g hmg
  exact law_call KX G.T.g G.T.b G.T.builtins G.T.nolimit hg hobj hints (Y0D hlen hn2) hr hF hb (λH hO hS => hsp w H a ns hlen hO hS) λH e s' => hCX w H s₁ e s'
end L2
/- THE LAST THEOREM (shape; LID, My.* are yours):
   My.Adr: a structure of the addresses that your layer names (classes, functions); My.Txt K t: a structure (Prop) of the equations over K;
   My.txt_mk : {K} {implicit addresses ..} (e1 : nsIn K mainGlobals "law" = some (some (.ref f))) (e2 : K.lookup f = some ⟨oc, od, .func (fnOf "law" "law" params body scope dV kV doc pm an cdv ct), sl⟩) (e3 : codeIn K cdv "law" = true) .. : ∃ t, My.Txt K t
set_option maxRecDepth 100000 in
set_option maxHeartbeats 0 in
theorem PySem.Challenge.cw_LID_holds : PySem.Challenge.rw_LID.Holds := by
  w_on; o_law; k_head; (case hw => w_witness2)
  k_fill
  refine L2.walk_of (l := PySem.Challenge.rw_LID) (n := 63) (k := 40) (x := "script") (CX := fun w => ..) (sp := fun _ => My.sp_law) rfl (by decide) rfl ⟨rfl, by decide, by decide⟩ (fun w h Y => PySem.W.kIn_of Y) ?F ?S ?C
  case F =>
    intro w mg fa h KX G hmg
    have T : ∃ t, My.Txt (L2.KOf KX) t := by
      dsimp only [L2.KOf]                          -- K must stand as «<heap const> w.params» for k_is
      refine' My.txt_mk ?e1 ?e2 ?e3 ..
      (case e1 => PySem.W.k_is)                    -- in the order: a name -> its address -> its object -> its parts
      (case e2 => PySem.W.k_is)
      ..
    obtain ⟨t, T⟩ := T
    have e0 := hmg.symm.trans (Y11 KX G T.law)
    cases e0                                       -- fa is the law's own address
    exact ⟨_, λs u => .of_eq rfl, λbase kb nb => My.law_fn T kb nb⟩     -- if «.of_eq rfl» comes too early: refine' ⟨_, ?b, λbase kb nb => My.law_fn T kb nb⟩; exact λs u => .of_eq rfl
  case S => exact λw H a ns hl hO hS => ..
  case C => exact ..
(the tactic k_is has no namespace: write k_is) -/
namespace L2
open PySem PySem.Spec PyProof.Rows
noncomputable def defArgs (s : Stmt) : Arguments := match s with
  | .FunctionDef _ a _ _ _ _ _ _ _ _ => a
  | _ => { posonlyargs := [], args := [], vararg := none, kwonlyargs := [], kw_defaults := [], kwarg := none, defaults := [] }
noncomputable def defBody (s : Stmt) : List Stmt := match s with
  | .FunctionDef _ _ b _ _ _ _ _ _ _ => b
  | _ => []
noncomputable def defScope (s : Stmt) : Scope := match s with
  | .FunctionDef _ _ _ _ _ _ sc _ _ _ => sc
  | _ => { kind := .function, names := [], isGenerator := false, isCoroutine := false }
noncomputable abbrev CX0 : CXT := λ_ _ _ _ _ _ => False
noncomputable abbrev E0 : XK := λ_ _ _ => False
theorem pass0 {X : Cx} : Passes CX0 X E0 := λ_ _ _ _ _ _ _ h => h.elim
structure Fun (K : Y00) (x qual : Str) (st : Stmt) (f : Addr) (fd : FuncData) : Prop where
  ex : ∃ (oc : Value) (od : Option Addr) (kV doc pm : Value) (an : Option Addr) (cdv ct : Value) (osl : Array (Option Value)),
    fd = Y1i x qual (defArgs st) (defBody st) (defScope st) .none kV doc pm an cdv ct ∧ K.lookup f = some ⟨oc, od, .func fd, osl⟩ ∧ Y2E K cdv qual = true
  kp : Y0v K (.ref f) = true
section
variable {P : Program} {w : World} {K : Y00} {mg : Str → Option Value} {base : Heap}
theorem Fun.ok {x qual : Str} {st : Stmt} {f : Addr} {fd : FuncData} {N ps : List Str} {k : Nat} {sp : Sp} (F : Fun K x qual st f fd) (S : FnScope N ps (defScope st)) (len : ∀ vs H Q E, sp vs H Q E → vs.length = ps.length)
    (hbody : ∀ (cdv : Value) (A : Around) (outer : List Env) (s : Shared) (H : Hp) (vs : List V) (Q : VK) (E : XK), Room k (A.deeper (envOfC qual (defScope st) s.heap.objs.size f cdv)) → sp vs H Q E →
      ∃ t, PSs (cxOf CX0 P w K mg base N qual (defScope st) f cdv A outer s H E).nox (defBody st) t ∧ t { nx := λ_ H' => Q .non H', rt := Q } (start N vs) H) : FnOk P w K mg base CX0 (k + 1) f fd ps sp := by
  obtain ⟨oc, od, kV, doc, pm, an, cdv, ct, osl, rfl, lk, hcd⟩ := F.ex
  refine fn_of lk hcd S len λA outer s H vs Q E hr hsp => ?_
  obtain ⟨t, h, q⟩ := hbody cdv A outer s H vs Q E hr hsp
  exact ⟨t, h.nox, q⟩
theorem Fun.binds {x qual : Str} {st : Stmt} {f : Addr} {fd : FuncData} {ps : List Str} (F : Fun K x qual st f fd)
    (h : ∀ (kV doc pm : Value) (an : Option Addr) (cdv ct : Value) (us : List Value), us.length = ps.length → bindArgs (Y1i x qual (defArgs st) (defBody st) (defScope st) .none kV doc pm an cdv ct) ⟨us, []⟩ = pure (ps.zip us)) : Binds K fd ps [] := by
  obtain ⟨oc, od, kV, doc, pm, an, cdv, ct, osl, rfl, lk, hcd⟩ := F.ex
  exact .all (h kV doc pm an cdv ct)
theorem fun_mk {x qual : Str} {st : Stmt} {f : Addr} {oc : Value} {od an : Option Addr} {osl : Array (Option Value)} {kV doc pm cdv ct : Value} (l : K.lookup f = some ⟨oc, od, .func (Y1i x qual (defArgs st) (defBody st) (defScope st) .none kV doc pm an cdv ct), osl⟩)
    (c : Y2E K cdv qual = true) (k : Y0v K (.ref f) = true) : Fun K x qual st f (Y1i x qual (defArgs st) (defBody st) (defScope st) .none kV doc pm an cdv ct) := ⟨⟨oc, od, kV, doc, pm, an, cdv, ct, osl, rfl, l, c⟩, k⟩
end
section
variable {X : Cx}
theorem pv (i : Nat) {x : Str} {pos : Pos} (hN : X.N[i]? = some x := by rfl) (hv : Vis X.env.scope x := by first | exact Or.inl rfl | exact Or.inr (Or.inl rfl) | exact Or.inr (Or.inr rfl)) (hd : (x == ("__debug__" : Str)) = false := by decide)
    (hcd : (x == ("__classdict__" : Str)) = false := by decide) : PE X (.Name x pos) (tVar i) := pe_var hN hv hd hcd
end
noncomputable def Same (H H' : Hp) : Prop := ∀ b o, H b = some o → H' b = some o
theorem Same.trans {H H1 H2 : Hp} (a : Same H H1) (b : Same H1 H2) : Same H H2 := λc o h => b c o (a c o h)
theorem Same.free {H H' : Hp} (e : Same H H') {l : Addr} (h : H' l = Option.none) : H l = Option.none := by
  cases q : H l with
  | none => rfl
  | some o =>
    rw [e l o q] at h
    cases h
end L2
namespace L2
open PySem PySem.Spec PyProof.Rows
section
variable {X : Cx}
theorem call_lenD : CallR X (.builtin "len") (fun xs H Q => ∃ a kvs, xs = [V.ref a] ∧ H a = some (.dK kvs) ∧ Q (.int kvs.length) H) := by
  intro pins s σ H xs us Q I r h
  obtain ⟨a, kvs, rfl, ha, q⟩ := h
  obtain ⟨u, rfl, ru⟩ := vals1 r
  cases ru
  exact d_len I (.inl ha) λt s' I' => ⟨.int kvs.length, H, I', ⟨t, rfl⟩, q⟩
end
section
variable {κ : Type} [DecidableEq κ]
theorem nd_snoc : ∀ {l : List κ} {k : κ}, l.Nodup → ¬ k ∈ l → (l ++ [k]).Nodup
  | [], k, _, _ => by simp
  | a :: r, k, h, hk => by
    obtain ⟨h1, h2⟩ := Y0L.mp h
    show (a :: (r ++ [k])).Nodup
    refine Y0L.mpr ⟨λm => ?_, nd_snoc h2 λm => hk (Y0m.mpr (Or.inr m))⟩
    rcases Y1F.mp m with q | q
    · exact h1 q
    · exact hk (Y0m.mpr (Or.inl (Y1t.mp q).symm))
end
end L2
namespace L2
open PySem PySem.Spec PyProof.Rows
theorem bt_isinstance : bootBuiltins "isinstance" = some (.builtin "isinstance") := by decide +kernel
section
variable {X : Cx}
noncomputable def CDivB (i j : Int) : Prop := 0 < j ∧ j < 2 ^ 256
theorem log2_small {j : Int} (h : CDivB i j) : j.natAbs.log2 < 9000 := by
  have h1 : (0 : Int) < j := h.1
  have h2 : j < 2 ^ 256 := h.2
  have h0 : j.natAbs ≠ 0 := by lia
  have : j.natAbs < 2 ^ 256 := by lia
  have := (Nat.log2_lt h0).mpr this
  lia
theorem op_fdivB : OpR X (binaryOp .FloorDiv) (rI CDivB λi j => .int (i / j)) := opI λi j _ _ _ _ _ hc q => by
  have h1 : (0 : Int) < j := hc.1
  exact floordiv_int (by lia) (by rw [Int.fdiv_eq_ediv_of_nonneg i (by lia)]; exact q) (.inl (PyProof.noPylong_of_log2 (log2_small hc)))
theorem call_isinst : CallR X (.builtin "isinstance") (fun xs H Q => ∃ x c t b, xs = [x, .ty c] ∧ TyOf X.K H x t ∧ Y1f X.K t (.type c) = some b ∧ Q (.bl b) H) := by
  intro pins s σ H xs us Q I r h
  obtain ⟨x, c, t, b, rfl, ty, e, q⟩ := h
  obtain ⟨u, w', rfl, ru, rw'⟩ := vals2 r
  cases rw'
  exact isinst_ok I ru ty e λtk => ⟨.bl b, H, I.tok tk, rfl, q⟩
end
mutual
inductive Dp (K : Y00) (H : Hp) : V → PyData → Prop
  | non : Dp K H .non .none
  | bl (b : Bool) : Dp K H (.bl b) (.bool b)
  | int (i : Int) : Dp K H (.int i) (.int i)
  | str (x : Str) : Dp K H (.str x) (.str x)
  | lst {a : Addr} {xs : List V} {ds : List PyData} : SqL K H a xs → DpAll K H xs ds → Dp K H (.ref a) (.list ds)
  | tup {a : Addr} {xs : List V} {ds : List PyData} : SqT K H a xs → DpAll K H xs ds → Dp K H (.ref a) (.tuple ds)
inductive DpAll (K : Y00) (H : Hp) : List V → List PyData → Prop
  | nil : DpAll K H [] []
  | cons {x : V} {xs : List V} {d : PyData} {ds : List PyData} : Dp K H x d → DpAll K H xs ds → DpAll K H (x :: xs) (d :: ds)
end
section
variable {X : Cx} {pins : List (Addr × Obj)} {σ : St} {H : Hp} {s : Shared}
mutual
theorem Dp.reads (I : Inv X pins σ H s) : ∀ {x : V} {d : PyData} {u : Value}, Dp X.K H x d → RelV x u → ∃ as, Reads s.heap u d as
  | _, _, _, .non, r => by cases r; exact ⟨_, .none⟩
  | _, _, _, .bl b, r => by cases r; exact ⟨_, .bool b⟩
  | _, _, _, .int i, r => by obtain ⟨t, rfl⟩ := r; exact ⟨_, .int i t⟩
  | _, _, _, .str x, r => by obtain ⟨t, rfl⟩ := r; exact ⟨_, .str x t⟩
  | _, _, _, .lst hq ha, r => by
    cases r
    obtain ⟨its, rv, pl, hz⟩ := I.list hq
    obtain ⟨as, rs⟩ := DpAll.reads I ha rv
    obtain ⟨o, ho, hc, n, hd⟩ := pl.isList
    exact ⟨_, .list ho hc hd (by simpa using rs)⟩
  | _, _, _, .tup hq ha, r => by
    cases r
    obtain ⟨its, rv, pl, hz⟩ := I.tuple hq
    obtain ⟨as, rs⟩ := DpAll.reads I ha rv
    obtain ⟨o, ho, hc, n, hd⟩ := pl
    exact ⟨_, .tuple ho hc hd (by simpa using rs)⟩
theorem DpAll.reads (I : Inv X pins σ H s) : ∀ {xs : List V} {ds : List PyData} {us : List Value}, DpAll X.K H xs ds → Vals xs us → ∃ as, ReadsAll s.heap us ds as
  | _, _, _, .nil, r => by cases r; exact ⟨_, .nil⟩
  | _, _, _, .cons h t, r => by
    cases r with
    | cons r1 r2 =>
      obtain ⟨as, a⟩ := Dp.reads I h r1
      obtain ⟨bs, b⟩ := DpAll.reads I t r2
      exact ⟨_, .cons a b⟩
end
end
section
variable {X : Cx}
theorem op_eqD (hu : X.A.units + 64 < cLine) : OpR X (compareOp .Eq) (λx y H Q => ∃ d e, Dp X.K H x d ∧ Dp X.K H y e ∧ Y1k d = true ∧ Y1k e = true ∧ Q (.bl (PyData.eqv d e)) H) := by
  intro pins s σ H x y v u Q I rx ry h
  obtain ⟨d, e, hd, he, sd, se, q⟩ := h
  obtain ⟨as, ra⟩ := hd.reads I rx
  obtain ⟨bs, rb⟩ := he.reads I ry
  exact SeqAt.compareEq_shaped ra rb sd se hu (fin_bl I q rfl)
theorem op_neD (hu : X.A.units + 64 < cLine) : OpR X (compareOp .NotEq) (λx y H Q => ∃ d e, Dp X.K H x d ∧ Dp X.K H y e ∧ Y1k d = true ∧ Y1k e = true ∧ Q (.bl (!PyData.eqv d e)) H) := by
  intro pins s σ H x y v u Q I rx ry h
  obtain ⟨d, e, hd, he, sd, se, q⟩ := h
  obtain ⟨as, ra⟩ := hd.reads I rx
  obtain ⟨bs, rb⟩ := he.reads I ry
  exact SeqAt.compareNe_shaped ra rb sd se hu (fin_bl I q rfl)
end
end L2
namespace L2
end L2
namespace L2
open PySem PySem.Spec PyProof.Rows
noncomputable def clOf (cells : List (Str × Addr)) : List (Str × NameKind) → List (Str × Addr) → List (Str × Addr)
  | [], acc => acc
  | (n, k) :: r, acc => if k = .free then (match cells.lookup n with | some a => clOf cells r ((n, a) :: acc) | none => clOf cells r acc) else clOf cells r acc
theorem clOf_spec (cells : List (Str × Addr)) : ∀ (names : List (Str × NameKind)) (acc : List (Str × Addr)) (x : Str) (c : Addr), (clOf cells names acc).lookup x = some c → acc.lookup x = some c ∨ cells.lookup x = some c
  | [], acc, x, c, h => .inl h
  | (n, k) :: r, acc, x, c, h => by
    unfold clOf at h
    by_cases hk : k = .free
    · rw [if_pos hk] at h
      cases hc : cells.lookup n with
      | none => rw [hc] at h; exact clOf_spec cells r acc x c h
      | some a =>
        rw [hc] at h
        rcases clOf_spec cells r _ x c h with q | q
        · by_cases hx : x = n
          · subst hx
            simp at q
            subst q
            exact .inr hc
          · have hb : (x == n) = false := beq_eq_false_iff_ne.mpr hx
            simp only [Y0H, hb] at q
            exact .inl q
        · exact .inr q
    · rw [if_neg hk] at h
      exact clOf_spec cells r acc x c h
theorem clOf_keep (cells : List (Str × Addr)) : ∀ (names : List (Str × NameKind)) (acc : List (Str × Addr)) (x : Str) (c : Addr), cells.lookup x = some c → acc.lookup x = some c → (clOf cells names acc).lookup x = some c
  | [], acc, x, c, _, h => h
  | (n, k) :: r, acc, x, c, h, ha => by
    unfold clOf
    by_cases hk : k = .free
    · rw [if_pos hk]
      cases hc : cells.lookup n with
      | none => exact clOf_keep cells r acc x c h ha
      | some a =>
        refine clOf_keep cells r _ x c h ?_
        by_cases hx : x = n
        · subst hx
          rw [h] at hc; cases hc
          simp
        · have hb : (x == n) = false := beq_eq_false_iff_ne.mpr hx
          simp only [Y0H, hb]
          exact ha
    · rw [if_neg hk]
      exact clOf_keep cells r acc x c h ha
theorem clOf_has (cells : List (Str × Addr)) : ∀ (names : List (Str × NameKind)) (acc : List (Str × Addr)) (x : Str) (c : Addr), (x, Y0o) ∈ names → cells.lookup x = some c → (clOf cells names acc).lookup x = some c
  | [], acc, x, c, h, _ => by cases h
  | (n, k) :: r, acc, x, c, h, ha => by
    unfold clOf
    rcases Y0m.mp h with e | h
    · cases e
      rw [if_pos rfl, ha]
      exact clOf_keep cells r _ _ c ha (by simp)
    · by_cases hk : k = .free
      · rw [if_pos hk]
        cases hc : cells.lookup n with
        | none => exact clOf_has cells r acc x c h ha
        | some a => exact clOf_has cells r _ x c h ha
      · rw [if_neg hk]
        exact clOf_has cells r acc x c h ha
theorem closure_walk {env : Env} (f : Str × NameKind → List (Str × Addr) → Sem (ForInStep (List (Str × Addr))))
    (hf : ∀ n k r, f (n, k) r = if (k == Y0o) = true then (cellOf env n >>= λa => pure (Y1I ((n, a) :: r))) else pure (Y1I r)) :
    ∀ (names : List (Str × NameKind)) (acc : List (Str × Addr)), (∀ y ∈ names, y.2 = .free → ∃ c, env.cells.lookup y.1 = some c) → (forIn names acc f : Sem (List (Str × Addr))) = pure (clOf env.cells names acc)
  | [], acc, _ => by rw [List.forIn_nil]; rfl
  | (n, k) :: r, acc, h => by
    rw [List.forIn_cons, hf]
    have hr : ∀ y ∈ r, y.2 = .free → ∃ c, env.cells.lookup y.1 = some c := λy hy => h y (Y0b _ hy)
    by_cases hk : k = .free
    · subst hk
      obtain ⟨c, hc⟩ := h (n, .free) Y0e rfl
      have hc' : env.cells.lookup n = some c := hc
      have e : cellOf env n = pure c := by unfold cellOf; rw [hc']
      rw [if_pos (by decide), e, pure_bind, pure_bind]
      show forIn r ((n, c) :: acc) f = _
      rw [closure_walk f hf r _ hr]
      simp only [clOf, if_pos, hc']
    · have hb : (k == Y0o) = false := by simpa using hk
      rw [hb, if_neg Y01, pure_bind]
      show forIn r acc f = _
      rw [closure_walk f hf r _ hr]
      simp only [clOf, if_neg hk]
theorem closure_is {scope : Scope} {env : Env} (h : ∀ y ∈ scope.names, y.2 = .free → ∃ c, env.cells.lookup y.1 = some c) : closureFor scope env = pure (clOf env.cells scope.names []) := by
  unfold closureFor
  simp only [bind_pure]
  exact closure_walk _ (λn k r => by
    by_cases hk : (k == Y0o) = true
    · simp only [hk, if_true]
    · simp only [hk, if_false]) scope.names [] h
noncomputable def compOk (osc scope : Scope) (N own : List Str) (fr : List Nat) : Bool :=
  decide (scope.kind = .function) && scope.names.all (λy => decide (y.2 ≠ .cell)) && scope.names.all (λy => decide (y.2 = .local → scope.names.lookup y.1 = some .local)) &&
  scope.names.all (λy => decide (y.2 = .free → osc.names.lookup y.1 = some .cell ∨ osc.names.lookup y.1 = some .free)) &&
  fr.all (λi => match N[i]? with | some x => decide ((x, Y0o) ∈ scope.names ∧ scope.names.lookup x = some .free ∧ (osc.names.lookup x = some .cell ∨ osc.names.lookup x = some .free)) | none => false)
structure CompOk (osc scope : Scope) (N : List Str) (fr : List Nat) : Prop where
  kind : scope.kind = .function
  nocell : ∀ y ∈ scope.names, y.2 ≠ .cell
  names : ∀ y ∈ scope.names, y.2 = .local → scope.names.lookup y.1 = some .local
  has : ∀ y ∈ scope.names, y.2 = .free → osc.names.lookup y.1 = some .cell ∨ osc.names.lookup y.1 = some .free
  frees : ∀ i ∈ fr, ∃ x, N[i]? = some x ∧ (x, Y0o) ∈ scope.names ∧ scope.names.lookup x = some .free ∧ (osc.names.lookup x = some .cell ∨ osc.names.lookup x = some .free)
theorem compOk_of {osc scope : Scope} {N own : List Str} {fr : List Nat} (h : compOk osc scope N own fr = true) : CompOk osc scope N fr := by
  unfold compOk at h
  simp only [Y04, Y1e, decide_eq_true_eq] at h
  obtain ⟨⟨⟨⟨h1, h2⟩, h3⟩, h4⟩, h5⟩ := h
  refine ⟨h1, h2, h3, h4, λi hi => ?_⟩
  have q := h5 i hi
  cases e : N[i]? with
  | none => rw [e] at q; simp at q
  | some x => rw [e] at q; simp only [decide_eq_true_eq] at q; exact ⟨x, rfl, q⟩
noncomputable def sC (own : List Str) (fr : List Nat) (σ : St) : St := own.map (λ_ => none) ++ fr.map (λi => σ.getD i none)
noncomputable def nC (own : List Str) (fr : List Nat) (N : List Str) : List Str := own ++ fr.map (λi => N.getD i Y2P)
noncomputable def cxC (X : Cx) (scope : Scope) (own : List Str) (fr : List Nat) (C : Addr) (fp : List Addr) (s₃ : Shared) (H₃ : Hp) : Cx :=
  { X with N := nC own fr X.N, s₀ := s₃, H₀ := H₃, env := compEnvC scope (clOf X.env.cells scope.names []) C X.env, outer := X.stack, ex := fp, fn := λ_ => false, xe := λ_ _ => False }
noncomputable def Keep (σ σ' : St) : Prop := σ.length = σ'.length ∧ ∀ (i : Nat) (v : V), σ[i]? = some (some v) → σ'[i]? = some (some v)
noncomputable def tAll : TT := λ_ H Q => Q true H
noncomputable def PTs (X : Cx) (ifs : List Expr) (t : TT) : Prop := (ifs = [] ∧ t = tAll) ∨ ∃ c, ifs = [c] ∧ PT X c t
section
variable {prog : Program} {w : World} {A : Around} {R : Result → Shared → Prop} {s : Shared}
theorem compLoop_any {elt target iter : Expr} {ifs : List Expr} {scope : Scope} {pos : Pos} {it acc : Value} {env : Env} (I : Nat → Shared → Prop)
    (turn : ∀ n s, I n s → wpAny (model prog w) A (pyNext it) (λr s₁ => match r with
      | none => R (.ok .next) s₁
      | some v => wpAny (model prog w) A (letOwnedTupleGo target it v) (λ_ s₁' => wpAny (model prog w) A (assign target env v) (λ_ s₂ =>
          wpAny (model prog w) A (forIn ifs true λc r => if r = true then do let ok ← isTrue c env (eval c env); pure (Y1I ok) else pure (Y1I r)) (λok s₃ =>
            if ok = true then wpAny (model prog w) A (eval elt env) (λx s₄ =>
              wpAny (model prog w) A (call (.builtin "list.append") [acc, x]) (fun _ s₅ => ∃ m, m < n ∧ I m s₅) (fun _ _ => False) s₄) (fun _ _ => False) s₃
            else ∃ m, m < n ∧ I m s₃) (λ_ _ => False) s₂) (λ_ _ => False) s₁') (λ_ _ => False) s₁) (λ_ _ => False) s)
    (n : Nat) (h : I n s) :
    codeAny (model prog w) A (.compLoop (.ListComp elt [⟨target, iter, ifs, 0⟩] scope pos) 0 it acc env) R s := by
  refine codeAny_loop rfl I (λn s hI => ?_) n h
  show wpAny _ A ((compTurn (.ListComp elt [⟨target, iter, ifs, 0⟩] scope pos) 0 it acc env).onRaise (λx => do noteFrame x env; theTreesLotGoes x)) _ _ s
  refine wpAny_noted ?_
  rw [compTurn_list]
  refine wpAny_bind (wpAny_standAt (wpAny_bind (wpAny_mono (turn n s hI) (λr s₁ h₁ => ?_) λ_ _ h' => h'.elim)))
  cases r with
  | none => exact wpAny_pure h₁
  | some v =>
    refine wpAny_bind (wpAny_mono h₁ (λ_ s₁' h₁' => ?_) λ_ _ h' => h'.elim)
    refine wpAny_bind (wpAny_mono h₁' (λ_ s₂ h₂ => wpAny_bind (wpAny_mono h₂ (λok s₃ h₃ => ?_) λ_ _ h' => h'.elim)) λ_ _ h' => h'.elim)
    cases ok with
    | false => exact wpAny_pure ⟨rfl, h₃⟩
    | true =>
      exact wpAny_bind (wpAny_bind (wpAny_mono h₃ (λx s₄ h₄ => wpAny_bind (wpAny_mono h₄ (λ_ s₅ h₅ => wpAny_pure (wpAny_pure ⟨rfl, h₅⟩)) λ_ _ h' => h'.elim)) λ_ _ h' => h'.elim))
end
theorem all_go {σ : St} {H : Hp} {Q : Bool → Hp → Prop} (h : Q true H) : tAll σ H Q := h
section
variable {X : Cx} {pins : List (Addr × Obj)} {σ : St} {H1 : Hp} {s2 : Shared} {tg elt iter : Expr} {ifs : List Expr} {scope : Scope} {pos : Pos} {own : List Str} {fr : List Nat} {g : TG} {tt : TT} {te : TE}
theorem relabel_free {scope : Scope} {env : Env} {x : Str} : ∀ {names : List (Str × NameKind)}, names.lookup x = some .free →
    (names.map λ(n, k) => if (k == Y0o && env.scope.kind == .function && env.kindOf n == some .cell) then (n, Y1u) else (n, k)).lookup x = some .cell ∨
    (names.map λ(n, k) => if (k == Y0o && env.scope.kind == .function && env.kindOf n == some .cell) then (n, Y1u) else (n, k)).lookup x = some .free
  | [], h => by simp at h
  | (n, k) :: r, h => by
    have ih := @relabel_free scope env x r
    show List.lookup x ((if (k == Y0o && env.scope.kind == .function && env.kindOf n == some .cell) = true then (n, Y1u) else (n, k)) :: _) = _ ∨ List.lookup x ((if (k == Y0o && env.scope.kind == .function && env.kindOf n == some .cell) = true then (n, Y1u) else (n, k)) :: _) = _
    cases hx : x == n with
    | true =>
      simp only [Y0H, hx] at h
      cases h
      by_cases hc : (Y0o == Y0o && env.scope.kind == .function && env.kindOf n == some .cell) = true
      · rw [if_pos hc]; simp only [Y0H, hx]; exact .inl trivial
      · rw [if_neg hc]; simp only [Y0H, hx]; exact .inr trivial
    | false =>
      simp only [Y0H, hx] at h
      by_cases hc : (k == Y0o && env.scope.kind == .function && env.kindOf n == some .cell) = true
      · rw [if_pos hc]; simp only [Y0H, hx]; exact ih h
      · rw [if_neg hc]; simp only [Y0H, hx]; exact ih h
theorem relabel_kind {scope : Scope} {env : Env} (hn : ∀ y ∈ scope.names, y.2 ≠ .cell) {x : Str} : ∀ {names : List (Str × NameKind)}, (∀ y ∈ names, y.2 ≠ .cell) →
    ((names.map λ(n, k) => if (k == Y0o && env.scope.kind == .function && env.kindOf n == some .cell) then (n, Y1u) else (n, k)).lookup x = some .cell ∨
    (names.map λ(n, k) => if (k == Y0o && env.scope.kind == .function && env.kindOf n == some .cell) then (n, Y1u) else (n, k)).lookup x = some .free) → (x, Y0o) ∈ names
  | [], _, h => by simp at h
  | (n, k) :: r, hnc, h => by
    have ih := @relabel_kind scope env hn x r (λy hy => hnc y (Y0b _ hy))
    have hk : k ≠ .cell := hnc (n, k) Y0e
    simp only [Y0l] at h
    cases hx : x == n with
    | true =>
      have e : x = n := eq_of_beq hx
      subst e
      by_cases hc : (k == Y0o && env.scope.kind == .function && env.kindOf x == some .cell) = true
      · have : k = .free := by
          simp only [Y04, beq_iff_eq] at hc
          exact hc.1.1
        subst this
        exact Y0e
      · rw [if_neg hc] at h
        simp at h
        rcases h with h | h
        · exact absurd h hk
        · subst h; exact Y0e
    | false =>
      by_cases hc : (k == Y0o && env.scope.kind == .function && env.kindOf n == some .cell) = true
      · rw [if_pos hc] at h
        simp only [Y0H, hx] at h
        exact Y0b _ (ih h)
      · rw [if_neg hc] at h
        simp only [Y0H, hx] at h
        exact Y0b _ (ih h)
theorem comp_start {C : Addr} {fp : List Addr} {s3 : Shared} {H3 : Hp} {h4 : Heap} {tk : Nat} {m : Str → Option Value} (ok : CompOk X.env.scope scope X.N fr) (I3 : Inv X pins σ H3 s3) (hC : C = s3.heap.objs.size) (hf : ∀ b ∈ fp, FpOk X pins H3 b) (hfo : ∀ b ∈ fp, ∃ o, s3.heap.get? b = some o)
    (ns : h4.Ns C m) (kp : ∀ b o, s3.heap.get? b = some o → h4.get? b = some o) :
    Inv (cxC X scope own fr C fp s3 H3) pins (sC own fr σ) H3 { s3 with heap := h4, toks := tk } := by
  have cellsub : ∀ x c, (clOf X.env.cells scope.names []).lookup x = some c → X.env.cells.lookup x = some c := λx c h => (clOf_spec _ _ _ _ _ h).elim (λz => by simp at z) id
  have cellt : ∀ x c, X.env.cells.lookup x = some c → c < s3.heap.objs.size := λx c e => let ⟨v, q⟩ := I3.cell x c e; q.lt
  have fplt : ∀ b ∈ fp, b < s3.heap.objs.size := λb hb => let ⟨o, e⟩ := hfo b hb; Y08 e
  have kindOf_of : ∀ x, (X.env.scope.names.lookup x = some .cell ∨ X.env.scope.names.lookup x = some .free) → ∃ c, X.env.cells.lookup x = some c := λx h => I3.ok.has x h
  refine ⟨⟨I3.ok.mod, ok.kind, I3.ok.glob, I3.ok.blt, Y2l hC.symm, λx y c h1 h2 => I3.ok.inj x y c (cellsub x c h1) (cellsub y c h2), λx hx => ?_, λx c z => ?_, I3.ok.hd, I3.ok.frames, .inl rfl, λb hb => ⟨?_, λx c e => ?_⟩, λb o e => I3.bs b o e, Y0D I3.ok.bsz I3.sz, λb o e hb => ?_, λb hb hz => ?_, I3.stack, λb hb => I3.stkFree b hb⟩,
    rfl, I3.bare, Un.kept kp, ⟨m, ns, λi x v e1 e2 e3 => ?_⟩, λx c e => ?_, ?_, λx c e => I3.freeC x c (cellsub x c e), λp hp => ?_, I3.hok.kept kp, ?_⟩
  · -- has
    have hm : (x, Y0o) ∈ scope.names := relabel_kind (scope := scope) (env := X.env) ok.nocell ok.nocell hx
    obtain ⟨c, hc⟩ := kindOf_of x (ok.has _ hm rfl)
    exact ⟨c, clOf_has _ _ _ _ _ hm hc⟩
  · exact absurd z Y01
  · exact Y0i (by rw [hC]; exact fplt b hb)
  · exact (hf b hb).2.2.2.2.1 x c (cellsub x c e)
  · rcases (hf b hb).2.2.2.1 with z | z
    · exact I3.ok.noex b o e z
    · exact absurd (Y0k (Y08 e) (Y0D I3.ok.bsz z)) (Y1b _)
  · rcases Y0m.mp (I3.stkSub b hz) with z | z
    · exact (hf b hb).2.1 z
    · exact (hf b hb).2.2.1 z
  · -- a free name's value
    have e2' : (own.map (λ_ => (none : Option V)) ++ fr.map (λi => σ.getD i none))[i]? = some (some v) := e2
    have e1' : (own ++ fr.map (λi => X.N.getD i Y2P))[i]? = some x := e1
    by_cases hi : i < own.length
    · rw [Y0q (by simpa using hi), Y0d] at e2'
      cases q : own[i]? with
      | none => rw [q] at e2'; cases e2'
      | some z => rw [q] at e2'; cases e2'
    · rw [Y0A (by simpa using hi)] at e2'
      rw [Y0A (by simpa using hi)] at e1'
      simp only [Y05] at e2'
      rw [Y0d] at e1' e2'
      cases q : fr[i - own.length]? with
      | none => rw [q] at e2'; cases e2'
      | some j =>
        rw [q] at e1' e2'
        obtain ⟨y, hy, hm, hl, ho⟩ := ok.frees j (Y0C q)
        have ex : x = y := by
          have : X.N.getD j Y2P = y := by rw [Y0B, hy]; rfl
          simp only [Option.map_some, this, Y2V] at e1'
          exact e1'.symm
        subst ex
        have ev : σ[j]? = some (some v) := by
          simp only [Option.map_some, Y2V] at e2'
          rw [Y0B] at e2'
          cases z : σ[j]? with
          | none => rw [z] at e2'; cases e2'
          | some o => rw [z] at e2'; cases e2'; rfl
        obtain ⟨m0, hn0, hl0⟩ := I3.loc
        obtain ⟨u, ru, lk⟩ := hl0 j x v hy ev (.inr ho)
        refine ⟨u, ru, .inr ⟨relabel_free (scope := scope) hl, ?_⟩⟩
        rcases lk with ⟨k1, _⟩ | ⟨_, c, hc, z⟩
        · have k1' : X.env.scope.names.lookup x = some .local := k1
          rw [k1'] at ho
          rcases ho with z | z <;> cases z
        · exact ⟨c, clOf_has _ _ _ _ _ hm hc, z.keeps kp⟩
  · obtain ⟨v, z⟩ := I3.cell x c (cellsub x c e)
    exact ⟨v, z.keeps kp⟩
  · show H3 C = none
    exact I3.hok.fresh (Y2l hC.symm)
  · obtain ⟨e, n, ne, nf, d⟩ := I3.pin p hp
    refine ⟨kp _ _ e, n, Y0i (by rw [hC]; exact Y08 e), λz => ?_, d⟩
    rcases Y0m.mp (I3.stkSub p.1 z) with z | z
    · exact ne z
    · exact nf z
  · show (own.map (λ_ => (none : Option V)) ++ fr.map (λi => σ.getD i none)).length = (own ++ fr.map (λi => X.N.getD i Y2P)).length
    simp
end
end L2
namespace L2
open PySem PySem.Spec PyProof.Rows
section
variable {X : Cx}
end
section
variable {X : Cx}
end
end L2
namespace L2
open PySem PySem.Spec PyProof.Rows
section
variable {X : Cx}
end
end L2
namespace L2
open PySem PySem.Spec PyProof.Rows
section
variable {X : Cx}
theorem mulOk_small {z : Str} {i : Int} (hz : z.length ≤ 16) (h0 : -1000 ≤ i) (h1 : i ≤ 1000) : MulOk z i := by
  refine ⟨?_, λh2 _ => ?_, λh2 _ => ?_⟩
  · rw [decide_eq_false (by lia), decide_eq_false (by lia)]; rfl
  · have hi : 1 ≤ i := by lia
    have : (16 : Int) ≤ (2 ^ 63 - 1) / i := by
      rw [Int.le_ediv_iff_mul_le (by lia)]
      lia
    lia
  · have : z.length * i.toNat ≤ 16 * 1000 := Nat.mul_le_mul hz (by lia)
    have h3 : z.length * i.toNat < 2 ^ 20 := by lia
    generalize z.length * i.toNat = n at h3
    revert n
    intro n hn
    have hs : sizeLine = 16777216 := by decide
    show decide (n > sizeLine) = false
    rw [hs]
    exact decide_eq_false (by lia)
theorem op_mulS : OpR X (binaryOp .Mult) (λx y H Q => ∃ z i, x = .str z ∧ y = .int i ∧ z.length ≤ 16 ∧ -1000 ≤ i ∧ i ≤ 1000 ∧ Q (.str (Txt.mul z i)) H) := by
  intro pins s σ H x y v u Q I rx ry h
  obtain ⟨z, i, rfl, rfl, hz, h0, h1, q⟩ := h
  obtain ⟨t, rfl⟩ := rx
  obtain ⟨t', rfl⟩ := ry
  exact SB.mul (mulOk_small hz h0 h1) (λt' k => ⟨.str (Txt.mul z i), H, I.tok _, ⟨_, rfl⟩, q⟩)
theorem op_eqNil (hu : X.A.units < cLine) : OpR X (compareOp .Eq) (λx y H Q => ∃ a b xs, x = .ref a ∧ y = .ref b ∧ SqL X.K H a xs ∧ SqL X.K H b [] ∧ Q (.bl xs.isEmpty) H) := by
  intro pins s σ H x y v u Q I rx ry h
  obtain ⟨a, b, xs, rfl, rfl, ha, hb, q⟩ := h
  cases rx
  cases ry
  obtain ⟨its, rv, pl, hz⟩ := I.list ha
  obtain ⟨jts, rw', pl', _⟩ := I.list hb
  have hj : jts = [] := Y0S rw'.length.symm
  subst hj
  cases xs with
  | nil =>
    have hi : its = [] := Y0S rv.length.symm
    subst hi
    exact SeqAt.eq_listAt (e := λ_ => true) pl.isList pl'.isList rfl hu (λj h1 _ => absurd h1 (Nat.not_lt_zero j)) (fin_bl I q rfl)
  | cons x r =>
    have hl : its.length = r.length + 1 := by rw [← rv.length]; rfl
    exact SeqAt.eq_list_lengthsAt pl.isList pl'.isList (by simp; intro e; rw [e] at hl; simp at hl) hu (fin_bl I q rfl)
theorem op_neNil (hu : X.A.units < cLine) : OpR X (compareOp .NotEq) (λx y H Q => ∃ a b xs, x = .ref a ∧ y = .ref b ∧ SqL X.K H a xs ∧ SqL X.K H b [] ∧ Q (.bl (!xs.isEmpty)) H) := by
  intro pins s σ H x y v u Q I rx ry h
  obtain ⟨a, b, xs, rfl, rfl, ha, hb, q⟩ := h
  cases rx
  cases ry
  obtain ⟨its, rv, pl, hz⟩ := I.list ha
  obtain ⟨jts, rw', pl', _⟩ := I.list hb
  have hj : jts = [] := Y0S rw'.length.symm
  subst hj
  cases xs with
  | nil =>
    have hi : its = [] := Y0S rv.length.symm
    subst hi
    exact SeqAt.RcNeAt.lists (e := λ_ => true) pl.isList pl'.isList rfl hu (λj h1 _ => absurd h1 (Nat.not_lt_zero j)) X.prog X.w _ _ (fin_bl I q rfl)
  | cons x r =>
    have hl : its.length = r.length + 1 := by rw [← rv.length]; rfl
    exact SeqAt.RcNeAt.lists_lengths pl.isList pl'.isList (by simp; intro e; rw [e] at hl; simp at hl) hu X.prog X.w _ _ (fin_bl I q rfl)
end
end L2
namespace L2
open PySem PySem.Spec PyProof.Rows
end L2
namespace L2
open PySem PySem.Spec PyProof.Rows
open AutoSeq1 (wpAny_loadPart')
open MeetsSeq MeetsSeq2 MeetsSeq3 SeqRoads2
noncomputable def AliP (P : Program) (w : World) (A : Around) (s : Shared) (y x : Value) : Prop := ∀ (E : Value → Shared → Prop) (Q : Bool → Shared → Prop), Q true s → wpAny (model P w) A (eqBool y x) Q E s
noncomputable def RcP (P : Program) (w : World) (A : Around) (s : Shared) (y x : Value) : Prop := ∀ (E Q : Value → Shared → Prop), Q (.bool true) s → wpAny (model P w) A (richCompare .Eq y x) Q E s
noncomputable def RnP (P : Program) (w : World) (A : Around) (s : Shared) (y x : Value) : Prop := ∀ (E Q : Value → Shared → Prop), Q (.bool false) s → wpAny (model P w) A (richCompare .NotEq y x) Q E s
section
variable {P : Program} {w : World} {A : Around} {s : Shared} {a b : Addr} {xs ys : Array Value}
theorem AliP.of_at {y x : Value} (h : SeqAt.EqAt A s y x true) : AliP P w A s y x := λE Q q => h P w E Q q
theorem AliP.refs (h : RcP P w A s (.ref a) (.ref b)) : AliP P w A s (.ref a) (.ref b) := by
  intro E Q q
  by_cases e : a = b
  · subst e; exact SeqAt.EqAt.same _ P w E Q q
  · unfold eqBool
    refine wpAny_holding (wpAny_ite_split (λz => absurd (by injection (eq_of_beq z)) e) λ_ => ?_)
    exact wpAny_bind (h E _ (wpAny_truthy_bool q))
theorem rc_tup (ha : s.heap.IsTuple a xs) (hb : s.heap.IsTuple b ys) (hz : xs.size = ys.size) (hu : A.units < cLine) (he : ∀ p ∈ xs.toList.zip ys.toList, AliP P w A.in1 s p.1 p.2) : RcP P w A s (.ref a) (.ref b) := by
  intro E Q q
  obtain ⟨⟨c1, d1, t1, l1⟩, o1, k1, n1, e1⟩ := id ha
  obtain ⟨⟨c2, d2, t2, l2⟩, o2, k2, n2, e2⟩ := id hb
  dsimp only at k1 e1 k2 e2
  subst k1 e1 k2 e2
  refine wpAny_richCompare_same_room (op := .Eq) ⟨_, o1, rfl⟩ ⟨_, o2, rfl⟩ F.slot_tuple_eq (wpAny_call_entry F.slot_tuple_eq ⟨_, o1, rfl⟩ F.entry_tuple_eq ?_ (F.args_tuple_eq_2 _ _)) hu
  obtain ⟨h0, g0, dd, tk, os⟩ := s
  have f2 := Y20
  wp_walk using wpAny_loadPart' o1, wpAny_loadPart' o2, wpAny_forIn_list _ (λrest r s' => r.1 = none ∧ s' = ⟨h0, g0, dd, tk, os⟩ ∧ ∀ p ∈ rest, AliP P w A.in1 ⟨h0, g0, dd, tk, os⟩ p.1 p.2) _
  case turn =>
    rintro ⟨y, x⟩ rest r s' ⟨z1, rfl, m⟩
    refine wpAny_bind (m (y, x) Y0e _ _ ?_)
    wp_walk
    exact ⟨rfl, rfl, λp hp => m p (Y0b _ hp)⟩
  case fin =>
    rintro ⟨r1, r2⟩ s' ⟨z1, rfl, -⟩
    dsimp only at z1
    subst z1
    wp_walk
    have tc : Y0O .Eq xs.size ys.size = .bool true := by simp [Y0O, hz]
    rw [tc]
    exact ⟨_, rfl, (λz => nomatch z), q⟩
  case h => exact ⟨rfl, rfl, he⟩
theorem eq_turns {n1 n2 : Nat} {d1 d2 : Option Addr} {l1 l2 : Array (Option Value)} (hz : xs.size = ys.size) {R : Result → Shared → Prop}
    (o1 : s.heap.get? a = some { cls := .type "list", dict := d1, data := .seq xs n1, slots := l1 }) (o2 : s.heap.get? b = some { cls := .type "list", dict := d2, data := .seq ys n2, slots := l2 })
    (he : ∀ j (h1 : j < xs.size) (h2 : j < ys.size), AliP P w A.in1 s xs[j] ys[j]) (q : R (.ok (.ret (.bool true))) s) : ∀ k i : Nat, xs.size - i = k →
    wpAny (model P w) A.in1 (Builtin.«list.__eq__.loop» ⟨[.ref a, .ref b, rawInt i, rawInt 2], []⟩) (λfin s' => match fin with | .done f => R (.ok f) s' | .again c' => c'.quiet = true ∧ codeAny (model P w) A c' R s') (λe s' => R (.error e) s') s := by
  obtain ⟨h0, g0, dd, tk, os⟩ := s
  intro k
  induction k with
  | zero =>
    intro i hk
    wp_walk using wpAny_loadPart' o1, wpAny_loadPart' o2
    rw [show xs[((i : Nat) : Int).toNat]? = none by simp; lia, show ys[((i : Nat) : Int).toNat]? = none by simp; lia]
    wp_walk using wpAny_loadPart' o1, wpAny_loadPart' o2
    show R (.ok (.ret (.bool (xs.size == ys.size)))) _
    simpa [hz] using q
  | succ k ih =>
    intro i hk
    have h1 : i < xs.size := by lia
    have h2 : i < ys.size := by lia
    wp_walk using wpAny_loadPart' o1, wpAny_loadPart' o2
    rw [show xs[((i : Nat) : Int).toNat]? = some xs[i] by simp [h1], show ys[((i : Nat) : Int).toNat]? = some ys[i] by simp [h2]]
    refine wpAny_bind (he i h1 h2 _ _ ?_)
    wp_walk
    rw [show ((i : Int) + 1) = ((i + 1 : Nat) : Int) by push_cast; rfl]
    refine ⟨plainId_quiet plain_eq_loop _, codeAny_builtin entry_eq_loop ?_⟩
    rw [Y0U plain_eq_loop _]
    exact ih (i + 1) (by lia)
theorem rc_lst (ha : s.heap.IsList a xs) (hb : s.heap.IsList b ys) (hz : xs.size = ys.size) (hu : A.units < cLine) (he : ∀ j (h1 : j < xs.size) (h2 : j < ys.size), AliP P w A.in1 s xs[j] ys[j]) : RcP P w A s (.ref a) (.ref b) := by
  intro E Q q
  obtain ⟨⟨c1, d1, t1, l1⟩, o1, k1, n1, e1⟩ := id ha
  obtain ⟨⟨c2, d2, t2, l2⟩, o2, k2, n2, e2⟩ := id hb
  dsimp only at k1 e1 k2 e2
  subst k1 e1 k2 e2
  have t1 : s.TypeIs (.ref a) "list" := ⟨_, o1, rfl⟩
  refine wpAny_richCompare_same_room (op := .Eq) t1 ⟨_, o2, rfl⟩ Y2F (wpAny_call (codeAny_call_builtin Y2F.plain F.entry_list_eq (Y2F.check _ _ _ _ _ _ _ _ t1 (F.args_list_eq_2 _ _) ?_))) hu
  obtain ⟨h0, g0, dd, tk, os⟩ := s
  have f3 := Y2f
  have nz : ¬ (xs.size != ys.size) = true := by simp [hz]
  wp_walk using wpAny_loadPart' o1, wpAny_loadPart' o2
  refine ⟨plainId_quiet plain_eq_loop _, codeAny_builtin entry_eq_loop ?_⟩
  rw [Y0U plain_eq_loop _]
  exact eq_turns (R := wants (λv s' => v ≠ .notImplemented ∧ Q v s') E) hz o1 o2 he (show Y0W true ≠ .notImplemented ∧ Q (.bool true) _ from ⟨(λz => nomatch z), q⟩) _ 0 rfl
theorem nrc_tup (ha : s.heap.IsTuple a xs) (hb : s.heap.IsTuple b ys) (hz : xs.size = ys.size) (hu : A.units < cLine) (he : ∀ p ∈ xs.toList.zip ys.toList, AliP P w A.in1 s p.1 p.2) : RnP P w A s (.ref a) (.ref b) := by
  intro E Q q
  obtain ⟨⟨c1, d1, t1, l1⟩, o1, k1, n1, e1⟩ := id ha
  obtain ⟨⟨c2, d2, t2, l2⟩, o2, k2, n2, e2⟩ := id hb
  dsimp only at k1 e1 k2 e2
  subst k1 e1 k2 e2
  refine wpAny_richCompare_same_room (op := .NotEq) ⟨_, o1, rfl⟩ ⟨_, o2, rfl⟩ F.slot_tuple_ne (wpAny_call_entry F.slot_tuple_ne ⟨_, o1, rfl⟩ F.entry_tuple_ne ?_ (F.args_tuple_ne_2 _ _)) hu
  obtain ⟨h0, g0, dd, tk, os⟩ := s
  have f2 := Y20
  wp_walk using wpAny_loadPart' o1, wpAny_loadPart' o2, wpAny_forIn_list _ (λrest r s' => r.1 = none ∧ s' = ⟨h0, g0, dd, tk, os⟩ ∧ ∀ p ∈ rest, AliP P w A.in1 ⟨h0, g0, dd, tk, os⟩ p.1 p.2) _
  case turn =>
    rintro ⟨y, x⟩ rest r s' ⟨z1, rfl, m⟩
    refine wpAny_bind (m (y, x) Y0e _ _ ?_)
    wp_walk
    exact ⟨rfl, rfl, λp hp => m p (Y0b _ hp)⟩
  case fin =>
    rintro ⟨r1, r2⟩ s' ⟨z1, rfl, -⟩
    dsimp only at z1
    subst z1
    wp_walk
    have tc : Y0O .NotEq xs.size ys.size = .bool false := by simp [Y0O, hz]
    rw [tc]
    exact ⟨_, rfl, (λz => nomatch z), q⟩
  case h => exact ⟨rfl, rfl, he⟩
theorem ne_turns {n1 n2 : Nat} {d1 d2 : Option Addr} {l1 l2 : Array (Option Value)} (hz : xs.size = ys.size) {R : Result → Shared → Prop}
    (o1 : s.heap.get? a = some { cls := .type "list", dict := d1, data := .seq xs n1, slots := l1 }) (o2 : s.heap.get? b = some { cls := .type "list", dict := d2, data := .seq ys n2, slots := l2 })
    (he : ∀ j (h1 : j < xs.size) (h2 : j < ys.size), AliP P w A.in1 s xs[j] ys[j]) (q : R (.ok (.ret (.bool false))) s) : ∀ k i : Nat, xs.size - i = k →
    wpAny (model P w) A.in1 (Builtin.«list.__eq__.loop» ⟨[.ref a, .ref b, rawInt i, rawInt 3], []⟩) (λfin s' => match fin with | .done f => R (.ok f) s' | .again c' => c'.quiet = true ∧ codeAny (model P w) A c' R s') (λe s' => R (.error e) s') s := by
  obtain ⟨h0, g0, dd, tk, os⟩ := s
  intro k
  induction k with
  | zero =>
    intro i hk
    wp_walk using wpAny_loadPart' o1, wpAny_loadPart' o2
    rw [show xs[((i : Nat) : Int).toNat]? = none by simp; lia, show ys[((i : Nat) : Int).toNat]? = none by simp; lia]
    wp_walk using wpAny_loadPart' o1, wpAny_loadPart' o2
    show R (.ok (.ret (.bool (xs.size != ys.size)))) _
    simpa [hz] using q
  | succ k ih =>
    intro i hk
    have h1 : i < xs.size := by lia
    have h2 : i < ys.size := by lia
    wp_walk using wpAny_loadPart' o1, wpAny_loadPart' o2
    rw [show xs[((i : Nat) : Int).toNat]? = some xs[i] by simp [h1], show ys[((i : Nat) : Int).toNat]? = some ys[i] by simp [h2]]
    refine wpAny_bind (he i h1 h2 _ _ ?_)
    wp_walk
    rw [show ((i : Int) + 1) = ((i + 1 : Nat) : Int) by push_cast; rfl]
    refine ⟨plainId_quiet plain_eq_loop _, codeAny_builtin entry_eq_loop ?_⟩
    rw [Y0U plain_eq_loop _]
    exact ih (i + 1) (by lia)
theorem nrc_lst (ha : s.heap.IsList a xs) (hb : s.heap.IsList b ys) (hz : xs.size = ys.size) (hu : A.units < cLine) (he : ∀ j (h1 : j < xs.size) (h2 : j < ys.size), AliP P w A.in1 s xs[j] ys[j]) : RnP P w A s (.ref a) (.ref b) := by
  intro E Q q
  obtain ⟨⟨c1, d1, t1, l1⟩, o1, k1, n1, e1⟩ := id ha
  obtain ⟨⟨c2, d2, t2, l2⟩, o2, k2, n2, e2⟩ := id hb
  dsimp only at k1 e1 k2 e2
  subst k1 e1 k2 e2
  have t1 : s.TypeIs (.ref a) "list" := ⟨_, o1, rfl⟩
  refine wpAny_richCompare_same_room (op := .NotEq) t1 ⟨_, o2, rfl⟩ Y2G (wpAny_call (codeAny_call_builtin Y2G.plain F.entry_list_ne (Y2G.check _ _ _ _ _ _ _ _ t1 (F.args_list_ne_2 _ _) ?_))) hu
  obtain ⟨h0, g0, dd, tk, os⟩ := s
  have f3 := Y2f
  have nz : ¬ (xs.size != ys.size) = true := by simp [hz]
  wp_walk using wpAny_loadPart' o1, wpAny_loadPart' o2
  refine ⟨plainId_quiet plain_eq_loop _, codeAny_builtin entry_eq_loop ?_⟩
  rw [Y0U plain_eq_loop _]
  exact ne_turns (R := wants (λv s' => v ≠ .notImplemented ∧ Q v s') E) hz o1 o2 he (show Y0W false ≠ .notImplemented ∧ Q (.bool false) _ from ⟨(λz => nomatch z), q⟩) _ 0 rfl
theorem pairs_alike {K : Type} [DecidableEq K] {knd : KeyKind P w K} {nm : String} {ka kb : List (K × Value)} {E : Value → Shared → Prop} {Q : Bool → Shared → Prop} (na : (a == sysModules) = false) (nb : (b == sysModules) = false)
    (da : s.heap.DictOf knd a ka) (db : s.heap.DictOf knd b kb) (hz : ka.length = kb.length) (he : ∀ p ∈ ka, ∃ y, valueAt kb p.1 = some y ∧ AliP P w A s p.2 y) (q : Q true s) :
    wpAny (model P w) A (Y2g nm a b) Q E s := by
  obtain ⟨oa, ea, pa, o1, _, t1, k1, v1, _⟩ := da
  obtain ⟨ob, eb, pb, o2, _, t2, k2, v2, _⟩ := db
  have za : ka.length = ea.size := v1.length.symm.trans Y0y
  have zb : kb.length = eb.size := v2.length.symm.trans Y0y
  have fd : ∀ k, findBy knd.is eb k = valueAt kb k := by
    intro k
    rw [← v2.find k]
    clear zb v2 k2 t2 o2
    obtain ⟨l⟩ := eb
    simp [findBy]
  have zz : ea.size = eb.size := by lia
  unfold Y2g Builtin.Dict.showsAll
  rw [na, nb]
  refine wpAny_bind (wpAny_pure (wpAny_bind (wpAny_pure (wpAny_bind (wpAny_dictEntries o1 t1 ?_)))))
  dsimp only
  refine wpAny_bind (wpAny_dictEntries o2 t2 ?_)
  rw [if_neg (by simp [zz])]
  refine wpAny_bind (wpAny_dictEpoch o1 t1 (wpAny_bind ?_))
  rw [Std.Legacy.Range.forIn_eq_forIn_range']
  simp only [Std.Legacy.Range.size, Nat.sub_zero, Nat.add_sub_cancel, Nat.div_one]
  refine wpAny_forIn_list _ (λrest r s' => s' = s ∧ r = (none, ()) ∧ ∀ i ∈ rest, i < ea.size) _ ?_ ?_ _ _ ⟨rfl, rfl, λi hi => by simpa using hi⟩
  · rintro i rest r s' ⟨rfl, rfl, m⟩
    have lt : i < ea.size := m i Y0e
    have lt' : i < ka.length := by lia
    refine wpAny_bind (wpAny_dictEntries o1 t1 ?_)
    rw [Y15 lt]
    obtain ⟨key, val⟩ := v1.get? (i := i) (e := ea[i]) (k := ka[i].1) (v := ka[i].2) (by rw [Y2q]; exact Y15 lt) (Y0h lt')
    obtain ⟨k', i', hh⟩ := k1 ea[i] (Array.getElem_mem lt)
    obtain rfl : k' = ka[i].1 := knd.inj _ _ _ i' key
    obtain ⟨y, fy, al⟩ := he ka[i] (Y29 lt')
    show wpAny _ _ (holding [ea[i].key, ea[i].val] _ >>= _) _ _ _
    rw [hh]
    refine wpAny_bind (wpAny_holding (wpAny_bind (wpAny_dictFind_of key o2 t2 k2 ?_)))
    have fy' := fy
    rw [← fd, findBy_of_findIdx?] at fy'
    cases hj : eb.findIdx? λe => knd.is ka[i].1 e.key with
    | none => rw [hj] at fy'; cases fy'
    | some j =>
      rw [hj] at fy'
      obtain ⟨jl, _, _⟩ := Array.findIdx?_eq_some_iff_getElem.mp hj
      refine wpAny_bind (wpAny_dictEntries o2 t2 ?_)
      rw [Y15 jl]
      have ey : eb[j].val = y := by simpa [Y15 jl] using fy'
      rw [← ey, ← val] at al
      refine wpAny_holding (al _ _ ?_)
      show wpAny _ _ (if (!true) = true then _ else _) _ _ _
      rw [if_neg (show ¬ (!true) = true from Y01)]
      refine wpAny_bind (wpAny_dictEpoch o1 t1 ?_)
      rw [if_neg (by simp)]
      exact wpAny_pure ⟨rfl, rfl, λz hz => m z (Y0b _ hz)⟩
  · rintro r s' ⟨rfl, rfl, -⟩
    exact wpAny_pure q
theorem rc_dic {K : Type} [DecidableEq K] {knd : KeyKind P w K} {ka kb : List (K × Value)} (na : (a == sysModules) = false) (nb : (b == sysModules) = false)
    (da : s.heap.DictOf knd a ka) (db : s.heap.DictOf knd b kb) (hu : A.units < cLine) (hz : ka.length = kb.length) (he : ∀ p ∈ ka, ∃ y, valueAt kb p.1 = some y ∧ AliP P w A.in1 s p.2 y) : RcP P w A s (.ref a) (.ref b) := by
  intro E Q q
  refine wpAny_richCompare_same_room (op := .Eq) da.typeIs db.typeIs Y2y (wpAny_call_entry Y2y da.typeIs PySem.F.entry_dict_eq ?_ (PySem.F.args_dict_eq_2 _ _)) hu
  show wpAny _ _ (Y16 "__eq__" ⟨[.ref a, .ref b], []⟩ >>= _) _ _ s
  refine wpAny_bind ?_
  unfold Y16
  refine wpAny_bind (wpAny_notOrdered_dict da.typeIs (wpAny_pure (wpAny_bind (wpAny_isInstance (T := "dict") db.typeIs Y2r ?_))))
  rw [if_neg (by decide)]
  refine wpAny_bind (wpAny_pure (wpAny_bind (wpAny_pure (wpAny_bind (pairs_alike na nb da db hz he ?_)))))
  exact wpAny_pure ⟨_, rfl, (λz => nomatch z), q⟩
theorem nrc_dic {K : Type} [DecidableEq K] {knd : KeyKind P w K} {ka kb : List (K × Value)} (na : (a == sysModules) = false) (nb : (b == sysModules) = false)
    (da : s.heap.DictOf knd a ka) (db : s.heap.DictOf knd b kb) (hu : A.units < cLine) (hz : ka.length = kb.length) (he : ∀ p ∈ ka, ∃ y, valueAt kb p.1 = some y ∧ AliP P w A.in1 s p.2 y) : RnP P w A s (.ref a) (.ref b) := by
  intro E Q q
  refine wpAny_richCompare_same_room (op := .NotEq) da.typeIs db.typeIs Y2z (wpAny_call_entry Y2z da.typeIs PySem.F.entry_dict_ne ?_ (PySem.F.args_dict_ne_2 _ _)) hu
  show wpAny _ _ (Y16 "__ne__" ⟨[.ref a, .ref b], []⟩ >>= _) _ _ s
  refine wpAny_bind ?_
  unfold Y16
  refine wpAny_bind (wpAny_notOrdered_dict da.typeIs (wpAny_pure (wpAny_bind (wpAny_isInstance (T := "dict") db.typeIs Y2r ?_))))
  rw [if_neg (by decide)]
  refine wpAny_bind (wpAny_pure (wpAny_bind (wpAny_pure (wpAny_bind (pairs_alike na nb da db hz he ?_)))))
  exact wpAny_pure ⟨_, rfl, (λz => nomatch z), q⟩
end
section
variable {X : Cx}
theorem op_catS : OpR X (binaryOp .Add) (λx y H Q => ∃ a b xs ys, x = .ref a ∧ y = .ref b ∧ SqL X.K H a xs ∧ SqL X.K H b ys ∧ xs.length + ys.length ≤ sizeLine ∧ ∀ p, H p = none → Q (.ref p) (upd H p (.lst (xs ++ ys)))) := by
  intro pins s σ H x y v u Q I rx ry h
  obtain ⟨a, b, xs, ys, rfl, rfl, g1, g2, sz, q⟩ := h
  obtain rfl : v = Y0a a := rx
  obtain rfl : u = Y0a b := ry
  obtain ⟨i1, r1, ⟨⟨c1, d1, t1, l1⟩, n1, o1, k1, z1, e1⟩, m1⟩ := I.list g1
  obtain ⟨i2, r2, ⟨⟨c2, d2, t2, l2⟩, n2, o2, k2, z2, e2⟩, m2⟩ := I.list g2
  dsimp only at k1 z1 e1 k2 z2 e2
  subst k1 z1 e1 k2 z2 e2
  have zs : i1.toArray.size + i2.toArray.size ≤ sizeLine := by rw [Y06, Y06, ← r1.length, ← r2.length]; exact sz
  refine concat_meets ⟨_, o1, rfl⟩ ⟨_, o2, rfl⟩ noFill_list_add seq_list_add PySem.F.slot_list_add PySem.F.entry_list_add (PySem.F.args_list_add_2 _ _) (list_addW a b _ _ n1 n2 none none l1 l2 zs) ⟨o1, o2, ?_⟩
  rw [show i1.toArray ++ i2.toArray = (i1 ++ i2).toArray by simp]
  exact ⟨.ref _, _, I.lnew (t' := s.toks) (r1.append r2) (by rw [Y0E]; exact sz), rfl, q _ I.fresh⟩
end
end L2
namespace L2
open PySem PySem.Spec PyProof.Rows
theorem noFill_tuple_mul : fillsNumberSlot (.type "tuple") "mul" = pure false :=
  PySem.fillsNumberSlot_seq (id := "tuple.__mul__") (r := some (.builtin "tuple.__rmul__")) Y1g.lookup (by decide +kernel) Y25.lookup (by decide +kernel)
theorem repeat_tuple : seqRepeat? (.type "tuple") = pure (some (.builtin "tuple.__mul__")) := by
  unfold seqRepeat?
  rw [PySem.seqSlot_of (T := "tuple") (name := "__mul__") (id := "tuple.__mul__") Y1g.lookup (by decide +kernel), PySem.seqSlot_of (T := "tuple") (name := "__rmul__") (id := "tuple.__rmul__") Y25.lookup (by decide +kernel)]
  rfl
theorem int_rmul_tup (a : Int) (t : Tok) (l : Addr) (items : Array Value) (n : Nat) (dd : Option Addr) (sl : Array (Option Value)) :
    Meets (Builtin.«int.__rmul__» ⟨[.int a t, .ref l], []⟩) (fun _ R s => s.heap.get? l = some { cls := .type "tuple", dict := dd, data := .seq items n, slots := sl } ∧ R (.ok (.ret Value.notImplemented)) s) :=
  .of_wp λprog w A R s h => by obtain ⟨hp, g, d, tk, os⟩ := s; obtain ⟨hl, h⟩ := h; wp_walk; exact ⟨_, rfl, h⟩
theorem tup_mul1 (l : Addr) (items : Array Value) (n : Nat) (dd : Option Addr) (sl : Array (Option Value)) (u : Tok) :
    Meets (Builtin.«tuple.__mul__» ⟨[.ref l, .int 1 u], []⟩) (fun _ R s => s.heap.get? l = some { cls := .type "tuple", dict := dd, data := .seq items n, slots := sl } ∧ R (.ok (.ret (Y0a l))) s) :=
  .of_wp λprog w A R s h => by
    obtain ⟨hp, g, d, tk, os⟩ := s; obtain ⟨hl, h⟩ := h
    have f1 := Y2h
    have c : (items.isEmpty || (1 : Int) == 1) = true := by simp
    wp_walk using Y0P hl; exact ⟨_, rfl, h⟩
theorem tup_mul2 (l : Addr) (items : Array Value) (n : Nat) (dd : Option Addr) (sl : Array (Option Value)) (k : Int) (u : Tok) (h2 : 2 ≤ k) (h0 : items.size ≠ 0) (hz : items.size * k.toNat ≤ 1000000) :
    Meets (Builtin.«tuple.__mul__» ⟨[.ref l, .int k u], []⟩) (fun _ R s => s.heap.get? l = some { cls := .type "tuple", dict := dd, data := .seq items n, slots := sl } ∧
      R (.ok (.ret (Y0a s.heap.objs.size))) { s with heap := s.heap.push { cls := Y0u "tuple", data := Y24 (Y1Z (fun x1 x2 => x1 ++ x2) #[] (Y0c k.toNat items)) }, toks := s.toks }) :=
  .of_wp λprog w A R s h => by
    obtain ⟨hp, g, d, tk, os⟩ := s; obtain ⟨hl, h⟩ := h
    have f1 := Y2h
    have hk : k ≤ 1000000 := by
      have : 1 * k.toNat ≤ items.size * k.toNat := Nat.mul_le_mul_right _ (by lia)
      lia
    have zz : (items.size : Int) * k ≤ 1000000 := by
      have e : (items.size : Int) * k = ((items.size * k.toNat : Nat) : Int) := by rw [Int.natCast_mul, Y1J (by lia)]
      rw [e]; lia
    have c0 : ¬ (decide (k < -(2 ^ 63)) || decide (k ≥ 2 ^ 63)) = true := by simp; lia
    have c1 : ¬ (items.isEmpty || k == 1) = true := by
      simp
      exact ⟨λz => h0 (by rw [z]; rfl), by lia⟩
    have c2 : ¬ (decide (k ≤ 0) || items.isEmpty) = true := by
      simp
      exact ⟨by lia, λz => h0 (by rw [z]; rfl)⟩
    have c3 : ¬ ((items.size : Int) * k > (2 ^ 63 - 1) / 8) := by lia
    have c4 : ¬ (Y1N ((items.size : Int) * k) = true) := by
      unfold Y1N
      have hs : sizeLine = 16777216 := by decide
      rw [hs]; simp; lia
    have hsz : (Y1Z (λx1 x2 => x1 ++ x2) #[] (Y0c k.toNat items)).size ≤ sizeLine := by
      have hs : sizeLine = 16777216 := by decide
      rw [PySem.AutoListH.size_joined, hs, Nat.mul_comm]
      simp; lia
    wp_walk using Y0P hl
    refine wpAny_ite_false (decide_eq_false c0) ?_
    wp_walk using Y0P hl
    refine wpAny_ite_false (decide_eq_false c3) ?_
    wp_walk using Y0P hl
    exact ⟨_, rfl, h⟩
section
variable {X : Cx}
theorem op_mulT : OpR X (binaryOp .Mult) (λx y H Q => ∃ a k xs, x = .ref a ∧ y = .int k ∧ SqT X.K H a xs ∧ xs ≠ [] ∧ 1 ≤ k ∧ xs.length * k.toNat ≤ 1000000 ∧ (k = 1 → Q (.ref a) H) ∧
    (k ≠ 1 → ∀ p, H p = none → Q (.ref p) (upd H p (.tup (Y0c k.toNat xs).flatten)))) := by
  intro pins s σ H x y v u Q I rx ry h
  obtain ⟨a, k, xs, rfl, rfl, ha, h0, h1, hz, q1, q2⟩ := h
  obtain rfl : v = Y0a a := rx
  obtain ⟨tk, rfl⟩ := ry
  obtain ⟨its, r, p1, _⟩ := I.tuple ha
  obtain ⟨⟨cls, dd, data, sl⟩, ho, hc, n, hd⟩ := id p1
  simp only at hc hd
  subst hc hd
  have hl : its.toArray.size = xs.length := by rw [Y06, ← r.length]
  refine wpAny_binaryOp_repeat_ref (T := "tuple") (U := "int") (by decide) ⟨_, ho, rfl⟩ (fun s' => typeIs_int s' k tk) noFill_tuple_mul PySem.F.fills_int_mul Y2s repeat_tuple PySem.F.slot_int_index.lookup
    (call_meets Y2s (typeIs_int s k tk) PySem.F.entry_int_rmul (PySem.F.args_int_rmul_2 _ _) (int_rmul_tup k tk a its.toArray n dd sl) ⟨ho, rfl, ⟨_, ho, rfl⟩, ?_⟩)
  by_cases e1 : k = 1
  · subst e1
    exact call_meets Y1g ⟨_, ho, rfl⟩ Y26 (Y21 _ _) (tup_mul1 a its.toArray n dd sl tk) ⟨ho, .ref a, H, I, rfl, q1 rfl⟩
  · refine call_meets Y1g ⟨_, ho, rfl⟩ Y26 (Y21 _ _) (tup_mul2 a its.toArray n dd sl k tk (by lia) (by rw [hl]; exact λz => h0 (Y27.mp z)) (by rw [hl]; exact hz)) ⟨ho, ?_⟩
    have f0 : Y1Z (λx1 x2 => x1 ++ x2) #[] (Y0c k.toNat its.toArray) = (Y0c k.toNat its).flatten.toArray := by
      have := foldl_rep its k.toNat []
      rw [List.nil_append] at this
      exact this
    rw [f0]
    refine ⟨.ref s.heap.objs.size, _, I.laid (t' := s.toks) (o := .tup (Y0c k.toNat xs).flatten) (λb ob q => Y02 _ q) (Y07 _) ?_, rfl, q2 e1 _ (I.hok.fresh (Y07 _))⟩
    refine ⟨?_, _, r.rep k.toNat, IsTup.new _ _, _, Y09 _ rfl, rfl⟩
    have hs : sizeLine = 16777216 := by decide
    rw [len_rep, hs, Nat.mul_comm]
    lia
end
end L2
namespace L2
open PySem PySem.Spec PyProof.Rows
section
variable {X : Cx} {pins : List (Addr × Obj)} {σ : St} {H : Hp} {s : Shared}
theorem mut_no {H : Hp} {a b : Addr} {u v : HO} (e : H a = some u) (mu : Mut (some u)) (q : H b = some v) (nv : ¬ Mut (some v)) : b ≠ a := by
  intro z; subst z; rw [e] at q; cases q; exact nv mu
theorem Inv.freeze (I : Inv X pins σ H s) {a : Addr} {u : HO} {o : Obj} (e : H a = some u) (mu : Mut (some u)) (ho : s.heap.get? a = some o) : Inv X pins σ (upd H a (.frz o u)) s := by
  have nn : ∀ b, H b = none → b ≠ a := λb n z => by subst z; rw [e] at n; cases n
  refine I.step (h' := s.heap) (g' := s.gens) (t' := s.toks) (d' := s.drawn) (ch := []) (λ_ z => nomatch z) (λb o _ _ _ q _ => q) (λb o _ _ _ q _ => ⟨o.slots, q⟩) (λb o _ _ n => by rw [upd_ne (nn b n)]; exact n) (λb o _ q => ⟨o, q⟩)
    (λb xs q => by rw [upd_ne (mut_no e mu q λz => z)]; exact q) (λb o u q => by rw [upd_ne (mut_no e mu q λz => z)]; exact q) (λb ps q => ⟨#[], by rw [upd_ne (mut_no e mu q λz => z), q]; simp⟩) (λm h => h) (λb v q => ?_) I.bare
  have st : ∀ {c : Addr} {y : HO}, ObjOk X.prog X.w H s.heap c y → ObjOk X.prog X.w (upd H a (.frz o u)) s.heap c y := λx =>
    x.stay (λc v _ q => q) (λc q => by rw [upd_ne (mut_no e mu q λz => z)]; exact q) λc xs q => by rw [upd_ne (mut_no e mu q λz => z)]; exact q
  by_cases hb : b = a
  · subst hb; rw [upd_same] at q; cases q
    exact ⟨ho, st (I.hok b u e)⟩
  · rw [upd_ne hb] at q
    exact st (I.hok b v q)
noncomputable def Thw (X : Cx) (H H' : Hp) : Prop := H' = H ∨ ∃ a o u, H a = some (.frz o u) ∧ Mut (some u) ∧ (∀ o' u', X.H₀ a ≠ some (.frz o' u')) ∧ H' = upd H a u
theorem Inv.thaw (I : Inv X pins σ H s) {H' : Hp} (t : Thw X H H') : Inv X pins σ H' s := by
  rcases t with rfl | ⟨a, o, u, e, mu, nf, rfl⟩
  · exact I
  have ne : ∀ {b : Addr} {y : HO}, H b = some y → y ≠ .frz o u → b ≠ a := fun {b y} q n z => by subst z; rw [e] at q; cases q; exact n rfl
  have nn : ∀ b, H b = none → b ≠ a := λb n z => by subst z; rw [e] at n; cases n
  have st : ∀ {c : Addr} {y : HO}, ObjOk X.prog X.w H s.heap c y → ObjOk X.prog X.w (upd H a u) s.heap c y := λx =>
    x.stay (λc v _ q => q) (λc q => by rw [upd_ne (ne q (λz => by cases z))]; exact q) λc xs q => by rw [upd_ne (ne q (λz => by cases z))]; exact q
  refine ⟨I.ok, I.os, I.bare, ⟨I.base.keep, I.base.slot, λb ob q n hx => ?_, I.base.there, λb xs q => ?_, λb o' u' q => ?_, λb ps q => ?_⟩, I.loc, I.cell, ?_, λx c q => ?_, λp hp => ?_, λb v q => ?_, I.len⟩
  · have := I.base.free b ob q n hx
    rw [upd_ne (nn b this)]; exact this
  · have := I.base.tups b xs q
    rw [upd_ne (ne this (λz => by cases z))]; exact this
  · rw [upd_ne (λz => by subst z; exact nf o' u' q)]
    exact I.base.frzs b o' u' q
  · obtain ⟨m, h⟩ := I.base.tbls b ps q
    exact ⟨m, by rw [upd_ne (ne h (λz => by cases z))]; exact h⟩
  · rw [upd_ne (nn _ I.free)]; exact I.free
  · rw [upd_ne (nn _ (I.freeC x c q))]; exact I.freeC x c q
  · obtain ⟨h1, h2, h3⟩ := I.pin p hp
    exact ⟨h1, by rw [upd_ne (nn _ h2)]; exact h2, h3⟩
  · by_cases hb : b = a
    · subst hb; rw [upd_same] at q; cases q
      exact st (I.hok b _ e).2
    · rw [upd_ne hb] at q
      exact st (I.hok b v q)
theorem Inv.nofrz (I : Inv X pins σ H s) {a : Addr} {u : HO} (e : H a = some u) (mu : Mut (some u)) : ∀ o' u', X.H₀ a ≠ some (.frz o' u') := λo' u' z => by
  have := I.base.frzs a o' u' z
  rw [e] at this
  cases this
  exact mu
noncomputable def thwD (X : Cx) (D : Ends) : Ends where
  nx := λσ H => ∃ H', Thw X H H' ∧ D.nx σ H'
  rt := λv H => ∃ H', Thw X H H' ∧ D.rt v H'
  bk := λσ H => ∃ H', Thw X H H' ∧ D.bk σ H'
  ct := λσ H => ∃ H', Thw X H H' ∧ D.ct σ H'
theorem PS.thaw {st : Stmt} {t : TS} (h : PS X st t) : PS X st (λD σ H => t (thwD X D) σ H) := by
  intro pins s σ H D I q
  refine thn (h pins s σ H _ I q) λf s' hf => ?_
  cases f with
  | next => obtain ⟨σ', H', I', H2, t2, d⟩ := hf; exact ⟨σ', H2, I'.thaw t2, d⟩
  | brk => obtain ⟨σ', H', I', H2, t2, d⟩ := hf; exact ⟨σ', H2, I'.thaw t2, d⟩
  | cont => obtain ⟨σ', H', I', H2, t2, d⟩ := hf; exact ⟨σ', H2, I'.thaw t2, d⟩
  | ret u => obtain ⟨v, σ', H', I', r, H2, t2, d⟩ := hf; exact ⟨v, σ', H2, I'.thaw t2, r, d⟩
theorem PE.thaw {e : Expr} {t : TE} (h : PE X e t) : PE X e (λσ H Q => t σ H λv H' => ∃ H2, Thw X H' H2 ∧ Q v H2) := by
  intro pins s σ H Q I q
  refine thn (h pins s σ H _ I q) λu s' ⟨v, H', I', r, H2, t2, d⟩ => ⟨v, H2, I'.thaw t2, r, d⟩
noncomputable def Itd (a : Addr) (o : Obj) : It where
  go := λi H => ∃ kvs, H a = some (.frz o (.dK kvs)) ∧ i < kvs.length
  yld := λi H x H' => H' = H ∧ ∀ kvs, H a = some (.frz o (.dK kvs)) → ∃ k v, kvs[i]? = some (k, v) ∧ x = kV k
  stop := λi H => ∃ kvs, H a = some (.frz o (.dK kvs)) ∧ kvs.length ≤ i
theorem dk_at {P : Program} {w : World} {h : Heap} {a : Addr} {o : Obj} {kvs : List (Key × V)} {es : Array DictEntry} {ep : Nat} (ok : HOk P w H h) (e : H a = some (.frz o (.dK kvs))) (hd : o.data = .dict es ep) :
    ∃ vs, KV kvs vs ∧ h.DictAt (mixKind P w) a vs ep ∧ vs.length = es.size := by
  obtain ⟨ho, z, _, vs, rel, o', es', ep', ho', r1, r2, r3⟩ := ok a _ e
  rw [ho] at ho'; cases ho'
  rw [hd] at r2
  injection r2 with e1 e2
  subst e1 e2
  exact ⟨vs, rel, ⟨o, es, ho, r1, hd, r3⟩, by rw [← r3.2.1.length]; simp⟩
theorem kv_len {kvs : List (Key × V)} {vs : List (Key × Value)} (r : KV kvs vs) : kvs.length = vs.length := by
  induction r with
  | nil => rfl
  | cons _ _ ih => rw [Y0r, Y0r, ih]
theorem kv_get {kvs : List (Key × V)} {vs : List (Key × Value)} (r : KV kvs vs) : ∀ {i : Nat} {k : Key} {v : V}, kvs[i]? = some (k, v) → ∃ u, vs[i]? = some (k, u) ∧ RelV v u := by
  induction r with
  | nil => intro i k v h; cases h
  | @cons p p' _ _ q _ ih =>
    intro i k v h
    cases i with
    | zero =>
      cases h
      obtain ⟨k2, x2⟩ := p'
      have e1 : k = k2 := q.1
      subst e1
      exact ⟨x2, rfl, q.2⟩
    | succ i => exact ih (i := i) h
theorem key_rel {P : Program} {w : World} {k : Key} {u : Value} (h : (mixKind P w).is k u = true) : RelV (kV k) u := by
  rcases keyIs_shape h with ⟨i, t, rfl, rfl⟩ | ⟨x, t, rfl, rfl⟩
  · exact ⟨t, rfl⟩
  · exact ⟨t, rfl⟩
theorem wpAny_pyIter_keyiter {P : Program} {w : World} {A : Around} {E : Value → Shared → Prop} {s : Shared} {it d : Addr} {i n ep : Nat} {Q : Value → Shared → Prop} (hit : s.heap.IsKeyIter it d i n ep) (h : Q (.ref it) s) :
    wpAny (model P w) A (pyIter (.ref it)) Q E s := by
  refine wpAny_pyIter_slot hit.typeIs Y1r (wpAny_call_entry Y1r hit.typeIs PySem.F.entry_dict_keyiterator_iter ?_ (PySem.F.args_dict_keyiterator_iter_1 _))
  show wpAny _ _ (ret (.ref it)) _ _ s
  exact wpAny_pure ⟨_, rfl, "dict_keyiterator", _, hit.typeIs, PySem.F.slot_dict_keyiterator_next.lookup, h⟩
theorem turn_dict {P : Program} {w : World} {K : Y00} {tg : Expr} (a it : Addr) (o : Obj) (es : Array DictEntry) (ep : Nat) (hd : o.data = .dict es ep) : Turn P w K tg (Itd a o) [it] it (λi h => h.IsKeyIter it a i es.size ep) where
  mem := by simp
  obj := λi h st b hb => by
    have e : b = it := by simpa using hb
    subst e
    obtain ⟨o, e, c, d⟩ := st
    exact ⟨o, e, λv z => by rw [d] at z; cases z⟩
  keep := λi h h' st k => by
    obtain ⟨o, e, c, d⟩ := st
    exact ⟨o, k it (by simp) o e, c, d⟩
  item := by
    intro X hP hw hK hc i pins s σ H E I hf st hg
    subst hP hw hK
    obtain ⟨kvs, hq, hx⟩ := hg
    obtain ⟨vs, rel, da, hl⟩ := dk_at I.hok hq hd
    obtain ⟨⟨k, v⟩, hk⟩ : ∃ p, kvs[i]? = some p := ⟨_, Y0h hx⟩
    obtain ⟨u, hu, ru⟩ := kv_get rel hk
    obtain ⟨f0, f1, f2, f3, f4, f5⟩ := hf it (by simp)
    rw [← hl] at st
    refine wpAny_pyNext_dict_item st da hu λkey h' hkey st' sb => ?_
    have I1 : Inv X pins σ H { s with heap := h' } := I.turned (t' := s.toks) (λb o hb e => (sb.2 b hb).trans e) f0 f1 f3 f4 f5
    rw [hl] at st'
    obtain ⟨o', e, c, d⟩ := id st'
    exact ⟨key, rfl, go_of (s := { s with heap := h' }) e c d (by decide) ⟨kV k, H, I1, key_rel hkey, ⟨rfl, λkvs' e' => by rw [hq] at e'; cases e'; exact ⟨k, v, hk, rfl⟩⟩, st', λb hb => (hf b hb).1⟩⟩
  done := by
    intro X hP hw hK hc i pins s σ H E I hf st hg
    subst hP hw hK
    obtain ⟨kvs, hq, hx⟩ := hg
    obtain ⟨vs, rel, da, hl⟩ := dk_at I.hok hq hd
    obtain ⟨f0, f1, f2, f3, f4, f5⟩ := hf it (by simp)
    rw [kv_len rel] at hx
    rw [← hl] at st
    exact wpAny_pyNext_dict_end (I.ok.hd hc) st da (List.getElem?_eq_none_iff.mpr hx) λh' eb => ⟨rfl, I.turned (t' := s.toks) (λb o hb e => eb b o hb e) f0 f1 f3 f4 f5⟩
  self := λ_ _ _ _ _ st h => wpAny_pyIter_keyiter st h
theorem pi_dict1 {tg : Expr} {R : It → Hp → Prop} {E : Value → Shared → Prop} {a : Addr} {kvs : List (Key × V)} (I : Inv X pins σ H s) (e : H a = some (.dK kvs)) (q : ∀ o, (∀ o' u', X.H₀ a ≠ some (.frz o' u')) → R (Itd a o) (upd H a (.frz o (.dK kvs)))) :
    wpAny (model X.prog X.w) X.A (pyIter (.ref a)) (PIE X pins σ tg R) E s := by
  obtain ⟨z, hm, vs, rel, o, es, ep, ho, r1, r2, r3⟩ := I.hok a _ e
  have I1 := I.freeze e trivial ho
  have nf := I.nofrz e trivial
  refine wpAny_pyIter_dict hm (⟨o, es, ho, r1, r2, r3⟩ : s.heap.DictAt (mixKind X.prog X.w) a vs ep) ?_
  refine ⟨s.heap.objs.size, [s.heap.objs.size], _, _, upd H a (.frz o (.dK kvs)), rfl, I1.kept (t' := s.toks) λb o e => Y02 _ e, turn_dict a _ o es ep r2, ?_, λb hb => ?_, q o nf⟩
  · have hl : es.size = vs.length := by rw [← r3.2.1.length]; simp
    rw [hl]
    exact ⟨_, Y09 _ rfl, rfl, rfl⟩
  · have e : b = s.heap.objs.size := by simpa using hb
    subst e
    exact I1.fpOk (Y07 _) (I1.hok.fresh (Y07 _))
end
end L2
namespace L2
open PySem PySem.Spec PyProof.Rows
section
variable {prog : Program} {w : World} {A : Around} {E : Value → Shared → Prop} {s : Shared} {a₀ : Array Keyed}
end
section
variable {X : Cx}
end
end L2
namespace L2
open PySem PySem.Spec PyProof.Rows
structure Mrk (t t' : SetTable) : Prop where
  led : t'.led = t.led
  plain : t.plain = false → t'.plain = false
theorem Mrk.trans {a b c : SetTable} (x : Mrk a b) (y : Mrk b c) : Mrk a c := ⟨y.led.trans x.led, λh => y.plain (x.plain h)⟩
noncomputable def met1 (zs : List Str) (x : Str) : List Str := if x ∈ zs then zs else zs ++ [x]
noncomputable def met (f : Nat → Str) : Nat → List Str
  | 0 => []
  | i + 1 => met1 (met f i) (f i)
section
variable {prog : Program} {w : World} {A : Around} {E : Value → Shared → Prop} {s : Shared}
end
end L2
namespace L2
open PySem PySem.Spec PyProof.Rows
section
variable {prog : Program} {w : World} {A : Around} {E : Value → Shared → Prop} {s : Shared}
end
end L2
namespace L2
open PySem PySem.Spec PyProof.Rows
section
variable {prog : Program} {w : World} {A : Around} {E : Value → Shared → Prop} {s : Shared}
noncomputable def SIt (h : Heap) (it S : Addr) (first : Value) (i n ep : Nat) : Prop :=
  ∃ o, h.get? it = some o ∧ o.cls = .type "set_iterator" ∧ o.data = .fields #[first, .int i 0, .ref S, .int n 0, .int ep 0]
end
end L2
namespace L2
open PySem PySem.Spec PyProof.Rows
section
variable {prog : Program} {w : World} {A : Around} {E : Value → Shared → Prop} {s : Shared}
theorem SIt.at {h h' : Heap} {it S : Addr} {first : Value} {i n ep : Nat} (x : SIt h it S first i n ep) (e : ∀ o, h.get? it = some o → h'.get? it = some o) : SIt h' it S first i n ep :=
  let ⟨o, ho, r⟩ := x; ⟨o, e _ ho, r⟩
end
end L2
namespace L2
open PySem PySem.Spec PyProof.Rows
section
variable {prog : Program} {w : World} {A : Around} {E : Value → Shared → Prop} {s : Shared}
end
end L2
namespace L2
open PySem PySem.Spec PyProof.Rows
theorem few {zs : List Str} (nd : zs.Nodup) : ∀ (N : List Str), (∀ z ∈ zs, z ∈ N) → zs.length ≤ N.length := by
  induction zs with
  | nil => intro N _; exact Y1p _
  | cons z zs ih =>
    intro N h
    rw [Y0L] at nd
    have hz := h z Y0e
    have hp := List.perm_cons_erase hz
    have := ih nd.2 (N.erase z) λy hy => by
      have := hp.mem_iff.mp (h y (Y0b _ hy))
      rcases Y0m.mp this with e | e
      · exact absurd (e ▸ hy) nd.1
      · exact e
    have hl := hp.length_eq
    simp only [Y0r] at hl ⊢
    lia
noncomputable def Call2 (X : Cx) (f g : Value) (r : V → Hp → VK → Prop) : Prop :=
  ∀ (pins : List (Addr × Obj)) (s : Shared) (σ : St) (H : Hp) (x : V) (u : Value) (Q : VK), Inv X pins σ H s → RelV x u → r x H Q →
    wpAny (model X.prog X.w) X.A (call g [u]) (λv s1 => wpAny (model X.prog X.w) X.A (call f [v]) (EP X pins σ Q) X.xe s1) X.xe s
section
variable {X : Cx}
theorem pe_call2 {x y : Str} {id T : String} {r : V → Hp → VK → Prop} {e : Expr} {t : TE} {p p' pos pos' : Pos} (hc : Call2 X (.builtin id) (.type T) r)
    (hg : Gl X x) (hm : X.mg x = none) (hv : bootBuiltins x = some (.builtin id)) (hg' : Gl X y) (hm' : X.mg y = none) (hv' : bootBuiltins y = some (.type T)) (ha : PE X e t)
    (hn : x ≠ "__name__") (hdb : (x == ("__debug__" : Str)) = false) (hn' : y ≠ "__name__") (hdb' : (y == ("__debug__" : Str)) = false)
    (he : starEach [e] X.env = (false, eval e X.env) :: starEach [] X.env) :
    PE X (.Call (.Name x p) [.Call (.Name y p') [e] [] pos'] [] pos) (λσ H Q => t σ H λv H1 => r v H1 Q) := by
  intro pins s σ H Q I h
  refine wpAny_Call_Name_kw (ld_blt I hg hm hv ?_ hn hdb)
  refine Y1B ?_ rfl rfl
  show wpAny _ _ (spliced ((false, eval (.Call (.Name y p') [e] [] pos') X.env) :: backTo pos (starEach [] X.env))) _ _ s
  refine Y1h ?_
  refine wpAny_Call_Name_kw (ld_blt I hg' hm' hv' ?_ hn' hdb')
  refine Y0s ?_ he rfl
  rw [he]
  show wpAny _ _ (spliced ((false, eval e X.env) :: backTo pos' (starEach [] X.env))) _ _ s
  refine Y1h (thn (ha pins s σ H _ I h) λu s1 ⟨v, H1, I1, r1, q1⟩ => ?_)
  refine Y1l ?_
  exact thn (hc pins s1 σ H1 v u Q I1 r1 q1) λu2 s2 q2 => Y1l q2
theorem firstMet_all {f : Nat → Int} : ∀ (n : Nat), (firstMet f n).length = n ↔ ∀ i j, i < j → j < n → f i ≠ f j
  | 0 => ⟨λ_ i j _ h => absurd h (by lia), λ_ => rfl⟩
  | n + 1 => by
    have ih := firstMet_all (f := f) n
    have hle := firstMet_length_le f n
    have hany := firstMet_any f n (f n)
    rw [firstMet_succ, step_length]
    by_cases h : (firstMet f n).any (· == f n) = true
    · rw [if_pos h]
      refine ⟨λe => by lia, λe => ?_⟩
      rw [hany, List.any_map, List.any_eq_true] at h
      obtain ⟨i, hi, hq⟩ := h
      exact absurd (by simpa using hq) (e i n (Y1A.mp hi) (by lia))
    · rw [if_neg h]
      refine ⟨λe i j hij hj => ?_, λe => ?_⟩
      · by_cases z : j = n
        · subst z
          intro q
          apply h
          rw [hany, List.any_map, List.any_eq_true]
          exact ⟨i, Y1A.mpr hij, by simpa using q⟩
        · exact ih.mp (by lia) i j hij (by lia)
      · rw [ih.mpr λi j hij hj => e i j hij (by lia)]
theorem call_lset (hcalm : X.calm = true) : Call2 X (.builtin "len") (.type "set") (fun x H Q => ∃ (a : Addr) (ns : List Int), x = .ref a ∧ SqL X.K H a (ns.map V.int) ∧ ns.length + 1 < scanBound ∧
    ∀ k : Nat, (k = ns.length ↔ ns.Nodup) → k ≤ ns.length → Q (.int k) H) := by
  intro pins s σ H x u Q I rx h
  obtain ⟨a, ns, rfl, ha, hlen, q⟩ := h
  cases rx
  obtain ⟨its, rv, p, hz⟩ := I.list ha
  have hh := I.ok.hd hcalm
  have hI := intsAre_of rv
  have hil : its.length = ns.length := by rw [← rv.length, Y05]
  have hsz : its.toArray.size = ns.length := by simp [hil]
  have hsb : scanBound = 4096 := rfl
  refine PySem.call_set_list (ns := ns) hh p.isList (by simpa using hI) (by rw [hsz]; exact hlen) λh1 tk1 hS hk => ?_
  rw [hsz] at hS
  have I1 : Inv X pins σ H { s with heap := h1, toks := tk1 } := I.kept λb u e => hk b u (Y08 e) e
  obtain ⟨o, es, ep, t, ho, hex, hd, hel, hmem, hb, hf, hn⟩ := hS
  refine call_len_set (s := { s with heap := h1, toks := tk1 }) ho hex hd hf (by lia) ?_
  refine ⟨.int es.size, H, I1.tok _, ⟨_, rfl⟩, ?_⟩
  refine q es.size ?_ (by rw [hn]; exact firstMet_length_le _ _)
  rw [hn, firstMet_all, List.Nodup, List.pairwise_iff_getElem]
  constructor
  · intro e i j hi hj hij
    have := e i j hij hj
    simpa [List.getD, hi, hj] using this
  · intro e i j hij hj
    have := e i j (by lia) hj hij
    simpa [List.getD, hj, show i < ns.length by lia] using this
end
end L2
namespace L2
open PySem PySem.Spec PyProof.Rows
theorem sub_attr : isSubtype (.type "AttributeError") (.type "AttributeError") = pure true := by rw [isSubtype_type]; kernel_rfl
section
variable {prog : Program} {w : World} {A : Around} {E : Value → Shared → Prop} {h : Heap} {g : Array GenState} {d : Drawn} {t : Nat} {os : OsState} {a : Addr} {its : Array Value} {n : Nat}
end
end L2
namespace L2
open PySem PySem.Spec PyProof.Rows
theorem entry_dict_update_loop : entryFor table "dict.update.loop" = some Builtin.«dict.update.loop» := entryFor_of_tree (by kernel_rfl)
theorem plain_dict_update_loop : plainId "dict.update.loop" = true := by decide +kernel
section
variable {prog : Program} {w : World} {A : Around} {E : Value → Shared → Prop} {s : Shared} {K : Type} [DecidableEq K] {knd : KeyKind prog w K}
noncomputable def stTo (ks : Nat → K) (vs : Nat → Value) : Nat → List (K × Value)
  | 0 => []
  | i + 1 => stored (stTo ks vs i) (ks i) (vs i)
theorem stored_len1 (kvs : List (K × Value)) (k : K) (v : Value) : (stored kvs k v).length ≤ kvs.length + 1 := by
  unfold stored
  split <;> simp
theorem stTo_len (ks : Nat → K) (vs : Nat → Value) : ∀ i, (stTo ks vs i).length ≤ i
  | 0 => Y07 _
  | i + 1 => Y0D (stored_len1 _ _ _) (Nat.succ_le_succ (stTo_len ks vs i))
theorem dict_loop {R : Result → Shared → Prop} {I : Addr} {fp wr : List Addr} {G : Array GenState → Array GenState → Prop} {n : Nat} {P : Nat → Value → Prop} {St : Nat → Shared → Prop}
    (W : WalksS prog w A.in1 I fp wr G n P St) (D : Addr) (hDf : D ∉ fp) (ks : Nat → K) (vs : Nat → Value) (hb : n ≤ sizeLine) :
    ∀ (k i : Nat) (s : Shared), n - i = k → i ≤ n → St i s → s.heap.DictOf knd D (stTo ks vs i) →
      (∀ j v, P j v → ∃ q uk np oq, v = .ref q ∧ q ≠ D ∧ q ∉ wr ∧ s.heap.get? q = some oq ∧ oq.cls = .type "tuple" ∧ oq.data = .seq #[uk, vs j] np ∧ knd.is (ks j) uk = true) →
      (∀ s', Moved (D :: wr) G s s' → s'.heap.DictOf knd D (stTo ks vs n) → R (.ok (.ret .none)) s') →
      codeAny (model prog w) A (.builtin "dict.update.loop" ⟨[.ref D, .ref I, rawInt (i : Nat), .none], []⟩) R s := by
  have hDw : D ∉ wr := λh => hDf (W.sub _ h)
  have hsub : ∀ b ∈ wr, b ∈ D :: wr := λb hb => Y0b _ hb
  intro k
  induction k with
  | zero =>
    intro i s hk hi hst hd ht hR
    have hin : i = n := by lia
    subst hin
    refine codeAny_builtin entry_dict_update_loop ?_
    rw [Y0U plain_dict_update_loop _]
    show wpAny _ A.in1 (pyNext (.ref I) >>= _) _ _ s
    refine wpAny_bind (W.done s _ _ hst λs' hm => ?_)
    refine wpAny_bind (m := Builtin.Dict.addKeywords D []) (wpAny_pure ?_)
    refine wpAny_pure (hR s' (hm.mono hsub) ?_)
    obtain ⟨o, es, ep, ho, r⟩ := hd
    exact ⟨o, es, ep, hm.heap D _ hDw ho, r⟩
  | succ k ih =>
    intro i s hk hi hst hd ht hR
    have hlt : i < n := by lia
    refine codeAny_builtin entry_dict_update_loop ?_
    rw [Y0U plain_dict_update_loop _]
    show wpAny _ A.in1 (pyNext (.ref I) >>= _) _ _ s
    refine wpAny_bind (W.item i s _ _ hlt hst λv s' hP hst' hm => ?_)
    obtain ⟨q, uk, np, oq, rfl, hqD, hqw, hq, hqc, hqd, hkey⟩ := ht i v hP
    have hq' := hm.heap q _ hqw hq
    have hd' : s'.heap.DictOf knd D (stTo ks vs i) := by
      obtain ⟨o, es, ep, ho, r⟩ := hd
      exact ⟨o, es, ep, hm.heap D _ hDw ho, r⟩
    have hT : s'.TypeIs (.ref q) "tuple" := ⟨_, hq', hqc⟩
    show wpAny _ A.in1 (holding [Y0a q] _ >>= _) _ _ s'
    refine wpAny_bind (wpAny_holding ?_)
    refine wpAny_bind (wpAny_tryCatch ?_)
    unfold Builtin.Dict.pairItems
    refine wpAny_bind (wpAny_typeOf hT ?_)
    have e2 : (Y0u "tuple" == Y0u "tuple") = true := rfl
    rw [e2, Y1Q, if_pos rfl]
    refine wpAny_bind (wpAny_seqItems hq' hqd (wpAny_pure ?_))
    show wpAny _ A.in1 (holding [uk, vs i] (dictSet D uk (vs i))) _ _ s'
    refine wpAny_holding ?_
    have hl := stTo_len ks vs i
    refine wpAny_dictSet_pairs (knd := knd) hkey hd' (λh' hd2 hsb => ?_) (by lia)
    refine wpAny_pure ⟨plainId_quiet plain_dict_update_loop _, ?_⟩
    have := ih (i + 1) { s' with heap := h', toks := s'.toks + 1 } (by lia) hlt (W.frame _ s' _ _ hst' (Nat.le_succ _) λb hb o e => ?_) hd2 (λj v hPj => ?_) λs'' hm'' hd'' => ?_
    · exact this
    · rw [hsb.2 b (λz : b = D => hDf (by rw [← z]; exact hb))]; exact e
    · obtain ⟨q, uk, np, oq, rfl, a1, a2, a3, a4⟩ := ht j v hPj
      exact ⟨q, uk, np, oq, rfl, a1, a2, (hsb.2 q a1).trans (hm.heap q _ a2 a3), a4⟩
    · refine hR s'' (Moved.trans W.gtrans ((hm.mono hsub).then_heap (Nat.le_succ _) λb o hb e => ?_) hm'') hd''
      rw [hsb.2 b (λz : b = D => hb (by rw [z]; exact Y0e))]; exact e
end
end L2
namespace L2
open PySem PySem.Spec PyProof.Rows
noncomputable def PairsV (H : Hp) : List (Key × V) → List V → Prop := Paired λ(p : Key × V) (v : V) => ∃ q, v = .ref q ∧ H q = some (.tup [kV p.1, p.2])
noncomputable def putAll (ps : List (Key × V)) : List (Key × V) := ps.foldl (λc z => putK c z.1 z.2) []
theorem Paired.at {α β : Type} {R : α → β → Prop} : ∀ {xs : List α} {ys : List β}, Paired R xs ys → ∀ (i : Nat) (y : β), ys[i]? = some y → ∃ x, xs[i]? = some x ∧ R x y
  | _, _, .nil, i, y, h => by simp at h
  | _, _, .cons r _, 0, y, h => by simp at h; subst h; exact ⟨_, rfl, r⟩
  | _, _, .cons _ t, i + 1, y, h => by simp at h; obtain ⟨x, hx, r⟩ := Paired.at t i y h; exact ⟨x, by simpa using hx, r⟩
section
variable {X : Cx}
end
end L2
namespace L2
open PySem PySem.Spec PyProof.Rows
section
variable {X : Cx}
end
end L2
namespace L2
open PySem PySem.Spec PyProof.Rows
noncomputable def Its (x : Str) : It := ⟨λi _ => i < x.cps.size, λi H v H' => H' = H ∧ ∃ c, x.cps[i]? = some c ∧ v = .str ⟨#[c]⟩, λi _ => x.cps.size ≤ i⟩
theorem turn_strA {P : Program} {w : World} {K : Y00} {tg : Expr} (it : Addr) (x : Str) (t : Tok) : Turn P w K tg (Its x) [it] it (fun i h => h.IsStrIter it "str_ascii_iterator" x t i) where
  mem := by simp
  obj := λi h st b hb => by
    have e : b = it := by simpa using hb
    subst e
    obtain ⟨o, e, c, d⟩ := st
    exact ⟨o, e, λv z => by rw [d] at z; cases z⟩
  keep := λi h h' st k => by
    obtain ⟨o, e, c, d⟩ := st
    exact ⟨o, k it (by simp) o e, c, d⟩
  item := by
    intro X hP hw hK hc i pins s σ H E I hf st hg
    subst hP hw hK
    have hg : i < x.cps.size := hg
    obtain ⟨f0, f1, f2, f3, f4, f5⟩ := hf it (by simp)
    refine wpAny_pyNext_ascii_item st (c := x.cps[i]) (by simp [hg]) λh' st' sb => ?_
    have I1 : Inv X pins σ H { s with heap := h', toks := s.toks + 1 } := I.turned (λb o hb e => (sb.2 b hb).trans e) f0 f1 f3 f4 f5
    obtain ⟨o, e, c, d⟩ := id st'
    exact ⟨_, rfl, go_of (s := { s with heap := h', toks := s.toks + 1 }) e c d (by decide) ⟨.str ⟨#[x.cps[i]]⟩, H, I1, ⟨_, rfl⟩, ⟨rfl, _, by simp [hg], rfl⟩, st', λb hb => (hf b hb).1⟩⟩
  done := by
    intro X hP hw hK hc i pins s σ H E I hf st hg
    subst hP hw hK
    have hg : x.cps.size ≤ i := hg
    obtain ⟨f0, f1, f2, f3, f4, f5⟩ := hf it (by simp)
    exact wpAny_pyNext_ascii_end (I.ok.hd hc) st (by simp [hg]) λh' eb => ⟨rfl, I.turned (t' := s.toks) (λb o hb e => eb b o hb e) f0 f1 f3 f4 f5⟩
  self := λ_ _ _ _ _ st h => wpAny_pyIter_striter_ascii st h
theorem turn_strW {P : Program} {w : World} {K : Y00} {tg : Expr} (it : Addr) (x : Str) (t : Tok) : Turn P w K tg (Its x) [it] it (fun i h => h.IsStrIter it "str_iterator" x t i) where
  mem := by simp
  obj := λi h st b hb => by
    have e : b = it := by simpa using hb
    subst e
    obtain ⟨o, e, c, d⟩ := st
    exact ⟨o, e, λv z => by rw [d] at z; cases z⟩
  keep := λi h h' st k => by
    obtain ⟨o, e, c, d⟩ := st
    exact ⟨o, k it (by simp) o e, c, d⟩
  item := by
    intro X hP hw hK hc i pins s σ H E I hf st hg
    subst hP hw hK
    have hg : i < x.cps.size := hg
    obtain ⟨f0, f1, f2, f3, f4, f5⟩ := hf it (by simp)
    refine wpAny_pyNext_wide_item st (c := x.cps[i]) (by simp [hg]) λh' st' sb => ?_
    have I1 : Inv X pins σ H { s with heap := h', toks := s.toks + 1 } := I.turned (λb o hb e => (sb.2 b hb).trans e) f0 f1 f3 f4 f5
    obtain ⟨o, e, c, d⟩ := id st'
    exact ⟨_, rfl, go_of (s := { s with heap := h', toks := s.toks + 1 }) e c d (by decide) ⟨.str ⟨#[x.cps[i]]⟩, H, I1, ⟨_, rfl⟩, ⟨rfl, _, by simp [hg], rfl⟩, st', λb hb => (hf b hb).1⟩⟩
  done := by
    intro X hP hw hK hc i pins s σ H E I hf st hg
    subst hP hw hK
    have hg : x.cps.size ≤ i := hg
    obtain ⟨f0, f1, f2, f3, f4, f5⟩ := hf it (by simp)
    exact wpAny_pyNext_wide_end (I.ok.hd hc) st (by simp [hg]) λh' eb => ⟨rfl, I.turned (t' := s.toks) (λb o hb e => eb b o hb e) f0 f1 f3 f4 f5⟩
  self := λ_ _ _ _ _ st h => wpAny_pyIter_striter_wide st h
section
variable {X : Cx} {pins : List (Addr × Obj)} {σ : St} {H : Hp} {s : Shared}
theorem pi_str1 {tg : Expr} {R : It → Hp → Prop} {E : Value → Shared → Prop} {x : Str} {t : Tok} (I : Inv X pins σ H s) (q : R (Its x) H) : wpAny (model X.prog X.w) X.A (pyIter (.str x t)) (PIE X pins σ tg R) E s := by
  have fp : ∀ b ∈ [s.heap.objs.size], FpOk X pins H b := λb hb => by
    have e : b = s.heap.objs.size := by simpa using hb
    subst e
    exact I.fpOk (Y07 _) (I.hok.fresh (Y07 _))
  cases ha : x.cps.all (· < 128)
  · exact wpAny_pyIter_wide ha ⟨s.heap.objs.size, [s.heap.objs.size], _, _, H, rfl, I.kept (t' := s.toks) λb o e => Y02 _ e, turn_strW _ x t, ⟨_, Y09 _ rfl, rfl, rfl⟩, fp, q⟩
  · exact wpAny_pyIter_ascii ha ⟨s.heap.objs.size, [s.heap.objs.size], _, _, H, rfl, I.kept (t' := s.toks) λb o e => Y02 _ e, turn_strA _ x t, ⟨_, Y09 _ rfl, rfl, rfl⟩, fp, q⟩
noncomputable def iSeqS (X : Cx) (tl : TE) : TI := λσ H R => tl σ H λx H1 => (∃ a, x = .ref a ∧ ((∃ xs, SqL X.K H1 a xs ∧ R (Itl X.K a) H1) ∨ (∃ xs, SqT X.K H1 a xs ∧ R (Itt X.K a) H1) ∨ ∃ kvs, H1 a = some (.dK kvs) ∧ ∀ o, (∀ o' u', X.H₀ a ≠ some (.frz o' u')) → R (Itd a o) (upd H1 a (.frz o (.dK kvs))))) ∨
  ∃ z, x = .str z ∧ R (Its z) H1
theorem pi_seqS {tg l : Expr} {tl : TE} (hl : PE X l tl) : PI X tg l (iSeqS X tl) := by
  intro pins s σ H R I h
  refine thn (hl pins s σ H _ I h) λv s1 ⟨x, H1, I1, r1, q1⟩ => ?_
  rcases q1 with ⟨a, e, q⟩ | ⟨z, e, q⟩
  · subst e
    cases r1
    rcases q with ⟨xs, hq, q⟩ | ⟨xs, hq, q⟩ | ⟨kvs, hq, q⟩
    · obtain ⟨its, rv, p, hz⟩ := I1.list hq
      refine wpAny_pyIter_list p.isList ?_
      refine ⟨s1.heap.objs.size, [s1.heap.objs.size], _, _, H1, rfl, I1.kept (t' := s1.toks) λb o e => Y02 _ e, turn_list a _, ⟨_, Y09 _ rfl, rfl, rfl⟩, λb hb => ?_, q⟩
      have e : b = s1.heap.objs.size := by simpa using hb
      subst e
      exact I1.fpOk (Y07 _) (I1.hok.fresh (Y07 _))
    · obtain ⟨its, rv, p, hz⟩ := I1.tuple hq
      refine wpAny_pyIter_tuple (show s1.heap.IsTuple a its.toArray from p) ?_
      refine ⟨s1.heap.objs.size, [s1.heap.objs.size], _, _, H1, rfl, I1.kept (t' := s1.toks) λb o e => Y02 _ e, turn_tuple a _, ⟨_, Y09 _ rfl, rfl, rfl⟩, λb hb => ?_, q⟩
      have e : b = s1.heap.objs.size := by simpa using hb
      subst e
      exact I1.fpOk (Y07 _) (I1.hok.fresh (Y07 _))
    · exact pi_dict1 I1 hq q
  · subst e
    obtain ⟨t, rfl⟩ := r1
    exact pi_str1 I1 q
theorem is_bool_gen {M : Model} {A : Around} {E : Value → Shared → Prop} {s : Shared} {Q : Value → Shared → Prop} {v : Value} {b : Bool} (hv : ∀ i, v ≠ .builtin i) (h : Q (.bool (v == .bool b)) s) : wpAny M A (compareOp .Is v (.bool b)) Q E s := by
  cases v <;> first | exact wpAny_pure h | exact absurd rfl (hv _)
theorem isnot_bool_gen {M : Model} {A : Around} {E : Value → Shared → Prop} {s : Shared} {Q : Value → Shared → Prop} {v : Value} {b : Bool} (hv : ∀ i, v ≠ .builtin i) (h : Q (.bool (!(v == .bool b))) s) : wpAny M A (compareOp .IsNot v (.bool b)) Q E s := by
  cases v <;> first | exact wpAny_pure h | exact absurd rfl (hv _)
theorem rel_noblt {x : V} {v : Value} (r : RelV x v) : ∀ i, v ≠ .builtin i := λi e => by
  subst e
  cases x <;> first | (cases r; done) | (obtain ⟨t, e⟩ := r; cases e)
theorem rel_isbl {x : V} {v : Value} {b : Bool} (r : RelV x v) : decide (x = .bl b) = (v == Y0W b) := by
  cases x <;> first
    | (cases r; rename_i c; cases b <;> cases c <;> rfl)
    | (cases r; rfl)
    | (obtain ⟨t, rfl⟩ := r; rfl)
theorem op_isBl : OpR X (compareOp .Is) (λx y H Q => ∃ b, y = .bl b ∧ Q (.bl (decide (x = .bl b))) H) := by
  intro pins s σ H x y v u Q I rx ry h
  obtain ⟨b, rfl, q⟩ := h
  cases ry
  exact is_bool_gen (rel_noblt rx) (fin_bl I q (rel_isbl rx))
theorem op_notBl : OpR X (compareOp .IsNot) (λx y H Q => ∃ b, y = .bl b ∧ Q (.bl (!decide (x = .bl b))) H) := by
  intro pins s σ H x y v u Q I rx ry h
  obtain ⟨b, rfl, q⟩ := h
  cases ry
  exact isnot_bool_gen (rel_noblt rx) (fin_bl I q (by rw [rel_isbl rx]))
theorem isinst2_ok {A : Around} {E : Value → Shared → Prop} {Q : Value → Shared → Prop} {x : V} {u t c d : Value} {b b' : Bool} {tp : Addr} {dd : Option Addr} {n : Nat} {sl : Array (Option Value)} (I : Inv X pins σ H s) (rx : RelV x u) (ty : TyOf X.K H x t) (e : Y1f X.K t c = some b) (e' : Y1f X.K t d = some b')
    (htp : s.heap.get? tp = some ⟨.type "tuple", dd, .seq [c, d].toArray n, sl⟩) (h : ∀ tk, Q (.bool (b || b')) { s with toks := tk }) : wpAny (model X.prog X.w) A (call (.builtin "isinstance") [u, .ref tp]) Q E s := by
  have ea : Y1V X.K t [c, d] = some (b || b') := by
    unfold Y1V
    rw [e]
    cases b with
    | true => rfl
    | false =>
      show Y1V X.K t [d] = some b'
      unfold Y1V
      rw [e']
      cases b' <;> rfl
  cases ty with
  | non => cases (show u = Y0p from rx); exact Y0G PySem.W.kitx_none I.kIn Y10 htp ea (λz => nomatch z) h
  | bl y => cases (show u = Y0W y from rx); exact Y0G PySem.W.kitx_bool I.kIn Y10 htp ea (λz => nomatch z) h
  | int i => obtain ⟨t, q⟩ := (show ∃ t, u = Y2M i t from rx); cases q; exact Y0G PySem.W.kitx_int I.kIn Y10 htp ea (λz => nomatch z) h
  | str y => obtain ⟨t, q⟩ := (show ∃ t, u = Y0J y t from rx); cases q; exact Y0G PySem.W.kitx_str I.kIn Y10 htp ea (λz => nomatch z) h
  | flt y => obtain ⟨t, q⟩ := (show ∃ t, u = Value.float y t from rx); cases q; exact Y0G PySem.W.kitx_float I.kIn Y10 htp ea (λz => nomatch z) h
  | @lst a xs ea' =>
    cases (show u = Y0a a from rx)
    obtain ⟨_, _, n, _, h1⟩ := (show ObjOk X.prog X.w H s.heap a (.lst xs) from I.hok a _ ea')
    exact Y0G Y1v I.kIn ⟨_, h1, rfl⟩ htp ea (λz => nomatch z) h
  | @frz a ob xs ea' =>
    cases (show u = Y0a a from rx)
    obtain ⟨_, _, _, n, _, h1⟩ := (show ObjOk X.prog X.w H s.heap a (.frz ob (.lst xs)) from I.hok a _ ea')
    exact Y0G Y1v I.kIn ⟨_, h1, rfl⟩ htp ea (λz => nomatch z) h
  | @tup a xs ea' =>
    cases (show u = Y0a a from rx)
    obtain ⟨_, _, _, p⟩ := (show ObjOk X.prog X.w H s.heap a (.tup xs) from I.hok a _ ea')
    obtain ⟨o, h1, h2, _⟩ := p.1
    exact Y0G PySem.W.kitx_tuple I.kIn ⟨o, h1, h2⟩ htp ea (λz => nomatch z) h
  | @dK a kvs ea' =>
    cases (show u = Y0a a from rx)
    obtain ⟨_, _, vs, _, p⟩ := (show ObjOk X.prog X.w H s.heap a (.dK kvs) from I.hok a _ ea')
    obtain ⟨o, es, ep, h1, h2, _⟩ := p
    exact Y0G Y1w I.kIn ⟨o, h1, h2.1⟩ htp ea (λz => nomatch z) h
  | @dT a kvs ea' =>
    cases (show u = Y0a a from rx)
    obtain ⟨_, _, xs, _, o, es, ep, h1, h2, _⟩ := (show ObjOk X.prog X.w H s.heap a (.dT kvs) from I.hok a _ ea')
    exact Y0G Y1w I.kIn ⟨o, h1, h2.1⟩ htp ea (λz => nomatch z) h
  | @ins a C dx fs ea' cl ha hn htk hm =>
    cases (show u = Y0a a from rx)
    obtain ⟨mA, O, _⟩ := ins_get I.hok ea'
    obtain ⟨od, J, _⟩ := O.look
    exact Y0G (PySem.W.kitx_own (cl.get _) cl.hd ha hn htk hm) I.kIn J htp ea (λz => nomatch z) h
theorem call_isinst2 : CallR X (.builtin "isinstance") (fun xs H Q => ∃ x a c d t b b', xs = [x, .ref a] ∧ H a = some (.tup [.ty c, .ty d]) ∧ TyOf X.K H x t ∧ Y1f X.K t (.type c) = some b ∧ Y1f X.K t (.type d) = some b' ∧ Q (.bl (b || b')) H) := by
  intro pins s σ H xs us Q I r h
  obtain ⟨x, a, c, d, t, b, b', rfl, ha, ty, e, e', q⟩ := h
  obtain ⟨u, w', rfl, ru, rw'⟩ := vals2 r
  cases rw'
  obtain ⟨its, rv, p, _⟩ := I.tuple (SqT.of (K := X.K) ha)
  obtain ⟨⟨cls, dd, data, sl⟩, ho, hc, n, hd⟩ := id p
  simp only at hc hd
  subst hc hd
  cases rv with
  | cons r1 r2 =>
    cases r2 with
    | cons r3 r4 =>
      cases r4
      cases r1
      cases r3
      exact isinst2_ok I ru ty e e' ho λtk => ⟨.bl (b || b'), H, I.tok tk, rfl, q⟩
end
end L2
namespace L2
open PySem PySem.Spec PyProof.Rows
section
variable {X : Cx}
end
end L2
namespace L2
open PySem PySem.Spec PyProof.Rows
theorem lk_tuple_keys : typeLookup (.type "tuple") "keys" = pure none := by rw [typeLookup_type, builtinLookup_eq_fast]; kernel_rfl
theorem lk_tuple_hook : typeLookup (.type "tuple") "__getattr__" = pure none := by rw [typeLookup_type, builtinLookup_eq_fast]; kernel_rfl
section
variable {prog : Program} {w : World} {A : Around} {E : Value → Shared → Prop} {h : Heap} {g : Array GenState} {d : Drawn} {t : Nat} {os : OsState} {a : Addr} {its : Array Value} {n : Nat} {sl : Array (Option Value)}
theorem keysT_entry {tk : Tok} {Q : Fin → Shared → Prop} (hx : h.get? a = some (⟨.type "tuple", none, .seq its n, sl⟩)) (hh : A.handled = none)
   (hE : ∀ e h' t', (∀ b o, h.get? b = some o → h'.get? b = some o) → (∃ o, h'.get? e = some o ∧ o.cls = .type "AttributeError") → E (.ref e) ⟨h', g, d, t', os⟩) :
    wpAny (model prog w) A (Builtin.«object.__getattribute__» ⟨[.ref a, .str "keys" tk], []⟩) Q E ⟨h, g, d, t, os⟩ := by
  have hT : (⟨h, g, d, t, os⟩ : Shared).TypeIs (.ref a) "tuple" := ⟨_, hx, rfl⟩
  have f4 := lk_tuple_keys
  unfold Builtin.«object.__getattribute__»
  repeat (any_goals (first | assumption | wp_step))
  have hmsg : ¬ (Y0V (toString "'" ++ toString ((Y2H "tuple").elim "tuple" fun x => x.tpName) ++ toString "' object has no attribute '") ++ Y0V "keys" ++ Y0V "'").length > sizeLine := by decide +kernel
  generalize (Y0V (toString "'" ++ toString ((Y2H "tuple").elim "tuple" fun x => x.tpName) ++ toString "' object has no attribute '") ++ Y0V "keys" ++ Y0V "'") = msg at hmsg ⊢
  unfold raiseAttrError
  refine wpAny_bind ?_
  unfold mkStr
  rw [if_neg hmsg]
  repeat (any_goals (first | assumption | wp_step))
  show wpAny _ _ (isSubtype (.type "AttributeError") (.type "AttributeError")) _ _ _
  rw [sub_attr]
  generalize (if ((Y2H "AttributeError").elim false fun t => t.mro.contains "StopIteration" || t.mro.contains "SystemExit") = true then [Y0J msg t].headD Y0p else Y0p) = fm
  refine wpAny_pure ?_
  simp only [Y2Q, Y12, if_false]
  have hoE : ((h.push { cls := Y0u "tuple", data := Y24 #[Y0J msg t] }).push { cls := Y0u "AttributeError", data := Y1G (#[Y0a h.objs.size, Y0p, Y0p, Y0p, Y0W false, fm] ++ ownMembersOf (Y0u "AttributeError") [Y0J msg t]) }).get? (h.push { cls := Y0u "tuple", data := Y24 #[Y0J msg t] }).objs.size = some { cls := Y0u "AttributeError", data := Y1G (#[Y0a h.objs.size, Y0p, Y0p, Y0p, Y0W false, fm] ++ ownMembersOf (Y0u "AttributeError") [Y0J msg t]) } := Y09 _ rfl
  have e6 : (#[Y0a h.objs.size, Y0p, Y0p, Y0p, Y0W false, fm] ++ ownMembersOf (Y0u "AttributeError") [Y0J msg t])[6]? = some (.int 0 0) := rfl
  have e7 : (#[Y0a h.objs.size, Y0p, Y0p, Y0p, Y0W false, fm] ++ ownMembersOf (Y0u "AttributeError") [Y0J msg t])[7]? = some (.int 0 0) := rfl
  have old : ∀ b o, h.get? b = some o → ((h.push { cls := Y0u "tuple", data := Y24 #[Y0J msg t] }).push { cls := Y0u "AttributeError", data := Y1G (#[Y0a h.objs.size, Y0p, Y0p, Y0p, Y0W false, fm] ++ ownMembersOf (Y0u "AttributeError") [Y0J msg t]) }).get? b = some o ∧ b < (h.push { cls := Y0u "tuple", data := Y24 #[Y0J msg t] }).objs.size := fun b o e =>
    ⟨Y02 _ (Y02 _ e), by rw [Y2D]; exact Nat.lt_succ_of_lt (Y08 e)⟩
  generalize (h.push { cls := Y0u "tuple", data := Y24 #[Y0J msg t] }).objs.size = ea at *
  generalize ((h.push { cls := Y0u "tuple", data := Y24 #[Y0J msg t] }).push { cls := Y0u "AttributeError", data := Y1G (#[Y0a h.objs.size, Y0p, Y0p, Y0p, Y0W false, fm] ++ ownMembersOf (Y0u "AttributeError") [Y0J msg t]) }) = h2 at *
  generalize hvs : #[Y0a h.objs.size, Y0p, Y0p, Y0p, Y0W false, fm] ++ ownMembersOf (Y0u "AttributeError") [Y0J msg t] = vs at *
  refine wpAny_bind (wpAny_load hoE ?_)
  dsimp only
  rw [e6, e7]
  simp only [Bool.or_self, Y12, if_false]
  rw [if_neg (by decide)]
  refine wpAny_pure ?_
  simp only [if_true]
  have hT2 : (⟨h2, g, d, t + 1 + 1, os⟩ : Shared).TypeIs (.ref ea) "AttributeError" := ⟨_, hoE, rfl⟩
  refine wpAny_bind (wpAny_rule ?_)
  refine wpAny_bind (wpAny_typeOf hT2 ?_)
  dsimp only
  unfold layMembers
  refine wpAny_bind (wpAny_load hoE ?_)
  dsimp only
  refine wpAny_update hoE ?_
  unfold raiseNew
  refine wpAny_bind (wpAny_handled ?_)
  rw [hh]
  show wpAny _ _ (throw (Y0a ea)) _ _ _
  have hup := Heap.get?_update_self (Obj.mapFields fun vs => vs.extract 0 6 ++ #[Y0J (Y0V "keys") (t + 1), Y0a a]) hoE (Obj.isFreed_of_fields (Obj.data_mapFields rfl _))
  refine wpAny_throw (hE ea _ _ (λb o e => ?_) ⟨_, hup, Obj.cls_mapFields ..⟩)
  have := old b o e
  exact (Y2e _ _ (Y2k this.2)).trans this.1
theorem keysT_by {tk : Tok} {Q : Value → Shared → Prop} (hx : h.get? a = some (⟨.type "tuple", none, .seq its n, sl⟩)) (hh : A.handled = none)
   (hE : ∀ e h' t', (∀ b o, h.get? b = some o → h'.get? b = some o) → (∃ o, h'.get? e = some o ∧ o.cls = .type "AttributeError") → E (.ref e) ⟨h', g, d, t', os⟩) :
    wpAny (model prog w) A (getAttrBy (.ref a) (.str "keys" tk) false) Q E ⟨h, g, d, t, os⟩ := by
  have hT : (⟨h, g, d, t, os⟩ : Shared).TypeIs (.ref a) "tuple" := ⟨_, hx, rfl⟩
  have f2 := Y17.lookup
  have f3 := Y17.bind (.ref a)
  repeat (any_goals (first | assumption | wp_step))
  refine codeAny_call_builtin Y17.plain F.entry_tuple_ga (Y17.check _ _ _ _ _ _ _ _ hT (F.args_tuple_getattribute_2 _ _) (keysT_entry hx (by simp [hh]) λe h' t' k ho => ?_))
  have hTe : (⟨h', g, d, t', os⟩ : Shared).TypeIs (.ref e) "AttributeError" := ho
  show wpAny _ _ (getattributeRaised _ _ _ _ _ _ _) _ _ _
  unfold getattributeRaised
  refine wpAny_bind (wpAny_isInstance hTe sub_attr ?_)
  simp only [if_true]
  unfold hookBehind onTheHeap
  simp only [Y12, if_false]
  rw [lk_tuple_hook]
  refine wpAny_bind (wpAny_pure ?_)
  unfold hookOrError attributeErrorLeaves
  simp only [Bool.not_false, if_true]
  exact wpAny_bind (wpAny_throw (hE e h' t' k ho))
theorem keysT_none {Q : Option Value → Shared → Prop} {s : Shared} (hx : s.heap.get? a = some (⟨.type "tuple", none, .seq its n, sl⟩)) (hh : A.handled = none)
    (hQ : ∀ h' t', (∀ b o, s.heap.get? b = some o → h'.get? b = some o) → Q none { s with heap := h', toks := t' }) : wpAny (model prog w) A (getAttr? (.ref a) "keys") Q E s := by
  obtain ⟨h, g, d, t, os⟩ := s
  unfold getAttr? getAttrBy? mkText
  refine wpAny_bind (wpAny_bind (wpAny_fresh (wpAny_pure ?_)))
  refine wpAny_bind (wpAny_attempt (keysT_by hx hh λe h' t' k ho => ?_))
  have hTe : (⟨h', g, d, t', os⟩ : Shared).TypeIs (.ref e) "AttributeError" := ho
  refine wpAny_bind (wpAny_isInstance hTe sub_attr ?_)
  simp only [if_true]
  exact wpAny_pure (hQ h' t' k)
end
section
variable {prog : Program} {w : World} {A : Around} {E : Value → Shared → Prop} {s : Shared} {K : Type} [DecidableEq K] {knd : KeyKind prog w K}
theorem call_dictT {l : Addr} {items : Array Value} {nl : Nat} {sl : Array (Option Value)} {ks : Nat → K} {vs : Nat → Value} {Q : Value → Shared → Prop} (hh : A.handled = none) (hl : s.heap.get? l = some (⟨.type "tuple", none, .seq items nl, sl⟩)) (hn : items.size ≤ sizeLine)
    (ht : ∀ (j : Nat) v, items[j]? = some v → ∃ q uk np oq, v = .ref q ∧ s.heap.get? q = some oq ∧ oq.cls = .type "tuple" ∧ oq.data = .seq #[uk, vs j] np ∧ knd.is (ks j) uk = true)
    (h : ∀ h' tk, h'.DictOf knd s.heap.objs.size (stTo ks vs items.size) → (∀ b o, b < s.heap.objs.size → s.heap.get? b = some o → h'.get? b = some o) → Q (.ref s.heap.objs.size) { s with heap := h', toks := tk }) :
    wpAny (model prog w) A (call (.type "dict") [.ref l]) Q E s := by
  refine callType_codes (Q₁ := fun obj s₁ => obj = .ref s.heap.objs.size ∧ s₁ = { s with heap := s.heap.push { cls := .type "dict", data := .dict #[] } }) F.kt_called_dict (F.kt_typeCall_dict_1 _) F.entry_dict_init (kt_code_dict_new _ ⟨rfl, rfl⟩) ?_
  rintro obj s₁ ⟨rfl, rfl⟩
  have hnew : (s.heap.push { cls := .type "dict", data := .dict #[] }).DictOf knd s.heap.objs.size [] := Heap.DictOf.new s.heap
  have hl' : (s.heap.push { cls := .type "dict", data := .dict #[] }).get? l = some (⟨.type "tuple", none, .seq items nl, sl⟩) := Y02 _ hl
  have hT : Shared.TypeIs { s with heap := s.heap.push { cls := .type "dict", data := .dict #[] } } (.ref l) "tuple" := ⟨_, hl', rfl⟩
  refine ⟨hnew.typeIs, F.args_dict_init_2 _ _, ?_⟩
  unfold Builtin.«dict.__init__»
  refine wpAny_bind ?_
  unfold Builtin.Dict.selfAndRest
  refine wpAny_bind (wpAny_notOrdered_dict hnew.typeIs ?_)
  show wpAny _ _ (pure (s.heap.objs.size, [Y0a l])) _ _ _
  refine wpAny_pure ?_
  show wpAny _ _ (Y28 "dict.__init__" s.heap.objs.size (.ref l) [] .none) _ _ _
  unfold Y28
  refine wpAny_bind (wpAny_typeOf hT ?_)
  rw [if_pos (by decide)]
  refine wpAny_bind (keysT_none (s := { s with heap := s.heap.push { cls := .type "dict", data := .dict #[] } }) hl' (by simp [hh]) fun h1 t1 hk1 => ?_)
  simp only [Option.isNone_none, if_true]
  refine wpAny_bind (wpAny_rule ?_)
  have hl1 : h1.get? l = some (⟨.type "tuple", none, .seq items nl, sl⟩) := hk1 _ _ hl'
  have hL1 : h1.IsTuple l items := ⟨_, hl1, rfl, nl, rfl⟩
  have hlS : l < s.heap.objs.size := Y08 hl
  have hbig : s.heap.objs.size < h1.objs.size := by
    obtain ⟨o, es, ep, ho, _⟩ := hnew
    exact Y08 (hk1 _ _ ho)
  refine wpAny_bind (wpAny_pyIter_tuple (s := { s with heap := h1, toks := t1 }) hL1 ?_)
  have hneI : l ≠ h1.objs.size := Y0i (Y2o hlS hbig)
  refine wpAny_pure ⟨plainId_quiet plain_dict_update_loop _, ?_⟩
  refine dict_loop (knd := knd) (n := items.size) ((Walks.tuple (A := A.in1.in1) (by simp [hh]) h1.objs.size l hneI items).toS) s.heap.objs.size ?_ ks vs hn items.size 0 _ rfl (Y1p _)
    ⟨⟨_, Y09 _ rfl, rfl, rfl⟩, hL1.push _⟩ ?_ ?_ ?_
  · simp only [Y0m, List.not_mem_nil, or_false, not_or]
    exact ⟨Y0i hbig, Y2k hlS⟩
  · obtain ⟨o, es, ep, ho, r⟩ := hnew
    exact ⟨o, es, ep, Y02 _ (hk1 _ _ ho), r⟩
  · intro j v hv
    obtain ⟨q, uk, np, oq, rfl, a1, a2⟩ := ht j v hv
    have hqS : q < s.heap.objs.size := Y08 a1
    refine ⟨q, uk, np, oq, rfl, Y0i hqS, ?_, Y02 _ (hk1 _ _ (Y02 _ a1)), a2⟩
    simp only [Y1t]
    exact Y0i (Y2o hqS hbig)
  · intro s' hm hd
    obtain ⟨h', g', d', tk', os'⟩ := s'
    have eg : g' = s.gens := hm.gens
    have ed : d' = s.drawn := hm.drawn
    have eo : os' = s.os := hm.os
    subst eg; subst ed; subst eo
    refine ⟨rfl, h h' tk' hd λb o hb e => ?_⟩
    refine hm.heap b o ?_ (Y02 _ (hk1 _ _ (Y02 _ e)))
    simp only [Y0m, List.not_mem_nil, or_false, not_or]
    exact ⟨Y0i hb, Y0i (Y2o hb hbig)⟩
end
section
variable {X : Cx}
theorem call_dictPT (hcalm : X.calm = true) : CallR X (.type "dict") (fun xs H Q => ∃ (a : Addr) (ps : List (Key × V)) (qs : List V), xs = [.ref a] ∧ H a = some (.tup qs) ∧ PairsV H ps qs ∧ ∀ p, H p = none → Q (.ref p) (upd H p (.dK (putAll ps)))) := by
  intro pins s σ H xs us Q I r h
  obtain ⟨a, ps, qs, rfl, ha, hp, q⟩ := h
  obtain ⟨u, rfl, ru⟩ := vals1 r
  cases ru
  obtain ⟨hz, its, rv, ⟨ol, hl, hlc, nl, hld⟩, ol2, hl2, hdn⟩ := (show ObjOk X.prog X.w H s.heap a (.tup qs) from I.hok a _ ha)
  have hh := I.ok.hd hcalm
  rw [hl] at hl2
  cases hl2
  obtain ⟨lc, ldc, ld, lsl⟩ := ol
  cases hlc; cases hld; cases hdn
  have hlen : its.length = ps.length := by rw [← rv.length, hp.length]
  have hpair : ∀ (j : Nat) v, its.toArray[j]? = some v → ∃ q uk uv np oq, v = .ref q ∧ s.heap.get? q = some oq ∧ oq.cls = .type "tuple" ∧ oq.data = .seq #[uk, uv] np ∧ ∃ p, ps[j]? = some p ∧ RelV (kV p.1) uk ∧ RelV p.2 uv := fun j v hv => by
    have hv' : its[j]? = some v := by simpa using hv
    obtain ⟨y, hy, ry⟩ := Paired.at rv j v hv'
    obtain ⟨p, hpj, q, rfl, hq⟩ := Paired.at hp j y hy
    cases ry
    obtain ⟨_, ts, rt, ht⟩ := (show ObjOk X.prog X.w H s.heap q (.tup [kV p.1, p.2]) from I.hok q _ hq)
    obtain ⟨uk, uv, rfl, r1, r2⟩ := vals2 rt
    obtain ⟨oq, ho, hc, n, hd⟩ := ht.1
    exact ⟨q, uk, uv, n, oq, rfl, ho, hc, hd, p, hpj, r1, r2⟩
  obtain ⟨vs, hvs⟩ : ∃ vs : Nat → Value, ∀ (j : Nat) v, its.toArray[j]? = some v → ∃ q uk np oq, v = .ref q ∧ s.heap.get? q = some oq ∧ oq.cls = .type "tuple" ∧ oq.data = .seq #[uk, vs j] np ∧ ∃ p, ps[j]? = some p ∧ RelV (kV p.1) uk ∧ RelV p.2 (vs j) := by
    refine ⟨λj => if h : j < its.length then (hpair j its[j] (by simp [h])).choose_spec.choose_spec.choose else .none, λj v hv => ?_⟩
    have hv' : its[j]? = some v := by simpa using hv
    obtain ⟨hj, rfl⟩ := Y0j.mp hv'
    dsimp only
    rw [dif_pos hj]
    have z := (hpair j its[j] (by simp [hj]))
    exact ⟨z.choose, z.choose_spec.choose, z.choose_spec.choose_spec.choose_spec⟩
  refine call_dictT (knd := mixKind X.prog X.w) (ks := λj => (ps.getD j (.inl 0, .non)).1) (vs := vs) hh hl (by simpa [← rv.length] using hz) (λj v hv => ?_) λh' tk hd hk => ?_
  · obtain ⟨q, uk, np, oq, e1, e2, e3, e4, p, hpj, r1, r2⟩ := hvs j v hv
    refine ⟨q, uk, np, oq, e1, e2, e3, e4, kV_is ?_⟩
    rw [Y0B, hpj]
    exact r1
  have kv : ∀ i, i ≤ ps.length → KV ((ps.take i).foldl (λc z => putK c z.1 z.2) []) (stTo (λj => (ps.getD j (.inl 0, .non)).1) vs i) := by
    intro i
    induction i with
    | zero => intro _; exact .nil
    | succ i ih =>
      intro hi
      have hlt : i < its.length := by lia
      obtain ⟨q, uk, np, oq, e1, e2, e3, e4, p, hpj, r1, r2⟩ := hvs i its[i] (by simp [hlt])
      rw [List.take_add_one, hpj, Option.toList_some, List.foldl_append]
      show KV (putK _ p.1 p.2) (stored _ (ps.getD i (.inl 0, .non)).1 _)
      have ek : (ps.getD i (.inl 0, .non)).1 = p.1 := by rw [Y0B, hpj]; rfl
      rw [ek]
      exact (ih (by lia)).put p.1 r2
  have kvn := kv ps.length (Y07 _)
  rw [List.take_length] at kvn
  have hsz : its.toArray.size = ps.length := by simp [hlen]
  rw [hsz] at hd
  have hpl : ps.length ≤ sizeLine := by rw [hp.length]; exact hz
  have zl : (putAll ps).length ≤ sizeLine := by
    have := kvn.length
    have l2 := stTo_len (λj => (ps.getD j (.inl 0, .non)).1) vs ps.length
    unfold putAll
    lia
  exact ⟨.ref s.heap.objs.size, _, I.laid (a := s.heap.objs.size) (o := .dK (putAll ps)) (t' := tk) (λb u e => hk b u (Y08 e) e) (Y07 _) (dk_new zl (beq_eq_false_iff_ne.mpr (Y2K (Y0i I.big))) kvn hd), rfl, q _ (I.hok.fresh (Y07 _))⟩
end
end L2
namespace L2
open PySem PySem.Spec PyProof.Rows
noncomputable def cutS (x : Str) (lo hi : Option Int) : Str := ⟨((x.cps.toList.drop (HT.sIx x.cps.toList.length 0 lo)).take (HT.sIx x.cps.toList.length x.cps.toList.length hi - HT.sIx x.cps.toList.length 0 lo)).toArray⟩
theorem cutS_len (x : Str) (lo hi : Option Int) : (cutS x lo hi).length ≤ x.length := by
  unfold cutS Y2U
  simp only [Y06, Y0Q, Y0R, Y0y]
  lia
theorem strPick_cut (x : Str) (lo hi : Option Int) : ((Y0Z lo hi 1 x.length).filterMap (x.cps[·]?)).toArray = (cutS x lo hi).cps := by
  obtain ⟨h1, h2, h3⟩ := slice_bounds lo hi x.length
  have e : Y0Z lo hi 1 x.length = sliceRange (sliceBounds lo hi none x.length).1 (sliceBounds lo hi none x.length).2.1 (sliceBounds lo hi none x.length).2.2 := rfl
  have el : x.cps.toList.length = x.length := by simp [Y2U]
  rw [e, h1, h2, h3, sliceRange_one, pick_run]
  unfold cutS
  rw [el]
theorem cutS_whole {x : Str} {lo hi : Option Int} (h : (Y0Z lo hi 1 x.length).length = x.length) : cutS x lo hi = x := by
  obtain ⟨h1, h2, h3⟩ := slice_bounds lo hi x.length
  have e : Y0Z lo hi 1 x.length = sliceRange (sliceBounds lo hi none x.length).1 (sliceBounds lo hi none x.length).2.1 (sliceBounds lo hi none x.length).2.2 := rfl
  have el : x.cps.toList.length = x.length := by simp [Y2U]
  rw [e, h1, h2, h3, sliceRange_one, Y05, Y1x] at h
  unfold cutS
  rw [el]
  have hb : HT.sIx x.length x.length hi ≤ x.length := by
    unfold HT.sIx
    cases hi with
    | none => exact Y07 _
    | some i => dsimp only; split <;> lia
  obtain ⟨cps⟩ := x
  congr 1
  have e0 : ∀ (n a b : Nat), b ≤ n → b - a = n → n = 0 ∨ a = 0 := by lia
  rcases e0 _ _ _ hb h with z | z
  · have : cps.toList = [] := by
      rw [← Y27]; rw [Y0y]; exact z
    simp [this]
    have : cps = #[] := by apply Array.toList_inj.mp; simpa using this
    rw [this]
  · rw [h, z, List.drop_zero, Y2i (by rw [Y0y]; exact Y07 _)]
section
variable {X : Cx}
noncomputable def rSlS : V → Option Int → Option Int → Hp → VK → Prop := λx lo hi H Q => ∃ z : Str, x = .str z ∧ z.length ≤ sizeLine ∧ Q (.str (cutS z lo hi)) H
theorem isPart_val {v : Value} {o : Option Int} (h : IsPart v o) : ∃ l : Option (Int × Tok), v = partValue l ∧ l.map (·.1) = o := by
  cases h with
  | none => exact ⟨none, rfl, rfl⟩
  | int i t => exact ⟨some (i, t), rfl, rfl⟩
theorem sl_str : SlR X rSlS := by
  intro pins s σ H x v vl vu lo hi sl Q I rx hs pl pu h
  obtain ⟨z, rfl, hz, q⟩ := h
  obtain ⟨t, rfl⟩ := rx
  obtain ⟨l, rfl, rfl⟩ := isPart_val pl
  obtain ⟨u, rfl, rfl⟩ := isPart_val pu
  refine ⟨"str", _, slot_str_getitem.lookup, typeIs_str s z t, ?_⟩
  refine wpAny_getItem_str_slice (l := l) (u := u) (st := none) hs rfl ?_
  unfold sliceMade
  by_cases hc : (((none : Option (Int × Tok)).map (·.1)).getD 1 == 1 && (slicePicked z l u none).length == z.length) = true
  · rw [if_pos hc]
    have e : cutS z (l.map (·.1)) (u.map (·.1)) = z := by
      refine cutS_whole ?_
      rw [Y04] at hc
      exact eq_of_beq hc.2
    rw [e] at q
    exact ⟨.str z, H, I, ⟨_, rfl⟩, q⟩
  · rw [if_neg hc]
    have e : (⟨((slicePicked z l u none).filterMap (z.cps[·]?)).toArray⟩ : Str) = cutS z (l.map (·.1)) (u.map (·.1)) := by
      have := strPick_cut z (l.map (·.1)) (u.map (·.1))
      unfold slicePicked
      rw [show ((none : Option (Int × Tok)).map (·.1)).getD 1 = (1 : Int) from rfl, this]
    rw [e]
    exact ⟨Y0D (cutS_len _ _ _) hz, .str _, H, I.tok _, ⟨_, rfl⟩, q⟩
end
end L2
namespace L2
open PySem PySem.Spec PyProof.Rows
theorem vals_at : ∀ {xs : List V} {vs : List Value}, xs.length = vs.length → (∀ (j : Nat) x v, xs[j]? = some x → vs[j]? = some v → RelV x v) → Vals xs vs
  | [], [], _, _ => .nil
  | [], _ :: _, h, _ => by cases h
  | _ :: _, [], h, _ => by cases h
  | x :: xs, v :: vs, h, r => .cons (r 0 x v rfl rfl) (vals_at (by simpa using h) λj a b ha hb => r (j + 1) a b (by simpa using ha) (by simpa using hb))
theorem items_range {acc : Array Value} {n : Nat} (h : ItemsOf (λi v => ∃ t, v = .int (0 + i * 1) t) acc n) : Vals ((Y0z n).map λi => V.int (i : Nat)) acc.toList := by
  refine vals_at (by rw [Y05, Y1x, Y0y]; exact h.1.symm) λj x v hx hv => ?_
  obtain ⟨t, rfl⟩ := h.2 j v (by simpa using hv)
  rw [Y0d] at hx
  cases e : (Y0z n)[j]? with
  | none => rw [e] at hx; cases hx
  | some k =>
    rw [e] at hx
    have hk : k = j := by
      have := Y0j.mp e
      obtain ⟨_, z⟩ := this
      simpa using z.symm
    subst hk
    cases hx
    exact ⟨t, by rw [Int.zero_add, Int.mul_one]⟩
section
variable {X : Cx} {tg : Expr}
theorem call_lrng (hcalm : X.calm = true) : Call2 X (.type "list") (.type "range") (fun x H Q => ∃ n : Nat, x = .int n ∧ n ≤ 1000000 ∧ ∀ p, H p = none → Q (.ref p) (upd H p (.lst ((Y0z n).map fun i => V.int (i : Nat))))) := by
  intro pins s σ H x u Q I rx h
  obtain ⟨n, rfl, hn, q⟩ := h
  obtain ⟨t, rfl⟩ := rx
  refine call_range_1 ?_
  have hl : ((Y0z n).map λi => V.int (i : Nat)).length ≤ sizeLine := by rw [Y05, Y1x]; exact Y0D hn (by decide)
  have hh := I.ok.hd hcalm
  refine call_list_range (n := n) hh (Y2Y ..) ?_ ?_ (by lia) λh' tk acc' c' kp e it => ?_
  · exact small_one (by decide) (by decide) (by lia) (by lia)
  · rw [rangeSize_one]; split <;> lia
  have I1 := I.kept (h' := s.heap.push { cls := .type "range", data := .fields #[.int 0 s.toks, .int (n : Int) t, .int 1 (s.toks + 1)] }) (t' := s.toks + 1 + 1) fun b o e => Y02 _ e
  exact ⟨.ref _, _, I1.laid (t' := tk) kp (Y07 _) (show ObjOk X.prog X.w _ h' _ (.lst ((Y0z n).map λi => V.int (i : Nat))) from ⟨hl, acc'.toList, c', items_range it, by simpa using e⟩), rfl, q _ (I1.hok.fresh (Y07 _))⟩
theorem pe_call2T {x y : Str} {id T : String} {r : V → Hp → VK → Prop} {e : Expr} {t : TE} {p p' pos pos' : Pos} (hc : Call2 X (.type id) (.type T) r)
    (hg : Gl X x) (hm : X.mg x = none) (hv : bootBuiltins x = some (.type id)) (hg' : Gl X y) (hm' : X.mg y = none) (hv' : bootBuiltins y = some (.type T)) (ha : PE X e t)
    (hn : x ≠ "__name__") (hdb : (x == ("__debug__" : Str)) = false) (hn' : y ≠ "__name__") (hdb' : (y == ("__debug__" : Str)) = false)
    (he : starEach [e] X.env = (false, eval e X.env) :: starEach [] X.env) :
    PE X (.Call (.Name x p) [.Call (.Name y p') [e] [] pos'] [] pos) (λσ H Q => t σ H λv H1 => r v H1 Q) := by
  intro pins s σ H Q I h
  refine wpAny_Call_Name_kw (ld_blt I hg hm hv ?_ hn hdb)
  refine Y0s ?_ rfl rfl
  show wpAny _ _ (spliced ((false, eval (.Call (.Name y p') [e] [] pos') X.env) :: backTo pos (starEach [] X.env))) _ _ s
  refine Y1h ?_
  refine wpAny_Call_Name_kw (ld_blt I hg' hm' hv' ?_ hn' hdb')
  refine Y0s ?_ he rfl
  rw [he]
  show wpAny _ _ (spliced ((false, eval e X.env) :: backTo pos' (starEach [] X.env))) _ _ s
  refine Y1h (thn (ha pins s σ H _ I h) λu s1 ⟨v, H1, I1, r1, q1⟩ => ?_)
  refine Y1l ?_
  exact thn (hc pins s1 σ H1 v u Q I1 r1 q1) λu2 s2 q2 => Y1l q2
noncomputable def Itrs (lo st : Int) (n : Nat) : It := ⟨λi _ => i < n, λi H x H' => H' = H ∧ x = .int (lo + i * st), λi _ => n ≤ i⟩
theorem turn_rangeS {P : Program} {w : World} {K : Y00} {tg : Expr} (it : Addr) (lo sp : Int) (n : Nat) : Turn P w K tg (Itrs lo sp n) [it] it (λi h => IsRangeIter h it (lo + (i : Nat) * sp) ((n : Int) - (i : Nat)) sp) where
  mem := by simp
  obj := λi h st b hb => by
    have e : b = it := by simpa using hb
    subst e
    exact ⟨_, st, λv z => by
      have z' : Y1G _ = Data.cell v := z
      cases z'⟩
  keep := λi h h' st k => k it (by simp) _ st
  item := by
    intro X hP hw hK hc i pins s σ H E I hf st hg
    subst hP hw hK
    obtain ⟨f0, f1, f2, f3, f4, f5⟩ := hf it (by simp)
    have W := Walks.range (prog := X.prog) (w := X.w) (I.ok.hd hc) it lo sp n
    refine W.item i s _ _ hg st λv h' tk hv st' kk => ?_
    obtain ⟨t, rfl⟩ := hv
    have I1 : Inv X pins σ H { s with heap := h', toks := tk } := I.turned (λb o hb e => kk b o (by simpa using hb) e) f0 f1 f3 f4 f5
    exact ⟨_, rfl, go_of (s := { s with heap := h', toks := tk }) (n := "range_iterator") st' rfl rfl (by decide) ⟨.int (lo + i * sp), H, I1, ⟨t, rfl⟩, ⟨rfl, rfl⟩, st', fun b hb => (hf b hb).1⟩⟩
  done := by
    intro X hP hw hK hc i pins s σ H E I hf st hg
    subst hP hw hK
    obtain ⟨f0, f1, f2, f3, f4, f5⟩ := hf it (by simp)
    exact wpAny_pyNext_range_end (I.ok.hd hc) st (by have : n ≤ i := hg; lia) λh' eb => ⟨rfl, I.turned (t' := s.toks) (λb o hb e => eb b o hb e) f0 f1 f3 f4 f5⟩
  self := λ_ _ _ _ _ st h => wpAny_pyIter_rangeiter st h
noncomputable def len2 (lo hi : Int) : Nat := (Y0K lo hi 2).toNat
theorem size2 (lo hi : Int) : ((len2 lo hi : Nat) : Int) = Y0K lo hi 2 := by
  unfold len2 Y0K
  simp only [show (2 : Int) > 0 by decide, if_true]
  split <;> lia
theorem small_two {a b : Int} (ha : 0 ≤ a) (ha' : a < 2 ^ 60) (hb : 0 ≤ b) (hb' : b < 2 ^ 60) : Y2L a b 2 = true := by
  unfold Y2L Y0K
  simp only [Builtin.Range.rangeFitsLong, Y04, Bool.or_eq_true, decide_eq_true_eq, beq_iff_eq, show (2 : Int) > 0 by decide, if_true]
  split <;> lia
theorem range_it2 {pins : List (Addr × Obj)} {σ : St} {H : Hp} {s : Shared} {R : It → Hp → Prop} {E : Value → Shared → Prop} {lo hi : Int} {t u v : Tok} {tk : Nat} (I : Inv X pins σ H s) (h1 : 0 ≤ lo) (h2 : lo < 2 ^ 60) (h3 : 0 ≤ hi) (h4 : hi < 2 ^ 60)
    (q : R (Itrs lo 2 (len2 lo hi)) H) : wpAny (model X.prog X.w) X.A (pyIter (.ref s.heap.objs.size)) (PIE X pins σ tg R) E { s with heap := s.heap.push { cls := .type "range", data := .fields #[.int lo t, .int hi u, .int 2 v] }, toks := tk } := by
  refine wpAny_pyIter_range (Y2Y ..) (small_two h1 h2 h3 h4) ?_
  have I1 : Inv X pins σ H { s with heap := s.heap.push { cls := .type "range", data := .fields #[.int lo t, .int hi u, .int 2 v] }, toks := tk } := I.kept fun b o e => Y02 _ e
  refine ⟨(s.heap.push { cls := .type "range", data := .fields #[.int lo t, .int hi u, .int 2 v] }).objs.size, [(s.heap.push { cls := .type "range", data := .fields #[.int lo t, .int hi u, .int 2 v] }).objs.size], _, _, H, rfl,
    I1.kept (t' := tk) λb o e => Y02 _ e, turn_rangeS _ lo 2 (len2 lo hi), ?_, λb hb => ?_, q⟩
  · have e1 : lo + ((0 : Nat) : Int) * 2 = lo := by simp
    have e2 : ((len2 lo hi : Nat) : Int) - ((0 : Nat) : Int) = Y0K lo hi 2 := by rw [size2]; simp
    show IsRangeIter _ _ (lo + ((0 : Nat) : Int) * 2) (((len2 lo hi : Nat) : Int) - ((0 : Nat) : Int)) 2
    rw [e1, e2]
    exact Y09 _ rfl
  · have e : b = (s.heap.push { cls := .type "range", data := .fields #[.int lo t, .int hi u, .int 2 v] }).objs.size := by simpa using hb
    subst e
    exact I1.fpOk (Y07 _) (I1.hok.fresh (Y07 _))
noncomputable def iRng3 (ta : TA) : TI := λσ H R => ta σ H λvs H1 => ∃ i j : Int, vs = [.int i, .int j, .int 2] ∧ (0 ≤ i ∧ i < 2 ^ 60 ∧ 0 ≤ j ∧ j < 2 ^ 60) ∧ R (Itrs i 2 (len2 i j)) H1
theorem pi_range3 {a b c : Expr} {ta : TA} {p pos : Pos} (hg : Gl X "range") (hm : X.mg "range" = none) (ha : PA X [a, b, c] ta) (hs : starEach [a, b, c] X.env = [(false, eval a X.env), (false, eval b X.env), (false, eval c X.env)] := by rfl) (hs2 : starEach [b, c] X.env = [(false, eval b X.env), (false, eval c X.env)] := by rfl) :
    PI X tg (.Call (.Name "range" p) [a, b, c] [] pos) (iRng3 ta) := by
  intro pins s σ H R I h
  refine Call_ (ld_blt I hg hm boot_range (Y0s (thn (ha pos pins s σ H _ I h) λus s1 ⟨vs, H1, I1, r1, q1⟩ => ?_) (by rw [hs, hs2]) (by rw [hs2]; rfl)))
  obtain ⟨i, j, e, ⟨q1, q2, q3, q4⟩, q⟩ := q1
  subst e
  cases r1 with
  | cons r rr =>
    cases rr with
    | cons r' rr =>
      cases rr with
      | cons r'' rr =>
        cases rr
        obtain ⟨t, rfl⟩ := r
        obtain ⟨t', rfl⟩ := r'
        obtain ⟨t'', rfl⟩ := r''
        exact call_range_3 (by decide) (range_it2 (tk := s1.toks) I1 q1 q2 q3 q4 q) (.inl (PyProof.noPylong_small (by decide)))
end
end L2
namespace L2
open PySem PySem.Spec PyProof.Rows
section
variable {prog : Program} {w : World} {A : Around} {R : Result → Shared → Prop} {I : Addr} {fp wr : List Addr} {n : Nat} {P : Nat → Value → Prop} {St : Nat → Heap → Prop}
end
section
variable {prog : Program} {w : World} {A : Around} {E : Value → Shared → Prop} {s : Shared}
end
section
variable {X : Cx} {x k : Str} {p pos kp : Pos} {e e0 : Expr} {te : TE}
end
end L2
namespace HT
open PySem PySem.Spec PyProof.Rows
section
variable {prog : Program} {w : World} {A : Around} {E : Value → Shared → Prop} {s : Shared}
theorem tup_whole {t sl : Addr} {items : Array Value} {vl vu : Value} {lo hi : Option Int} {Q : Value → Shared → Prop} (ht : IsTup s.heap t items) (hs : s.heap.IsSliceOf sl vl vu .none) (pl : IsPart vl lo) (pu : IsPart vu hi)
    (h0 : sIx items.size 0 lo = 0) (h1 : sIx items.size items.size hi = items.size) (h : Q (.ref t) s) : wpAny (model prog w) A (getItem (.ref t) (.ref sl)) Q E s := by
  obtain ⟨os, hos, hcs, hds⟩ := id hs
  have hTs : s.TypeIs (.ref sl) "slice" := ⟨os, hos, hcs⟩
  have hT := ht.typeIs
  unfold getItem
  try with_reducible refine wpAny_holding ?_
  first | refine wpAny_bind (wpAny_pure ?_) | skip
  refine wpAny_bind (wpAny_sequenceKey hT (by decide) ?_)
  refine wpAny_bind (wpAny_callSpecial?_slot (name := Y0V "__getitem__") hT Y0t (wpAny_call_entry Y0t hT entry_tuple_getitem ?_ (args_tuple_getitem _ _)))
  show wpAny _ _ (Y1M (.ref t) >>= _) _ _ s; refine wpAny_bind (tupleItemsOf_ ht ?_)
  refine wpAny_bind (wpAny_typeOf hTs ?_); rw [if_pos (by decide)]
  refine wpAny_bind (sliceApplied_gen hs pl pu ?_)
  rw [h0, h1]
  show wpAny _ _ (if (((0 : Nat) : Int) == 0 && (1 : Int) == 1 && (items.size - 0) == items.size) = true then _ else _) _ _ s
  rw [if_pos (by simp)]
  refine wpAny_bind ?_
  show wpAny _ _ (Y1O (.ref t)) _ _ s
  unfold Y1O
  refine wpAny_bind (wpAny_typeOf hT (wpAny_pure ?_))
  rw [if_pos (by decide)]
  exact wpAny_bind (wpAny_rule (wpAny_pure ⟨_, rfl, wpAny_pure h⟩))
end
end HT
namespace L2
open PySem PySem.Spec PyProof.Rows
section
variable {X : Cx}
noncomputable def rSlW (K : Y00) : V → Option Int → Option Int → Hp → VK → Prop := λx lo hi H Q => ∃ a xs, x = .ref a ∧ SqT K H a xs ∧ HT.sIx xs.length 0 lo = 0 ∧ HT.sIx xs.length xs.length hi = xs.length ∧ Q (.ref a) H
theorem sl_tupW : SlR X (rSlW X.K) := by
  intro pins s σ H x v vl vu lo hi sl Q I rx hs pl pu h
  obtain ⟨a, xs, rfl, hx, h0, h1, q⟩ := h
  cases rx
  obtain ⟨its, r, ht, hz⟩ := I.tuple hx
  have hlen : its.toArray.size = xs.length := by rw [Y06]; exact r.length.symm
  refine ⟨"tuple", _, Y0t.lookup, ht.typeIs, ?_⟩
  exact HT.tup_whole ht hs pl pu (by rw [hlen]; exact h0) (by rw [hlen]; exact h1) ⟨.ref a, H, I, rfl, q⟩
end
end L2
namespace L2
open PySem PySem.Spec PyProof.Rows
noncomputable def st3 {α : Type} (xs : List α) : List α := (Y0z ((xs.length + 2) / 3)).filterMap λk => xs[3 * k]?
section
variable {X : Cx} {e e3 : Expr} {te : TE} {p2 pos : Pos}
end
end L2
namespace L2
open PySem PySem.Spec PyProof.Rows
section
variable {X : Cx}
end
end L2
namespace L2
open PySem PySem.Spec PyProof.Rows
inductive Ty7 where | int | bool | str | list | tuple | dict | none
  deriving DecidableEq
noncomputable def Ty7.name : Ty7 → String
  | .int => "int" | .bool => "bool" | .str => "str" | .list => "list" | .tuple => "tuple" | .dict => "dict" | .none => "NoneType"
inductive MV where
  | non | bl (b : Bool) | int (i : Int) | str (x : Str) | tup (xs : List MV) | frl (xs : List MV) | ref (a : Addr) | ty (n : Ty7)
noncomputable def isFix : HO → Bool
  | .tup _ => true
  | .frz _ (.lst _) => true
  | _ => false
noncomputable def Kp (H H' : Hp) : Prop := ∀ a o, H a = some o → isFix o = true → H' a = some o
theorem Kp.refl (H : Hp) : Kp H H := λ_ _ h _ => h
theorem Kp.trans {H H1 H2 : Hp} (a : Kp H H1) (b : Kp H1 H2) : Kp H H2 := λc o h f => b c o (a c o h f) f
theorem Kp.new {H : Hp} {p : Addr} (h : H p = none) (o : HO) : Kp H (upd H p o) := λa u e _ => by rw [upd_ne (ne_of_none e h)]; exact e
theorem Kp.upd {H : Hp} {p : Addr} {o : HO} (h : H p = some o) (f : isFix o = false) (o' : HO) : Kp H (upd H p o') := λa u e g => by
  rw [upd_ne (ne_of e h (by intro z; rw [z, f] at g; cases g))]; exact e
noncomputable def FrL (K : Y00) (H : Hp) (a : Addr) (vs : List V) : Prop := (∃ o, H a = some (.frz o (.lst vs))) ∨
  ∃ (o : Obj) (its : Array Value) (n : Nat), K.lookup a = some o ∧ o.cls = .type "list" ∧ o.dict = none ∧ o.data = .seq its n ∧ its.size ≤ sizeLine ∧ Vals vs its.toList
theorem FrL.sq {K : Y00} {H : Hp} {a : Addr} {vs : List V} (h : FrL K H a vs) : SqL K H a vs := by
  rcases h with ⟨o, h⟩ | h
  · exact .inl (.inr ⟨o, h⟩)
  · exact .inr h
mutual
inductive RM (K : Y00) (H : Hp) : MV → V → Prop
  | non : RM K H .non .non
  | bl (b : Bool) : RM K H (.bl b) (.bl b)
  | int (i : Int) : RM K H (.int i) (.int i)
  | str (x : Str) : RM K H (.str x) (.str x)
  | ref (a : Addr) : RM K H (.ref a) (.ref a)
  | ty (n : Ty7) : RM K H (.ty n) (.ty n.name)
  | tup {a : Addr} {xs : List MV} {vs : List V} : H a = some (.tup vs) → RMs K H xs vs → RM K H (.tup xs) (.ref a)
  | frl {a : Addr} {xs : List MV} {vs : List V} : FrL K H a vs → RMs K H xs vs → RM K H (.frl xs) (.ref a)
inductive RMs (K : Y00) (H : Hp) : List MV → List V → Prop
  | nil : RMs K H [] []
  | cons {x : MV} {v : V} {xs : List MV} {vs : List V} : RM K H x v → RMs K H xs vs → RMs K H (x :: xs) (v :: vs)
end
mutual
theorem RM.mono {K : Y00} {H H' : Hp} (k : Kp H H') : ∀ {m : MV} {v : V}, RM K H m v → RM K H' m v
  | _, _, .non => .non
  | _, _, .bl b => .bl b
  | _, _, .int i => .int i
  | _, _, .str x => .str x
  | _, _, .ref a => .ref a
  | _, _, .ty n => .ty n
  | _, _, .tup h r => .tup (k _ _ h rfl) (RMs.mono k r)
  | _, _, .frl h r => .frl (by
      rcases h with ⟨o, h⟩ | h
      · exact .inl ⟨o, k _ _ h rfl⟩
      · exact .inr h) (RMs.mono k r)
theorem RMs.mono {K : Y00} {H H' : Hp} (k : Kp H H') : ∀ {m : List MV} {v : List V}, RMs K H m v → RMs K H' m v
  | _, _, .nil => .nil
  | _, _, .cons a b => .cons (RM.mono k a) (RMs.mono k b)
end
theorem RMs.length {K : Y00} {H : Hp} : ∀ {m : List MV} {v : List V}, RMs K H m v → m.length = v.length
  | _, _, .nil => rfl
  | _, _, .cons _ b => by rw [Y0r, Y0r, b.length]
theorem RMs.get {K : Y00} {H : Hp} : ∀ {m : List MV} {v : List V} {i : Nat} {x : MV}, RMs K H m v → m[i]? = some x → ∃ u, v[i]? = some u ∧ RM K H x u
  | _, _, _, _, .nil, e => by simp at e
  | _, _, 0, _, .cons r _, e => by simp at e; subst e; exact ⟨_, rfl, r⟩
  | _, _, i + 1, x, .cons _ t, e => by
    obtain ⟨u, h1, h2⟩ := RMs.get (i := i) (x := x) t (by simpa using e)
    exact ⟨u, by simpa using h1, h2⟩
theorem RMs.get' {K : Y00} {H : Hp} : ∀ {m : List MV} {v : List V} {i : Nat} {u : V}, RMs K H m v → v[i]? = some u → ∃ x, m[i]? = some x ∧ RM K H x u
  | _, _, _, _, .nil, e => by simp at e
  | _, _, 0, _, .cons r _, e => by simp at e; subst e; exact ⟨_, rfl, r⟩
  | _, _, i + 1, x, .cons _ t, e => by
    obtain ⟨u, h1, h2⟩ := RMs.get' (i := i) (u := x) t (by simpa using e)
    exact ⟨u, by simpa using h1, h2⟩
theorem RMs.append {K : Y00} {H : Hp} : ∀ {m m' : List MV} {v v' : List V}, RMs K H m v → RMs K H m' v' → RMs K H (m ++ m') (v ++ v')
  | _, _, _, _, .nil, s => s
  | _, _, _, _, .cons r t, s => .cons r (t.append s)
theorem RMs.take {K : Y00} {H : Hp} : ∀ {m : List MV} {v : List V} (n : Nat), RMs K H m v → RMs K H (m.take n) (v.take n)
  | _, _, 0, _ => .nil
  | _, _, _ + 1, .nil => .nil
  | _, _, n + 1, .cons r t => .cons r (t.take n)
theorem RMs.drop {K : Y00} {H : Hp} : ∀ {m : List MV} {v : List V} (n : Nat), RMs K H m v → RMs K H (m.drop n) (v.drop n)
  | _, _, 0, r => r
  | _, _, _ + 1, .nil => .nil
  | _, _, n + 1, .cons _ t => t.drop n
theorem RMs.set {K : Y00} {H : Hp} {x : MV} {u : V} (r : RM K H x u) : ∀ {m : List MV} {v : List V} (i : Nat), RMs K H m v → RMs K H (m.set i x) (v.set i u)
  | _, _, _, .nil => .nil
  | _, _, 0, .cons _ t => .cons r t
  | _, _, i + 1, .cons q t => .cons q (t.set r i)
theorem RMs.ints {K : Y00} {H : Hp} : ∀ ns : List Int, RMs K H (ns.map MV.int) (ns.map V.int)
  | [] => .nil
  | n :: r => .cons (.int n) (RMs.ints r)
theorem RMs.ints_of {K : Y00} {H : Hp} : ∀ {ns : List Int} {vs : List V}, RMs K H (ns.map MV.int) vs → vs = ns.map V.int
  | [], _, .nil => rfl
  | n :: r, _, .cons (.int _) t => by rw [t.ints_of]; rfl
inductive MO where
  | lst (xs : List MV) | dic (kvs : List (Key × MV)) | ins (c : Str) (fs : List (Str × MV))
  | fdic (o : Obj) (kvs : List (Key × MV))
noncomputable abbrev MH := Addr → Option MO
noncomputable def updM (M : MH) (a : Addr) (o : MO) : MH := λb => if b = a then some o else M b
theorem updM_same {M : MH} {a : Addr} {o : MO} : updM M a o a = some o := by unfold updM; rw [if_pos rfl]
theorem updM_ne {M : MH} {a b : Addr} {o : MO} (h : b ≠ a) : updM M a o b = M b := by unfold updM; rw [if_neg h]
inductive RKs {κ : Type} (K : Y00) (H : Hp) : List (κ × MV) → List (κ × V) → Prop
  | nil : RKs K H [] []
  | cons {k : κ} {x : MV} {v : V} {xs : List (κ × MV)} {vs : List (κ × V)} : RM K H x v → RKs K H xs vs → RKs K H ((k, x) :: xs) ((k, v) :: vs)
theorem RKs.mono {κ : Type} {K : Y00} {H H' : Hp} (k : Kp H H') : ∀ {m : List (κ × MV)} {v : List (κ × V)}, RKs K H m v → RKs K H' m v
  | _, _, .nil => .nil
  | _, _, .cons a b => .cons (a.mono k) (b.mono k)
theorem RKs.length {κ : Type} {K : Y00} {H : Hp} : ∀ {m : List (κ × MV)} {v : List (κ × V)}, RKs K H m v → m.length = v.length
  | _, _, .nil => rfl
  | _, _, .cons _ b => by rw [Y0r, Y0r, b.length]
section
variable {κ : Type} [DecidableEq κ]
noncomputable def valM (kvs : List (κ × MV)) (k : κ) : Option MV := match kvs with
  | [] => none
  | (j, v) :: r => if j = k then some v else valM r k
noncomputable def putM (kvs : List (κ × MV)) (k : κ) (v : MV) : List (κ × MV) := match kvs with
  | [] => [(k, v)]
  | (j, u) :: r => if j = k then (j, v) :: r else (j, u) :: putM r k v
end
noncomputable def RO (K : Y00) (H : Hp) : MO → HO → Prop
  | .lst xs, .lst vs => RMs K H xs vs
  | .dic kvs, .dK vs => RKs K H kvs vs ∧ (kvs.map (·.1)).Nodup
  | .ins c fs, .ins C _ vs => Y0f K mainGlobals c = some (some (.ref C)) ∧ RKs K H fs vs
  | .fdic o kvs, .frz o' (.dK vs) => o = o' ∧ RKs K H kvs vs ∧ (kvs.map (·.1)).Nodup
  | _, _ => False
theorem RO.mono {K : Y00} {H H' : Hp} (k : Kp H H') {o : MO} {u : HO} (h : RO K H o u) : RO K H' o u := by
  cases o with
  | lst xs => cases u <;> first | exact RMs.mono k h | exact h.elim
  | dic kvs => cases u <;> first | exact ⟨h.1.mono k, h.2⟩ | exact h.elim
  | ins c fs => cases u <;> first | exact ⟨h.1, h.2.mono k⟩ | exact h.elim
  | fdic ob kvs =>
    cases u with
    | frz o' u => cases u <;> first | exact ⟨h.1, h.2.1.mono k, h.2.2⟩ | exact h.elim
    | _ => exact h.elim
noncomputable def RH (K : Y00) (M : MH) (H : Hp) : Prop := ∀ a o, M a = some o → ∃ u, H a = some u ∧ RO K H o u
theorem RH.free {K : Y00} {M : MH} {H : Hp} (r : RH K M H) {p : Addr} (h : H p = none) : M p = none := by
  cases e : M p with
  | none => rfl
  | some o => obtain ⟨u, hu, _⟩ := r p o e; rw [hu] at h; cases h
theorem RH.lst {K : Y00} {M : MH} {H : Hp} (r : RH K M H) {p : Addr} {xs : List MV} (h : M p = some (.lst xs)) : ∃ vs, H p = some (.lst vs) ∧ RMs K H xs vs := by
  obtain ⟨u, hu, ro⟩ := r p _ h
  cases u <;> try exact ro.elim
  exact ⟨_, hu, ro⟩
theorem RH.dic {K : Y00} {M : MH} {H : Hp} (r : RH K M H) {p : Addr} {xs : List (Key × MV)} (h : M p = some (.dic xs)) : ∃ vs, H p = some (.dK vs) ∧ RKs K H xs vs ∧ (xs.map (·.1)).Nodup := by
  obtain ⟨u, hu, ro⟩ := r p _ h
  cases u <;> try exact ro.elim
  exact ⟨_, hu, ro.1, ro.2⟩
theorem RH.fdic {K : Y00} {M : MH} {H : Hp} (r : RH K M H) {p : Addr} {o : Obj} {xs : List (Key × MV)} (h : M p = some (.fdic o xs)) : ∃ vs, H p = some (.frz o (.dK vs)) ∧ RKs K H xs vs ∧ (xs.map (·.1)).Nodup := by
  obtain ⟨u, hu, ro⟩ := r p _ h
  cases u with
  | frz o' u =>
    cases u <;> try exact ro.elim
    obtain ⟨rfl, r1, r2⟩ := ro
    exact ⟨_, hu, r1, r2⟩
  | _ => exact ro.elim
theorem RH.ins {K : Y00} {M : MH} {H : Hp} (r : RH K M H) {p : Addr} {c : Str} {fs : List (Str × MV)} (h : M p = some (.ins c fs)) : ∃ C dx vs, H p = some (.ins C dx vs) ∧ Y0f K mainGlobals c = some (some (.ref C)) ∧ RKs K H fs vs := by
  obtain ⟨u, hu, ro⟩ := r p _ h
  cases u <;> try exact ro.elim
  exact ⟨_, _, _, hu, ro.1, ro.2⟩
theorem RH.put {K : Y00} {M : MH} {H : Hp} (r : RH K M H) {p : Addr} {u : HO} {o : MO} (k : Kp H (upd H p u)) (ro : RO K (upd H p u) o u) : RH K (updM M p o) (upd H p u) := by
  intro a o' e
  by_cases h : a = p
  · subst h
    rw [updM_same] at e
    cases e
    exact ⟨u, upd_same, ro⟩
  · rw [updM_ne h] at e
    obtain ⟨v, hv, rv⟩ := r a o' e
    exact ⟨v, by rw [upd_ne h]; exact hv, rv.mono k⟩
theorem RH.kept {K : Y00} {M : MH} {H : Hp} (r : RH K M H) {p : Addr} (hp : H p = none) (u : HO) : RH K M (upd H p u) := by
  intro a o' e
  obtain ⟨v, hv, rv⟩ := r a o' e
  exact ⟨v, by rw [upd_ne (ne_of_none hv hp)]; exact hv, rv.mono (Kp.new hp u)⟩
noncomputable abbrev Sm := List (Option MV)
noncomputable abbrev QM := MV → MH → Prop
noncomputable abbrev TEm := Sm → MH → QM → Prop
noncomputable abbrev TAm := Sm → MH → (List MV → MH → Prop) → Prop
noncomputable def RS (K : Y00) (H : Hp) (σm : Sm) (σ : St) : Prop := σm.length = σ.length ∧ ∀ (i : Nat) (m : MV), σm[i]? = some (some m) → ∃ v, σ[i]? = some (some v) ∧ RM K H m v
theorem RS.mono {K : Y00} {H H' : Hp} (k : Kp H H') {σm : Sm} {σ : St} (h : RS K H σm σ) : RS K H' σm σ := ⟨h.1, λi m e => by
  obtain ⟨v, hv, r⟩ := h.2 i m e
  exact ⟨v, hv, r.mono k⟩⟩
theorem RS.set {K : Y00} {H : Hp} {σm : Sm} {σ : St} (h : RS K H σm σ) {m : MV} {v : V} (r : RM K H m v) (i : Nat) : RS K H (σm.set i (some m)) (σ.set i (some v)) := by
  refine ⟨by simp [h.1], λj x e => ?_⟩
  rw [Y0I] at e
  by_cases hij : i = j
  · subst hij
    rw [if_pos rfl] at e
    split at e
    · cases e
      exact ⟨v, by rw [Y0I, if_pos rfl, if_pos (by rw [← h.1]; assumption)], r⟩
    · cases e
  · rw [if_neg hij] at e
    obtain ⟨u, hu, ru⟩ := h.2 j x e
    exact ⟨u, by rw [Y0I, if_neg hij]; exact hu, ru⟩
noncomputable def Dn (K : Y00) (H : Hp) (Q : VK) : QM := λm M => ∀ v H', Kp H H' → RM K H' m v → RH K M H' → Q v H'
theorem Dn.on {K : Y00} {H H1 : Hp} {Q : VK} (k : Kp H H1) {m : MV} {M : MH} (h : Dn K H Q m M) : Dn K H1 Q m M := λv H' k' r rh => h v H' (k.trans k') r rh
noncomputable def liE (K : Y00) (t : TEm) : TE := λσ H Q => ∃ σm M, RS K H σm σ ∧ RH K M H ∧ t σm M (Dn K H Q)
noncomputable def liA (K : Y00) (t : TAm) : TA := λσ H Q => ∃ σm M, RS K H σm σ ∧ RH K M H ∧ t σm M (λms M' => ∀ vs H', Kp H H' → RMs K H' ms vs → RH K M' H' → Q vs H')
noncomputable def MonE (t : TEm) : Prop := ∀ {σ M} {Q Q' : QM}, (∀ m M', Q m M' → Q' m M') → t σ M Q → t σ M Q'
noncomputable def MonA (t : TAm) : Prop := ∀ {σ M} {Q Q' : List MV → MH → Prop}, (∀ m M', Q m M' → Q' m M') → t σ M Q → t σ M Q'
noncomputable abbrev W1 := MV → MH → QM → Prop
noncomputable abbrev W2 := MV → MV → MH → QM → Prop
noncomputable abbrev WA := List MV → MH → QM → Prop
noncomputable def Mon1 (w : W1) : Prop := ∀ {x M} {Q Q' : QM}, (∀ m M', Q m M' → Q' m M') → w x M Q → w x M Q'
noncomputable def Mon2 (w : W2) : Prop := ∀ {x y M} {Q Q' : QM}, (∀ m M', Q m M' → Q' m M') → w x y M Q → w x y M Q'
noncomputable def MonW (w : WA) : Prop := ∀ {xs M} {Q Q' : QM}, (∀ m M', Q m M' → Q' m M') → w xs M Q → w xs M Q'
noncomputable def li1 (K : Y00) (w : W1) : V → Hp → VK → Prop := λx H Q => ∃ mx M, RM K H mx x ∧ RH K M H ∧ w mx M (Dn K H Q)
noncomputable def li2 (K : Y00) (w : W2) : R2 := λx y H Q => ∃ mx my M, RM K H mx x ∧ RM K H my y ∧ RH K M H ∧ w mx my M (Dn K H Q)
noncomputable def liW (K : Y00) (w : WA) : List V → Hp → VK → Prop := λxs H Q => ∃ ms M, RMs K H ms xs ∧ RH K M H ∧ w ms M (Dn K H Q)
section
variable {K : Y00}
theorem li_op {ta tb : TEm} {w : W2} (ma : MonE ta) (mb : MonE tb) (mw : Mon2 w) {σ : St} {H : Hp} {Q : VK}
    (h : liE K (λσ M Q => ta σ M λx M1 => tb σ M1 λy M2 => w x y M2 Q) σ H Q) : tOp (li2 K w) (liE K ta) (liE K tb) σ H Q := by
  obtain ⟨σm, M, rs, rh, h⟩ := h
  refine ⟨σm, M, rs, rh, ma (λx M1 h1 => ?_) h⟩
  intro v H1 k1 r1 rh1
  refine ⟨σm, M1, rs.mono k1, rh1, mb (λy M2 h2 => ?_) h1⟩
  intro u H2 k2 r2 rh2
  exact ⟨x, y, M2, r1.mono k2, r2, rh2, mw (λm M' hq => hq.on (k1.trans k2)) h2⟩
end
theorem PE.weak {X : Cx} {e : Expr} {t t' : TE} (h : PE X e t) (i : ∀ σ H Q, t' σ H Q → t σ H Q) : PE X e t' := λpins s σ H Q I q => h pins s σ H Q I (i _ _ _ q)
theorem PT.weak {X : Cx} {e : Expr} {t t' : TT} (h : PT X e t) (i : ∀ σ H Q, t' σ H Q → t σ H Q) : PT X e t' := λpins s σ H Q I q => h pins s σ H Q I (i _ _ _ q)
theorem PW.weak {X : Cx} {e : Expr} {t t' : TT} (h : PW X e t) (i : ∀ σ H Q, t' σ H Q → t σ H Q) : PW X e t' := λwh pins s σ H Q I q => h wh pins s σ H Q I (i _ _ _ q)
theorem PA.weak {X : Cx} {e : List Expr} {t t' : TA} (h : PA X e t) (i : ∀ σ H Q, t' σ H Q → t σ H Q) : PA X e t' := λpos pins s σ H Q I q => h pos pins s σ H Q I (i _ _ _ q)
theorem PS.weak {X : Cx} {e : Stmt} {t t' : TS} (h : PS X e t) (i : ∀ D σ H, t' D σ H → t D σ H) : PS X e t' := λpins s σ H D I q => h pins s σ H D I (i _ _ _ q)
theorem PSs.weak {X : Cx} {e : List Stmt} {t t' : TS} (h : PSs X e t) (i : ∀ D σ H, t' D σ H → t D σ H) : PSs X e t' := λpins s σ H D I q => h pins s σ H D I (i _ _ _ q)
end L2
namespace L2
open PySem PySem.Spec PyProof.Rows
noncomputable def wBin (op : Operator) (x y : MV) (M : MH) (Q : QM) : Prop := match op, x, y with
  | .Add, .int i, .int j => Q (.int (i + j)) M
  | .Sub, .int i, .int j => Q (.int (i - j)) M
  | .Mult, .int i, .int j => CMul i j ∧ Q (.int (i * j)) M
  | .FloorDiv, .int i, .int j => CDivB i j ∧ Q (.int (i / j)) M
  | .Mod, .int i, .int j => 0 < j ∧ Q (.int (i % j)) M
  | .Pow, .int i, .int j => CPow i j ∧ Q (.int (i ^ j.toNat)) M
  | .BitAnd, .int i, .int j => Q (.int (Y2A i j)) M
  | .BitXor, .int i, .int j => Q (.int (Y2B i j)) M
  | .Add, .str i, .str j => i.length + j.length ≤ sizeLine ∧ Q (.str (i ++ j)) M
  | .Mult, .str z, .int i => z.length ≤ 16 ∧ -1000 ≤ i ∧ i ≤ 1000 ∧ Q (.str (Txt.mul z i)) M
  | .Add, .tup xs, .tup ys => xs ≠ [] ∧ xs.length + ys.length ≤ sizeLine ∧ Q (.tup (xs ++ ys)) M
  | .Add, .ref a, .ref b => ∃ xs ys, M a = some (.lst xs) ∧ M b = some (.lst ys) ∧ xs.length + ys.length ≤ sizeLine ∧ ∀ p, M p = none → Q (.ref p) (updM M p (.lst (xs ++ ys)))
  | .Add, .frl xs, .ref b => ∃ ys, M b = some (.lst ys) ∧ xs.length + ys.length ≤ sizeLine ∧ ∀ p, M p = none → Q (.ref p) (updM M p (.lst (xs ++ ys)))
  | .Mult, .tup xs, .int k => xs ≠ [] ∧ 1 ≤ k ∧ xs.length * k.toNat ≤ 1000000 ∧ Q (.tup (Y0c k.toNat xs).flatten) M
  | .Mult, .ref a, .int k => ∃ xs, M a = some (.lst xs) ∧ -(2 ^ 63) ≤ k ∧ k < 2 ^ 63 ∧ xs.length * k.toNat ≤ sizeLine ∧ ∀ p, M p = none → Q (.ref p) (updM M p (.lst (Y0c k.toNat xs).flatten))
  | _, _, _ => False
theorem mon_bin (op : Operator) : Mon2 (wBin op) := by
  intro x y M Q Q' hq h
  unfold wBin at h ⊢
  split at h
  all_goals first
    | exact hq _ _ h
    | exact h.elim
    | exact ⟨h.1, hq _ _ h.2⟩
    | exact ⟨h.1, h.2.1, hq _ _ h.2.2⟩
    | exact ⟨h.1, h.2.1, h.2.2.1, hq _ _ h.2.2.2⟩
    | (obtain ⟨xs, ys, h1, h2, h3, h4⟩ := h
       exact ⟨xs, ys, h1, h2, h3, λp hp => hq _ _ (h4 p hp)⟩)
    | (obtain ⟨ys, h2, h3, h4⟩ := h
       exact ⟨ys, h2, h3, λp hp => hq _ _ (h4 p hp)⟩)
    | (obtain ⟨ys, h2, h3, h4, h5, h6⟩ := h
       exact ⟨ys, h2, h3, h4, h5, λp hp => hq _ _ (h6 p hp)⟩)
theorem RMs.rep {K : Y00} {H : Hp} {xs : List MV} {vs : List V} (q : RMs K H xs vs) : ∀ k : Nat, RMs K H (Y0c k xs).flatten (Y0c k vs).flatten
  | 0 => .nil
  | k + 1 => by
    rw [Y0N, Y0N, Y1a, Y1a]
    exact q.append (q.rep k)
section
variable {X : Cx}
theorem op_bin (op : Operator) : OpR X (binaryOp op) (li2 X.K (wBin op)) := by
  intro pins s σ H x y v u Q I rx ry h
  obtain ⟨mx, my, M, r1, r2, rh, h⟩ := h
  unfold wBin at h
  split at h
  · cases r1; cases r2; exact op_add pins s σ H _ _ v u Q I rx ry ⟨_, _, rfl, rfl, h _ _ (Kp.refl _) (.int _) rh⟩
  · cases r1; cases r2; exact op_sub pins s σ H _ _ v u Q I rx ry ⟨_, _, rfl, rfl, h _ _ (Kp.refl _) (.int _) rh⟩
  · cases r1; cases r2; exact op_mul pins s σ H _ _ v u Q I rx ry ⟨_, _, rfl, rfl, h.1, h.2 _ _ (Kp.refl _) (.int _) rh⟩
  · cases r1; cases r2; exact op_fdivB pins s σ H _ _ v u Q I rx ry ⟨_, _, rfl, rfl, h.1, h.2 _ _ (Kp.refl _) (.int _) rh⟩
  · cases r1; cases r2; exact op_mod pins s σ H _ _ v u Q I rx ry ⟨_, _, rfl, rfl, h.1, h.2 _ _ (Kp.refl _) (.int _) rh⟩
  · cases r1; cases r2; exact op_pow pins s σ H _ _ v u Q I rx ry ⟨_, _, rfl, rfl, h.1, h.2 _ _ (Kp.refl _) (.int _) rh⟩
  · cases r1; cases r2; exact op_and pins s σ H _ _ v u Q I rx ry ⟨_, _, rfl, rfl, h _ _ (Kp.refl _) (.int _) rh⟩
  · cases r1; cases r2; exact op_xor pins s σ H _ _ v u Q I rx ry ⟨_, _, rfl, rfl, h _ _ (Kp.refl _) (.int _) rh⟩
  · cases r1; cases r2; exact op_add_str pins s σ H _ _ v u Q I rx ry ⟨_, _, rfl, rfl, h.1, h.2 _ _ (Kp.refl _) (.str _) rh⟩
  · cases r1; cases r2; exact op_mulS pins s σ H _ _ v u Q I rx ry ⟨_, _, rfl, rfl, h.1, h.2.1, h.2.2.1, h.2.2.2 _ _ (Kp.refl _) (.str _) rh⟩
  · rename_i xs ys
    cases r1 with
    | tup h1 q1 =>
      rename_i a vs
      cases r2 with
      | tup h2 q2 =>
        rename_i b us
        obtain ⟨h3, h4, h5⟩ := h
        refine op_catT pins s σ H _ _ v u Q I rx ry ⟨_, _, vs, us, rfl, rfl, SqT.of h1, SqT.of h2, λz => h3 ?_, by rw [← q1.length, ← q2.length]; exact h4, λz => ?_, λz p hp => ?_⟩
        · subst z; cases q1; rfl
        · subst z; cases q2
          rw [Y0X] at h5
          exact h5 _ _ (Kp.refl _) (.tup h1 q1) rh
        · have k := Kp.new hp (.tup (vs ++ us))
          exact h5 _ _ k (.tup upd_same ((q1.append q2).mono k)) (rh.kept hp _)
  · cases r1; cases r2
    obtain ⟨xs, ys, h1, h2, h3, h4⟩ := h
    obtain ⟨vs, e1, q1⟩ := rh.lst h1
    obtain ⟨us, e2, q2⟩ := rh.lst h2
    refine op_cat pins s σ H _ _ v u Q I rx ry ⟨_, _, vs, us, rfl, rfl, e1, e2, by rw [← q1.length, ← q2.length]; exact h3, λp hp => ?_⟩
    have k := Kp.new hp (.lst (vs ++ us))
    exact h4 p (rh.free hp) _ _ k (.ref p) (rh.put k ((q1.append q2).mono k))
  · cases r2
    cases r1 with
    | frl e1 q1 =>
      rename_i vs
      obtain ⟨ys, h2, h3, h4⟩ := h
      obtain ⟨us, e2, q2⟩ := rh.lst h2
      refine op_catS pins s σ H _ _ v u Q I rx ry ⟨_, _, vs, us, rfl, rfl, e1.sq, SqL.of e2, by rw [← q1.length, ← q2.length]; exact h3, λp hp => ?_⟩
      have k := Kp.new hp (.lst (vs ++ us))
      exact h4 p (rh.free hp) _ _ k (.ref p) (rh.put k ((q1.append q2).mono k))
  · rename_i xs k
    cases r2
    cases r1 with
    | tup h1 q1 =>
      rename_i a vs
      obtain ⟨h3, h4, h5, h6⟩ := h
      refine op_mulT pins s σ H _ _ v u Q I rx ry ⟨_, _, vs, rfl, rfl, SqT.of h1, λz => h3 ?_, h4, by rw [← q1.length]; exact h5, λz => ?_, λz p hp => ?_⟩
      · subst z; cases q1; rfl
      · subst z
        have e : (Y0c (1 : Int).toNat xs).flatten = xs := by simp
        rw [e] at h6
        exact h6 _ _ (Kp.refl _) (.tup h1 q1) rh
      · have kk := Kp.new hp (.tup (Y0c k.toNat vs).flatten)
        exact h6 _ _ kk (.tup upd_same ((q1.rep k.toNat).mono kk)) (rh.kept hp _)
  · rename_i a k
    cases r1; cases r2
    obtain ⟨xs, h1, h2, h3, h4, h5⟩ := h
    obtain ⟨vs, e1, q1⟩ := rh.lst h1
    refine op_rep pins s σ H _ _ v u Q I rx ry ⟨_, _, vs, rfl, rfl, e1, h2, h3, by rw [← q1.length]; exact h4, λp hp => ?_⟩
    have kk := Kp.new hp (.lst (Y0c k.toNat vs).flatten)
    exact h5 p (rh.free hp) _ _ kk (.ref p) (rh.put kk ((q1.rep k.toNat).mono kk))
  · exact h.elim
end
mutual
inductive DM (M : MH) : MV → PyData → Prop
  | non : DM M .non .none
  | bl (b : Bool) : DM M (.bl b) (.bool b)
  | int (i : Int) : DM M (.int i) (.int i)
  | str (x : Str) : DM M (.str x) (.str x)
  | lst {a : Addr} {xs : List MV} {ds : List PyData} : M a = some (.lst xs) → DMs M xs ds → DM M (.ref a) (.list ds)
  | frl {xs : List MV} {ds : List PyData} : DMs M xs ds → DM M (.frl xs) (.list ds)
  | tup {xs : List MV} {ds : List PyData} : DMs M xs ds → DM M (.tup xs) (.tuple ds)
inductive DMs (M : MH) : List MV → List PyData → Prop
  | nil : DMs M [] []
  | cons {x : MV} {xs : List MV} {d : PyData} {ds : List PyData} : DM M x d → DMs M xs ds → DMs M (x :: xs) (d :: ds)
end
mutual
theorem DM.dp {K : Y00} {M : MH} {H : Hp} (rh : RH K M H) : ∀ {m : MV} {d : PyData} {v : V}, DM M m d → RM K H m v → Dp K H v d
  | _, _, _, .non, .non => .non
  | _, _, _, .bl b, .bl _ => .bl b
  | _, _, _, .int i, .int _ => .int i
  | _, _, _, .str x, .str _ => .str x
  | _, _, _, .lst h q, r => by
    cases r
    obtain ⟨vs, e, r⟩ := rh.lst h
    exact .lst (SqL.of e) (DMs.dp rh q r)
  | _, _, _, .frl q, .frl h r => .lst h.sq (DMs.dp rh q r)
  | _, _, _, .tup q, .tup h r => .tup (SqT.of h) (DMs.dp rh q r)
theorem DMs.dp {K : Y00} {M : MH} {H : Hp} (rh : RH K M H) : ∀ {m : List MV} {d : List PyData} {v : List V}, DMs M m d → RMs K H m v → DpAll K H v d
  | _, _, _, .nil, .nil => .nil
  | _, _, _, .cons a b, .cons c d => .cons (DM.dp rh a c) (DMs.dp rh b d)
end
noncomputable def eqS : MV → MV → Option Bool
  | .int i, .int j => some (decide (i = j))
  | .str i, .str j => some (decide (i = j))
  | .bl i, .bl j => some (decide (i = j))
  | .non, .non => some true
  | .non, .int _ => some false | .int _, .non => some false | .non, .bl _ => some false | .bl _, .non => some false | .non, .str _ => some false | .str _, .non => some false
  | .int _, .str _ => some false | .str _, .int _ => some false | .bl _, .str _ => some false | .str _, .bl _ => some false
  | _, _ => none
theorem eqS_ok {K : Y00} {H : Hp} {x y : MV} {u v : V} {b : Bool} (h : eqS x y = some b) (r : RM K H x u) (q : RM K H y v) : scal u v = true ∧ decide (u = v) = b := by
  unfold eqS at h
  split at h <;> cases h <;> cases r <;> cases q <;> refine ⟨rfl, ?_⟩
  · rw [decide_eq_decide]; exact ⟨V.int.inj, λe => by rw [e]⟩
  · rw [decide_eq_decide]; exact ⟨V.str.inj, λe => by rw [e]⟩
  · rw [decide_eq_decide]; exact ⟨V.bl.inj, λe => by rw [e]⟩
  all_goals rfl
inductive DHits (M : MH) (kb : List (Key × MV)) : List (Key × MV) → Bool → Prop
  | nil : DHits M kb [] true
  | miss {k : Key} {v : MV} {r : List (Key × MV)} : valM kb k = none → DHits M kb ((k, v) :: r) false
  | hit {k : Key} {v y : MV} {d e : PyData} {r : List (Key × MV)} {b : Bool} : valM kb k = some y → DM M v d → DM M y e → Y1k d = true → Y1k e = true → DHits M kb r b → DHits M kb ((k, v) :: r) (PyData.eqv d e && b)
noncomputable def LstM (M : MH) (x : MV) (xs : List MV) : Prop := x = .frl xs ∨ ∃ a, x = .ref a ∧ M a = some (.lst xs)
noncomputable def flatM : MV → Bool
  | .non => true | .bl _ => true | .int _ => true | .str _ => true | _ => false
noncomputable def Alike (M : MH) : Nat → MV → MV → Prop
  | 0, x, y => flatM x = true ∧ x = y
  | n + 1, x, y => (flatM x = true ∧ x = y) ∨ (∃ xs ys, x = .tup xs ∧ y = .tup ys ∧ xs.length = ys.length ∧ ∀ (i : Nat) u v, xs[i]? = some u → ys[i]? = some v → Alike M n u v) ∨
    (∃ xs ys, LstM M x xs ∧ LstM M y ys ∧ xs.length = ys.length ∧ ∀ (i : Nat) u v, xs[i]? = some u → ys[i]? = some v → Alike M n u v) ∨
    ∃ a b ka kb, x = .ref a ∧ y = .ref b ∧ M a = some (.dic ka) ∧ M b = some (.dic kb) ∧ ka.length = kb.length ∧ ∀ k u, (k, u) ∈ ka → ∃ v, valM kb k = some v ∧ Alike M n u v
noncomputable def wEq (x y : MV) (M : MH) (k : Bool → Prop) : Prop := match eqS x y with
  | some b => k b
  | none => (∃ n ≤ 60, Alike M n x y ∧ k true) ∨ (∃ a b xs, x = .ref a ∧ y = .ref b ∧ M a = some (.lst xs) ∧ M b = some (.lst []) ∧ k xs.isEmpty) ∨ (∃ d e, DM M x d ∧ DM M y e ∧ Y1k d = true ∧ Y1k e = true ∧ k (PyData.eqv d e)) ∨
    ∃ a b ka kb r, x = .ref a ∧ y = .ref b ∧ M a = some (.dic ka) ∧ M b = some (.dic kb) ∧ DHits M kb ka r ∧ k (ka.length == kb.length && r)
noncomputable def toV : MV → V
  | .non => .non | .bl b => .bl b | .int i => .int i | .str x => .str x | _ => .non
theorem flat_rm {K : Y00} {H : Hp} {m : MV} {v : V} (f : flatM m = true) (r : RM K H m v) : v = toV m ∧ flatV v = true := by
  cases r <;> first | exact ⟨rfl, rfl⟩ | cases f
theorem flats_rm {K : Y00} {H : Hp} : ∀ {m : List MV} {v : List V}, m.all flatM = true → RMs K H m v → v = m.map toV ∧ v.all flatV = true
  | _, _, _, .nil => ⟨rfl, rfl⟩
  | _, _, f, .cons r t => by
    rw [Y1m, Y04] at f
    obtain ⟨e, g⟩ := flat_rm f.1 r
    obtain ⟨e2, g2⟩ := flats_rm f.2 t
    subst e e2
    exact ⟨rfl, by rw [Y1m, g, g2]; rfl⟩
noncomputable def keyM : MV → Option Key
  | .int i => some (.inl i)
  | .str x => some (.inr x)
  | _ => none
theorem key_rm {K : Y00} {H : Hp} {m : MV} {v : V} {k : Key} (e : keyM m = some k) (r : RM K H m v) : v = kV k := by
  cases r <;> cases e <;> rfl
theorem valM_rk {K : Y00} {H : Hp} {k : Key} : ∀ {m : List (Key × MV)} {v : List (Key × V)}, RKs K H m v → (valM m k = none ∧ valV v k = none) ∨ ∃ x u, valM m k = some x ∧ valV v k = some u ∧ RM K H x u
  | _, _, .nil => .inl ⟨rfl, rfl⟩
  | _, _, .cons (k := j) (x := x) (v := u) r t => by
    by_cases e : j = k
    · refine .inr ⟨x, u, ?_, valV_pos (p := (j, u)) e, r⟩
      unfold valM; rw [if_pos e]
    · have := valM_rk (k := k) t
      unfold valM; rw [if_neg e, valV_neg (p := (j, u)) e]
      exact this
theorem rk_any {K : Y00} {H : Hp} {k : Key} : ∀ {m : List (Key × MV)} {v : List (Key × V)}, RKs K H m v → (v.any λkv => decide (kv.1 = k)) = (m.any λkv => decide (kv.1 = k))
  | _, _, .nil => rfl
  | _, _, .cons r t => by rw [Y1d, Y1d, rk_any t]
theorem rk_map {K : Y00} {H : Hp} {k : Key} {x : MV} {u : V} (r : RM K H x u) : ∀ {m : List (Key × MV)} {v : List (Key × V)}, RKs K H m v →
    RKs K H (m.map λkv => if kv.1 = k then (kv.1, x) else kv) (v.map λkv => if kv.1 = k then (kv.1, u) else kv)
  | _, _, .nil => .nil
  | _, _, .cons (k := j) q t => by
    rw [Y0l, Y0l]
    by_cases e : j = k
    · rw [if_pos e, if_pos e]; exact .cons r (rk_map r t)
    · rw [if_neg e, if_neg e]; exact .cons q (rk_map r t)
theorem rk_app {κ : Type} {K : Y00} {H : Hp} : ∀ {m m' : List (κ × MV)} {v v' : List (κ × V)}, RKs K H m v → RKs K H m' v' → RKs K H (m ++ m') (v ++ v')
  | _, _, _, _, .nil, s => s
  | _, _, _, _, .cons r t, s => .cons r (rk_app t s)
theorem map_no {κ : Type} [DecidableEq κ] {k : κ} {x : MV} : ∀ {m : List (κ × MV)}, ¬ k ∈ m.map (·.1) → (m.map λkv => if kv.1 = k then (kv.1, x) else kv) = m
  | [], _ => rfl
  | (j, y) :: r, h => by
    rw [Y0l, if_neg (λe => h (by simp [show j = k from e])), map_no (λe => h (by simp [e]))]
theorem putM_is {κ : Type} [DecidableEq κ] {k : κ} {x : MV} : ∀ {m : List (κ × MV)}, (m.map (·.1)).Nodup → putM m k x = if (m.any λkv => decide (kv.1 = k)) = true then m.map (λkv => if kv.1 = k then (kv.1, x) else kv) else m ++ [(k, x)]
  | [], _ => rfl
  | (j, y) :: r, h => by
    rw [Y0l, Y0L] at h
    unfold putM
    rw [Y1d]
    by_cases e : j = k
    · subst e
      rw [if_pos rfl, if_pos (by simp), Y0l, if_pos rfl, map_no h.1]
    · rw [if_neg e, putM_is h.2, show decide ((j, y).1 = k) = false from decide_eq_false e, Y2R, Y0l, if_neg (show ¬ (j, y).1 = k from e)]
      split <;> rfl
theorem putM_keys {κ : Type} [DecidableEq κ] {k : κ} {x : MV} : ∀ (m : List (κ × MV)), ((putM m k x).map (·.1)) = if k ∈ m.map (·.1) then m.map (·.1) else m.map (·.1) ++ [k]
  | [] => rfl
  | (j, y) :: r => by
    unfold putM
    by_cases e : j = k
    · subst e; simp
    · rw [if_neg e, Y0l, putM_keys r, Y0l]
      have e' : k ≠ j := λz => e z.symm
      by_cases m : k ∈ r.map (·.1)
      · rw [if_pos m, if_pos (Y0m.mpr (.inr m))]
      · rw [if_neg m, if_neg (λz => (Y0m.mp z).elim e' m)]; rfl
theorem putM_rk {K : Y00} {H : Hp} {k : Key} {x : MV} {u : V} (r : RM K H x u) {m : List (Key × MV)} {v : List (Key × V)} (nd : (m.map (·.1)).Nodup) (h : RKs K H m v) :
    RKs K H (putM m k x) (putK v k u) ∧ ((putM m k x).map (·.1)).Nodup := by
  refine ⟨?_, ?_⟩
  · rw [putM_is nd]
    unfold putK
    rw [rk_any h]
    split
    · exact rk_map r h
    · exact rk_app h (.cons r .nil)
  · rw [putM_keys]
    split
    · exact nd
    · exact nd_snoc nd (by assumption)
noncomputable def wIn (x y : MV) (M : MH) (k : Bool → Prop) : Prop := match y with
  | .tup xs => flatM x = true ∧ xs.all flatM = true ∧ k (inV (toV x) (xs.map toV))
  | .frl xs => flatM x = true ∧ xs.all flatM = true ∧ k (inV (toV x) (xs.map toV))
  | .ref a => (∃ xs, M a = some (.lst xs) ∧ flatM x = true ∧ xs.all flatM = true ∧ k (inV (toV x) (xs.map toV))) ∨ ∃ kvs kk, M a = some (.dic kvs) ∧ keyM x = some kk ∧ k (valM kvs kk).isSome
  | _ => False
noncomputable def isNon : MV → Bool
  | .non => true | _ => false
noncomputable def isBl (b : Bool) : MV → Bool
  | .bl c => decide (c = b)
  | _ => false
noncomputable def wCmp (op : CmpOp) (x y : MV) (M : MH) (Q : QM) : Prop := match op with
  | .Lt => ∃ i j, x = .int i ∧ y = .int j ∧ Q (.bl (decide (i < j))) M
  | .LtE => (∃ i j, x = .int i ∧ y = .int j ∧ Q (.bl (decide (i ≤ j))) M) ∨ ∃ i j, x = .str i ∧ y = .str j ∧ Q (.bl (!decide (j.cps.toList < i.cps.toList))) M
  | .Gt => ∃ i j, x = .int i ∧ y = .int j ∧ Q (.bl (decide (j < i))) M
  | .GtE => ∃ i j, x = .int i ∧ y = .int j ∧ Q (.bl (decide (j ≤ i))) M
  | .Eq => wEq x y M λb => Q (.bl b) M
  | .NotEq => wEq x y M λb => Q (.bl (!b)) M
  | .In => wIn x y M λb => Q (.bl b) M
  | .NotIn => wIn x y M λb => Q (.bl (!b)) M
  | .Is => (y = .non ∧ Q (.bl (isNon x)) M) ∨ ∃ b, y = .bl b ∧ Q (.bl (isBl b x)) M
  | .IsNot => (y = .non ∧ Q (.bl (!isNon x)) M) ∨ ∃ b, y = .bl b ∧ Q (.bl (!isBl b x)) M
theorem mon_eq {x y : MV} {M : MH} {k k' : Bool → Prop} (hk : ∀ b, k b → k' b) (h : wEq x y M k) : wEq x y M k' := by
  unfold wEq at h ⊢
  split
  · rename_i b e; rw [e] at h; exact hk _ h
  · rename_i e; rw [e] at h
    rcases h with ⟨n, h1, h2, h3⟩ | ⟨a, b, xs, h1, h2, h3, h4, h5⟩ | ⟨d, e, h1, h2, h3, h4, h5⟩ | ⟨a, b, ka, kb, r, h1, h2, h3, h4, h5, h6⟩
    · exact .inl ⟨n, h1, h2, hk _ h3⟩
    · exact .inr (.inl ⟨a, b, xs, h1, h2, h3, h4, hk _ h5⟩)
    · exact .inr (.inr (.inl ⟨d, e, h1, h2, h3, h4, hk _ h5⟩))
    · exact .inr (.inr (.inr ⟨a, b, ka, kb, r, h1, h2, h3, h4, h5, hk _ h6⟩))
theorem mon_in {x y : MV} {M : MH} {k k' : Bool → Prop} (hk : ∀ b, k b → k' b) (h : wIn x y M k) : wIn x y M k' := by
  unfold wIn at h ⊢
  split at h
  · exact ⟨h.1, h.2.1, hk _ h.2.2⟩
  · exact ⟨h.1, h.2.1, hk _ h.2.2⟩
  · rcases h with ⟨xs, h1, h2, h3, h4⟩ | ⟨kvs, kk, h1, h2, h3⟩
    · exact .inl ⟨xs, h1, h2, h3, hk _ h4⟩
    · exact .inr ⟨kvs, kk, h1, h2, hk _ h3⟩
  · exact h.elim
theorem mon_cmp (op : CmpOp) : Mon2 (wCmp op) := by
  intro x y M Q Q' hq h
  cases op
  · exact mon_eq (k := λb => Q (.bl b) M) (k' := λb => Q' (.bl b) M) (λb h => hq _ _ h) h
  · exact mon_eq (k := λb => Q (.bl (!b)) M) (k' := λb => Q' (.bl (!b)) M) (λb h => hq _ _ h) h
  · obtain ⟨i, j, h1, h2, h3⟩ := h; exact ⟨i, j, h1, h2, hq _ _ h3⟩
  · rcases h with ⟨i, j, h1, h2, h3⟩ | ⟨i, j, h1, h2, h3⟩
    · exact .inl ⟨i, j, h1, h2, hq _ _ h3⟩
    · exact .inr ⟨i, j, h1, h2, hq _ _ h3⟩
  · obtain ⟨i, j, h1, h2, h3⟩ := h; exact ⟨i, j, h1, h2, hq _ _ h3⟩
  · obtain ⟨i, j, h1, h2, h3⟩ := h; exact ⟨i, j, h1, h2, hq _ _ h3⟩
  · rcases h with h | ⟨b, e, h⟩
    · exact .inl ⟨h.1, hq _ _ h.2⟩
    · exact .inr ⟨b, e, hq _ _ h⟩
  · rcases h with h | ⟨b, e, h⟩
    · exact .inl ⟨h.1, hq _ _ h.2⟩
    · exact .inr ⟨b, e, hq _ _ h⟩
  · exact mon_in (k := λb => Q (.bl b) M) (k' := λb => Q' (.bl b) M) (λb h => hq _ _ h) h
  · exact mon_in (k := λb => Q (.bl (!b)) M) (k' := λb => Q' (.bl (!b)) M) (λb h => hq _ _ h) h
section
variable {X : Cx}
theorem isBl_rm {K : Y00} {H : Hp} {m : MV} {v : V} {b : Bool} (r : RM K H m v) : decide (v = .bl b) = isBl b m := by
  cases r <;> first | rfl | (rename_i c; cases b <;> cases c <;> rfl)
theorem isNon_rm {K : Y00} {H : Hp} {m : MV} {v : V} (r : RM K H m v) : decide (v = .non) = isNon m := by cases r <;> rfl
theorem kv_at {kvs : List (Key × V)} {vs : List (Key × Value)} {k : Key} {v : V} (r : KV kvs vs) (h : valV kvs k = some v) : ∃ u, valueAt vs k = some u ∧ RelV v u := by
  have q := r.val k
  rw [h] at q
  exact RelO.some_of q
theorem kv_no {kvs : List (Key × V)} {vs : List (Key × Value)} {k : Key} (r : KV kvs vs) (h : valV kvs k = none) : valueAt vs k = none := by
  have q := r.val k
  rw [h] at q
  exact RelO.none_of q
theorem DHits.hits {pins : List (Addr × Obj)} {s : Shared} {σ : St} {H : Hp} {M : MH} (I : Inv X pins σ H s) (rh : RH X.K M H) (hu : X.A.in1.units + 64 < cLine) {kb : List (Key × MV)} {vb : List (Key × V)} {ub : List (Key × Value)} (rb : RKs X.K H kb vb) (qb : KV vb ub) :
    ∀ {ka : List (Key × MV)} {r : Bool}, DHits M kb ka r → ∀ {va : List (Key × V)} {ua : List (Key × Value)}, RKs X.K H ka va → KV va ua → PySem.W.KeqHits X.A.in1 s ub ua r := by
  intro ka r h
  induction h with
  | nil =>
    intro va ua ra qa
    cases ra
    cases qa
    exact .nil
  | @miss k v r hn =>
    intro va ua ra qa
    cases ra with
    | cons r1 r2 =>
      cases qa with
      | @cons _ p _ _ q1 q2 =>
        obtain ⟨pk, pv⟩ := p
        have e : k = pk := q1.1
        subst e
        rcases valM_rk (k := k) rb with ⟨z1, z2⟩ | ⟨x', u', z1, z2, _⟩
        · exact .miss (kv_no qb z2)
        · rw [hn] at z1; cases z1
  | @hit k v y d e r b hy hd he sd se _ ih =>
    intro va ua ra qa
    cases ra with
    | cons r1 r2 =>
      cases qa with
      | @cons _ p _ _ q1 q2 =>
        obtain ⟨pk, pv⟩ := p
        have e : k = pk := q1.1
        subst e
        rcases valM_rk (k := k) rb with ⟨z1, z2⟩ | ⟨x', u', z1, z2, r3⟩
        · rw [hy] at z1; cases z1
        · rw [hy] at z1; cases z1
          obtain ⟨w', hw, rw'⟩ := kv_at qb z2
          obtain ⟨as, a1⟩ := (hd.dp rh r1).reads I q1.2
          obtain ⟨bs, b1⟩ := (he.dp rh r3).reads I rw'
          exact .hit hw (PySem.W.keq_at a1 b1 sd se hu) (ih r2 q2)
theorem LstM.sq {M : MH} {H : Hp} (rh : RH X.K M H) {x : MV} {xs : List MV} {u : V} (h : LstM M x xs) (r : RM X.K H x u) : ∃ a vs, u = .ref a ∧ SqL X.K H a vs ∧ RMs X.K H xs vs := by
  rcases h with rfl | ⟨a, rfl, h⟩
  · cases r with
    | frl h1 q1 => exact ⟨_, _, rfl, h1.sq, q1⟩
  · cases r
    obtain ⟨vs, e, q⟩ := rh.lst h
    exact ⟨a, vs, rfl, SqL.of e, q⟩
theorem vals_get {xs : List V} {us : List Value} (r : Vals xs us) {i : Nat} {u : Value} (h : us[i]? = some u) : ∃ x, xs[i]? = some x ∧ RelV x u := by
  induction r generalizing i with
  | nil => cases h
  | cons q _ ih =>
    cases i with
    | zero => cases h; exact ⟨_, rfl, q⟩
    | succ i => exact ih (i := i) h
theorem kv_mem {kvs : List (Key × V)} {vs : List (Key × Value)} (r : KV kvs vs) {k : Key} {u : Value} (h : (k, u) ∈ vs) : ∃ x, (k, x) ∈ kvs ∧ RelV x u := by
  induction r with
  | nil => cases h
  | @cons p p' _ _ q _ ih =>
    obtain ⟨k1, x1⟩ := p
    obtain ⟨k2, x2⟩ := p'
    rcases Y0m.mp h with e | h
    · cases e
      have e1 : k1 = k := q.1
      subst e1
      exact ⟨x1, Y0e, q.2⟩
    · obtain ⟨x, m, rx⟩ := ih h
      exact ⟨x, Y0b _ m, rx⟩
theorem rk_mem {K : Y00} {H : Hp} {k : Key} {v : V} : ∀ {m : List (Key × MV)} {vs : List (Key × V)}, RKs K H m vs → (k, v) ∈ vs → ∃ x, (k, x) ∈ m ∧ RM K H x v
  | _, _, .nil, h => by cases h
  | _, _, .cons r t, h => by
    rcases Y0m.mp h with e | h
    · cases e; exact ⟨_, Y0e, r⟩
    · obtain ⟨x, m, q⟩ := rk_mem t h
      exact ⟨x, Y0b _ m, q⟩
theorem Alike.inn {pins : List (Addr × Obj)} {s : Shared} {σ : St} {H : Hp} {M : MH} (I : Inv X pins σ H s) (rh : RH X.K M H) {n : Nat} {A : Around} (hu : A.units < cLine)
    (ih : ∀ {x y : MV} {u v : V} {u' v' : Value}, Alike M n x y → RM X.K H x u → RM X.K H y v → RelV u u' → RelV v v' → AliP X.prog X.w A.in1 s u' v')
    {x y : MV} {u v : V} {u' v' : Value} (h : Alike M (n + 1) x y) (r1 : RM X.K H x u) (r2 : RM X.K H y v) (q1 : RelV u u') (q2 : RelV v v') :
    (flatM x = true ∧ x = y) ∨ ∃ a b, u' = .ref a ∧ v' = .ref b ∧ RcP X.prog X.w A s (.ref a) (.ref b) ∧ RnP X.prog X.w A s (.ref a) (.ref b) := by
  rw [Alike] at h
  rcases h with h | ⟨xs, ys, rfl, rfl, e, h⟩ | ⟨xs, ys, h1, h2, e, h⟩ | ⟨a, b, ka, kb, rfl, rfl, h1, h2, e, h⟩
  · exact .inl h
  · cases r1 with
    | tup g1 w1 =>
      cases r2 with
      | tup g2 w2 =>
        rename_i a vs b us
        obtain rfl : u' = Y0a a := q1
        obtain rfl : v' = Y0a b := q2
        obtain ⟨i1, p1, t1, _⟩ := I.tuple (SqT.of g1)
        obtain ⟨i2, p2, t2, _⟩ := I.tuple (SqT.of g2)
        have z : i1.toArray.size = i2.toArray.size := by rw [Y06, Y06, ← p1.length, ← p2.length, ← w1.length, ← w2.length]; exact e
        have he : ∀ p ∈ i1.toArray.toList.zip i2.toArray.toList, AliP X.prog X.w A.in1 s p.1 p.2 := by
          intro p hp
          obtain ⟨i, hi⟩ := List.mem_iff_getElem?.mp hp
          rw [List.getElem?_zip_eq_some] at hi
          obtain ⟨x1, c1, d1⟩ := vals_get p1 hi.1
          obtain ⟨x2, c2, d2⟩ := vals_get p2 hi.2
          obtain ⟨m1, c3, d3⟩ := w1.get' c1
          obtain ⟨m2, c4, d4⟩ := w2.get' c2
          exact ih (h i m1 m2 c3 c4) d3 d4 d1 d2
        exact .inr ⟨_, _, rfl, rfl, rc_tup t1 t2 z hu he, nrc_tup t1 t2 z hu he⟩
  · obtain ⟨a, vs, rfl, g1, w1⟩ := h1.sq rh r1
    obtain ⟨b, us, rfl, g2, w2⟩ := h2.sq rh r2
    obtain rfl : u' = Y0a a := q1
    obtain rfl : v' = Y0a b := q2
    obtain ⟨i1, p1, ⟨o1, n1, t1, t2, _, t3⟩, _⟩ := I.list g1
    obtain ⟨i2, p2, ⟨o2, n2, t4, t5, _, t6⟩, _⟩ := I.list g2
    have z : i1.toArray.size = i2.toArray.size := by rw [Y06, Y06, ← p1.length, ← p2.length, ← w1.length, ← w2.length]; exact e
    have he : ∀ j (h1 : j < i1.toArray.size) (h2 : j < i2.toArray.size), AliP X.prog X.w A.in1 s i1.toArray[j] i2.toArray[j] := by
      intro i l1 l2
      obtain ⟨x1, c1, d1⟩ := vals_get p1 (i := i) (u := i1.toArray[i]) (by simp [Y0h (show i < i1.length by simpa using l1)])
      obtain ⟨x2, c2, d2⟩ := vals_get p2 (i := i) (u := i2.toArray[i]) (by simp [Y0h (show i < i2.length by simpa using l2)])
      obtain ⟨m1, c3, d3⟩ := w1.get' c1
      obtain ⟨m2, c4, d4⟩ := w2.get' c2
      exact ih (h i m1 m2 c3 c4) d3 d4 d1 d2
    exact .inr ⟨_, _, rfl, rfl, rc_lst ⟨o1, t1, t2, n1, t3⟩ ⟨o2, t4, t5, n2, t6⟩ z hu he, nrc_lst ⟨o1, t1, t2, n1, t3⟩ ⟨o2, t4, t5, n2, t6⟩ z hu he⟩
  · cases r1; cases r2
    obtain rfl : u' = Y0a a := q1
    obtain rfl : v' = Y0a b := q2
    obtain ⟨va, ea, wa, _⟩ := rh.dic h1
    obtain ⟨vb, eb, wb, _⟩ := rh.dic h2
    obtain ⟨_, na, ua, pa, da⟩ := dk_of I.hok ea
    obtain ⟨_, nb, ub, pb, db⟩ := dk_of I.hok eb
    have z : ua.length = ub.length := by rw [← Paired.length pa, ← wa.length, ← Paired.length pb, ← wb.length]; exact e
    have he : ∀ p ∈ ua, ∃ y, valueAt ub p.1 = some y ∧ AliP X.prog X.w A.in1 s p.2 y := by
      rintro ⟨k, u1⟩ hp
      obtain ⟨x1, c1, d1⟩ := kv_mem pa hp
      obtain ⟨m1, c2, d2⟩ := rk_mem wa c1
      obtain ⟨m2, c3, c4⟩ := h k m1 c2
      rcases valM_rk (k := k) wb with ⟨z1, z2⟩ | ⟨x', u2, z1, z2, r3⟩
      · rw [c3] at z1; cases z1
      · rw [c3] at z1; cases z1
        obtain ⟨w', hw, rw'⟩ := kv_at pb z2
        exact ⟨w', hw, ih c4 d2 r3 d1 rw'⟩
    exact .inr ⟨_, _, rfl, rfl, rc_dic na nb da db hu z he, nrc_dic na nb da db hu z he⟩
theorem flat_alike {K : Y00} {H : Hp} {A : Around} {s : Shared} {P : Program} {w : World} {x : MV} {u v : V} {u' v' : Value} (f : flatM x = true) (r1 : RM K H x u) (r2 : RM K H x v) (q1 : RelV u u') (q2 : RelV v v') : AliP P w A s u' v' := by
  obtain ⟨rfl, f1⟩ := flat_rm f r1
  obtain ⟨rfl, f2⟩ := flat_rm f r2
  have h := eqAt_V (A := A) (s := s) q1 q2 f1 f2
  have e : eqV (toV x) (toV x) = true := by cases x <;> first | (cases f; done) | simp [toV, eqV]
  rw [e] at h
  exact .of_at h
theorem Alike.ok {pins : List (Addr × Obj)} {s : Shared} {σ : St} {H : Hp} {M : MH} (I : Inv X pins σ H s) (rh : RH X.K M H) : ∀ (n : Nat) {A : Around} {x y : MV} {u v : V} {u' v' : Value}, A.units + n < cLine → Alike M n x y → RM X.K H x u → RM X.K H y v → RelV u u' → RelV v v' → AliP X.prog X.w A s u' v'
  | 0, A, x, y, u, v, u', v', hu, h, r1, r2, q1, q2 => by
    rw [Alike] at h
    obtain ⟨f, rfl⟩ := h
    exact flat_alike f r1 r2 q1 q2
  | n + 1, A, x, y, u, v, u', v', hu, h, r1, r2, q1, q2 => by
    rcases Alike.inn I rh (A := A) (by lia) (λh r1 r2 q1 q2 => Alike.ok I rh n (show A.units + 1 + n < cLine by lia) h r1 r2 q1 q2) h r1 r2 q1 q2 with ⟨f, rfl⟩ | ⟨a, b, rfl, rfl, h, _⟩
    · exact flat_alike f r1 r2 q1 q2
    · exact .refs h
theorem Alike.top {pins : List (Addr × Obj)} {s : Shared} {σ : St} {H : Hp} {M : MH} (I : Inv X pins σ H s) (rh : RH X.K M H) {n : Nat} {x y : MV} {u v : V} {u' v' : Value} (h : Alike M n x y) (hu : X.A.units + n < cLine) (ns : eqS x y = none) (r1 : RM X.K H x u) (r2 : RM X.K H y v) (q1 : RelV u u') (q2 : RelV v v') :
    RcP X.prog X.w X.A s u' v' ∧ RnP X.prog X.w X.A s u' v' := by
  have no : ¬ (flatM x = true ∧ x = y) := by
    rintro ⟨f, rfl⟩
    cases x <;> first | (cases f; done) | (cases ns; done)
  cases n with
  | zero => rw [Alike] at h; exact (no h).elim
  | succ n =>
    rcases Alike.inn I rh (A := X.A) (by lia) (λh r1 r2 q1 q2 => Alike.ok I rh n (show X.A.units + 1 + n < cLine by lia) h r1 r2 q1 q2) h r1 r2 q1 q2 with f | ⟨a, b, rfl, rfl, h, h'⟩
    · exact (no f).elim
    · exact ⟨h, h'⟩
theorem op_cmp (hu : X.A.units + 70 < cLine) (op : CmpOp) : OpR X (compareOp op) (li2 X.K (wCmp op)) := by
  intro pins s σ H x y v u Q I rx ry h
  obtain ⟨mx, my, M, r1, r2, rh, h⟩ := h
  have hb : ∀ b, Dn X.K H Q (.bl b) M → Q (.bl b) H := λb h => h _ _ (Kp.refl _) (.bl b) rh
  have hu1 : X.A.units + 1 < cLine := by lia
  have hu64 : X.A.units + 64 < cLine := by lia
  have huI : X.A.in1.units + 64 < cLine := by show X.A.units + 1 + 64 < cLine; lia
  have hu0 : X.A.units < cLine := by lia
  cases op with
  | Lt => obtain ⟨i, j, rfl, rfl, h⟩ := h; cases r1; cases r2; exact op_lt pins s σ H _ _ v u Q I rx ry ⟨_, _, rfl, rfl, hb _ h⟩
  | LtE =>
    rcases h with ⟨i, j, rfl, rfl, h⟩ | ⟨i, j, rfl, rfl, h⟩
    · cases r1; cases r2; exact op_le pins s σ H _ _ v u Q I rx ry ⟨_, _, rfl, rfl, hb _ h⟩
    · cases r1
      cases r2
      obtain ⟨t1, rfl⟩ := rx
      obtain ⟨t2, rfl⟩ := ry
      exact PySem.P.le_str ⟨.bl _, H, I, rfl, hb _ h⟩
  | Gt => obtain ⟨i, j, rfl, rfl, h⟩ := h; cases r1; cases r2; exact op_gt pins s σ H _ _ v u Q I rx ry ⟨_, _, rfl, rfl, hb _ h⟩
  | GtE => obtain ⟨i, j, rfl, rfl, h⟩ := h; cases r1; cases r2; exact op_ge pins s σ H _ _ v u Q I rx ry ⟨_, _, rfl, rfl, hb _ h⟩
  | Is =>
    rcases h with ⟨rfl, h⟩ | ⟨b, rfl, h⟩
    · cases r2; exact op_isN pins s σ H _ _ v u Q I rx ry ⟨rfl, by rw [isNon_rm r1]; exact hb _ h⟩
    · cases r2; exact op_isBl pins s σ H _ _ v u Q I rx ry ⟨b, rfl, by rw [isBl_rm r1]; exact hb _ h⟩
  | IsNot =>
    rcases h with ⟨rfl, h⟩ | ⟨b, rfl, h⟩
    · cases r2; exact op_notN pins s σ H _ _ v u Q I rx ry ⟨rfl, by rw [isNon_rm r1]; exact hb _ h⟩
    · cases r2; exact op_notBl pins s σ H _ _ v u Q I rx ry ⟨b, rfl, by rw [isBl_rm r1]; exact hb _ h⟩
  | Eq =>
    have h : wEq mx my M λb => Dn X.K H Q (.bl b) M := h
    unfold wEq at h
    split at h
    · rename_i b e
      obtain ⟨e1, e2⟩ := eqS_ok e r1 r2
      exact op_eq pins s σ H _ _ v u Q I rx ry ⟨e1, by rw [e2]; exact hb _ h⟩
    · rcases h with ⟨n, h1, h2, h3⟩ | ⟨a, b, xs, rfl, rfl, h3, h4, h5⟩ | ⟨d, e, h1, h2, h3, h4, h5⟩ | ⟨a, b, ka, kb, r, rfl, rfl, h3, h4, h5, h6⟩
      · exact (h2.top I rh (by lia) (by assumption) r1 r2 rx ry).1 _ _ ⟨.bl true, H, I, rfl, hb _ h3⟩
      · cases r1; cases r2
        obtain ⟨vs, e1, q1⟩ := rh.lst h3
        obtain ⟨us, e2, q2⟩ := rh.lst h4
        cases q2
        refine op_eqNil hu0 pins s σ H _ _ v u Q I rx ry ⟨_, _, vs, rfl, rfl, SqL.of e1, SqL.of e2, ?_⟩
        have : vs.isEmpty = xs.isEmpty := by cases q1 <;> rfl
        rw [this]; exact hb _ h5
      · exact op_eqD hu64 pins s σ H _ _ v u Q I rx ry ⟨d, e, h1.dp rh r1, h2.dp rh r2, h3, h4, hb _ h5⟩
      · cases r1; cases r2
        obtain ⟨va, ea, qa, _⟩ := rh.dic h3
        obtain ⟨vb, eb, qb, _⟩ := rh.dic h4
        obtain ⟨_, na, ua, ka', da⟩ := dk_of I.hok ea
        obtain ⟨_, nb, ub, kb', db⟩ := dk_of I.hok eb
        obtain rfl : v = Y0a _ := rx
        obtain rfl : u = Y0a _ := ry
        refine PySem.W.keq_eq na nb da db hu0 (λ_ => h5.hits I rh huI qb kb' qa ka') ⟨.bl _, H, I, rfl, ?_⟩
        have e1 : ua.length = ka.length := by rw [← Paired.length ka', qa.length]
        have e2 : ub.length = kb.length := by rw [← Paired.length kb', qb.length]
        rw [e1, e2]
        exact hb _ h6
  | NotEq =>
    have h : wEq mx my M λb => Dn X.K H Q (.bl (!b)) M := h
    unfold wEq at h
    split at h
    · rename_i b e
      obtain ⟨e1, e2⟩ := eqS_ok e r1 r2
      exact op_ne pins s σ H _ _ v u Q I rx ry ⟨e1, by rw [e2]; exact hb _ h⟩
    · rcases h with ⟨n, h1, h2, h3⟩ | ⟨a, b, xs, rfl, rfl, h3, h4, h5⟩ | ⟨d, e, h1, h2, h3, h4, h5⟩ | ⟨a, b, ka, kb, r, rfl, rfl, h3, h4, h5, h6⟩
      · exact (h2.top I rh (by lia) (by assumption) r1 r2 rx ry).2 _ _ ⟨.bl false, H, I, rfl, hb _ h3⟩
      · cases r1; cases r2
        obtain ⟨vs, e1, q1⟩ := rh.lst h3
        obtain ⟨us, e2, q2⟩ := rh.lst h4
        cases q2
        refine op_neNil hu0 pins s σ H _ _ v u Q I rx ry ⟨_, _, vs, rfl, rfl, SqL.of e1, SqL.of e2, ?_⟩
        have : vs.isEmpty = xs.isEmpty := by cases q1 <;> rfl
        rw [this]; exact hb _ h5
      · exact op_neD hu64 pins s σ H _ _ v u Q I rx ry ⟨d, e, h1.dp rh r1, h2.dp rh r2, h3, h4, hb _ h5⟩
      · cases r1; cases r2
        obtain ⟨va, ea, qa, _⟩ := rh.dic h3
        obtain ⟨vb, eb, qb, _⟩ := rh.dic h4
        obtain ⟨_, na, ua, ka', da⟩ := dk_of I.hok ea
        obtain ⟨_, nb, ub, kb', db⟩ := dk_of I.hok eb
        obtain rfl : v = Y0a _ := rx
        obtain rfl : u = Y0a _ := ry
        refine PySem.W.keq_ne na nb da db hu0 (λ_ => h5.hits I rh huI qb kb' qa ka') ⟨.bl _, H, I, rfl, ?_⟩
        have e1 : ua.length = ka.length := by rw [← Paired.length ka', qa.length]
        have e2 : ub.length = kb.length := by rw [← Paired.length kb', qb.length]
        rw [e1, e2]
        exact hb _ h6
  | In =>
    have h : wIn mx my M λb => Dn X.K H Q (.bl b) M := h
    unfold wIn at h
    split at h
    · cases r2 with
      | tup h1 q1 =>
        obtain ⟨f1, f2, h⟩ := h
        obtain ⟨e1, g1⟩ := flat_rm f1 r1
        obtain ⟨e2, g2⟩ := flats_rm f2 q1
        exact op_in_seq pins s σ H _ _ v u Q I rx ry ⟨_, _, rfl, .inr (SqT.of h1), g1, g2, by rw [e1, e2]; exact hb _ h⟩
    · cases r2 with
      | frl h1 q1 =>
        obtain ⟨f1, f2, h⟩ := h
        obtain ⟨e1, g1⟩ := flat_rm f1 r1
        obtain ⟨e2, g2⟩ := flats_rm f2 q1
        exact op_in_seq pins s σ H _ _ v u Q I rx ry ⟨_, _, rfl, .inl h1.sq, g1, g2, by rw [e1, e2]; exact hb _ h⟩
    · cases r2
      rcases h with ⟨xs, h1, f1, f2, h⟩ | ⟨kvs, kk, h1, h2, h⟩
      · obtain ⟨vs, e, q1⟩ := rh.lst h1
        obtain ⟨e1, g1⟩ := flat_rm f1 r1
        obtain ⟨e2, g2⟩ := flats_rm f2 q1
        exact op_in_seq pins s σ H _ _ v u Q I rx ry ⟨_, _, rfl, .inl (SqL.of e), g1, g2, by rw [e1, e2]; exact hb _ h⟩
      · obtain ⟨vs, e, q1, _⟩ := rh.dic h1
        have := key_rm h2 r1
        subst this
        obtain rfl : u = Y0a _ := ry
        refine d_in hu1 I (DGet.k (k := kk) e) rx λs3 I3 => ⟨.bl _, H, I3, rfl, ?_⟩
        rcases valM_rk (k := kk) q1 with ⟨z1, z2⟩ | ⟨x', u', z1, z2, _⟩
        · rw [z2]; rw [z1] at h; exact hb _ h
        · rw [z2]; rw [z1] at h; exact hb _ h
    · exact h.elim
  | NotIn =>
    have h : wIn mx my M λb => Dn X.K H Q (.bl (!b)) M := h
    unfold wIn at h
    split at h
    · cases r2 with
      | tup h1 q1 =>
        obtain ⟨f1, f2, h⟩ := h
        obtain ⟨e1, g1⟩ := flat_rm f1 r1
        obtain ⟨e2, g2⟩ := flats_rm f2 q1
        exact op_notIn_seq pins s σ H _ _ v u Q I rx ry ⟨_, _, rfl, .inr (SqT.of h1), g1, g2, by rw [e1, e2]; exact hb _ h⟩
    · cases r2 with
      | frl h1 q1 =>
        obtain ⟨f1, f2, h⟩ := h
        obtain ⟨e1, g1⟩ := flat_rm f1 r1
        obtain ⟨e2, g2⟩ := flats_rm f2 q1
        exact op_notIn_seq pins s σ H _ _ v u Q I rx ry ⟨_, _, rfl, .inl h1.sq, g1, g2, by rw [e1, e2]; exact hb _ h⟩
    · cases r2
      rcases h with ⟨xs, h1, f1, f2, h⟩ | ⟨kvs, kk, h1, h2, h⟩
      · obtain ⟨vs, e, q1⟩ := rh.lst h1
        obtain ⟨e1, g1⟩ := flat_rm f1 r1
        obtain ⟨e2, g2⟩ := flats_rm f2 q1
        exact op_notIn_seq pins s σ H _ _ v u Q I rx ry ⟨_, _, rfl, .inl (SqL.of e), g1, g2, by rw [e1, e2]; exact hb _ h⟩
      · obtain ⟨vs, e, q1, _⟩ := rh.dic h1
        have := key_rm h2 r1
        subst this
        obtain rfl : u = Y0a _ := ry
        refine d_notIn hu1 I (DGet.k (k := kk) e) rx λs3 I3 => ⟨.bl _, H, I3, rfl, ?_⟩
        rcases valM_rk (k := kk) q1 with ⟨z1, z2⟩ | ⟨x', u', z1, z2, _⟩
        · rw [z2]; rw [z1] at h; exact hb _ h
        · rw [z2]; rw [z1] at h; exact hb _ h
    · exact h.elim
end
end L2
namespace L2
open PySem PySem.Spec PyProof.Rows
noncomputable def wIx (x y : MV) (M : MH) (Q : QM) : Prop := match x with
  | .tup xs => ∃ i v, y = .int i ∧ atI xs i = some v ∧ Q v M
  | .frl xs => ∃ i v, y = .int i ∧ atI xs i = some v ∧ Q v M
  | .str z => ∃ i c, y = .int i ∧ z.length ≤ sizeLine ∧ atI z.cps.toList i = some c ∧ Q (.str ⟨#[c]⟩) M
  | .ref a => (∃ xs i v, M a = some (.lst xs) ∧ y = .int i ∧ atI xs i = some v ∧ Q v M) ∨ (∃ kvs kk v, M a = some (.dic kvs) ∧ keyM y = some kk ∧ valM kvs kk = some v ∧ Q v M) ∨ ∃ o kvs kk v, M a = some (.fdic o kvs) ∧ keyM y = some kk ∧ valM kvs kk = some v ∧ Q v M
  | _ => False
theorem mon_ix : Mon2 wIx := by
  intro x y M Q Q' hq h
  unfold wIx at h ⊢
  split at h
  · obtain ⟨i, v, h1, h2, h3⟩ := h; exact ⟨i, v, h1, h2, hq _ _ h3⟩
  · obtain ⟨i, v, h1, h2, h3⟩ := h; exact ⟨i, v, h1, h2, hq _ _ h3⟩
  · obtain ⟨i, v, h1, h2, h3, h4⟩ := h; exact ⟨i, v, h1, h2, h3, hq _ _ h4⟩
  · rcases h with ⟨xs, i, v, h1, h2, h3, h4⟩ | ⟨kvs, kk, v, h1, h2, h3, h4⟩ | ⟨o, kvs, kk, v, h1, h2, h3, h4⟩
    · exact .inl ⟨xs, i, v, h1, h2, h3, hq _ _ h4⟩
    · exact .inr (.inl ⟨kvs, kk, v, h1, h2, h3, hq _ _ h4⟩)
    · exact .inr (.inr ⟨o, kvs, kk, v, h1, h2, h3, hq _ _ h4⟩)
  · exact h.elim
theorem RMs.atI {K : Y00} {H : Hp} {m : List MV} {v : List V} {i : Int} {x : MV} (r : RMs K H m v) (e : atI m i = some x) : ∃ u, atI v i = some u ∧ RM K H x u := by
  unfold L2.atI at e ⊢
  rw [← r.length]
  cases q : ixN m.length i with
  | none => rw [q] at e; cases e
  | some j => rw [q] at e; exact r.get e
section
variable {X : Cx}
theorem ix_dict (hu : X.A.units + 1 < cLine) : IxR X (λx y H Q => ∃ a v, x = .ref a ∧ DGet H a y (some v) ∧ Q v H) := by
  intro value slice pins s σ H x y v u Q I rx ry h hs
  obtain ⟨a, w', rfl, g, q⟩ := h
  obtain rfl : v = Y0a a := rx
  exact tail_any (dict_typeIs I g) PySem.F.slot_dict_getitem.lookup (d_getItem hu I g ry λw2 s3 I3 rw' => ⟨w', H, I3, rw', q⟩) hs
theorem ix_any (hu : X.A.units + 1 < cLine) : IxR X (li2 X.K wIx) := by
  intro value slice pins s σ H x y v u Q I rx ry h hs
  obtain ⟨mx, my, M, r1, r2, rh, h⟩ := h
  unfold wIx at h
  split at h
  · obtain ⟨i, v', rfl, h2, h3⟩ := h
    cases r2
    cases r1 with
    | tup h1 q1 =>
      obtain ⟨u', e, r⟩ := q1.atI h2
      exact ix_tup value slice pins s σ H _ _ v u Q I rx ry ⟨_, _, _, u', rfl, rfl, SqT.of h1, e, h3 _ _ (Kp.refl _) r rh⟩ hs
  · obtain ⟨i, v', rfl, h2, h3⟩ := h
    cases r2
    cases r1 with
    | frl h1 q1 =>
      obtain ⟨u', e, r⟩ := q1.atI h2
      exact ix_list value slice pins s σ H _ _ v u Q I rx ry ⟨_, _, _, u', rfl, rfl, h1.sq, e, h3 _ _ (Kp.refl _) r rh⟩ hs
  · obtain ⟨i, c, rfl, h2, h3, h4⟩ := h
    cases r1; cases r2
    exact ix_str value slice pins s σ H _ _ v u Q I rx ry ⟨_, _, c, rfl, rfl, h2, h3, h4 _ _ (Kp.refl _) (.str _) rh⟩ hs
  · cases r1
    rcases h with ⟨xs, i, v', h1, rfl, h3, h4⟩ | ⟨kvs, kk, v', h1, h2, h3, h4⟩ | ⟨o, kvs, kk, v', h1, h2, h3, h4⟩
    · cases r2
      obtain ⟨vs, e, q1⟩ := rh.lst h1
      obtain ⟨u', e2, r⟩ := q1.atI h3
      exact ix_list value slice pins s σ H _ _ v u Q I rx ry ⟨_, _, _, u', rfl, rfl, SqL.of e, e2, h4 _ _ (Kp.refl _) r rh⟩ hs
    · obtain ⟨vs, e, q1, _⟩ := rh.dic h1
      have ek := key_rm h2 r2
      rcases valM_rk (k := kk) q1 with ⟨z1, z2⟩ | ⟨x', u', z1, z2, r'⟩
      · rw [z1] at h3; cases h3
      · rw [z1] at h3; cases h3
        have g := DGet.k (k := kk) e
        rw [z2] at g
        subst ek
        exact ix_dict hu value slice pins s σ H _ _ v u Q I rx ry ⟨_, u', rfl, g, h4 _ _ (Kp.refl _) r' rh⟩ hs
    · obtain ⟨vs, e, q1, _⟩ := rh.fdic h1
      have ek := key_rm h2 r2
      rcases valM_rk (k := kk) q1 with ⟨z1, z2⟩ | ⟨x', u', z1, z2, r'⟩
      · rw [z1] at h3; cases h3
      · rw [z1] at h3; cases h3
        have g : DGet H _ (kV kk) (valV vs kk) := .inl ⟨vs, kk, .inr ⟨o, e⟩, rfl, rfl⟩
        rw [z2] at g
        subst ek
        exact ix_dict hu value slice pins s σ H _ _ v u Q I rx ry ⟨_, u', rfl, g, h4 _ _ (Kp.refl _) r' rh⟩ hs
  · exact h.elim
end
noncomputable def cutM (xs : List MV) (lo hi : Option Int) : List MV := (xs.drop (HT.sIx xs.length 0 lo)).take (HT.sIx xs.length xs.length hi - HT.sIx xs.length 0 lo)
theorem RMs.cut {K : Y00} {H : Hp} {m : List MV} {v : List V} (r : RMs K H m v) (lo hi : Option Int) : RMs K H (cutM m lo hi) (cutV v lo hi) := by
  unfold cutM cutV
  rw [← r.length]
  exact (r.drop _).take _
noncomputable abbrev WS := MV → Option Int → Option Int → MH → QM → Prop
noncomputable def wSl : WS := λx lo hi M Q => match x with
  | .tup xs => Q (.tup (cutM xs lo hi)) M
  | .frl xs => ∀ p, M p = none → Q (.ref p) (updM M p (.lst (cutM xs lo hi)))
  | .ref a => ∃ xs, M a = some (.lst xs) ∧ ∀ p, M p = none → Q (.ref p) (updM M p (.lst (cutM xs lo hi)))
  | .str z => z.length ≤ sizeLine ∧ Q (.str (cutS z lo hi)) M
  | _ => False
theorem mon_sl {x : MV} {lo hi : Option Int} {M : MH} {Q Q' : QM} (hq : ∀ m M', Q m M' → Q' m M') (h : wSl x lo hi M Q) : wSl x lo hi M Q' := by
  unfold wSl at h ⊢
  split at h
  · exact hq _ _ h
  · exact λp hp => hq _ _ (h p hp)
  · obtain ⟨xs, h1, h2⟩ := h; exact ⟨xs, h1, λp hp => hq _ _ (h2 p hp)⟩
  · exact ⟨h.1, hq _ _ h.2⟩
  · exact h.elim
noncomputable def liS (K : Y00) (w : WS) : V → Option Int → Option Int → Hp → VK → Prop := λx lo hi H Q => ∃ mx M, RM K H mx x ∧ RH K M H ∧ w mx lo hi M (Dn K H Q)
section
variable {X : Cx}
theorem sl_any : SlR X (liS X.K wSl) := by
  intro pins s σ H x v vl vu lo hi sl Q I rx hs pl pu h
  obtain ⟨mx, M, r1, rh, h⟩ := h
  unfold wSl at h
  split at h
  · rename_i ms
    cases r1 with
    | tup h1 q1 =>
      rename_i vs
      by_cases hw : HT.sIx ms.length 0 lo = 0 ∧ HT.sIx ms.length ms.length hi = ms.length
      · have e : cutM ms lo hi = ms := by unfold cutM; rw [hw.1, hw.2, List.drop_zero, Nat.sub_zero, List.take_length]
        rw [e] at h
        refine sl_tupW pins s σ H _ v vl vu lo hi sl Q I rx hs pl pu ⟨_, _, rfl, SqT.of h1, by rw [← q1.length]; exact hw.1, by rw [← q1.length]; exact hw.2, ?_⟩
        exact h _ _ (Kp.refl _) (.tup h1 q1) rh
      refine sl_tup pins s σ H _ v vl vu lo hi sl Q I rx hs pl pu ⟨_, _, rfl, SqT.of h1, by rw [← q1.length]; exact hw, λp hp => ?_⟩
      have k := Kp.new hp (.tup (cutV vs lo hi))
      exact h _ _ k (.tup upd_same ((q1.cut lo hi).mono k)) (rh.kept hp _)
  · cases r1 with
    | frl h1 q1 =>
      rename_i vs
      refine sl_list pins s σ H _ v vl vu lo hi sl Q I rx hs pl pu ⟨_, _, rfl, h1.sq, λp hp => ?_⟩
      have k := Kp.new hp (.lst (cutV vs lo hi))
      exact h p (rh.free hp) _ _ k (.ref p) (rh.put k ((q1.cut lo hi).mono k))
  · cases r1
    obtain ⟨xs, h1, h⟩ := h
    obtain ⟨vs, e, q1⟩ := rh.lst h1
    refine sl_list pins s σ H _ v vl vu lo hi sl Q I rx hs pl pu ⟨_, _, rfl, SqL.of e, λp hp => ?_⟩
    have k := Kp.new hp (.lst (cutV vs lo hi))
    exact h p (rh.free hp) _ _ k (.ref p) (rh.put k ((q1.cut lo hi).mono k))
  · cases r1
    exact sl_str pins s σ H _ v vl vu lo hi sl Q I rx hs pl pu ⟨_, rfl, h.1, h.2 _ _ (Kp.refl _) (.str _) rh⟩
  · exact h.elim
end
noncomputable def tyM (M : MH) : MV → Option Ty7
  | .non => some .none | .bl _ => some .bool | .int _ => some .int | .str _ => some .str | .tup _ => some .tuple
  | .ref a => match M a with | some (.lst _) => some .list | some (.dic _) => some .dict | _ => none
  | _ => none
noncomputable def isTy : Ty7 → Ty7 → Bool
  | .bool, .int => true
  | a, b => decide (a = b)
theorem kit_ty (K : Y00) (T c : Ty7) (hc : c ≠ .none) : Y1f K (.type T.name) (.type c.name) = some (isTy T c) := by
  cases T <;> cases c <;> first | exact absurd rfl hc | with_unfolding_all rfl
theorem tyM_ok {K : Y00} {M : MH} {H : Hp} {m : MV} {v : V} {T : Ty7} (rh : RH K M H) (r : RM K H m v) (e : tyM M m = some T) : TyOf K H v (.type T.name) := by
  cases r with
  | non => cases e; exact .non
  | bl b => cases e; exact .bl b
  | int i => cases e; exact .int i
  | str x => cases e; exact .str x
  | tup h _ => cases e; exact .tup h
  | frl _ _ => cases e
  | ty _ => cases e
  | ref a =>
    unfold tyM at e
    dsimp only at e
    cases q : M a with
    | none => rw [q] at e; cases e
    | some o =>
      rw [q] at e
      cases o with
      | lst xs => cases e; obtain ⟨vs, h, _⟩ := rh.lst q; exact .lst h
      | dic kvs => cases e; obtain ⟨vs, h, _⟩ := rh.dic q; exact .dK h
      | ins _ _ => cases e
      | fdic _ _ => cases e
inductive BI where | len | isinst | max | min | sum | abs | int | list | tuple | dict | sorted | dictL | all
  deriving DecidableEq
noncomputable def bLen (vs : List MV) (M : MH) (Q : QM) : Prop := match vs with
  | [.tup xs] => Q (.int xs.length) M
  | [.frl xs] => Q (.int xs.length) M
  | [.str z] => z.length ≤ sizeLine ∧ Q (.int z.length) M
  | [.ref a] => (∃ xs, M a = some (.lst xs) ∧ Q (.int xs.length) M) ∨ ∃ kvs, M a = some (.dic kvs) ∧ Q (.int kvs.length) M
  | _ => False
noncomputable def bIsi (vs : List MV) (M : MH) (Q : QM) : Prop := match vs with
  | [x, .ty c] => ∃ T, tyM M x = some T ∧ c ≠ .none ∧ Q (.bl (isTy T c)) M
  | [x, .tup [.ty c, .ty d]] => ∃ T, tyM M x = some T ∧ c ≠ .none ∧ d ≠ .none ∧ Q (.bl (isTy T c || isTy T d)) M
  | _ => False
noncomputable def bAbs (vs : List MV) (M : MH) (Q : QM) : Prop := match vs with
  | [.int i] => Q (.int (if i < 0 then -i else i)) M
  | _ => False
noncomputable def bInt (vs : List MV) (M : MH) (Q : QM) : Prop := match vs with
  | [.int i] => Q (.int i) M
  | [.bl k] => Q (.int (if k then 1 else 0)) M
  | _ => False
noncomputable def bLst (vs : List MV) (M : MH) (Q : QM) : Prop := match vs with
  | [.tup xs] => ∀ p, M p = none → Q (.ref p) (updM M p (.lst xs))
  | [.frl xs] => ∀ p, M p = none → Q (.ref p) (updM M p (.lst xs))
  | [.ref a] => ∃ xs, M a = some (.lst xs) ∧ ∀ p, M p = none → Q (.ref p) (updM M p (.lst xs))
  | _ => False
noncomputable def bTup (vs : List MV) (M : MH) (Q : QM) : Prop := match vs with
  | [.tup xs] => Q (.tup xs) M
  | [.frl xs] => Q (.tup xs) M
  | [.ref a] => ∃ xs, M a = some (.lst xs) ∧ Q (.tup xs) M
  | _ => False
noncomputable def prM (p : Key × MV) : MV := .tup [match p.1 with | .inl i => .int i | .inr x => .str x, p.2]
noncomputable def putAllM (ps : List (Key × MV)) : List (Key × MV) := ps.foldl (λc z => putM c z.1 z.2) []
noncomputable def bDic (vs : List MV) (M : MH) (Q : QM) : Prop := match vs with
  | [.ref a] => ∃ kvs, M a = some (.dic kvs) ∧ ∀ p, M p = none → Q (.ref p) (updM M p (.dic kvs))
  | [.tup xs] => ∃ ps : List (Key × MV), xs = ps.map prM ∧ ∀ p, M p = none → Q (.ref p) (updM M p (.dic (putAllM ps)))
  | _ => False
theorem pairs_of {K : Y00} {H : Hp} : ∀ {ps : List (Key × MV)} {vs : List V}, RMs K H (ps.map prM) vs → ∃ ps' : List (Key × V), PairsV H ps' vs ∧ RKs K H ps ps'
  | [], _, .nil => ⟨[], .nil, .nil⟩
  | (k, x) :: r, _, .cons (.tup e t) u => by
    obtain ⟨ps', h1, h2⟩ := pairs_of u
    cases t with
    | cons t1 t2 =>
      cases t2 with
      | cons t3 t4 =>
        cases t4
        rename_i v1 v2
        refine ⟨(k, v2) :: ps', .cons ⟨_, rfl, ?_⟩ h1, .cons t3 h2⟩
        rw [e]
        cases k <;> cases t1 <;> rfl
theorem putAll_rk {K : Y00} {H : Hp} : ∀ {ps : List (Key × MV)} {ps' : List (Key × V)} {c : List (Key × MV)} {c' : List (Key × V)}, RKs K H ps ps' → RKs K H c c' → (c.map (·.1)).Nodup →
    RKs K H (ps.foldl (λc z => putM c z.1 z.2) c) (ps'.foldl (λc z => putK c z.1 z.2) c') ∧ ((ps.foldl (λc z => putM c z.1 z.2) c).map (·.1)).Nodup
  | _, _, _, _, .nil, h, nd => ⟨h, nd⟩
  | _, _, _, _, .cons r t, h, nd => by
    obtain ⟨a, b⟩ := putM_rk r nd h
    have z := putAll_rk t a b
    exact z
noncomputable def wBi (f : BI) (vs : List MV) (M : MH) (Q : QM) : Prop := match f with
  | .len => bLen vs M Q
  | .isinst => bIsi vs M Q
  | .max => False
  | .min => False
  | .sum => False
  | .abs => bAbs vs M Q
  | .int => bInt vs M Q
  | .list => bLst vs M Q
  | .tuple => bTup vs M Q
  | .dict => bDic vs M Q
  | .sorted => False
  | .dictL => False
  | .all => False
theorem mon_len : MonW bLen := by
  intro vs M Q Q' hq h
  unfold bLen at h ⊢
  split at h
  · exact hq _ _ h
  · exact hq _ _ h
  · exact ⟨h.1, hq _ _ h.2⟩
  · rcases h with ⟨xs, h1, h2⟩ | ⟨xs, h1, h2⟩
    · exact .inl ⟨xs, h1, hq _ _ h2⟩
    · exact .inr ⟨xs, h1, hq _ _ h2⟩
  · exact h.elim
theorem mon_bi (f : BI) : MonW (wBi f) := by
  intro vs M Q Q' hq h
  cases f
  · exact mon_len hq h
  · have h : bIsi vs M Q := h
    show bIsi vs M Q'
    unfold bIsi at h ⊢
    split at h
    · obtain ⟨T, h1, h2, h3⟩ := h; exact ⟨T, h1, h2, hq _ _ h3⟩
    · obtain ⟨T, h1, h2, h3, h4⟩ := h; exact ⟨T, h1, h2, h3, hq _ _ h4⟩
    · exact h.elim
  · exact Y0g h
  · exact Y0g h
  · exact Y0g h
  · have h : bAbs vs M Q := h
    show bAbs vs M Q'
    unfold bAbs at h ⊢
    split at h
    · exact hq _ _ h
    · exact h.elim
  · have h : bInt vs M Q := h
    show bInt vs M Q'
    unfold bInt at h ⊢
    split at h
    · exact hq _ _ h
    · exact hq _ _ h
    · exact h.elim
  · have h : bLst vs M Q := h
    show bLst vs M Q'
    unfold bLst at h ⊢
    split at h
    · exact λp hp => hq _ _ (h p hp)
    · exact λp hp => hq _ _ (h p hp)
    · obtain ⟨xs, h1, h2⟩ := h; exact ⟨xs, h1, λp hp => hq _ _ (h2 p hp)⟩
    · exact h.elim
  · have h : bTup vs M Q := h
    show bTup vs M Q'
    unfold bTup at h ⊢
    split at h
    · exact hq _ _ h
    · exact hq _ _ h
    · obtain ⟨xs, h1, h2⟩ := h; exact ⟨xs, h1, hq _ _ h2⟩
    · exact h.elim
  · have h : bDic vs M Q := h
    show bDic vs M Q'
    unfold bDic at h ⊢
    split at h
    · obtain ⟨xs, h1, h2⟩ := h; exact ⟨xs, h1, λp hp => hq _ _ (h2 p hp)⟩
    · obtain ⟨xs, h1, h2⟩ := h; exact ⟨xs, h1, λp hp => hq _ _ (h2 p hp)⟩
    · exact h.elim
  · exact Y0g h
  · exact Y0g h
  · exact Y0g h
noncomputable def BI.val : BI → Value
  | .len => .builtin "len" | .isinst => .builtin "isinstance" | .max => .builtin "max" | .min => .builtin "min" | .sum => .builtin "sum" | .abs => .builtin "abs"
  | .int => .type "int" | .list => .type "list" | .tuple => .type "tuple" | .dict => .type "dict" | .sorted => .builtin "sorted" | .dictL => .type "dict" | .all => .builtin "all"
section
variable {X : Cx}
theorem RMs.one {K : Y00} {H : Hp} {m : MV} {vs : List V} (r : RMs K H [m] vs) : ∃ v, vs = [v] ∧ RM K H m v := by
  cases r with
  | cons a b => cases b; exact ⟨_, rfl, a⟩
theorem RMs.two {K : Y00} {H : Hp} {m n : MV} {vs : List V} (r : RMs K H [m, n] vs) : ∃ v w, vs = [v, w] ∧ RM K H m v ∧ RM K H n w := by
  cases r with
  | cons a b => obtain ⟨w, rfl, c⟩ := b.one; exact ⟨_, _, rfl, a, c⟩
theorem call_dict_of : CallR X (.type "dict") (fun xs H Q => ∃ a kvs, xs = [.ref a] ∧ H a = some (.dK kvs) ∧ ∀ p, H p = none → Q (.ref p) (upd H p (.dK kvs))) := by
  intro pins s σ H xs us Q I r h
  obtain ⟨a, kvs, rfl, ha, q⟩ := h
  obtain ⟨u, rfl, ru⟩ := vals1 r
  cases ru
  exact d_copyOf I (.inl ha) λp s' hp I' => ⟨.ref p, _, I', rfl, q p hp⟩
theorem call_bi (hc : X.calm = true) (f : BI) : CallR X f.val (liW X.K (wBi f)) := by
  intro pins s σ H xs us Q I r h
  obtain ⟨ms, M, r1, rh, h⟩ := h
  cases f with
  | len =>
    have h : bLen ms M (Dn X.K H Q) := h
    unfold bLen at h
    split at h
    · obtain ⟨v, rfl, a⟩ := r1.one
      cases a with
      | tup h1 q1 => exact call_len_seq pins s σ H _ us Q I r ⟨_, _, rfl, .inr (SqT.of h1), by rw [← q1.length]; exact h _ _ (Kp.refl _) (.int _) rh⟩
    · obtain ⟨v, rfl, a⟩ := r1.one
      cases a with
      | frl h1 q1 => exact call_len_seq pins s σ H _ us Q I r ⟨_, _, rfl, .inl h1.sq, by rw [← q1.length]; exact h _ _ (Kp.refl _) (.int _) rh⟩
    · obtain ⟨v, rfl, a⟩ := r1.one
      cases a
      exact call_len_str pins s σ H _ us Q I r ⟨_, rfl, h.1, h.2 _ _ (Kp.refl _) (.int _) rh⟩
    · obtain ⟨v, rfl, a⟩ := r1.one
      cases a
      rcases h with ⟨xs, h1, h⟩ | ⟨kvs, h1, h⟩
      · obtain ⟨vs, e, q1⟩ := rh.lst h1
        exact call_len_seq pins s σ H _ us Q I r ⟨_, _, rfl, .inl (SqL.of e), by rw [← q1.length]; exact h _ _ (Kp.refl _) (.int _) rh⟩
      · obtain ⟨vs, e, q1, _⟩ := rh.dic h1
        exact call_lenD pins s σ H _ us Q I r ⟨_, _, rfl, e, by rw [← q1.length]; exact h _ _ (Kp.refl _) (.int _) rh⟩
    · exact h.elim
  | isinst =>
    have h : bIsi ms M (Dn X.K H Q) := h
    unfold bIsi at h
    split at h
    · obtain ⟨v, w, rfl, a, b⟩ := r1.two
      cases b
      obtain ⟨T, h1, h2, h3⟩ := h
      exact call_isinst pins s σ H _ us Q I r ⟨_, _, _, _, rfl, tyM_ok rh a h1, kit_ty _ _ _ h2, h3 _ _ (Kp.refl _) (.bl _) rh⟩
    · obtain ⟨v, w, rfl, a, b⟩ := r1.two
      obtain ⟨T, h1, h2, h3, h4⟩ := h
      cases b with
      | tup ht qt =>
        cases qt with
        | cons q1 q2 =>
          cases q2 with
          | cons q3 q4 =>
            cases q4
            cases q1
            cases q3
            exact call_isinst2 pins s σ H _ us Q I r ⟨_, _, _, _, _, _, _, rfl, ht, tyM_ok rh a h1, kit_ty _ _ _ h2, kit_ty _ _ _ h3, h4 _ _ (Kp.refl _) (.bl _) rh⟩
    · exact h.elim
  | max => exact Y0g h
  | min => exact Y0g h
  | sum => exact Y0g h
  | abs =>
    have h : bAbs ms M (Dn X.K H Q) := h
    unfold bAbs at h
    split at h
    · obtain ⟨v, rfl, a⟩ := r1.one
      cases a
      exact call_abs pins s σ H _ us Q I r ⟨_, rfl, h _ _ (Kp.refl _) (.int _) rh⟩
    · exact h.elim
  | int =>
    have h : bInt ms M (Dn X.K H Q) := h
    unfold bInt at h
    split at h
    · obtain ⟨v, rfl, a⟩ := r1.one
      cases a
      exact call_int1 pins s σ H _ us Q I r (.inl ⟨_, rfl, h _ _ (Kp.refl _) (.int _) rh⟩)
    · obtain ⟨v, rfl, a⟩ := r1.one
      cases a
      exact call_int1 pins s σ H _ us Q I r (.inr ⟨_, rfl, h _ _ (Kp.refl _) (.int _) rh⟩)
    · exact h.elim
  | list =>
    have h : bLst ms M (Dn X.K H Q) := h
    unfold bLst at h
    split at h
    · obtain ⟨v, rfl, a⟩ := r1.one
      cases a with
      | tup h1 q1 =>
        refine call_list_of pins s σ H _ us Q I r ⟨_, _, rfl, .inr (SqT.of h1), λp hp => ?_⟩
        have k := λz => Kp.new hp (.lst z)
        exact h p (rh.free hp) _ _ (k _) (.ref p) (rh.put (k _) (q1.mono (k _)))
    · obtain ⟨v, rfl, a⟩ := r1.one
      cases a with
      | frl h1 q1 =>
        refine call_list_of pins s σ H _ us Q I r ⟨_, _, rfl, .inl h1.sq, λp hp => ?_⟩
        have k := λz => Kp.new hp (.lst z)
        exact h p (rh.free hp) _ _ (k _) (.ref p) (rh.put (k _) (q1.mono (k _)))
    · obtain ⟨v, rfl, a⟩ := r1.one
      cases a
      obtain ⟨xs, h1, h⟩ := h
      obtain ⟨vs, e, q1⟩ := rh.lst h1
      refine call_list_of pins s σ H _ us Q I r ⟨_, _, rfl, .inl (SqL.of e), λp hp => ?_⟩
      have k := Kp.new hp (.lst vs)
      exact h p (rh.free hp) _ _ k (.ref p) (rh.put k (q1.mono k))
    · exact h.elim
  | tuple =>
    have h : bTup ms M (Dn X.K H Q) := h
    unfold bTup at h
    split at h
    · obtain ⟨v, rfl, a⟩ := r1.one
      cases a with
      | tup h1 q1 => exact call_tuple_of pins s σ H _ us Q I r ⟨_, _, rfl, .inr ⟨SqT.of h1, h _ _ (Kp.refl _) (.tup h1 q1) rh⟩⟩
    · obtain ⟨v, rfl, a⟩ := r1.one
      cases a with
      | frl h1 q1 =>
        refine call_tuple_of pins s σ H _ us Q I r ⟨_, _, rfl, .inl ⟨h1.sq, λp hp => ?_⟩⟩
        have k := λz => Kp.new hp (.tup z)
        exact h _ _ (k _) (.tup upd_same (q1.mono (k _))) (rh.kept hp _)
    · obtain ⟨v, rfl, a⟩ := r1.one
      cases a
      obtain ⟨xs, h1, h⟩ := h
      obtain ⟨vs, e, q1⟩ := rh.lst h1
      refine call_tuple_of pins s σ H _ us Q I r ⟨_, _, rfl, .inl ⟨SqL.of e, λp hp => ?_⟩⟩
      have k := Kp.new hp (.tup vs)
      exact h _ _ k (.tup upd_same (q1.mono k)) (rh.kept hp _)
    · exact h.elim
  | dict =>
    have h : bDic ms M (Dn X.K H Q) := h
    unfold bDic at h
    split at h
    · obtain ⟨v, rfl, a⟩ := r1.one
      cases a
      obtain ⟨kvs, h1, h⟩ := h
      obtain ⟨vs, e, q1, nd⟩ := rh.dic h1
      refine call_dict_of pins s σ H _ us Q I r ⟨_, _, rfl, e, λp hp => ?_⟩
      have k := Kp.new hp (.dK vs)
      exact h p (rh.free hp) _ _ k (.ref p) (rh.put k ⟨q1.mono k, nd⟩)
    · obtain ⟨v, rfl, a⟩ := r1.one
      obtain ⟨ps, rfl, h2⟩ := h
      cases a with
      | tup e q1 =>
        obtain ⟨ps', pv, rk⟩ := pairs_of q1
        refine call_dictPT hc pins s σ H _ us Q I r ⟨_, ps', _, rfl, e, pv, λp hp => ?_⟩
        have k := Kp.new hp (.dK (putAll ps'))
        obtain ⟨z1, z2⟩ := putAll_rk rk (.nil : RKs X.K H [] []) (by simp)
        exact h2 p (rh.free hp) _ _ k (.ref p) (rh.put k ⟨z1.mono k, z2⟩)
    · exact h.elim
  | sorted => exact Y0g h
  | dictL => exact Y0g h
  | all => exact Y0g h
end
theorem rms_of {K : Y00} {H : Hp} (f : Nat → Int) : ∀ l : List Nat, RMs K H (l.map λi => MV.int (f i)) (l.map λi => V.int (f i))
  | [] => .nil
  | _ :: r => .cons (.int _) (rms_of f r)
theorem rms_range {K : Y00} {H : Hp} (n : Nat) : RMs K H ((Y0z n).map λi => MV.int (i : Nat)) ((Y0z n).map λi => V.int (i : Nat)) := rms_of (λi => (i : Int)) _
inductive B2 where | ssrt | lset | tset | lrng
  deriving DecidableEq
noncomputable def B2.out : B2 → String
  | .ssrt => "sorted"
  | .lset => "len"
  | .tset => "len"
  | .lrng => "list"
noncomputable def B2.inn : B2 → String
  | .ssrt => "set"
  | .lset => "set"
  | .tset => "set"
  | .lrng => "range"
noncomputable def B2.outV : B2 → Value
  | .ssrt => .builtin "sorted"
  | .lset => .builtin "len"
  | .tset => .builtin "len"
  | .lrng => .type "list"
noncomputable def wB2 (f : B2) (v : MV) (M : MH) (Q : QM) : Prop := match f with
  | .ssrt => False
  | .lset => ∃ (a : Addr) (ns : List Int), v = .ref a ∧ M a = some (.lst (ns.map MV.int)) ∧ ns.length + 1 < scanBound ∧ ∀ k : Nat, (k = ns.length ↔ ns.Nodup) → k ≤ ns.length → Q (.int k) M
  | .tset => False
  | .lrng => ∃ n : Nat, v = .int n ∧ n ≤ 1000000 ∧ ∀ p, M p = none → Q (.ref p) (updM M p (.lst ((Y0z n).map λi => MV.int (i : Nat))))
theorem mon_b2 (f : B2) : Mon1 (wB2 f) := by
  intro v M Q Q' hq h
  cases f with
  | ssrt => exact Y0g h
  | lset =>
    obtain ⟨a, ns, h1, h2, h3, h4⟩ := h
    exact ⟨a, ns, h1, h2, h3, λk a1 a2 => hq _ _ (h4 k a1 a2)⟩
  | tset => exact Y0g h
  | lrng =>
    obtain ⟨n, h1, h2, h3⟩ := h
    exact ⟨n, h1, h2, λp hp => hq _ _ (h3 p hp)⟩
section
variable {X : Cx}
theorem call_b2 (hc : X.calm = true) (f : B2) : Call2 X f.outV (.type f.inn) (li1 X.K (wB2 f)) := by
  intro pins s σ H x u Q I r h
  obtain ⟨m, M, r1, rh, h⟩ := h
  cases f with
  | ssrt => exact Y0g h
  | lset =>
    obtain ⟨a, ns, rfl, h2, h3, h4⟩ := h
    cases r1
    obtain ⟨vs, e, q1⟩ := rh.lst h2
    have := q1.ints_of
    subst this
    exact call_lset hc pins s σ H _ u Q I r ⟨_, ns, rfl, SqL.of e, h3, λk a1 a2 => h4 k a1 a2 _ _ (Kp.refl _) (.int _) rh⟩
  | tset => exact Y0g h
  | lrng =>
    obtain ⟨n, rfl, h2, h3⟩ := h
    cases r1
    refine call_lrng hc pins s σ H _ u Q I r ⟨n, rfl, h2, λp hp => ?_⟩
    have k := Kp.new hp (.lst ((Y0z n).map λi => V.int (i : Nat)))
    exact h3 p (rh.free hp) _ _ k (.ref p) (rh.put k (rms_range n))
end
inductive MT where | append | extend | reverse | clear | pop | popAt | dclear | dget | dgetD | join | remove
  deriving DecidableEq
noncomputable def wMt (m : MT) (a : Addr) (vs : List MV) (M : MH) (Q : QM) : Prop := ∃ xs, M a = some (.lst xs) ∧ match m, vs with
  | .append, [y] => xs.length < sizeLine ∧ Q .non (updM M a (.lst (xs ++ [y])))
  | _, _ => False
noncomputable def wMl (m : MT) (x : MV) (vs : List MV) (M : MH) (Q : QM) : Prop := match x with
  | .ref a => wMt m a vs M Q
  | _ => False
noncomputable def wMd (m : MT) (x : MV) (vs : List MV) (M : MH) (Q : QM) : Prop := match m with
  | _ => False
noncomputable def MT.isL : MT → Bool
  | .dclear => false | .dget => false | .dgetD => false | .join => false | _ => true
noncomputable def MT.ty : MT → String
  | .dclear => "dict" | .dget => "dict" | .dgetD => "dict" | .join => "str" | _ => "list"
noncomputable def mtOk (m : MT) (x : MV) (M : MH) : Prop := match m with
  | .dclear => ∃ a kvs, x = .ref a ∧ M a = some (.dic kvs)
  | .dget => ∃ a kvs, x = .ref a ∧ M a = some (.dic kvs)
  | .dgetD => ∃ a kvs, x = .ref a ∧ M a = some (.dic kvs)
  | .join => ∃ z, x = .str z
  | _ => ∃ a xs, x = .ref a ∧ M a = some (.lst xs)
noncomputable def wMts (m : MT) (x : MV) (vs : List MV) (M : MH) (Q : QM) : Prop := match m with
  | .dclear => wMd .dclear x vs M Q
  | .dget => wMd .dget x vs M Q
  | .dgetD => wMd .dgetD x vs M Q
  | .join => wMd .join x vs M Q
  | m => wMl m x vs M Q
theorem wMts_l {m : MT} {x : MV} {vs : List MV} {M : MH} {Q : QM} (h : m.isL = true) : wMts m x vs M Q = wMl m x vs M Q := by cases m <;> first | rfl | cases h
theorem wMts_d {m : MT} {x : MV} {vs : List MV} {M : MH} {Q : QM} (h : m.isL = false) : wMts m x vs M Q = wMd m x vs M Q := by cases m <;> first | rfl | cases h
theorem mon_ml {m : MT} {a : MV} {vs : List MV} {M : MH} {Q Q' : QM} (hq : ∀ m M', Q m M' → Q' m M') (h : wMl m a vs M Q) : wMl m a vs M Q' := by
  cases a <;> try exact h.elim
  obtain ⟨xs, h1, h⟩ := h
  refine ⟨xs, h1, ?_⟩
  split at h
  · exact ⟨h.1, hq _ _ h.2⟩
  · exact h.elim
theorem mon_md {m : MT} {x : MV} {vs : List MV} {M : MH} {Q Q' : QM} (hq : ∀ m M', Q m M' → Q' m M') (h : wMd m x vs M Q) : wMd m x vs M Q' := by
  cases m <;> try exact h.elim
theorem mon_mt {m : MT} {a : MV} {vs : List MV} {M : MH} {Q Q' : QM} (hq : ∀ m M', Q m M' → Q' m M') (h : wMts m a vs M Q) : wMts m a vs M Q' := by
  cases e : m.isL
  · rw [wMts_d e] at h ⊢; exact mon_md hq h
  · rw [wMts_l e] at h ⊢; exact mon_ml hq h
noncomputable def MT.id : MT → String
  | .dclear => "dict.clear" | .dget => "dict.get" | .dgetD => "dict.get" | .join => "str.join"
  | .append => "list.append" | .extend => "list.extend" | .reverse => "list.reverse" | .clear => "list.clear" | .pop => "list.pop" | .popAt => "list.pop" | .remove => "list.remove"
noncomputable def liM (K : Y00) (w : MV → List MV → MH → QM → Prop) : V → List V → Hp → VK → Prop := λx xs H Q => ∃ mx ms M, RM K H mx x ∧ RMs K H ms xs ∧ RH K M H ∧ w mx ms M (Dn K H Q)
theorem RMs.erase {K : Y00} {H : Hp} {m : List MV} {v : List V} (r : RMs K H m v) (k : Nat) : RMs K H (m.eraseIdx k) (v.eraseIdx k) := by
  rw [Y1y, Y1y]; exact (r.take _).append (r.drop _)
section
variable {X : Cx}
theorem mt_anyL (m : MT) : MtR X m.id (liM X.K (wMl m)) := by
  intro pins s σ H x xs v us Q I rx rs h
  obtain ⟨mx, ms, M, r1, r2, rh, h⟩ := h
  cases r1 <;> try exact h.elim
  obtain ⟨ys, h1, h⟩ := h
  obtain ⟨vs, e, q1⟩ := rh.lst h1
  have ku : ∀ o, Kp H (upd H _ o) := λo => Kp.upd e rfl o
  split at h
  · obtain ⟨w, rfl, r3⟩ := r2.one
    exact mt_append pins s σ H _ _ v us Q I rx rs ⟨_, vs, w, rfl, rfl, e, by rw [← q1.length]; exact h.1, h.2 _ _ (ku _) .non (rh.put (ku _) ((q1.append (.cons r3 .nil)).mono (ku _)))⟩
  · exact h.elim
theorem mt_anyD (hu : X.A.units + 1 < cLine) (m : MT) : MtR X m.id (liM X.K (wMd m)) := by
  intro pins s σ H x xs v us Q I rx rs h
  obtain ⟨mx, ms, M, r1, r2, rh, h⟩ := h
  cases m <;> try exact h.elim
theorem mt_any (hu : X.A.units + 1 < cLine) (m : MT) : MtR X m.id (liM X.K (wMts m)) := by
  intro pins s σ H x xs v us Q I rx rs h
  obtain ⟨mx, ms, M, r1, r2, rh, h⟩ := h
  cases e : m.isL
  · rw [wMts_d e] at h; exact mt_anyD hu m pins s σ H x xs v us Q I rx rs ⟨mx, ms, M, r1, r2, rh, h⟩
  · rw [wMts_l e] at h; exact mt_anyL m pins s σ H x xs v us Q I rx rs ⟨mx, ms, M, r1, r2, rh, h⟩
end
noncomputable def wPut (o i v : MV) (M : MH) (Q : MH → Prop) : Prop := match o with
  | .ref a => (∃ xs k j, M a = some (.lst xs) ∧ i = .int k ∧ ixN xs.length k = some j ∧ Q (updM M a (.lst (xs.set j v)))) ∨ ∃ kvs kk, M a = some (.dic kvs) ∧ keyM i = some kk ∧ kvs.length < sizeLine ∧ Q (updM M a (.dic (putM kvs kk v)))
  | _ => False
theorem mon_put {o i v : MV} {M : MH} {Q Q' : MH → Prop} (hq : ∀ M', Q M' → Q' M') (h : wPut o i v M Q) : wPut o i v M Q' := by
  cases o <;> try exact h.elim
  rcases h with ⟨xs, k, j, h1, h2, h3, h4⟩ | ⟨kvs, kk, h1, h2, h3, h4⟩
  · exact .inl ⟨xs, k, j, h1, h2, h3, hq _ h4⟩
  · exact .inr ⟨kvs, kk, h1, h2, h3, hq _ h4⟩
section
variable {X : Cx}
end
end L2
namespace L2
set_option genInjectivity false
open PySem PySem.Spec PyProof.Rows
mutual
inductive ITg where | nm (i : Nat) | tup (ts : ITgs)
inductive ITgs where | nil | cons (t : ITg) (ts : ITgs)
end
mutual
inductive IE where
  | var (i : Nat)
  | int (i : Int) | str (x : Str) | bl (b : Bool) | non
  | glb (x : Str) (i : Int)
  | ty (c : Ty7)
  | bin (op : Operator) (a b : IE)
  | neg (a : IE)
  | not (a : IE)
  | cmp (op : CmpOp) (a b : IE)
  | chn (op op' : CmpOp) (a b c : IE)
  | and (a b : IE)
  | or (a b : IE)
  | ife (c a b : IE)
  | tup (es : IEs)
  | lst (es : IEs)
  | dic
  | ix (a b : IE)
  | sl (a : IE) (lo hi : IO)
  | call (j : Nat) (e : IE) (es : IEs)
  | bi (f : BI) (e : IE) (es : IEs)
  | b2 (f : B2) (e : IE)
  | mt (m : MT) (o : IE) (es : IEs)
  | comp (own : List Str) (fr : List Nat) (src : ISr) (tg : ITg) (test : IO) (elt : IE)
  | fld (c : Str) (o : IE) (f : Str)
  | mcall (j : Nat) (c m : Str) (o : IE) (es : IEs)
  | make (j : Nat) (c : Str) (e : IE) (es : IEs)
  | disp (ps : IPs)
  | mxd (e : IE)
  | st3 (e : IE)
inductive IPs where | nil | cons (k v : IE) (r : IPs)
inductive IEs where | nil | cons (e : IE) (es : IEs)
inductive IO where | none | some (e : IE)
inductive ISr where | seq (e : IE) | rng (e : IE) | rng2 (a b : IE) | rng3 (a b c : IE)
end
noncomputable def wSt3 (v : MV) (M : MH) (Q : QM) : Prop := ∃ (a : Addr) (xs : List MV), v = .ref a ∧ M a = some (.lst xs) ∧ ∀ p, M p = none → Q (.ref p) (updM M p (.lst (st3 xs)))
theorem mon_st3 {v : MV} {M : MH} {Q Q' : QM} (hq : ∀ v M, Q v M → Q' v M) (h : wSt3 v M Q) : wSt3 v M Q' := by
  obtain ⟨a, xs, h1, h2, h3⟩ := h
  exact ⟨a, xs, h1, h2, λp hp => hq _ _ (h3 p hp)⟩
noncomputable def wMxd (v : MV) (M : MH) (Q : QM) : Prop := ∃ (a : Addr) (ns : List Int), v = .ref a ∧ M a = some (.lst (ns.map MV.int)) ∧ ∀ m, (ns = [] ∧ m = 0 ∨ m ∈ ns ∧ ∀ i ∈ ns, i ≤ m) → Q (.int m) M
theorem mon_mxd {v : MV} {M : MH} {Q Q' : QM} (hq : ∀ v M, Q v M → Q' v M) (h : wMxd v M Q) : wMxd v M Q' := by
  obtain ⟨a, ns, h1, h2, h3⟩ := h
  exact ⟨a, ns, h1, h2, λm hm => hq _ _ (h3 m hm)⟩
inductive Src where | tup (xs : List MV) | lst (a : Addr) (xs : List MV) | rng (lo : Int) (n : Nat) | rst (lo st : Int) (n : Nat) | dic (a : Addr) (o : Obj) (kvs : List (Key × MV)) | str (x : Str)
noncomputable def kM : Key → MV
  | .inl i => .int i
  | .inr x => .str x
noncomputable def Src.items : Src → List MV
  | .tup xs => xs
  | .lst _ xs => xs
  | .rng lo n => (Y0z n).map λi => .int (lo + (i : Nat))
  | .rst lo st n => (Y0z n).map λi => .int (lo + (i : Nat) * st)
  | .dic _ _ kvs => kvs.map λp => kM p.1
  | .str x => x.cps.toList.map λc => .str ⟨#[c]⟩
noncomputable def Src.ok (M : MH) : Src → Prop
  | .lst a xs => M a = some (.lst xs)
  | .dic a o kvs => M a = some (.fdic o kvs)
  | _ => True
noncomputable def Src.okT (M : MH) : Src → Prop
  | .dic a o kvs => M a = some (.fdic o kvs)
  | _ => True
noncomputable def Src.thaw (M : MH) : Src → MH
  | .dic a _ kvs => updM M a (.dic kvs)
  | _ => M
noncomputable def Src.len : Src → Nat
  | .tup xs => xs.length
  | .lst _ xs => xs.length
  | .rng _ n => n
  | .rst _ _ n => n
  | .dic _ _ kvs => kvs.length
  | .str x => x.cps.size
theorem Src.items_len (S : Src) : S.items.length = S.len := by cases S <;> simp [Src.items, Src.len]
noncomputable abbrev SpM := List MV → MH → QM → Prop
noncomputable abbrev TSm := Sm → MH → (Src → MH → Prop) → Prop
mutual
noncomputable def wTg : ITg → MV → Sm → (Sm → Prop) → Prop
  | .nm i, v, σ, Q => Q (σ.set i (some v))
  | .tup ts, v, σ, Q => ∃ xs, v = .tup xs ∧ wTgs ts xs σ Q
noncomputable def wTgs : ITgs → List MV → Sm → (Sm → Prop) → Prop
  | .nil, xs, σ, Q => xs = [] ∧ Q σ
  | .cons t ts, xs, σ, Q => ∃ v r, xs = v :: r ∧ wTg t v σ λσ' => wTgs ts r σ' Q
end
noncomputable def sCm (own : List Str) (fr : List Nat) (σ : Sm) : Sm := own.map (λ_ => none) ++ fr.map (λi => σ.getD i none)
noncomputable def onV (o : Option (Option MV)) (k : MV → Prop) : Prop := match o with
  | some (some v) => k v
  | _ => False
theorem onV_ex {o : Option (Option MV)} {k : MV → Prop} : onV o k = ∃ v, o = some (some v) ∧ k v := by
  refine propext ⟨λh => ?_, λ⟨v, e, h⟩ => by subst e; exact h⟩
  match o, h with
  | some (some v), h => exact ⟨v, rfl, h⟩
noncomputable def onB (x : MV) (k : Bool → Prop) : Prop := match x with
  | .bl c => k c
  | _ => False
theorem onB_ex {x : MV} {k : Bool → Prop} : onB x k = ∃ c, x = .bl c ∧ k c := by
  refine propext ⟨λh => ?_, λ⟨v, e, h⟩ => by subst e; exact h⟩
  cases x <;> first | exact ⟨_, rfl, h⟩ | exact h.elim
noncomputable def onF (o : Option (Str × SpM)) (k : SpM → Prop) : Prop := match o with
  | some p => k p.2
  | none => False
theorem onF_ex {o : Option (Str × SpM)} {k : SpM → Prop} : onF o k = ∃ f sp, o = some (f, sp) ∧ k sp := by
  refine propext ⟨λh => ?_, λ⟨f, v, e, h⟩ => by subst e; exact h⟩
  match o, h with
  | some (f, sp), h => exact ⟨f, sp, rfl, h⟩
mutual
noncomputable def wE (Φ : List (Str × SpM)) : IE → TEm
  | .var i, σ, M, Q => onV σ[i]? λv => Q v M
  | .int i, _, M, Q => Q (.int i) M
  | .str x, _, M, Q => Q (.str x) M
  | .bl b, _, M, Q => Q (.bl b) M
  | .non, _, M, Q => Q .non M
  | .glb _ i, _, M, Q => Q (.int i) M
  | .ty c, _, M, Q => Q (.ty c) M
  | .bin op a b, σ, M, Q => wE Φ a σ M λx M1 => wE Φ b σ M1 λy M2 => wBin op x y M2 Q
  | .neg a, σ, M, Q => wE Φ a σ M λx M1 => ∃ i, x = .int i ∧ Q (.int (-i)) M1
  | .not a, σ, M, Q => wE Φ a σ M λx M1 => onB x λb => Q (.bl (!b)) M1
  | .cmp op a b, σ, M, Q => wE Φ a σ M λx M1 => wE Φ b σ M1 λy M2 => wCmp op x y M2 Q
  | .chn op op' a b c, σ, M, Q => wE Φ a σ M λx M1 => wE Φ b σ M1 λy M2 => wCmp op x y M2 λz M3 => onB z λk => (if k = true then wE Φ c σ M3 λw M4 => wCmp op' y w M4 Q else Q (.bl false) M3)
  | .and a b, σ, M, Q => wE Φ a σ M λx M1 => onB x λc => (if c = true then wE Φ b σ M1 Q else Q (.bl false) M1)
  | .or a b, σ, M, Q => wE Φ a σ M λx M1 => onB x λc => (if c = true then Q (.bl true) M1 else wE Φ b σ M1 Q)
  | .ife c a b, σ, M, Q => wE Φ c σ M λx M1 => onB x λk => (if k = true then wE Φ a σ M1 Q else wE Φ b σ M1 Q)
  | .tup es, σ, M, Q => wEs Φ es σ M λvs M1 => vs.length ≤ sizeLine ∧ Q (.tup vs) M1
  | .lst es, σ, M, Q => wEs Φ es σ M λvs M1 => vs.length ≤ sizeLine ∧ ∀ p, M1 p = none → Q (.ref p) (updM M1 p (.lst vs))
  | .dic, _, M, Q => ∀ p, M p = none → Q (.ref p) (updM M p (.dic []))
  | .ix a b, σ, M, Q => wE Φ a σ M λx M1 => wE Φ b σ M1 λy M2 => wIx x y M2 Q
  | .sl a lo hi, σ, M, Q => wE Φ a σ M λx M1 => wO Φ lo σ M1 λl M2 => wO Φ hi σ M2 λh M3 => wSl x l h M3 Q
  | .call j e es, σ, M, Q => wE Φ e σ M λv M1 => wEs Φ es σ M1 λvs M2 => onF Φ[j]? λsp => sp (v :: vs) M2 Q
  | .bi f e es, σ, M, Q => wE Φ e σ M λv M1 => wEs Φ es σ M1 λvs M2 => wBi f (v :: vs) M2 Q
  | .b2 f e, σ, M, Q => wE Φ e σ M λv M1 => wB2 f v M1 Q
  | .mxd e, σ, M, Q => wE Φ e σ M λv M1 => wMxd v M1 Q
  | .st3 e, σ, M, Q => wE Φ e σ M λv M1 => wSt3 v M1 Q
  | .mt m o es, σ, M, Q => wE Φ o σ M λx M1 => mtOk m x M1 ∧ wEs Φ es σ M1 λvs M2 => wMts m x vs M2 Q
  | .comp own fr src tg test elt, σ, M, Q => wSr Φ src σ M λS M1 => S.len < sizeLine ∧ ∀ D, M1 D = none → ∃ J : Nat → List MV → MH → Prop, J 0 [] (updM M1 D (.lst [])) ∧
      (∀ i ys M2, J i ys M2 → M2 D = some (.lst ys) ∧ ys.length ≤ i ∧ S.ok M2) ∧
      (∀ i x ys M2, S.items[i]? = some x → J i ys M2 → wTg tg x (sCm own fr σ) λσ2 => wI Φ test σ2 M2 λb M4 =>
        if b = true then wE Φ elt σ2 M4 λy M5 => M5 D = some (.lst ys) ∧ J (i + 1) (ys ++ [y]) (updM M5 D (.lst (ys ++ [y]))) else J (i + 1) ys M4) ∧
      ∀ ys M2, J S.len ys M2 → Q (.ref D) (S.thaw M2)
  | .fld c o f, σ, M, Q => wE Φ o σ M λx M1 => ∃ a fs v, x = .ref a ∧ M1 a = some (.ins c fs) ∧ valM fs f = some v ∧ Q v M1
  | .mcall j c m o es, σ, M, Q => wE Φ o σ M λx M1 => ∃ a fs, x = .ref a ∧ M1 a = some (.ins c fs) ∧ valM fs m = none ∧ wEs Φ es σ M1 λvs M2 => ∃ f sp, Φ[j]? = some (f, sp) ∧ sp (.ref a :: vs) M2 Q
  | .make j c e es, σ, M, Q => wE Φ e σ M λv M1 => wEs Φ es σ M1 λvs M2 => ∃ f sp, Φ[j]? = some (f, sp) ∧ ∀ p, M2 p = none → sp (.ref p :: v :: vs) (updM M2 p (.ins c [])) λu M3 => u = .non ∧ Q (.ref p) M3
  | .disp ps, σ, M, Q => ∀ p, M p = none → wPs Φ ps σ (updM M p (.dic [])) λl M2 => M2 p = some (.dic []) ∧ l.length ≤ 15 ∧ Q (.ref p) (updM M2 p (.dic (putAllM l)))
noncomputable def wPs (Φ : List (Str × SpM)) : IPs → Sm → MH → (List (Key × MV) → MH → Prop) → Prop
  | .nil, _, M, Q => Q [] M
  | .cons k v r, σ, M, Q => wE Φ k σ M λx M1 => ∃ kk, keyM x = some kk ∧ wE Φ v σ M1 λy M2 => wPs Φ r σ M2 λl M3 => Q ((kk, y) :: l) M3
noncomputable def wEs (Φ : List (Str × SpM)) : IEs → TAm
  | .nil, _, M, Q => Q [] M
  | .cons e es, σ, M, Q => wE Φ e σ M λv M1 => wEs Φ es σ M1 λvs M2 => Q (v :: vs) M2
noncomputable def wO (Φ : List (Str × SpM)) : IO → Sm → MH → (Option Int → MH → Prop) → Prop
  | .none, _, M, Q => Q none M
  | .some e, σ, M, Q => wE Φ e σ M λv M1 => ∃ i, v = .int i ∧ Q (some i) M1
noncomputable def wI (Φ : List (Str × SpM)) : IO → Sm → MH → (Bool → MH → Prop) → Prop
  | .none, _, M, Q => Q true M
  | .some e, σ, M, Q => wE Φ e σ M λv M1 => ∃ b, v = .bl b ∧ Q b M1
noncomputable def wSr (Φ : List (Str × SpM)) : ISr → TSm
  | .seq e, σ, M, Q => wE Φ e σ M λv M1 => (∃ xs, (v = .tup xs ∨ v = .frl xs) ∧ Q (.tup xs) M1) ∨ (∃ a xs, v = .ref a ∧ M1 a = some (.lst xs) ∧ Q (.lst a xs) M1) ∨ (∃ a kvs, v = .ref a ∧ M1 a = some (.dic kvs) ∧ ∀ o, Q (.dic a o kvs) (updM M1 a (.fdic o kvs))) ∨ ∃ z, v = .str z ∧ Q (.str z) M1
  | .rng e, σ, M, Q => wE Φ e σ M λv M1 => ∃ j, v = .int j ∧ -(2 ^ 62) ≤ j ∧ j < 2 ^ 62 ∧ Q (.rng 0 j.toNat) M1
  | .rng2 a b, σ, M, Q => wE Φ a σ M λx M1 => wE Φ b σ M1 λy M2 => ∃ i j, x = .int i ∧ y = .int j ∧ (-(2 ^ 62) ≤ i ∧ i < 2 ^ 62 ∧ -(2 ^ 62) ≤ j ∧ j < 2 ^ 62) ∧ Q (.rng i (j - i).toNat) M2
  | .rng3 a b c, σ, M, Q => wE Φ a σ M λx M1 => wE Φ b σ M1 λy M2 => wE Φ c σ M2 λz M3 => ∃ i j, x = .int i ∧ y = .int j ∧ z = .int 2 ∧ (0 ≤ i ∧ i < 2 ^ 60 ∧ 0 ≤ j ∧ j < 2 ^ 60) ∧ Q (.rst i 2 (len2 i j)) M3
end
section
variable {Φ : List (Str × SpM)} {σ : Sm} {M : MH} {Q : QM}
theorem x_var {i : Nat} : wE Φ (.var i) σ M Q = ∃ v, σ[i]? = some (some v) ∧ Q v M := onV_ex
theorem x_not {a : IE} : wE Φ (.not a) σ M Q = wE Φ a σ M λx M1 => ∃ b, x = .bl b ∧ Q (.bl (!b)) M1 := congrArg (wE Φ a σ M) (funext λ_ => funext λ_ => onB_ex)
theorem x_chn {op op' : CmpOp} {a b c : IE} : wE Φ (.chn op op' a b c) σ M Q = wE Φ a σ M λx M1 => wE Φ b σ M1 λy M2 => wCmp op x y M2 λz M3 => ∃ k, z = .bl k ∧ (if k = true then wE Φ c σ M3 λw M4 => wCmp op' y w M4 Q else Q (.bl false) M3) := congrArg (wE Φ a σ M) (funext λ_ => funext λ_ => congrArg (wE Φ b σ _) (funext λ_ => funext λ_ => congrArg (wCmp op _ _ _) (funext λ_ => funext λ_ => onB_ex)))
theorem x_and {a b : IE} : wE Φ (.and a b) σ M Q = wE Φ a σ M λx M1 => ∃ c, x = .bl c ∧ (if c = true then wE Φ b σ M1 Q else Q (.bl false) M1) := congrArg (wE Φ a σ M) (funext λ_ => funext λ_ => onB_ex)
theorem x_or {a b : IE} : wE Φ (.or a b) σ M Q = wE Φ a σ M λx M1 => ∃ c, x = .bl c ∧ (if c = true then Q (.bl true) M1 else wE Φ b σ M1 Q) := congrArg (wE Φ a σ M) (funext λ_ => funext λ_ => onB_ex)
theorem x_ife {a b c : IE} : wE Φ (.ife c a b) σ M Q = wE Φ c σ M λx M1 => ∃ k, x = .bl k ∧ (if k = true then wE Φ a σ M1 Q else wE Φ b σ M1 Q) := congrArg (wE Φ c σ M) (funext λ_ => funext λ_ => onB_ex)
theorem x_call {j : Nat} {e : IE} {es : IEs} : wE Φ (.call j e es) σ M Q = wE Φ e σ M λv M1 => wEs Φ es σ M1 λvs M2 => ∃ f sp, Φ[j]? = some (f, sp) ∧ sp (v :: vs) M2 Q := congrArg (wE Φ e σ M) (funext λ_ => funext λ_ => congrArg (wEs Φ es σ _) (funext λ_ => funext λ_ => onF_ex))
end
mutual
theorem mon_tg : ∀ (t : ITg) {v : MV} {σ : Sm} {Q Q' : Sm → Prop}, (∀ σ, Q σ → Q' σ) → wTg t v σ Q → wTg t v σ Q'
  | .nm i, v, σ, Q, Q', hq, h => by exact hq _ h
  | .tup ts, v, σ, Q, Q', hq, h => by
    obtain ⟨xs, e, h⟩ := h
    exact ⟨xs, e, mon_tgs ts hq h⟩
theorem mon_tgs : ∀ (t : ITgs) {v : List MV} {σ : Sm} {Q Q' : Sm → Prop}, (∀ σ, Q σ → Q' σ) → wTgs t v σ Q → wTgs t v σ Q'
  | .nil, v, σ, Q, Q', hq, h => by exact ⟨h.1, hq _ h.2⟩
  | .cons t ts, v, σ, Q, Q', hq, h => by
    obtain ⟨x, r, e, h⟩ := h
    exact ⟨x, r, e, mon_tg t (λσ' h' => mon_tgs ts hq h') h⟩
end
theorem mon_ite {c : Prop} [Decidable c] {A B A' B' : Prop} (ha : A → A') (hb : B → B') (h : if c then A else B) : if c then A' else B' := by
  split at h
  · rw [if_pos (by assumption)]; exact ha h
  · rw [if_neg (by assumption)]; exact hb h
mutual
theorem mon_e {Φ : List (Str × SpM)} (hΦ : ∀ (j : Nat) f sp, Φ[j]? = some (f, sp) → MonW sp) : ∀ e : IE, MonE (wE Φ e)
  | .var i, σ, M, Q, Q', hq, h => by rw [x_var] at h ⊢; obtain ⟨v, e, h⟩ := h; exact ⟨v, e, hq _ _ h⟩
  | .int _, σ, M, Q, Q', hq, h => by exact hq _ _ h
  | .str _, σ, M, Q, Q', hq, h => by exact hq _ _ h
  | .bl _, σ, M, Q, Q', hq, h => by exact hq _ _ h
  | .non, σ, M, Q, Q', hq, h => by exact hq _ _ h
  | .glb _ _, σ, M, Q, Q', hq, h => by exact hq _ _ h
  | .ty _, σ, M, Q, Q', hq, h => by exact hq _ _ h
  | .bin op a b, σ, M, Q, Q', hq, h => by
    exact mon_e hΦ a (λx M1 h1 => mon_e hΦ b (λy M2 h2 => mon_bin op hq h2) h1) h
  | .neg a, σ, M, Q, Q', hq, h => by
    exact mon_e hΦ a (λx M1 ⟨i, e, h1⟩ => ⟨i, e, hq _ _ h1⟩) h
  | .not a, σ, M, Q, Q', hq, h => by
    rw [x_not] at h ⊢
    exact mon_e hΦ a (λx M1 ⟨i, e, h1⟩ => ⟨i, e, hq _ _ h1⟩) h
  | .cmp op a b, σ, M, Q, Q', hq, h => by
    exact mon_e hΦ a (λx M1 h1 => mon_e hΦ b (λy M2 h2 => mon_cmp op hq h2) h1) h
  | .chn op op' a b c, σ, M, Q, Q', hq, h => by
    rw [x_chn] at h ⊢
    exact mon_e hΦ a (λx M1 h1 => mon_e hΦ b (λy M2 h2 => mon_cmp op (λz M3 ⟨k, e, h3⟩ => ⟨k, e, mon_ite (mon_e hΦ c λw M4 h4 => mon_cmp op' hq h4) (hq _ _) h3⟩) h2) h1) h
  | .and a b, σ, M, Q, Q', hq, h => by
    rw [x_and] at h ⊢
    exact mon_e hΦ a (λx M1 ⟨c, e, h1⟩ => ⟨c, e, mon_ite (mon_e hΦ b hq) (hq _ _) h1⟩) h
  | .or a b, σ, M, Q, Q', hq, h => by
    rw [x_or] at h ⊢
    exact mon_e hΦ a (λx M1 ⟨c, e, h1⟩ => ⟨c, e, mon_ite (hq _ _) (mon_e hΦ b hq) h1⟩) h
  | .ife c a b, σ, M, Q, Q', hq, h => by
    rw [x_ife] at h ⊢
    exact mon_e hΦ c (λx M1 ⟨k, e, h1⟩ => ⟨k, e, mon_ite (mon_e hΦ a hq) (mon_e hΦ b hq) h1⟩) h
  | .tup es, σ, M, Q, Q', hq, h => by
    exact mon_es hΦ es (λvs M1 ⟨e, h1⟩ => ⟨e, hq _ _ h1⟩) h
  | .lst es, σ, M, Q, Q', hq, h => by
    exact mon_es hΦ es (λvs M1 ⟨e, h1⟩ => ⟨e, λp hp => hq _ _ (h1 p hp)⟩) h
  | .dic, σ, M, Q, Q', hq, h => by
    exact λp hp => hq _ _ (h p hp)
  | .ix a b, σ, M, Q, Q', hq, h => by
    exact mon_e hΦ a (λx M1 h1 => mon_e hΦ b (λy M2 h2 => mon_ix hq h2) h1) h
  | .sl a lo hi, σ, M, Q, Q', hq, h => by
    exact mon_e hΦ a (λx M1 h1 => mon_o hΦ lo (λy M2 h2 => mon_o hΦ hi (λz M3 h3 => mon_sl hq h3) h2) h1) h
  | .call j e es, σ, M, Q, Q', hq, h => by
    rw [x_call] at h ⊢
    exact mon_e hΦ e (λx M1 h1 => mon_es hΦ es (λy M2 ⟨f, sp, e, h2⟩ => ⟨f, sp, e, hΦ _ _ _ e hq h2⟩) h1) h
  | .bi f e es, σ, M, Q, Q', hq, h => by
    exact mon_e hΦ e (λx M1 h1 => mon_es hΦ es (λy M2 h2 => mon_bi f hq h2) h1) h
  | .b2 f e, σ, M, Q, Q', hq, h => by
    exact mon_e hΦ e (λx M1 h1 => mon_b2 f hq h1) h
  | .mxd e, σ, M, Q, Q', hq, h => by
    exact mon_e hΦ e (λx M1 h1 => mon_mxd hq h1) h
  | .st3 e, σ, M, Q, Q', hq, h => by
    exact mon_e hΦ e (λx M1 h1 => mon_st3 hq h1) h
  | .mt m o es, σ, M, Q, Q', hq, h => by
    exact mon_e hΦ o (λx M1 ⟨h0, h1⟩ => ⟨h0, mon_es hΦ es (λy M2 h2 => mon_mt hq h2) h1⟩) h
  | .comp own fr src tg test elt, σ, M, Q, Q', hq, h => by
    exact mon_sr hΦ src (λS M1 ⟨hz, h1⟩ => ⟨hz, λD hD => by
      obtain ⟨J, j0, j1, j2, j3⟩ := h1 D hD
      exact ⟨J, j0, j1, j2, λys M2 hj => hq _ _ (j3 ys M2 hj)⟩⟩) h
  | .fld c o f, σ, M, Q, Q', hq, h => by
    exact mon_e hΦ o (λx M1 ⟨a, fs, v, e, e2, e3, h1⟩ => ⟨a, fs, v, e, e2, e3, hq _ _ h1⟩) h
  | .mcall j c m o es, σ, M, Q, Q', hq, h => by
    exact mon_e hΦ o (λx M1 ⟨a, fs, e, e2, e3, h1⟩ => ⟨a, fs, e, e2, e3, mon_es hΦ es (λy M2 ⟨f, sp, e, h2⟩ => ⟨f, sp, e, hΦ _ _ _ e hq h2⟩) h1⟩) h
  | .make j c e es, σ, M, Q, Q', hq, h => by
    exact mon_e hΦ e (λx M1 h1 => mon_es hΦ es (λy M2 ⟨f, sp, e, h2⟩ => ⟨f, sp, e, λp hp => hΦ _ _ _ e (λm M' z => ⟨z.1, hq _ _ z.2⟩) (h2 p hp)⟩) h1) h
  | .disp ps, σ, M, Q, Q', hq, h => by
    exact λp hp => mon_ps hΦ ps (λl M2 ⟨e, e2, h1⟩ => ⟨e, e2, hq _ _ h1⟩) (h p hp)
theorem mon_ps {Φ : List (Str × SpM)} (hΦ : ∀ (j : Nat) f sp, Φ[j]? = some (f, sp) → MonW sp) : ∀ (e : IPs) {σ M} {Q Q' : List (Key × MV) → MH → Prop}, (∀ m M', Q m M' → Q' m M') → wPs Φ e σ M Q → wPs Φ e σ M Q'
  | .nil, σ, M, Q, Q', hq, h => by exact hq _ _ h
  | .cons k v r, σ, M, Q, Q', hq, h => by
    exact mon_e hΦ k (λx M1 ⟨kk, e, h1⟩ => ⟨kk, e, mon_e hΦ v (λy M2 h2 => mon_ps hΦ r (λl M3 h3 => hq _ _ h3) h2) h1⟩) h
theorem mon_es {Φ : List (Str × SpM)} (hΦ : ∀ (j : Nat) f sp, Φ[j]? = some (f, sp) → MonW sp) : ∀ e : IEs, MonA (wEs Φ e)
  | .nil, σ, M, Q, Q', hq, h => by exact hq _ _ h
  | .cons e es, σ, M, Q, Q', hq, h => by
    exact mon_e hΦ e (λx M1 h1 => mon_es hΦ es (λy M2 h2 => hq _ _ h2) h1) h
theorem mon_o {Φ : List (Str × SpM)} (hΦ : ∀ (j : Nat) f sp, Φ[j]? = some (f, sp) → MonW sp) : ∀ (e : IO) {σ M} {Q Q' : Option Int → MH → Prop}, (∀ m M', Q m M' → Q' m M') → wO Φ e σ M Q → wO Φ e σ M Q'
  | .none, σ, M, Q, Q', hq, h => by exact hq _ _ h
  | .some e, σ, M, Q, Q', hq, h => by
    exact mon_e hΦ e (λx M1 ⟨i, e, h1⟩ => ⟨i, e, hq _ _ h1⟩) h
theorem mon_i {Φ : List (Str × SpM)} (hΦ : ∀ (j : Nat) f sp, Φ[j]? = some (f, sp) → MonW sp) : ∀ (e : IO) {σ M} {Q Q' : Bool → MH → Prop}, (∀ m M', Q m M' → Q' m M') → wI Φ e σ M Q → wI Φ e σ M Q'
  | .none, σ, M, Q, Q', hq, h => by exact hq _ _ h
  | .some e, σ, M, Q, Q', hq, h => by
    exact mon_e hΦ e (λx M1 ⟨i, e, h1⟩ => ⟨i, e, hq _ _ h1⟩) h
theorem mon_sr {Φ : List (Str × SpM)} (hΦ : ∀ (j : Nat) f sp, Φ[j]? = some (f, sp) → MonW sp) : ∀ (e : ISr) {σ M} {Q Q' : Src → MH → Prop}, (∀ m M', Q m M' → Q' m M') → wSr Φ e σ M Q → wSr Φ e σ M Q'
  | .seq e, σ, M, Q, Q', hq, h => by
    exact mon_e hΦ e (λx M1 h1 => by
      rcases h1 with ⟨xs, e, h1⟩ | ⟨a, xs, e, e2, h1⟩ | ⟨a, xs, e, e2, h1⟩ | ⟨z, e, h1⟩
      · exact .inl ⟨xs, e, hq _ _ h1⟩
      · exact .inr (.inl ⟨a, xs, e, e2, hq _ _ h1⟩)
      · exact .inr (.inr (.inl ⟨a, xs, e, e2, λo => hq _ _ (h1 o)⟩))
      · exact .inr (.inr (.inr ⟨z, e, hq _ _ h1⟩))) h
  | .rng e, σ, M, Q, Q', hq, h => by
    exact mon_e hΦ e (λx M1 ⟨j, e, a, b, h1⟩ => ⟨j, e, a, b, hq _ _ h1⟩) h
  | .rng2 a b, σ, M, Q, Q', hq, h => by
    exact mon_e hΦ a (λx M1 h1 => mon_e hΦ b (λy M2 ⟨i, j, e, e2, c, h2⟩ => ⟨i, j, e, e2, c, hq _ _ h2⟩) h1) h
  | .rng3 a b c, σ, M, Q, Q', hq, h => by
    exact mon_e hΦ a (λx M1 h1 => mon_e hΦ b (λy M2 h2 => mon_e hΦ c (λz M3 ⟨i, j, e, e2, e3, c, h3⟩ => ⟨i, j, e, e2, e3, c, hq _ _ h3⟩) h2) h1) h
end
end L2
namespace L2
open PySem PySem.Spec PyProof.Rows
structure GI where
  bl : List Str
  gl : List (Str × Int)
  fns : List Str
  mts : List (Nat × Str × Str) := []
  mks : List (Nat × Str) := []
  cls : List (Str × Str) := []
noncomputable def visB (sc : Scope) (x : Str) : Bool := match sc.names.lookup x with
  | some .local => true | some .cell => true | some .free => true | _ => false
noncomputable def locB (sc : Scope) (x : Str) : Bool := match sc.names.lookup x with
  | some .local => true | some .cell => true | _ => false
noncomputable def glB (sc : Scope) (x : Str) : Bool := decide (sc.names.lookup x = some .globalImplicit) && !(x == ("__debug__" : Str)) && decide (x ≠ "__name__")
noncomputable def relab (scope osc : Scope) : Scope := { scope with names := scope.names.map λ(n, k) => if (k == .free && osc.kind == .function && osc.names.lookup n == some .cell) then (n, .cell) else (n, k) }
noncomputable def BI.name : BI → String
  | .len => "len" | .isinst => "isinstance" | .max => "max" | .min => "min" | .sum => "sum" | .abs => "abs" | .int => "int" | .list => "list" | .tuple => "tuple" | .dict => "dict" | .sorted => "sorted" | .dictL => "dict" | .all => "all"
noncomputable def MT.name : MT → String
  | .dclear => "clear" | .dget => "get" | .dgetD => "get" | .join => "join"
  | .append => "append" | .extend => "extend" | .reverse => "reverse" | .clear => "clear" | .pop => "pop" | .popAt => "pop" | .remove => "remove"
noncomputable def notSl : Expr → Bool
  | .Slice .. => false | _ => true
noncomputable def notSet : Expr → Bool
  | .Set .. => false | _ => true
noncomputable def tok : IE → Bool
  | .ife .. => false
  | .not a => tok a
  | .and a b => tok a && tok b
  | .or a b => tok a && tok b
  | _ => true
noncomputable def asName : Expr → Option Str | .Name x _ => some x | _ => none
noncomputable def asConst : Expr → Option Const | .Constant c _ _ => some c | _ => none
noncomputable def asBin : Expr → Option (Expr × Operator × Expr) | .BinOp l o r _ => some (l, o, r) | _ => none
noncomputable def asUn : Expr → Option (UnaryOp × Expr) | .UnaryOp o x _ => some (o, x) | _ => none
noncomputable def asCmp : Expr → Option (Expr × List CmpOp × List Expr) | .Compare l o r _ => some (l, o, r) | _ => none
noncomputable def asBoo : Expr → Option (BoolOp × List Expr × Pos) | .BoolOp o vs p => some (o, vs, p) | _ => none
noncomputable def asIf : Expr → Option (Expr × Expr × Expr) | .IfExp t x y _ => some (t, x, y) | _ => none
noncomputable def asTup : Expr → Option (List Expr) | .Tuple xs _ _ => some xs | _ => none
noncomputable def asLst : Expr → Option (List Expr) | .List xs _ => some xs | _ => none
noncomputable def asDic : Expr → Option (List (Option Expr) × List Expr) | .Dict ks vs _ => some (ks, vs) | _ => none
noncomputable def asSub : Expr → Option (Expr × Expr) | .Subscript x y _ => some (x, y) | _ => none
noncomputable def asSl : Expr → Option (Option Expr × Option Expr × Option Expr) | .Slice l u s _ => some (l, u, s) | _ => none
noncomputable def asCall : Expr → Option (Expr × List Expr × List Keyword × Pos) | .Call f xs ks p => some (f, xs, ks, p) | _ => none
noncomputable def asAtt : Expr → Option (Expr × Str × Pos) | .Attribute o n p => some (o, n, p) | _ => none
noncomputable def asLC : Expr → Option (Expr × List Comprehension × Scope) | .ListComp e gs sc _ => some (e, gs, sc) | _ => none
noncomputable def the1 {α : Type} : List α → Option α | [x] => some x | _ => none
noncomputable def the3 {α : Type} : List α → Option (α × α × α) | [x, y, z] => some (x, y, z) | _ => none
noncomputable def the2 {α : Type} : List α → Option (α × α) | [x, y] => some (x, y) | _ => none
noncomputable def hd1 {α : Type} : List α → Option (α × List α) | x :: r => some (x, r) | _ => none
noncomputable def hd2 {α : Type} : List α → Option (α × α × List α) | x :: y :: r => some (x, y, r) | _ => none
noncomputable def non0 {α : Type} : List α → Bool | [] => true | _ => false
theorem any_of {α : Type} {o : Option α} {p : α → Bool} (h : o.any p = true) : ∃ x, o = some x ∧ p x = true := by
  cases o with
  | none => cases h
  | some x => exact ⟨x, rfl, h⟩
section
variable {e : Expr}
theorem asName_of {x : Str} (h : asName e = some x) : ∃ p, e = .Name x p := by cases e <;> cases h; exact ⟨_, rfl⟩
theorem asConst_of {x : Const} (h : asConst e = some x) : ∃ k p, e = .Constant x k p := by cases e <;> cases h; exact ⟨_, _, rfl⟩
theorem asBin_of {x : Expr × Operator × Expr} (h : asBin e = some x) : ∃ p, e = .BinOp x.1 x.2.1 x.2.2 p := by cases e <;> cases h; exact ⟨_, rfl⟩
theorem asUn_of {x : UnaryOp × Expr} (h : asUn e = some x) : ∃ p, e = .UnaryOp x.1 x.2 p := by cases e <;> cases h; exact ⟨_, rfl⟩
theorem asCmp_of {x : Expr × List CmpOp × List Expr} (h : asCmp e = some x) : ∃ p, e = .Compare x.1 x.2.1 x.2.2 p := by cases e <;> cases h; exact ⟨_, rfl⟩
theorem asBoo_of {x : BoolOp × List Expr × Pos} (h : asBoo e = some x) : e = .BoolOp x.1 x.2.1 x.2.2 := by cases e <;> cases h; rfl
theorem asTup_of {x : List Expr} (h : asTup e = some x) : ∃ k p, e = .Tuple x k p := by cases e <;> cases h; exact ⟨_, _, rfl⟩
theorem asLst_of {x : List Expr} (h : asLst e = some x) : ∃ p, e = .List x p := by cases e <;> cases h; exact ⟨_, rfl⟩
theorem asSub_of {x : Expr × Expr} (h : asSub e = some x) : ∃ p, e = .Subscript x.1 x.2 p := by cases e <;> cases h; exact ⟨_, rfl⟩
theorem asSl_of {x : Option Expr × Option Expr × Option Expr} (h : asSl e = some x) : ∃ p, e = .Slice x.1 x.2.1 x.2.2 p := by cases e <;> cases h; exact ⟨_, rfl⟩
theorem asCall_of {x : Expr × List Expr × List Keyword × Pos} (h : asCall e = some x) : e = .Call x.1 x.2.1 x.2.2.1 x.2.2.2 := by cases e <;> cases h; rfl
theorem asAtt_of {x : Expr × Str × Pos} (h : asAtt e = some x) : e = .Attribute x.1 x.2.1 x.2.2 := by cases e <;> cases h; rfl
theorem asLC_of {x : Expr × List Comprehension × Scope} (h : asLC e = some x) : ∃ p, e = .ListComp x.1 x.2.1 x.2.2 p := by cases e <;> cases h; exact ⟨_, rfl⟩
theorem the1_of {α : Type} {l : List α} {x : α} (h : the1 l = some x) : l = [x] := by
  match l, h with
  | [_], h => cases h; rfl
theorem the2_of {α : Type} {l : List α} {x : α × α} (h : the2 l = some x) : l = [x.1, x.2] := by
  match l, h with
  | [_, _], h => cases h; rfl
theorem the3_of {α : Type} {l : List α} {x : α × α × α} (h : the3 l = some x) : l = [x.1, x.2.1, x.2.2] := by
  match l, h with
  | [_, _, _], h => cases h; rfl
theorem hd1_of {α : Type} {l : List α} {x : α × List α} (h : hd1 l = some x) : l = x.1 :: x.2 := by
  match l, h with
  | _ :: _, h => cases h; rfl
theorem hd2_of {α : Type} {l : List α} {x : α × α × List α} (h : hd2 l = some x) : l = x.1 :: x.2.1 :: x.2.2 := by
  match l, h with
  | _ :: _ :: _, h => cases h; rfl
theorem non0_of {α : Type} {l : List α} (h : non0 l = true) : l = [] := by
  match l, h with
  | [], _ => rfl
end
noncomputable def plainE (e : Expr) : Bool := (asName e).isSome || (asConst e).isSome || (asBin e).isSome || (asUn e).isSome || (asCmp e).isSome || (asBoo e).isSome || (asIf e).isSome || (asTup e).isSome || (asLst e).isSome || (asDic e).isSome || (asSub e).isSome || (asCall e).isSome || (asLC e).isSome || (asAtt e).isSome
mutual
noncomputable def chkTg (sc : Scope) (N : List Str) (lim : Nat) (all : Bool) : ITg → Expr → Bool
  | .nm i, e => (asName e).any λx => decide (N[i]? = some x) && decide (i < lim) && (if all then locB sc x else decide (sc.names.lookup x = some .local))
  | .tup ts, e => (asTup e).any λes => chkTgs sc N lim all ts es
noncomputable def chkTgs (sc : Scope) (N : List Str) (lim : Nat) (all : Bool) : ITgs → List Expr → Bool
  | .nil, l => non0 l
  | .cons t ts, l => (hd1 l).any λq => chkTg sc N lim all t q.1 && chkTgs sc N lim all ts q.2
end
mutual
noncomputable def chkE (G : GI) : IE → Scope → List Str → Expr → Bool
  | .var i, sc, N, e => (asName e).any fun x => decide (N[i]? = some x) && visB sc x && !(x == ("__debug__" : Str)) && !(x == ("__classdict__" : Str))
  | .int i, _, _, e => (asConst e).any λc => decide (c = .int i)
  | .str x, _, _, e => (asConst e).any λc => decide (c = .str x)
  | .bl b, _, _, e => (asConst e).any λc => decide (c = .bool b)
  | .non, _, _, e => (asConst e).any λc => decide (c = .none)
  | .glb x i, sc, _, e => (asName e).any λy => decide (x = y) && decide (G.gl.lookup x = some i) && glB sc x
  | .ty c, sc, _, e => (asName e).any λy => decide (y = (c.name : Str)) && decide (c ≠ .none) && G.bl.contains y && glB sc y
  | .bin op a b, sc, N, e => (asBin e).any λq => decide (op = q.2.1) && chkE G a sc N q.1 && chkE G b sc N q.2.2
  | .neg a, sc, N, e => (asUn e).any λq => decide (q.1 = .USub) && chkE G a sc N q.2
  | .not a, sc, N, e => (asUn e).any λq => decide (q.1 = .Not) && chkE G a sc N q.2
  | .cmp op a b, sc, N, e => (asCmp e).any λq => (the1 q.2.1).any λo => (the1 q.2.2).any λr => decide (op = o) && chkE G a sc N q.1 && chkE G b sc N r && !behindInMarks op r
  | .chn op op' a b c, sc, N, e => (asCmp e).any λq => (the2 q.2.1).any λo => (the2 q.2.2).any λr => decide (op = o.1) && decide (op' = o.2) && chkE G a sc N q.1 && chkE G b sc N r.1 && chkE G c sc N r.2 && !lastMarks [op, op'] [r.1, r.2]
  | .and a b, sc, N, e => (asBoo e).any λq => (hd2 q.2.1).any λv => decide (q.1 = .And) && chkE G a sc N v.1 && chkE G b sc N (if non0 v.2.2 then v.2.1 else .BoolOp .And (v.2.1 :: v.2.2) q.2.2)
  | .or a b, sc, N, e => (asBoo e).any λq => (hd2 q.2.1).any λv => decide (q.1 = .Or) && chkE G a sc N v.1 && chkE G b sc N (if non0 v.2.2 then v.2.1 else .BoolOp .Or (v.2.1 :: v.2.2) q.2.2)
  | .ife c a b, _, _, _ => false
  | .tup es, sc, N, e => (asTup e).any λxs => chkEs G es sc N xs
  | .lst es, sc, N, e => (asLst e).any λxs => chkEs G es sc N xs
  | .dic, _, _, _ => false
  | .ix a b, sc, N, e => (asSub e).any λq => chkE G a sc N q.1 && chkE G b sc N q.2 && notSl q.2
  | .sl a lo hi, sc, N, e => (asSub e).any λq => (asSl q.2).any λs => chkE G a sc N q.1 && chkO G lo sc N s.1 && chkO G hi sc N s.2.1 && !s.2.2.isSome
  | .call j f es, sc, N, e => (asCall e).any λq => (asName q.1).any λg => (hd1 q.2.1).any λx => non0 q.2.2.1 && decide (G.fns[j]? = some g) && glB sc g && chkE G f sc N x.1 && chkEs G es sc N x.2
  | .bi f a es, sc, N, e => (asCall e).any λq => (asName q.1).any λg => (hd1 q.2.1).any λx => non0 q.2.2.1 && decide (g = (f.name : Str)) && G.bl.contains g && glB sc g && chkE G a sc N x.1 && chkEs G es sc N x.2
  | .b2 f a, sc, N, e => (asCall e).any λq => (asName q.1).any λg => (the1 q.2.1).any λy => (asCall y).any λr => (asName r.1).any λk => (the1 r.2.1).any λx => non0 q.2.2.1 && non0 r.2.2.1 && decide (g = (f.out : Str)) && decide (k = (f.inn : Str)) && G.bl.contains g && G.bl.contains k && glB sc g && glB sc k && chkE G a sc N x
  | .st3 a, _, _, _ => false
  | .mxd a, _, _, _ => false
  | .mt m o es, sc, N, e => (asCall e).any λq => (asAtt q.1).any λa => non0 q.2.2.1 && decide (a.2.1 = (m.name : Str)) && (a.2.2.endLine == q.2.2.2.line) && chkE G o sc N a.1 && chkEs G es sc N q.2.1 && decide (q.2.1.length < 20)
  | .comp own fr src tg test elt, sc, N, e => (asLC e).any λq => (the1 q.2.1).any λg => compOk sc q.2.2 N own fr && notSet g.iter && decide (nC own fr N).Nodup && chkSr G src sc N g.iter && chkTg (relab q.2.2 sc) (nC own fr N) own.length false tg g.target &&
      chkI G test (relab q.2.2 sc) (nC own fr N) g.ifs && chkE G elt (relab q.2.2 sc) (nC own fr N) q.1 && decide (g.is_async = 0)
  | .fld c o f, _, _, _ => false
  | .mcall j c m o es, _, _, _ => false
  | .make j c a es, _, _, _ => false
  | .disp ps, _, _, _ => false
noncomputable def chkPs (G : GI) : IPs → Scope → List Str → List (Option Expr) → List Expr → Bool
  | .nil, _, _, l, r => non0 l && non0 r
  | .cons k v ps, sc, N, l, r => (hd1 l).any λq => (hd1 r).any λs => q.1.any λx => chkE G k sc N x && chkE G v sc N s.1 && chkPs G ps sc N q.2 s.2
noncomputable def chkEs (G : GI) : IEs → Scope → List Str → List Expr → Bool
  | .nil, _, _, l => non0 l
  | .cons e es, sc, N, l => (hd1 l).any λq => chkE G e sc N q.1 && chkEs G es sc N q.2
noncomputable def chkO (G : GI) : IO → Scope → List Str → Option Expr → Bool
  | .none, _, _, o => !o.isSome
  | .some e, sc, N, o => o.any λx => chkE G e sc N x
noncomputable def chkI (G : GI) : IO → Scope → List Str → List Expr → Bool
  | .none, _, _, l => non0 l
  | .some e, sc, N, l => (the1 l).any λx => tok e && chkE G e sc N x
noncomputable def chkSr (G : GI) : ISr → Scope → List Str → Expr → Bool
  | .seq a, sc, N, e => chkE G a sc N e
  | .rng a, sc, N, e => (asCall e).any fun q => (asName q.1).any fun f => (the1 q.2.1).any fun x => non0 q.2.2.1 && decide (f = ("range" : Str)) && G.bl.contains f && glB sc f && chkE G a sc N x
  | .rng2 a b, sc, N, e => (asCall e).any fun q => (asName q.1).any fun f => (the2 q.2.1).any fun x => non0 q.2.2.1 && decide (f = ("range" : Str)) && G.bl.contains f && glB sc f && chkE G a sc N x.1 && chkE G b sc N x.2
  | .rng3 a b c, sc, N, e => (asCall e).any fun q => (asName q.1).any fun f => (the3 q.2.1).any fun x => non0 q.2.2.1 && decide (f = ("range" : Str)) && G.bl.contains f && glB sc f && chkE G a sc N x.1 && chkE G b sc N x.2.1 && chkE G c sc N x.2.2
end
noncomputable def liSp (K : Y00) (sp : SpM) : Sp := λvs H Q _ => ∃ ms M, RMs K H ms vs ∧ RH K M H ∧ sp ms M (Dn K H Q)
structure Cok (X : Cx) (G : GI) (Φ : List (Str × SpM)) : Prop where
  room : X.A.units + 70 < cLine
  calm : X.calm = true
  nox : X.xe = λ_ _ => False
  blk : X.env.blockKind = .function
  nd : X.N.Nodup
  bls : ∀ x, G.bl.contains x = true → X.mg x = none
  gls : ∀ x i, G.gl.lookup x = some i → ∃ tk, X.mg x = some (.int i tk)
  fnn : ∀ (j : Nat) f, G.fns[j]? = some f → ∃ sp, Φ[j]? = some (f, sp)
  mon : ∀ (j : Nat) f sp, Φ[j]? = some (f, sp) → MonW sp
  fns : ∀ (j : Nat) f sp, G.fns[j]? = some f → Φ[j]? = some (f, sp) → ∃ k fa fd ps, Room k X.A ∧ FnOk X.prog X.w X.K X.mg X.base CX0 k fa fd ps (liSp X.K sp) ∧ X.mg f = some (.ref fa) ∧ Y0v X.K (.ref fa) = true ∧ Binds X.K fd ps []
  mts : ∀ (j : Nat) c m, G.mts.contains (j, c, m) = true → ∃ f sp, Φ[j]? = some (f, sp) ∧ ∃ k C fa fd ps, Room k X.A ∧ FnOk X.prog X.w X.K X.mg X.base CX0 k fa fd ps (liSp X.K sp) ∧ Y0f X.K mainGlobals c = some (some (.ref C)) ∧ Cls X.K C ∧ Meth X.K C m fa ∧ Binds X.K fd ps []
  mks : ∀ (j : Nat) c, G.mks.contains (j, c) = true → ∃ f sp, Φ[j]? = some (f, sp) ∧ ∃ k C fa fd ps, Room (k + 1) X.A ∧ FnOk X.prog X.w X.K X.mg X.base CX0 k fa fd ps (liSp X.K sp) ∧ Y0f X.K mainGlobals c = some (some (.ref C)) ∧ X.mg c = some (.ref C) ∧ Mk X.K C fa ∧ Binds X.K fd ps []
  cls : ∀ c f, G.cls.contains (c, f) = true → ∃ C, Y0f X.K mainGlobals c = some (some (.ref C)) ∧ Cls X.K C ∧ NoAttr X.K C f
section
variable {X : Cx} {G : GI} {Φ : List (Str × SpM)}
theorem vis_of {sc : Scope} {x : Str} (h : visB sc x = true) : Vis sc x := by
  unfold visB at h
  unfold Vis
  cases e : sc.names.lookup x with
  | none => rw [e] at h; cases h
  | some k => rw [e] at h; cases k <;> first | exact .inl rfl | exact .inr (.inl rfl) | exact .inr (.inr rfl) | cases h
theorem loc_of {sc : Scope} {x : Str} (h : locB sc x = true) : Loc sc x := by
  unfold locB at h
  unfold Loc
  cases e : sc.names.lookup x with
  | none => rw [e] at h; cases h
  | some k => rw [e] at h; cases k <;> first | exact .inl rfl | exact .inr rfl | cases h
theorem gl_of {x : Str} (h : glB X.env.scope x = true) : Gl X x ∧ (x == ("__debug__" : Str)) = false ∧ x ≠ "__name__" := by
  unfold glB at h
  simp only [Y04, decide_eq_true_eq, Y1z] at h
  exact ⟨h.1.1, h.1.2, h.2⟩
theorem boot_bi (f : BI) : bootBuiltins (f.name : Str) = some f.val := by cases f <;> (show bootBuiltins _ = some _; decide +kernel)
theorem boot_ty {c : Ty7} (h : c ≠ .none) : bootBuiltins (c.name : Str) = some (.type c.name) := by cases c <;> first | exact absurd rfl h | decide +kernel
theorem boot_range : bootBuiltins ("range" : Str) = some (.type "range") := by decide +kernel
theorem chkE_plain : ∀ {ie : IE} {sc : Scope} {N : List Str} {e : Expr}, chkE G ie sc N e = true → plainE e = true := by
  intro ie sc N e h
  cases ie
  all_goals
    first
      | exact absurd h Y01
      | (replace h := any_of h
         obtain ⟨x, hx, _⟩ := h
         simp only [plainE, hx, Option.isSome_some, Y1Q, Bool.true_or])
theorem star_of : ∀ {ie : IE} {sc : Scope} {N : List Str} {e : Expr} {es : List Expr} {env : Env}, chkE G ie sc N e = true → starEach (e :: es) env = (false, eval e env) :: starEach es env := by
  intro ie sc N e es env h
  cases e <;> first | rfl | cases chkE_plain h
theorem star_any : ∀ {ies : IEs} {sc : Scope} {N : List Str} {es : List Expr} {env : Env} {pos : Pos}, chkEs G ies sc N es = true → (starEach es env).all (λx => !x.1) = true
  | .nil, sc, N, es, _, _, h => by
    cases non0_of h
    rfl
  | .cons e es, sc, N, xs, env, pos, h => by
    replace h := any_of h
    obtain ⟨q, h1, h2⟩ := h
    cases hd1_of h1
    rw [Y04] at h2
    rw [star_of h2.1, Y1m]
    exact star_any (pos := pos) h2.2
theorem no_call0 : ∀ {ie : IE} {sc : Scope} {N : List Str} {x : Str} {px p : Pos} {ks : List Keyword}, chkE G ie sc N (.Call (.Name x px) [] ks p) = true → False := by
  intro ie sc N x px p ks h
  cases ie
  all_goals exact absurd h Y01
theorem attr_base {ie : IE} {sc : Scope} {N : List Str} {o : Expr} {nm : Str} {env : Env} (h : chkE G ie sc N o = true) : attributeBase o nm env (eval o env) = eval o env := by
  cases o <;> try rfl
  rename_i fn args kw pos
  cases fn <;> try rfl
  cases args with
  | cons a r => rfl
  | nil => exact (no_call0 h).elim
theorem back_all {pos : Pos} {l : List (Bool × Sem Value)} (h : l.all (λx => !x.1) = true) : (backTo pos l).all (λx => !x.1) = true ∧ (backTo pos l).any (·.1) = false := by
  induction l with
  | nil => exact ⟨rfl, rfl⟩
  | cons a r ih =>
    rw [Y1m, Y04] at h
    obtain ⟨h1, h2⟩ := ih h.2
    have e : a.1 = false := by simpa using h.1
    unfold backTo at h1 h2 ⊢
    rw [Y0l, Y1m, Y1d, h1, h2]
    obtain ⟨b, t⟩ := a
    cases e
    exact ⟨rfl, rfl⟩
end
end L2
namespace L2
open PySem PySem.Spec PyProof.Rows
noncomputable def tCW2 (own : List Str) (fr : List Nat) (g : TG) (tt : TT) (te : TE) (σ : St) (H1 : Hp) (Q : VK) (J : It) (D : Addr) : Prop := ∃ W : Nat → Nat → List V → Hp → Prop,
  (∃ m, W 0 m [] (upd H1 D (.lst []))) ∧ ∀ i m ys H2, W i m ys H2 →
    ((J.stop i H2 ∧ Q (.ref D) H2) ∨ (J.go i H2 ∧ ∃ N : List V → Hp → Prop, (∀ ys' H', N ys' H' → ∃ m', m' < m ∧ W (i + 1) m' ys' H') ∧ ∀ x H3, J.yld i H2 x H3 → g x (sC own fr σ) H3 λσ2 H4 => Keep (sC own fr σ) σ2 ∧ tt σ2 H4 λb H5 =>
      if b = true then te σ2 H5 λy H6 => ∃ zs, H6 D = some (.lst zs) ∧ zs.length < sizeLine ∧ N (zs ++ [y]) (upd H6 D (.lst (zs ++ [y]))) else N ys H5))
noncomputable def tComp2 (own : List Str) (fr : List Nat) (wi : TI) (g : TG) (tt : TT) (te : TE) : TE := λσ H Q => wi σ H λJ H1 => ∀ D, H1 D = none → tCW2 own fr g tt te σ H1 Q J D
section
variable {X : Cx} {pins : List (Addr × Obj)} {σ : St} {H1 : Hp} {s2 : Shared} {tg elt iter : Expr} {ifs : List Expr} {scope : Scope} {pos : Pos} {own : List Str} {fr : List Nat} {g : TG} {tt : TT} {te : TE}
theorem comp_core2 {J : It} {fp : List Addr} {it : Addr} {tn : Nat → Heap → Prop} {RR : Value → Addr → Result → Shared → Prop} {Q : VK} {E : Value → Shared → Prop} (hc : X.calm = true) (ok : CompOk X.env.scope scope X.N fr)
    (hg : ∀ C fp s₃ H₃, PG (cxC X scope own fr C fp s₃ H₃) tg g) (ht : ∀ C fp s₃ H₃, PTs (cxC X scope own fr C fp s₃ H₃) ifs tt) (he : ∀ C fp s₃ H₃, PE (cxC X scope own fr C fp s₃ H₃) elt te)
    (I2 : Inv X pins σ H1 s2) (T : Turn X.prog X.w X.K tg J fp it tn) (st : tn 0 s2.heap) (hf : ∀ b ∈ fp, FpOk X pins H1 b)
    (h : ∀ D, H1 D = none → tCW2 own fr g tt te σ H1 Q J D)
    (hRR : ∀ D C H' s', Inv X pins σ H' s' → (∃ m, s'.heap.Ns C m) → H' C = none → C ≠ X.env.locals → X.s₀.heap.objs.size ≤ C → (∀ x c, X.env.cells.lookup x = some c → c ≠ C) → (∀ p ∈ X.pn ++ pins, p.1 ≠ C) → Q (.ref D) H' → RR (.ref D) C (.ok .next) s') :
    wpAny (model X.prog X.w) X.A (newList []) (λacc s₃ => wpAny (model X.prog X.w) X.A (newFunctionEnv scope X.env.globals (clOf X.env.cells scope.names []) [] X.env.qual none .none (some X.env)) (λcenv s₄ =>
      codeAny (model X.prog X.w) X.A (.compStart (.ListComp elt [⟨tg, iter, ifs, 0⟩] scope pos) 0 (.ref it) acc { cenv with scope := relabel scope X.env }) (RR acc cenv.locals) s₄) E s₃) E s2 := by
  have hD : H1 s2.heap.objs.size = none := I2.hok.fresh (Y07 _)
  obtain ⟨W, ⟨m0, w0⟩, step⟩ := h _ hD
  refine wpAny_newObj_type (wpAny_newFunctionEnv ok.nocell (by intro y hy; simp at hy) (λh4 ns4 sb4 => ?_) ok.kind)
  dsimp only at ns4 sb4 ⊢
  have I3 : Inv X pins σ (upd H1 s2.heap.objs.size (.lst [])) { s2 with heap := s2.heap.push { cls := .type "list", dict := none, data := .seq ([] : List Value).toArray }, toks := s2.toks } :=
    I2.laid (λb u e => Y02 _ e) (Y07 _) ⟨Y1p _, [], 0, .nil, Y09 _ rfl⟩
  have fpo : ∀ b ∈ fp, ∃ o, s2.heap.get? b = some o := λb hb => let ⟨o, e, _⟩ := T.obj 0 _ st b hb; ⟨o, e⟩
  have fpD : ∀ b ∈ fp, b ≠ s2.heap.objs.size := λb hb => let ⟨o, e⟩ := fpo b hb; Y0i (Y08 e)
  have hf3 : ∀ b ∈ fp, FpOk X pins (upd H1 s2.heap.objs.size (.lst [])) b := λb hb => ⟨by rw [upd_ne (fpD b hb)]; exact (hf b hb).1, (hf b hb).2⟩
  generalize hs3 : ({ s2 with heap := s2.heap.push { cls := .type "list", dict := none, data := .seq ([] : List Value).toArray }, toks := s2.toks } : Shared) = s3 at *
  have e3 : s2.heap.push { cls := .type "list", dict := none, data := .seq ([] : List Value).toArray } = s3.heap := by rw [← hs3]
  rw [e3] at ns4 sb4 ⊢
  have kp : ∀ b o, s3.heap.get? b = some o → h4.get? b = some o := λb o e => (sb4.2 b (Y0i (Y08 e))).trans (Y02 _ e)
  have fpo3 : ∀ b ∈ fp, ∃ o, s3.heap.get? b = some o := λb hb => let ⟨o, e⟩ := fpo b hb; ⟨o, by rw [← e3]; exact Y02 _ e⟩
  have I4 := comp_start (own := own) (scope := scope) (fr := fr) (tk := s2.toks + 0) ok I3 rfl hf3 fpo3 ns4 kp
  have st4 : tn 0 h4 := T.keep _ _ _ st λb hb o e => kp b o (by rw [← e3]; exact Y02 _ e)
  have fpC : ∀ b ∈ fp, b ≠ s3.heap.objs.size := λb hb => let ⟨o, e⟩ := fpo3 b hb; Y0i (Y08 e)
  have stat : ∀ {H' : Hp}, (∀ b ∈ fp, H' b = none) → ∀ b ∈ fp, FpOk (cxC X scope own fr s3.heap.objs.size fp s3 (upd H1 s2.heap.objs.size (.lst []))) pins H' b := λhn b hb => by
    refine ⟨hn b hb, fpC b hb, λz => ?_, .inl hb, λx c e => ?_, (hf b hb).2.2.2.2.2⟩
    · rcases Y0m.mp (I3.stkSub b z) with z | z
      · exact (hf b hb).2.1 z
      · exact (hf b hb).2.2.1 z
    · exact (hf b hb).2.2.2.2.1 x c ((clOf_spec _ _ _ _ _ e).elim (λz => by simp at z) id)
  have loop : codeAny (model X.prog X.w) X.A (.compLoop (.ListComp elt [⟨tg, iter, ifs, 0⟩] scope pos) 0 (.ref it) (.ref s2.heap.objs.size) (compEnvC scope (clOf X.env.cells scope.names []) s3.heap.objs.size X.env))
      (RR (.ref s2.heap.objs.size) s3.heap.objs.size) { s3 with heap := h4, toks := s2.toks + 0 } := by
    refine compLoop_any (λn s' => ∃ i ys H', Inv (cxC X scope own fr s3.heap.objs.size fp s3 (upd H1 s2.heap.objs.size (.lst []))) pins (sC own fr σ) H' s' ∧ tn i s'.heap ∧ (∀ b ∈ fp, H' b = none) ∧ W i n ys H') ?_ m0
      ⟨0, [], _, I4, st4, λb hb => (hf3 b hb).1, w0⟩
    rintro n s5 ⟨i, ys, H5, I5, st5, fr5, w5⟩
    have way := step i n ys H5 w5
    rcases way with ⟨stop, q⟩ | ⟨go, N, hN, turn⟩
    · refine thn (T.done (cxC X scope own fr s3.heap.objs.size fp s3 (upd H1 s2.heap.objs.size (.lst []))) rfl rfl rfl hc i pins s5 _ H5 _ I5 (stat fr5) st5 stop) λr s6 ⟨hr, I6⟩ => ?_
      subst hr
      have J6 : Inv X pins σ H5 s6 := I3.call' I6.os I6.base I6.hok I6.bare λb hb => ⟨(hf b hb).2.2.2.1, (hf b hb).2.1, (hf b hb).2.2.2.2.1, (hf b hb).2.2.2.2.2⟩
      obtain ⟨m6, ns6, _⟩ := I6.loc
      refine hRR _ _ H5 s6 J6 ⟨m6, ns6⟩ I6.free (Y2k I3.lt) I3.sz (λx c e => ?_) (λp hp => ?_) q
      · obtain ⟨v, z⟩ := I3.cell x c e
        exact Y0i z.lt
      · exact Y0i (Y08 (I3.pin p hp).1)
    · refine thn (T.item (cxC X scope own fr s3.heap.objs.size fp s3 (upd H1 s2.heap.objs.size (.lst []))) rfl rfl rfl hc i pins s5 _ H5 _ I5 (stat fr5) st5 go) λr s6 ⟨u, hr, h6⟩ => ?_
      subst hr
      refine thn h6 λ_ s7 ⟨x, H7, I7, r7, y7, st7, fr7⟩ => ?_
      have I7' := I7.pinned (stat fr7) (T.obj _ _ st7)
      refine thn (hg _ _ _ _ _ s7 _ H7 x u _ I7' r7 (turn x H7 y7)) λ_ s8 ⟨σ8, H8, I8, kp8, q8⟩ => ?_
      have again : ∀ {H9 : Hp} {s9 : Shared}, Inv (cxC X scope own fr s3.heap.objs.size fp s3 (upd H1 s2.heap.objs.size (.lst []))) (pins ++ pinsAt fp s7.heap) σ8 H9 s9 → ∀ {ys'}, (∃ m', m' < n ∧ W (i + 1) m' ys' H9) →
          ∃ m, m < n ∧ ∃ i ys H', Inv (cxC X scope own fr s3.heap.objs.size fp s3 (upd H1 s2.heap.objs.size (.lst []))) pins (sC own fr σ) H' s9 ∧ tn i s9.heap ∧ (∀ b ∈ fp, H' b = none) ∧ W i m ys H' := fun {H9 s9} I9 {ys'} ⟨m', hm, w9⟩ => by
        refine ⟨m', hm, i + 1, ys', H9, (I9.unpinned).weak kp8.1 kp8.2, T.keep _ _ _ st7 λb hb o e => (I9.pin (b, o) (Y0n _ (Y0n _ (mem_pinsAt hb e)))).1, λb hb => ?_, w9⟩
        obtain ⟨o, e, d⟩ := T.obj _ _ st7 b hb
        exact (I9.pin (b, o) (Y0n _ (Y0n _ (mem_pinsAt hb e)))).2.1
      have fin : ∀ {ok : Bool} {s9 : Shared} {H9 : Hp}, Inv (cxC X scope own fr s3.heap.objs.size fp s3 (upd H1 s2.heap.objs.size (.lst []))) (pins ++ pinsAt fp s7.heap) σ8 H9 s9 →
          (if ok = true then te σ8 H9 λy H6 => ∃ zs, H6 s2.heap.objs.size = some (.lst zs) ∧ zs.length < sizeLine ∧ N (zs ++ [y]) (upd H6 s2.heap.objs.size (.lst (zs ++ [y]))) else N ys H9) →
          (if ok = true then wpAny (model X.prog X.w) X.A (eval elt (compEnvC scope (clOf X.env.cells scope.names []) s3.heap.objs.size X.env)) (λx s₄ =>
            wpAny (model X.prog X.w) X.A (call (.builtin "list.append") [.ref s2.heap.objs.size, x]) (fun _ s₅ => ∃ m, m < n ∧ ∃ i ys H', Inv (cxC X scope own fr s3.heap.objs.size fp s3 (upd H1 s2.heap.objs.size (.lst []))) pins (sC own fr σ) H' s₅ ∧ tn i s₅.heap ∧ (∀ b ∈ fp, H' b = none) ∧ W i m ys H') (fun _ _ => False) s₄) (fun _ _ => False) s9
            else ∃ m, m < n ∧ ∃ i ys H', Inv (cxC X scope own fr s3.heap.objs.size fp s3 (upd H1 s2.heap.objs.size (.lst []))) pins (sC own fr σ) H' s9 ∧ tn i s9.heap ∧ (∀ b ∈ fp, H' b = none) ∧ W i m ys H') := fun {ok s9 H9} I9 q9 => by
        cases ok with
        | false =>
          rw [if_neg Y01] at q9 ⊢
          exact again I9 (hN _ _ q9)
        | true =>
          rw [if_pos rfl] at q9 ⊢
          refine thn (he _ _ _ _ _ s9 σ8 H9 _ I9 q9) λv s10 ⟨y, H10, I10, r10, zs, hl10, hz5, w10⟩ => ?_
          refine thn (mt_append (X := cxC X scope own fr s3.heap.objs.size fp s3 (upd H1 s2.heap.objs.size (.lst []))) _ s10 σ8 H10 (.ref s2.heap.objs.size) [y] (.ref s2.heap.objs.size) [v] (λ_ H' => H' = upd H10 s2.heap.objs.size (.lst (zs ++ [y]))) I10 rfl (.cons r10 .nil) ⟨_, zs, y, rfl, rfl, hl10, hz5, rfl⟩) λ_ s11 ⟨_, H11, I11, _, e11⟩ => ?_
          subst e11
          exact again I11 (hN _ _ w10)
      rcases ht s3.heap.objs.size fp s3 (upd H1 s2.heap.objs.size (.lst [])) with ⟨e, et⟩ | ⟨c, e, hcT⟩
      · subst e et
        exact wpAny_tests_nil (fin (ok := true) I8 q8)
      · subst e
        exact wpAny_tests_one (thn (hcT _ s8 σ8 H8 _ I8 q8) λb s9 ⟨H9, I9, q9⟩ => fin I9 q9)
  subst hs3
  exact codeAny_compStart_list loop (T.self _ 0 _ _ _ st4 loop)
theorem pe_comp2 (own : List Str) (fr : List Nat) {wi : TI} (hx : ∀ e s, ¬ X.xe e s) (hc : X.calm = true) (ok : compOk X.env.scope scope X.N own fr = true) (hi : PI X tg iter wi)
    (hg : ∀ C fp s₃ H₃, PG (cxC X scope own fr C fp s₃ H₃) tg g) (ht : ∀ C fp s₃ H₃, PTs (cxC X scope own fr C fp s₃ H₃) ifs tt) (he : ∀ C fp s₃ H₃, PE (cxC X scope own fr C fp s₃ H₃) elt te)
    (hs : ∀ x, foldedSetIterable iter X.env x = pure x := by intro _; rfl) :
    PE X (.ListComp elt [⟨tg, iter, ifs, 0⟩] scope pos) (tComp2 own fr wi g tt te) := by
  have ok' := compOk_of ok
  intro pins s σ H Q I h
  rw [eval_ListComp]
  refine wpAny_comprehension_free (use := none) (cl := clOf X.env.cells scope.names []) rfl hs (closure_is λy hy hk => I.ok.has y.1 (ok'.has y hy hk)) ok'.kind ok'.names (thn (hi pins s σ H _ I h) λv s1 h1 => thn h1 λitv s2 h2 => ?_)
  obtain ⟨it, fp, tn, J, H2, e, I2, T, st2, f2, R⟩ := h2
  subst e
  refine comp_core2 (RR := λacc C => compPost (model X.prog X.w) X.A X.xe none (EP X pins σ Q) acc C) (Q := Q) hc ok' hg ht he I2 T st2 f2 R ?_
  rintro D C H' s' I' ⟨m, ns⟩ c1 c2 c3 c4 c5 q
  refine ⟨m, ns, λh' sb => ⟨.ref D, H', ?_, rfl, q⟩⟩
  exact I'.turned (t' := s'.toks) (λb o hb e => (sb.2 b hb).trans e) c1 c2 (.inr c3) c4 c5
theorem ps_setcomp2 (own : List Str) (fr : List Nat) {i : Nat} {y : Str} {py spos : Pos} {wi : TI} (hN : X.N.Nodup) (hi : X.N[i]? = some y) (hy : Loc X.env.scope y) (hx : ∀ e s, ¬ X.xe e s) (hc : X.calm = true) (ok : compOk X.env.scope scope X.N own fr = true) (hit : PI X tg iter wi)
    (hg : ∀ C fp s₃ H₃, PG (cxC X scope own fr C fp s₃ H₃) tg g) (ht : ∀ C fp s₃ H₃, PTs (cxC X scope own fr C fp s₃ H₃) ifs tt) (he : ∀ C fp s₃ H₃, PE (cxC X scope own fr C fp s₃ H₃) elt te)
    (hsw : swapsWith (.ListComp elt [⟨tg, iter, ifs, 0⟩] scope pos) (some (.Name y py)) spos.line X.env = pure true := by rfl) (hs : ∀ x, foldedSetIterable iter X.env x = pure x := by intro _; rfl)
    (hf : X.fn y = true ∨ X.env.scope.names.lookup y = some .local := by first | exact .inl rfl | exact .inr rfl | assumption) :
    PS X (.Assign [.Name y py] (.ListComp elt [⟨tg, iter, ifs, 0⟩] scope pos) spos) (tAsg (tComp2 own fr wi g tt te) (gName i)) := by
  have ok' := compOk_of ok
  intro pins s σ H D I h
  rw [exec_Assign_Name_used _ _ _ _ hsw]
  refine wpAny_bind (wpAny_standAt (wpAny_bind ?_))
  show wpAny _ X.A (do let _ ← comprehension (.ListComp elt [⟨tg, iter, ifs, 0⟩] scope pos) scope X.env _ (newList []) false (eval iter X.env) (some (assign (.Name y py) X.env))) _ _ s
  refine wpAny_bind (wpAny_mono (wpAny_comprehension_free (use := some (assign (.Name y py) X.env)) (cl := clOf X.env.cells scope.names []) (Q := λ_ s' => SP X pins D .next s') rfl hs (closure_is λy hy hk => I.ok.has y.1 (ok'.has y hy hk)) ok'.kind ok'.names
    (thn (hit pins s σ H _ I h) λv s1 h1 => thn h1 λitv s2 h2 => ?_)) (λ_ s' hq => wpAny_pure (wpAny_pure hq)) λ_ _ e => e)
  obtain ⟨it, fp, tn, J, H2, e, I2, T, st2, f2, R⟩ := h2
  subst e
  refine comp_core2 (RR := λacc C => compPost (model X.prog X.w) X.A X.xe (some (assign (.Name y py) X.env)) (λ_ s' => SP X pins D .next s') acc C) (Q := λv H' => D.nx (σ.set i (some v)) H') hc ok' hg ht he I2 T st2 f2 R ?_
  rintro E C H' s' I' ⟨m, ns⟩ c1 c2 c3 c4 c5 q
  show wpAny _ X.A (assign (.Name y py) X.env (.ref E)) _ _ _
  refine wpAny_assign_Name (store_ok2 I' hN hi hy (v := .ref E) (u := .ref E) rfl (λs'' I'' sb => ?_) hf)
  obtain ⟨a, sb, ha⟩ := sb
  have hCa : C ≠ a := by
    rcases ha with z | z
    · rw [z]; exact c2
    · exact λe => c4 _ _ z e.symm
  refine ⟨m, ns.sameBut sb hCa, λh' sb' => ⟨_, H', ?_, q⟩⟩
  exact I''.turned (t' := s''.toks) (λb o hb e => (sb'.2 b hb).trans e) c1 c2 (.inr c3) c4 c5
end
end L2
namespace L2
open PySem PySem.Spec PyProof.Rows
section
variable {G : GI} {sc : Scope} {N : List Str} {e : Expr}
theorem and_of {a b : Bool} (h : (a && b) = true) : a = true ∧ b = true := by rwa [Y04] at h
theorem dec_of {p : Prop} [Decidable p] (h : decide p = true) : p := of_decide_eq_true h
theorem not_of {b : Bool} (h : (!b) = true) : b = false := by cases b with | false => rfl | true => cases h
theorem inv_var {i : Nat} (h : chkE G (.var i) sc N e = true) : ∃ x p, e = .Name x p ∧ N[i]? = some x ∧ visB sc x = true ∧ (x == ("__debug__" : Str)) = false ∧ (x == ("__classdict__" : Str)) = false := by
  replace h := any_of h
  obtain ⟨x, h1, h⟩ := h
  obtain ⟨p, rfl⟩ := asName_of h1
  replace h := and_of h
  obtain ⟨h, h5⟩ := h
  replace h := and_of h
  obtain ⟨h, h4⟩ := h
  replace h := and_of h
  obtain ⟨h2, h3⟩ := h
  exact ⟨x, p, rfl, dec_of h2, h3, not_of h4, not_of h5⟩
theorem inv_int {i : Int} (h : chkE G (.int i) sc N e = true) : ∃ k p, e = .Constant (.int i) k p := by
  replace h := any_of h
  obtain ⟨x, h1, h⟩ := h
  obtain ⟨k, p, rfl⟩ := asConst_of h1
  exact ⟨k, p, by rw [dec_of h]⟩
theorem inv_str {i : Str} (h : chkE G (.str i) sc N e = true) : ∃ k p, e = .Constant (.str i) k p := by
  replace h := any_of h
  obtain ⟨x, h1, h⟩ := h
  obtain ⟨k, p, rfl⟩ := asConst_of h1
  exact ⟨k, p, by rw [dec_of h]⟩
theorem inv_bl {i : Bool} (h : chkE G (.bl i) sc N e = true) : ∃ k p, e = .Constant (.bool i) k p := by
  replace h := any_of h
  obtain ⟨x, h1, h⟩ := h
  obtain ⟨k, p, rfl⟩ := asConst_of h1
  exact ⟨k, p, by rw [dec_of h]⟩
theorem inv_non (h : chkE G .non sc N e = true) : ∃ k p, e = .Constant .none k p := by
  replace h := any_of h
  obtain ⟨x, h1, h⟩ := h
  obtain ⟨k, p, rfl⟩ := asConst_of h1
  exact ⟨k, p, by rw [dec_of h]⟩
theorem inv_glb {x : Str} {i : Int} (h : chkE G (.glb x i) sc N e = true) : ∃ p, e = .Name x p ∧ G.gl.lookup x = some i ∧ glB sc x = true := by
  replace h := any_of h
  obtain ⟨y, h1, h⟩ := h
  obtain ⟨p, rfl⟩ := asName_of h1
  replace h := and_of h
  obtain ⟨h, h4⟩ := h
  replace h := and_of h
  obtain ⟨h2, h3⟩ := h
  obtain rfl := dec_of h2
  exact ⟨p, rfl, dec_of h3, h4⟩
theorem inv_ty {c : Ty7} (h : chkE G (.ty c) sc N e = true) : ∃ p, e = .Name (c.name : Str) p ∧ c ≠ .none ∧ G.bl.contains (c.name : Str) = true ∧ glB sc (c.name : Str) = true := by
  replace h := any_of h
  obtain ⟨y, h1, h⟩ := h
  obtain ⟨p, rfl⟩ := asName_of h1
  replace h := and_of h
  obtain ⟨h, h5⟩ := h
  replace h := and_of h
  obtain ⟨h, h4⟩ := h
  replace h := and_of h
  obtain ⟨h2, h3⟩ := h
  obtain rfl := dec_of h2
  exact ⟨p, rfl, dec_of h3, h4, h5⟩
theorem inv_bin {op : Operator} {a b : IE} (h : chkE G (.bin op a b) sc N e = true) : ∃ l r p, e = .BinOp l op r p ∧ chkE G a sc N l = true ∧ chkE G b sc N r = true := by
  replace h := any_of h
  obtain ⟨⟨l, o, r⟩, h1, h⟩ := h
  obtain ⟨p, rfl⟩ := asBin_of h1
  replace h := and_of h
  obtain ⟨h, h4⟩ := h
  replace h := and_of h
  obtain ⟨h2, h3⟩ := h
  obtain rfl := dec_of h2
  exact ⟨l, r, p, rfl, h3, h4⟩
theorem inv_neg {a : IE} (h : chkE G (.neg a) sc N e = true) : ∃ l p, e = .UnaryOp .USub l p ∧ chkE G a sc N l = true := by
  replace h := any_of h
  obtain ⟨⟨o, l⟩, h1, h⟩ := h
  obtain ⟨p, rfl⟩ := asUn_of h1
  replace h := and_of h
  obtain ⟨h2, h3⟩ := h
  obtain rfl := dec_of h2
  exact ⟨l, p, rfl, h3⟩
theorem inv_not {a : IE} (h : chkE G (.not a) sc N e = true) : ∃ l p, e = .UnaryOp .Not l p ∧ chkE G a sc N l = true := by
  replace h := any_of h
  obtain ⟨⟨o, l⟩, h1, h⟩ := h
  obtain ⟨p, rfl⟩ := asUn_of h1
  replace h := and_of h
  obtain ⟨h2, h3⟩ := h
  obtain rfl := dec_of h2
  exact ⟨l, p, rfl, h3⟩
theorem inv_cmp {op : CmpOp} {a b : IE} (h : chkE G (.cmp op a b) sc N e = true) : ∃ l r p, e = .Compare l [op] [r] p ∧ chkE G a sc N l = true ∧ chkE G b sc N r = true ∧ behindInMarks op r = false := by
  replace h := any_of h
  obtain ⟨⟨l, os, rs⟩, h1, h⟩ := h
  obtain ⟨p, rfl⟩ := asCmp_of h1
  replace h := any_of h
  obtain ⟨o, h2, h⟩ := h
  replace h := any_of h
  obtain ⟨r, h3, h⟩ := h
  obtain rfl := the1_of h2
  obtain rfl := the1_of h3
  replace h := and_of h
  obtain ⟨h, h7⟩ := h
  replace h := and_of h
  obtain ⟨h, h6⟩ := h
  replace h := and_of h
  obtain ⟨h4, h5⟩ := h
  obtain rfl := dec_of h4
  exact ⟨l, r, p, rfl, h5, h6, not_of h7⟩
theorem inv_chn {op op' : CmpOp} {a b c : IE} (h : chkE G (.chn op op' a b c) sc N e = true) : ∃ l m r p, e = .Compare l [op, op'] [m, r] p ∧ chkE G a sc N l = true ∧ chkE G b sc N m = true ∧ chkE G c sc N r = true ∧ lastMarks [op, op'] [m, r] = false := by
  replace h := any_of h
  obtain ⟨⟨l, os, rs⟩, h1, h⟩ := h
  obtain ⟨p, rfl⟩ := asCmp_of h1
  replace h := any_of h
  obtain ⟨⟨o, o'⟩, h2, h⟩ := h
  replace h := any_of h
  obtain ⟨⟨m, r⟩, h3, h⟩ := h
  obtain rfl := the2_of h2
  obtain rfl := the2_of h3
  replace h := and_of h
  obtain ⟨h, h9⟩ := h
  replace h := and_of h
  obtain ⟨h, h8⟩ := h
  replace h := and_of h
  obtain ⟨h, h7⟩ := h
  replace h := and_of h
  obtain ⟨h, h6⟩ := h
  replace h := and_of h
  obtain ⟨h4, h5⟩ := h
  obtain rfl := dec_of h4
  obtain rfl := dec_of h5
  exact ⟨l, m, r, p, rfl, h6, h7, h8, not_of h9⟩
theorem inv_and {a b : IE} (h : chkE G (.and a b) sc N e = true) : ∃ l r rest p, e = .BoolOp .And (l :: r :: rest) p ∧ chkE G a sc N l = true ∧ ((rest = [] ∧ chkE G b sc N r = true) ∨ chkE G b sc N (.BoolOp .And (r :: rest) p) = true) := by
  replace h := any_of h
  obtain ⟨⟨o, vs, p⟩, h1, h⟩ := h
  obtain rfl := asBoo_of h1
  replace h := any_of h
  obtain ⟨⟨l, r, rest⟩, h2, h⟩ := h
  obtain rfl := hd2_of h2
  replace h := and_of h
  obtain ⟨h, h4⟩ := h
  replace h := and_of h
  obtain ⟨h2, h3⟩ := h
  obtain rfl := dec_of h2
  refine ⟨l, r, rest, p, rfl, h3, ?_⟩
  cases rest with
  | nil => exact .inl ⟨rfl, h4⟩
  | cons _ _ => exact .inr h4
theorem inv_or {a b : IE} (h : chkE G (.or a b) sc N e = true) : ∃ l r rest p, e = .BoolOp .Or (l :: r :: rest) p ∧ chkE G a sc N l = true ∧ ((rest = [] ∧ chkE G b sc N r = true) ∨ chkE G b sc N (.BoolOp .Or (r :: rest) p) = true) := by
  replace h := any_of h
  obtain ⟨⟨o, vs, p⟩, h1, h⟩ := h
  obtain rfl := asBoo_of h1
  replace h := any_of h
  obtain ⟨⟨l, r, rest⟩, h2, h⟩ := h
  obtain rfl := hd2_of h2
  replace h := and_of h
  obtain ⟨h, h4⟩ := h
  replace h := and_of h
  obtain ⟨h2, h3⟩ := h
  obtain rfl := dec_of h2
  refine ⟨l, r, rest, p, rfl, h3, ?_⟩
  cases rest with
  | nil => exact .inl ⟨rfl, h4⟩
  | cons _ _ => exact .inr h4
theorem inv_tup {es : IEs} (h : chkE G (.tup es) sc N e = true) : ∃ xs k p, e = .Tuple xs k p ∧ chkEs G es sc N xs = true := by
  replace h := any_of h
  obtain ⟨xs, h1, h⟩ := h
  obtain ⟨k, p, rfl⟩ := asTup_of h1
  exact ⟨xs, k, p, rfl, h⟩
theorem inv_lst {es : IEs} (h : chkE G (.lst es) sc N e = true) : ∃ xs p, e = .List xs p ∧ chkEs G es sc N xs = true := by
  replace h := any_of h
  obtain ⟨xs, h1, h⟩ := h
  obtain ⟨p, rfl⟩ := asLst_of h1
  exact ⟨xs, p, rfl, h⟩
theorem inv_ix {a b : IE} (h : chkE G (.ix a b) sc N e = true) : ∃ x y p, e = .Subscript x y p ∧ chkE G a sc N x = true ∧ chkE G b sc N y = true ∧ notSl y = true := by
  replace h := any_of h
  obtain ⟨⟨x, y⟩, h1, h⟩ := h
  obtain ⟨p, rfl⟩ := asSub_of h1
  replace h := and_of h
  obtain ⟨h, h4⟩ := h
  replace h := and_of h
  obtain ⟨h2, h3⟩ := h
  exact ⟨x, y, p, rfl, h2, h3, h4⟩
theorem inv_sl {a : IE} {lo hi : IO} (h : chkE G (.sl a lo hi) sc N e = true) : ∃ x l u p p2, e = .Subscript x (.Slice l u none p2) p ∧ chkE G a sc N x = true ∧ chkO G lo sc N l = true ∧ chkO G hi sc N u = true := by
  replace h := any_of h
  obtain ⟨⟨x, y⟩, h1, h⟩ := h
  obtain ⟨p, rfl⟩ := asSub_of h1
  replace h := any_of h
  obtain ⟨⟨l, u, st⟩, h2, h⟩ := h
  obtain ⟨p2, rfl⟩ := asSl_of h2
  replace h := and_of h
  obtain ⟨h, h6⟩ := h
  replace h := and_of h
  obtain ⟨h, h5⟩ := h
  replace h := and_of h
  obtain ⟨h3, h4⟩ := h
  cases st with
  | some _ => cases h6
  | none => exact ⟨x, l, u, p, p2, rfl, h3, h4, h5⟩
theorem inv_call {j : Nat} {a : IE} {es : IEs} (h : chkE G (.call j a es) sc N e = true) : ∃ f p x xs p2, e = .Call (.Name f p) (x :: xs) [] p2 ∧ G.fns[j]? = some f ∧ glB sc f = true ∧ chkE G a sc N x = true ∧ chkEs G es sc N xs = true := by
  replace h := any_of h
  obtain ⟨⟨f, l, ks, p2⟩, h1, h⟩ := h
  obtain rfl := asCall_of h1
  replace h := any_of h
  obtain ⟨g, h2, h⟩ := h
  obtain ⟨p, rfl⟩ := asName_of h2
  replace h := any_of h
  obtain ⟨⟨x, xs⟩, h3, h⟩ := h
  obtain rfl := hd1_of h3
  replace h := and_of h
  obtain ⟨h, h8⟩ := h
  replace h := and_of h
  obtain ⟨h, h7⟩ := h
  replace h := and_of h
  obtain ⟨h, h6⟩ := h
  replace h := and_of h
  obtain ⟨h4, h5⟩ := h
  obtain rfl := non0_of h4
  exact ⟨g, p, x, xs, p2, rfl, dec_of h5, h6, h7, h8⟩
theorem inv_bi {f : BI} {a : IE} {es : IEs} (h : chkE G (.bi f a es) sc N e = true) : ∃ p x xs p2, e = .Call (.Name (f.name : Str) p) (x :: xs) [] p2 ∧ G.bl.contains (f.name : Str) = true ∧ glB sc (f.name : Str) = true ∧ chkE G a sc N x = true ∧ chkEs G es sc N xs = true := by
  replace h := any_of h
  obtain ⟨⟨f', l, ks, p2⟩, h1, h⟩ := h
  obtain rfl := asCall_of h1
  replace h := any_of h
  obtain ⟨g, h2, h⟩ := h
  obtain ⟨p, rfl⟩ := asName_of h2
  replace h := any_of h
  obtain ⟨⟨x, xs⟩, h3, h⟩ := h
  obtain rfl := hd1_of h3
  replace h := and_of h
  obtain ⟨h, h9⟩ := h
  replace h := and_of h
  obtain ⟨h, h8⟩ := h
  replace h := and_of h
  obtain ⟨h, h7⟩ := h
  replace h := and_of h
  obtain ⟨h, h6⟩ := h
  replace h := and_of h
  obtain ⟨h4, h5⟩ := h
  obtain rfl := non0_of h4
  obtain rfl := dec_of h5
  exact ⟨p, x, xs, p2, rfl, h6, h7, h8, h9⟩
theorem inv_b2 {f : B2} {a : IE} (h : chkE G (.b2 f a) sc N e = true) : ∃ p p' x p2 p2', e = .Call (.Name (f.out : Str) p) [.Call (.Name (f.inn : Str) p') [x] [] p2'] [] p2 ∧ G.bl.contains (f.out : Str) = true ∧ G.bl.contains (f.inn : Str) = true ∧ glB sc (f.out : Str) = true ∧ glB sc (f.inn : Str) = true ∧ chkE G a sc N x = true := by
  replace h := any_of h
  obtain ⟨⟨f', l, ks, p2⟩, h1, h⟩ := h
  obtain rfl := asCall_of h1
  replace h := any_of h
  obtain ⟨g, h2, h⟩ := h
  obtain ⟨p, rfl⟩ := asName_of h2
  replace h := any_of h
  obtain ⟨y, h3, h⟩ := h
  obtain rfl := the1_of h3
  replace h := any_of h
  obtain ⟨⟨f'', l', ks', p2'⟩, h4, h⟩ := h
  obtain rfl := asCall_of h4
  replace h := any_of h
  obtain ⟨k, h5, h⟩ := h
  obtain ⟨p', rfl⟩ := asName_of h5
  replace h := any_of h
  obtain ⟨x, h6, h⟩ := h
  obtain rfl := the1_of h6
  simp only [Y04] at h
  obtain ⟨⟨⟨⟨⟨⟨⟨⟨a1, a2⟩, a3⟩, a4⟩, a5⟩, a6⟩, a7⟩, a8⟩, a9⟩ := h
  obtain rfl := non0_of a1
  obtain rfl := non0_of a2
  obtain rfl := dec_of a3
  obtain rfl := dec_of a4
  exact ⟨p, p', x, p2, p2', rfl, a5, a6, a7, a8, a9⟩
theorem inv_mt {m : MT} {o : IE} {es : IEs} (h : chkE G (.mt m o es) sc N e = true) : ∃ ob ap args cp, e = .Call (.Attribute ob (m.name : Str) ap) args [] cp ∧ (ap.endLine == cp.line) = true ∧ chkE G o sc N ob = true ∧ chkEs G es sc N args = true ∧ args.length < 20 := by
  replace h := any_of h
  obtain ⟨⟨f', args, ks, cp⟩, h1, h⟩ := h
  obtain rfl := asCall_of h1
  replace h := any_of h
  obtain ⟨⟨ob, nm, ap⟩, h2, h⟩ := h
  obtain rfl := asAtt_of h2
  replace h := and_of h
  obtain ⟨h, h8⟩ := h
  replace h := and_of h
  obtain ⟨h, h7⟩ := h
  replace h := and_of h
  obtain ⟨h, h6⟩ := h
  replace h := and_of h
  obtain ⟨h, h5⟩ := h
  replace h := and_of h
  obtain ⟨h3, h4⟩ := h
  obtain rfl := non0_of h3
  obtain rfl := dec_of h4
  exact ⟨ob, ap, args, cp, rfl, h5, h6, h7, dec_of h8⟩
theorem inv_comp {own : List Str} {fr : List Nat} {src : ISr} {tg : ITg} {test : IO} {elt : IE} (h : chkE G (.comp own fr src tg test elt) sc N e = true) : ∃ x t it ifs scope p, e = .ListComp x [⟨t, it, ifs, 0⟩] scope p ∧ compOk sc scope N own fr = true ∧ notSet it = true ∧
    (nC own fr N).Nodup ∧ chkSr G src sc N it = true ∧ chkTg (relab scope sc) (nC own fr N) own.length false tg t = true ∧ chkI G test (relab scope sc) (nC own fr N) ifs = true ∧ chkE G elt (relab scope sc) (nC own fr N) x = true := by
  replace h := any_of h
  obtain ⟨⟨x, gs, scope⟩, h1, h⟩ := h
  obtain ⟨p, rfl⟩ := asLC_of h1
  replace h := any_of h
  obtain ⟨⟨t, it, ifs, k⟩, h2, h⟩ := h
  obtain rfl := the1_of h2
  replace h := and_of h
  obtain ⟨h, h9⟩ := h
  replace h := and_of h
  obtain ⟨h, h8⟩ := h
  replace h := and_of h
  obtain ⟨h, h7⟩ := h
  replace h := and_of h
  obtain ⟨h, h6⟩ := h
  replace h := and_of h
  obtain ⟨h, h5⟩ := h
  replace h := and_of h
  obtain ⟨h, h4⟩ := h
  replace h := and_of h
  obtain ⟨h2, h3⟩ := h
  obtain rfl := dec_of h9
  exact ⟨x, t, it, ifs, scope, p, rfl, h2, h3, dec_of h4, h5, h6, h7, h8⟩
theorem inv_ps_nil {ks : List (Option Expr)} {vs : List Expr} (h : chkPs G .nil sc N ks vs = true) : ks = [] ∧ vs = [] := by
  replace h := and_of h
  exact ⟨non0_of h.1, non0_of h.2⟩
theorem inv_ps_cons {k v : IE} {ps : IPs} {ks : List (Option Expr)} {vs : List Expr} (h : chkPs G (.cons k v ps) sc N ks vs = true) : ∃ x ks' y vs', ks = some x :: ks' ∧ vs = y :: vs' ∧ chkE G k sc N x = true ∧ chkE G v sc N y = true ∧ chkPs G ps sc N ks' vs' = true := by
  replace h := any_of h
  obtain ⟨⟨o, ks'⟩, h1, h⟩ := h
  replace h := any_of h
  obtain ⟨⟨y, vs'⟩, h2, h⟩ := h
  replace h := any_of h
  obtain ⟨x, h3, h⟩ := h
  replace h := and_of h
  obtain ⟨h, h6⟩ := h
  replace h := and_of h
  obtain ⟨h4, h5⟩ := h
  dsimp only at h3
  subst h3
  exact ⟨x, ks', y, vs', hd1_of h1, hd1_of h2, h4, h5, h6⟩
theorem inv_es_nil {l : List Expr} (h : chkEs G .nil sc N l = true) : l = [] := by
  exact non0_of h
theorem inv_es_cons {a : IE} {es : IEs} {l : List Expr} (h : chkEs G (.cons a es) sc N l = true) : ∃ x xs, l = x :: xs ∧ chkE G a sc N x = true ∧ chkEs G es sc N xs = true := by
  replace h := any_of h
  obtain ⟨⟨x, xs⟩, h1, h⟩ := h
  exact ⟨x, xs, hd1_of h1, and_of h⟩
theorem inv_o_none {o : Option Expr} (h : chkO G .none sc N o = true) : o = none := by
  cases o with
  | none => rfl
  | some _ => cases h
theorem inv_o_some {a : IE} {o : Option Expr} (h : chkO G (.some a) sc N o = true) : ∃ x, o = some x ∧ chkE G a sc N x = true := by
  exact any_of h
theorem inv_i_none {l : List Expr} (h : chkI G .none sc N l = true) : l = [] := by
  exact non0_of h
theorem inv_i_some {a : IE} {l : List Expr} (h : chkI G (.some a) sc N l = true) : ∃ x, l = [x] ∧ tok a = true ∧ chkE G a sc N x = true := by
  replace h := any_of h
  obtain ⟨x, h1, h⟩ := h
  exact ⟨x, the1_of h1, and_of h⟩
theorem inv_rng {a : IE} (h : chkSr G (.rng a) sc N e = true) : ∃ p x p2, e = .Call (.Name ("range" : Str) p) [x] [] p2 ∧ G.bl.contains ("range" : Str) = true ∧ glB sc ("range" : Str) = true ∧ chkE G a sc N x = true := by
  replace h := any_of h
  obtain ⟨⟨f', l, ks, p2⟩, h1, h⟩ := h
  obtain rfl := asCall_of h1
  replace h := any_of h
  obtain ⟨g, h2, h⟩ := h
  obtain ⟨p, rfl⟩ := asName_of h2
  replace h := any_of h
  obtain ⟨x, h3, h⟩ := h
  obtain rfl := the1_of h3
  replace h := and_of h
  obtain ⟨h, h8⟩ := h
  replace h := and_of h
  obtain ⟨h, h7⟩ := h
  replace h := and_of h
  obtain ⟨h, h6⟩ := h
  replace h := and_of h
  obtain ⟨h4, h5⟩ := h
  obtain rfl := non0_of h4
  obtain rfl := dec_of h5
  exact ⟨p, x, p2, rfl, h6, h7, h8⟩
theorem inv_rng2 {a b : IE} (h : chkSr G (.rng2 a b) sc N e = true) : ∃ p x y p2, e = .Call (.Name ("range" : Str) p) [x, y] [] p2 ∧ G.bl.contains ("range" : Str) = true ∧ glB sc ("range" : Str) = true ∧ chkE G a sc N x = true ∧ chkE G b sc N y = true := by
  replace h := any_of h
  obtain ⟨⟨f', l, ks, p2⟩, h1, h⟩ := h
  obtain rfl := asCall_of h1
  replace h := any_of h
  obtain ⟨g, h2, h⟩ := h
  obtain ⟨p, rfl⟩ := asName_of h2
  replace h := any_of h
  obtain ⟨⟨x, y⟩, h3, h⟩ := h
  obtain rfl := the2_of h3
  replace h := and_of h
  obtain ⟨h, h9⟩ := h
  replace h := and_of h
  obtain ⟨h, h8⟩ := h
  replace h := and_of h
  obtain ⟨h, h7⟩ := h
  replace h := and_of h
  obtain ⟨h, h6⟩ := h
  replace h := and_of h
  obtain ⟨h4, h5⟩ := h
  obtain rfl := non0_of h4
  obtain rfl := dec_of h5
  exact ⟨p, x, y, p2, rfl, h6, h7, h8, h9⟩
theorem inv_rng3 {a b c : IE} (h : chkSr G (.rng3 a b c) sc N e = true) : ∃ p x y z p2, e = .Call (.Name ("range" : Str) p) [x, y, z] [] p2 ∧ G.bl.contains ("range" : Str) = true ∧ glB sc ("range" : Str) = true ∧ chkE G a sc N x = true ∧ chkE G b sc N y = true ∧ chkE G c sc N z = true := by
  replace h := any_of h
  obtain ⟨⟨f', l, ks, p2⟩, h1, h⟩ := h
  obtain rfl := asCall_of h1
  replace h := any_of h
  obtain ⟨g, h2, h⟩ := h
  obtain ⟨p, rfl⟩ := asName_of h2
  replace h := any_of h
  obtain ⟨⟨x, y, z⟩, h3, h⟩ := h
  obtain rfl := the3_of h3
  replace h := and_of h
  obtain ⟨h, h10⟩ := h
  replace h := and_of h
  obtain ⟨h, h9⟩ := h
  replace h := and_of h
  obtain ⟨h, h8⟩ := h
  replace h := and_of h
  obtain ⟨h, h7⟩ := h
  replace h := and_of h
  obtain ⟨h, h6⟩ := h
  replace h := and_of h
  obtain ⟨h4, h5⟩ := h
  obtain rfl := non0_of h4
  obtain rfl := dec_of h5
  exact ⟨p, x, y, z, p2, rfl, h6, h7, h8, h9, h10⟩
theorem inv_tg_nm {lim : Nat} {all : Bool} {i : Nat} (h : chkTg sc N lim all (.nm i) e = true) : ∃ x p, e = .Name x p ∧ N[i]? = some x ∧ i < lim ∧ (if all then locB sc x else decide (sc.names.lookup x = some .local)) = true := by
  replace h := any_of h
  obtain ⟨x, h1, h⟩ := h
  obtain ⟨p, rfl⟩ := asName_of h1
  replace h := and_of h
  obtain ⟨h, h4⟩ := h
  replace h := and_of h
  obtain ⟨h2, h3⟩ := h
  exact ⟨x, p, rfl, dec_of h2, dec_of h3, h4⟩
theorem inv_tg_tup {lim : Nat} {all : Bool} {ts : ITgs} (h : chkTg sc N lim all (.tup ts) e = true) : ∃ es k p, e = .Tuple es k p ∧ chkTgs sc N lim all ts es = true := by
  replace h := any_of h
  obtain ⟨es, h1, h⟩ := h
  obtain ⟨k, p, rfl⟩ := asTup_of h1
  exact ⟨es, k, p, rfl, h⟩
theorem inv_tgs_nil {lim : Nat} {all : Bool} {l : List Expr} (h : chkTgs sc N lim all .nil l = true) : l = [] := by
  exact non0_of h
theorem inv_tgs_cons {lim : Nat} {all : Bool} {t : ITg} {ts : ITgs} {l : List Expr} (h : chkTgs sc N lim all (.cons t ts) l = true) : ∃ x xs, l = x :: xs ∧ chkTg sc N lim all t x = true ∧ chkTgs sc N lim all ts xs = true := by
  replace h := any_of h
  obtain ⟨⟨x, xs⟩, h1, h⟩ := h
  exact ⟨x, xs, hd1_of h1, and_of h⟩
end
end L2
namespace L2
open PySem PySem.Spec PyProof.Rows
noncomputable def liT (K : Y00) (t : TEm) : TT := λσ H Q => ∃ σm M, RS K H σm σ ∧ RH K M H ∧ t σm M (λm M' => ∃ b, m = .bl b ∧ ∀ H', Kp H H' → RH K M' H' → Q b H')
noncomputable def liO (K : Y00) (t : Sm → MH → (Option Int → MH → Prop) → Prop) : TO := λσ H Q => ∃ σm M, RS K H σm σ ∧ RH K M H ∧ t σm M (λo M' => ∀ H', Kp H H' → RH K M' H' → Q o H')
section
variable {K : Y00}
theorem li_test {t : TEm} (m : MonE t) {σ : St} {H : Hp} {Q : Bool → Hp → Prop} (h : liT K t σ H Q) : liE K t σ H λx H' => ∃ c, x = .bl c ∧ Q c H' := by
  obtain ⟨σm, M, rs, rh, h⟩ := h
  refine ⟨σm, M, rs, rh, m (λx M1 ⟨b, e, h1⟩ => ?_) h⟩
  subst e
  intro v H1 k1 r1 rh1
  cases r1
  exact ⟨b, rfl, h1 H1 k1 rh1⟩
theorem liT_on {t : TEm} (m : MonE t) {σm : Sm} {M : MH} {H H1 : Hp} {Q : Bool → Hp → Prop} (k : Kp H H1) (h : t σm M λx M' => ∃ b, x = .bl b ∧ ∀ H', Kp H H' → RH K M' H' → Q b H') :
    t σm M λx M' => ∃ b, x = .bl b ∧ ∀ H', Kp H1 H' → RH K M' H' → Q b H' :=
  m (λx M' ⟨b, e, q⟩ => ⟨b, e, λH' k' => q H' (k.trans k')⟩) h
theorem li_cons {te : TEm} {t : TAm} (me : MonE te) (mt : MonA t) {σ : St} {H : Hp} {Q : List V → Hp → Prop} (h : liA K (λσ M Q => te σ M λv M1 => t σ M1 λvs M2 => Q (v :: vs) M2) σ H Q) : tCons (liE K te) (liA K t) σ H Q := by
  obtain ⟨σm, M, rs, rh, h⟩ := h
  refine ⟨σm, M, rs, rh, me (λx M1 h1 => ?_) h⟩
  intro v H1 k1 r1 rh1
  refine ⟨σm, M1, rs.mono k1, rh1, mt (λms M2 h2 => ?_) h1⟩
  intro vs H2 k2 r2 rh2
  exact h2 (v :: vs) H2 (k1.trans k2) (.cons (r1.mono k2) r2) rh2
end
noncomputable def SrcIt (X : Cx) (H : Hp) : Src → It → Prop
  | .tup xs, J => (∃ a vs, H a = some (.tup vs) ∧ RMs X.K H xs vs ∧ J = Itt X.K a) ∨ ∃ a vs, FrL X.K H a vs ∧ RMs X.K H xs vs ∧ J = Itl X.K a
  | .lst a _, J => J = Itl X.K a
  | .rng lo n, J => J = Itr lo n
  | .rst lo st n, J => J = Itrs lo st n
  | .dic a o _, J => J = Itd a o ∧ ∀ o' u', X.H₀ a ≠ some (.frz o' u')
  | .str x, J => J = Its x
theorem src_thaw {X : Cx} {H0 H : Hp} {M : MH} {S : Src} {J : It} (s : SrcIt X H0 S J) (rh : RH X.K M H) (ok : S.okT M) : ∃ H', Thw X H H' ∧ Kp H H' ∧ RH X.K (S.thaw M) H' := by
  cases S with
  | tup xs => exact ⟨H, .inl rfl, Kp.refl _, rh⟩
  | lst a xs => exact ⟨H, .inl rfl, Kp.refl _, rh⟩
  | rng a xs => exact ⟨H, .inl rfl, Kp.refl _, rh⟩
  | rst a b xs => exact ⟨H, .inl rfl, Kp.refl _, rh⟩
  | str x => exact ⟨H, .inl rfl, Kp.refl _, rh⟩
  | dic a o kvs =>
    obtain ⟨vs, e, r, nd⟩ := rh.fdic ok
    have k := Kp.upd e rfl (.dK vs)
    exact ⟨_, .inr ⟨a, o, .dK vs, e, trivial, s.2, rfl⟩, k, rh.put k (o := .dic kvs) ⟨r.mono k, nd⟩⟩
theorem ok_okT {M : MH} {S : Src} (ok : S.ok M) : S.okT M := by
  cases S <;> first | trivial | exact ok
theorem rk_get {K : Y00} {H : Hp} {k : Key} {v : V} : ∀ {m : List (Key × MV)} {vs : List (Key × V)} {i : Nat}, RKs K H m vs → vs[i]? = some (k, v) → ∃ x, m[i]? = some (k, x) ∧ RM K H x v
  | _, _, _, .nil, h => by cases h
  | _, _, 0, .cons r _, h => by cases h; exact ⟨_, rfl, r⟩
  | _, _, i + 1, .cons _ t, h => rk_get (i := i) t h
theorem src_turn {X : Cx} {H0 H : Hp} {M : MH} {S : Src} {J : It} (s : SrcIt X H0 S J) (k : Kp H0 H) (rh : RH X.K M H) (ok : S.ok M) :
    (∀ i, i < S.len → J.go i H ∧ ∀ x H', J.yld i H x H' → H' = H ∧ ∃ m, S.items[i]? = some m ∧ RM X.K H m x) ∧ ∀ i, S.len ≤ i → J.stop i H := by
  have seqL : ∀ {a : Addr} {xs : List MV} {vs : List V}, SqL X.K H a vs → RMs X.K H xs vs → (∀ i, i < xs.length → (Itl X.K a).go i H ∧ ∀ x H', (Itl X.K a).yld i H x H' → H' = H ∧ ∃ m, xs[i]? = some m ∧ RM X.K H m x) ∧ ∀ i, xs.length ≤ i → (Itl X.K a).stop i H := by
    intro a xs vs hs r
    refine ⟨λi hi => ⟨⟨vs, _, hs, Y0h (by rw [← r.length]; exact hi)⟩, λx H' y => ?_⟩, λi hi => ⟨vs, hs, by rw [← r.length]; exact hi⟩⟩
    exact ⟨y.1, r.get' (y.2 vs hs)⟩
  cases S with
  | tup xs =>
    rcases s with ⟨a, vs, h, r, rfl⟩ | ⟨a, vs, h, r, rfl⟩
    · have h := SqT.of (K := X.K) (k _ _ h rfl)
      have r := r.mono k
      refine ⟨λi hi => ⟨⟨vs, _, h, Y0h (by rw [← r.length]; exact hi)⟩, λx H' y => ?_⟩, λi hi => ⟨vs, h, by rw [← r.length]; exact hi⟩⟩
      exact ⟨y.1, r.get' (y.2 vs h)⟩
    · refine seqL (FrL.sq ?_) (r.mono k)
      rcases h with ⟨o, h⟩ | h
      · exact .inl ⟨o, k _ _ h rfl⟩
      · exact .inr h
  | lst a xs =>
    cases s
    obtain ⟨vs, h, r⟩ := rh.lst ok
    exact seqL (SqL.of h) r
  | rng lo n =>
    cases s
    refine ⟨λi hi => ⟨hi, λx H' y => ⟨y.1, .int (lo + (i : Nat)), ?_, ?_⟩⟩, λi hi => hi⟩
    · show ((Y0z n).map _)[i]? = _
      rw [Y0d, Y0h (by simpa using (show i < n from hi))]
      simp
    · rw [y.2]; exact .int _
  | rst lo st n =>
    cases s
    refine ⟨λi hi => ⟨hi, λx H' y => ⟨y.1, .int (lo + (i : Nat) * st), ?_, ?_⟩⟩, λi hi => hi⟩
    · show ((Y0z n).map _)[i]? = _
      rw [Y0d, Y0h (by simpa using (show i < n from hi))]
      simp
    · rw [y.2]; exact .int _
  | str z =>
    cases s
    refine ⟨λi hi => ⟨hi, λx H' y => ?_⟩, λi hi => hi⟩
    obtain ⟨e, c, hc, rfl⟩ := y
    refine ⟨e, .str ⟨#[c]⟩, ?_, .str _⟩
    show (z.cps.toList.map _)[i]? = _
    rw [Y0d, Y2q, hc]
    rfl
  | dic a o kvs =>
    obtain ⟨rfl, _⟩ := s
    obtain ⟨vs, e, r, nd⟩ := rh.fdic ok
    refine ⟨λi hi => ⟨⟨vs, e, by rw [← r.length]; exact hi⟩, λx H' y => ?_⟩, λi hi => ⟨vs, e, by rw [← r.length]; exact hi⟩⟩
    obtain ⟨rfl, y⟩ := y
    obtain ⟨kk, v, hv, rfl⟩ := y vs e
    obtain ⟨x, hx, _⟩ := rk_get r hv
    refine ⟨rfl, kM kk, ?_, ?_⟩
    · show (kvs.map λp => kM p.1)[i]? = _
      rw [Y0d, hx]; rfl
    · cases kk with
      | inl i => exact .int i
      | inr x => exact .str x
noncomputable def liSr (X : Cx) (t : TSm) : TI := λσ H R => ∃ σm M, RS X.K H σm σ ∧ RH X.K M H ∧ t σm M (λS M' => ∀ J H', Kp H H' → RH X.K M' H' → SrcIt X H' S J → R J H')
section
variable {X : Cx} {tg : Expr}
theorem PI.weak {e : Expr} {t t' : TI} (h : PI X tg e t) (i : ∀ σ H R, t' σ H R → t σ H R) : PI X tg e t' := λpins s σ H R I q => h pins s σ H R I (i _ _ _ q)
end
mutual
noncomputable def gOf (K : Y00) : ITg → TG
  | .nm i => gName i
  | .tup ts => gTup K (ITgs.len ts) (gsOf K ts)
noncomputable def gsOf (K : Y00) : ITgs → TGs
  | .nil => gNil
  | .cons t ts => gCons (gOf K t) (gsOf K ts)
noncomputable def ITgs.len : ITgs → Nat
  | .nil => 0
  | .cons _ ts => ts.len + 1
end
mutual
theorem sTg {X : Cx} {lim : Nat} {all : Bool} (hc : X.calm = true) (hN : X.N.Nodup) (hf : all = true → ∀ x, X.fn x = true) : ∀ (t : ITg) {e : Expr}, chkTg X.env.scope X.N lim all t e = true → PG X e (gOf X.K t)
  | .nm i, e, h => by
    obtain ⟨x, p, rfl, h1, h2, h3⟩ := inv_tg_nm h
    cases all with
    | true =>
      rw [if_pos rfl] at h3
      exact pg_name hN h1 (loc_of h3) (.inl (hf rfl _))
    | false =>
      rw [if_neg Y01, decide_eq_true_eq] at h3
      exact pg_name hN h1 (.inl h3) (.inr h3)
  | .tup ts, e, h => by
    obtain ⟨es, k, p, rfl, h⟩ := inv_tg_tup h
    obtain ⟨h1, h2, h3⟩ := sTgs hc hN hf ts h
    exact pg_tup hc h1 h2 h3
theorem sTgs {X : Cx} {lim : Nat} {all : Bool} (hc : X.calm = true) (hN : X.N.Nodup) (hf : all = true → ∀ x, X.fn x = true) : ∀ (t : ITgs) {es : List Expr}, chkTgs X.env.scope X.N lim all t es = true → PGs X es (gsOf X.K t) ∧ (assignEach es X.env).length = t.len ∧ (assignEach es X.env).findIdx? (·.1) = none
  | .nil, l, h => by
    cases inv_tgs_nil h
    rw [gsOf, ITgs.len]; exact ⟨pgs_nil, rfl, rfl⟩
  | .cons t ts, l, h => by
    obtain ⟨e, es, rfl, ha, hb⟩ := inv_tgs_cons h
    obtain ⟨h1, h2, h3⟩ := sTgs hc hN hf ts hb
    have h4 := sTg hc hN hf t ha
    have e1 : assignEach (e :: es) X.env = (false, assign e X.env) :: assignEach es X.env := by
      cases t with
      | nm i => obtain ⟨x, p, rfl, _⟩ := inv_tg_nm ha; rfl
      | tup ts => obtain ⟨x, k, p, rfl, _⟩ := inv_tg_tup ha; rfl
    rw [gsOf, ITgs.len]
    refine ⟨pgs_cons h4 h1 (by rw [e1]; rfl), by rw [e1, Y0r, h2], ?_⟩
    rw [e1, List.findIdx?_cons, if_neg Y01, h3]
    rfl
end
theorem RMs.len_tgs {K : Y00} : ∀ {ts : ITgs} {xs : List MV} {σ : Sm} {P : Sm → Prop}, wTgs ts xs σ P → xs.length = ts.len
  | .nil, xs, σ, P, h => by rw [h.1, ITgs.len]; rfl
  | .cons t ts, xs, σ, P, h => by
    obtain ⟨v, r, rfl, h⟩ := h
    rw [Y0r, ITgs.len]
    have aux : ∀ (t : ITg) {v : MV} {σ : Sm}, wTg t v σ (λσ' => wTgs ts r σ' P) → ∃ σ', wTgs ts r σ' P := by
      have both : (∀ (t : ITg) {v : MV} {σ : Sm} {P : Sm → Prop}, wTg t v σ P → ∃ σ', P σ') ∧ (∀ (t : ITgs) {v : List MV} {σ : Sm} {P : Sm → Prop}, wTgs t v σ P → ∃ σ', P σ') := by
        refine ⟨λt => ?_, λt => ?_⟩
        · exact ITg.rec (motive_1 := λt => ∀ {v : MV} {σ : Sm} {P : Sm → Prop}, wTg t v σ P → ∃ σ', P σ') (motive_2 := λt => ∀ {v : List MV} {σ : Sm} {P : Sm → Prop}, wTgs t v σ P → ∃ σ', P σ')
            (λi v σ P h => ⟨_, h⟩) (λts ih v σ P h => by obtain ⟨xs, _, h⟩ := h; exact ih h)
            (fun {v σ P} h => ⟨_, h.2⟩) (λt ts i1 i2 v σ P h => by obtain ⟨x, r, _, h⟩ := h; obtain ⟨σ', h⟩ := i1 h; exact i2 h) t
        · exact ITgs.rec (motive_1 := λt => ∀ {v : MV} {σ : Sm} {P : Sm → Prop}, wTg t v σ P → ∃ σ', P σ') (motive_2 := λt => ∀ {v : List MV} {σ : Sm} {P : Sm → Prop}, wTgs t v σ P → ∃ σ', P σ')
            (λi v σ P h => ⟨_, h⟩) (λts ih v σ P h => by obtain ⟨xs, _, h⟩ := h; exact ih h)
            (fun {v σ P} h => ⟨_, h.2⟩) (λt ts i1 i2 v σ P h => by obtain ⟨x, r, _, h⟩ := h; obtain ⟨σ', h⟩ := i1 h; exact i2 h) t
      exact λt {v σ} h => both.1 t h
    obtain ⟨σ', h'⟩ := aux t h
    rw [RMs.len_tgs (K := K) h']
mutual
theorem tg_ok {K : Y00} {H : Hp} {lim : Nat} {sc : Scope} {N : List Str} {all : Bool} {Ψ : St → Prop} (hΨ : ∀ σ i v, i < lim → Ψ σ → Ψ (σ.set i (some v))) : ∀ (t : ITg) {e : Expr} {mv : MV} {v : V} {σm : Sm} {σ : St} {P : Sm → Prop} {Q : St → Hp → Prop}, chkTg sc N lim all t e = true →
    RM K H mv v → RS K H σm σ → Ψ σ → wTg t mv σm P → (∀ σm' σ', P σm' → RS K H σm' σ' → Ψ σ' → Q σ' H) → gOf K t v σ H Q
  | .nm i, e, mv, v, σm, σ, P, Q, hc, r, rs, ps, h, hq => by
    obtain ⟨x, p, rfl, _, hl, _⟩ := inv_tg_nm hc
    exact hq _ _ h (rs.set r i) (hΨ _ _ _ hl ps)
  | .tup ts, e, mv, v, σm, σ, P, Q, hc, r, rs, ps, h, hq => by
    obtain ⟨es, k, p, rfl, hc⟩ := inv_tg_tup hc
    obtain ⟨xs, rfl, h⟩ := h
    cases r with
    | tup h1 q1 =>
      exact ⟨_, _, rfl, SqT.of h1, by rw [← q1.length]; exact RMs.len_tgs (K := K) h, tgs_ok hΨ ts hc q1 rs ps h hq⟩
theorem tgs_ok {K : Y00} {H : Hp} {lim : Nat} {sc : Scope} {N : List Str} {all : Bool} {Ψ : St → Prop} (hΨ : ∀ σ i v, i < lim → Ψ σ → Ψ (σ.set i (some v))) : ∀ (t : ITgs) {es : List Expr} {mvs : List MV} {vs : List V} {σm : Sm} {σ : St} {P : Sm → Prop} {Q : St → Hp → Prop}, chkTgs sc N lim all t es = true →
    RMs K H mvs vs → RS K H σm σ → Ψ σ → wTgs t mvs σm P → (∀ σm' σ', P σm' → RS K H σm' σ' → Ψ σ' → Q σ' H) → gsOf K t vs σ H Q
  | .nil, es, mvs, vs, σm, σ, P, Q, hc, r, rs, ps, h, hq => by
    obtain ⟨rfl, h⟩ := h
    cases r
    rw [gsOf]
    exact ⟨rfl, hq _ _ h rs ps⟩
  | .cons t ts, es, mvs, vs, σm, σ, P, Q, hc, r, rs, ps, h, hq => by
    obtain ⟨e, es, rfl, hc1, hc2⟩ := inv_tgs_cons hc
    obtain ⟨x, rr, rfl, h⟩ := h
    cases r with
    | cons r1 r2 =>
      rw [gsOf]
      exact ⟨_, _, rfl, tg_ok hΨ t hc1 r1 rs ps h λσm' σ' h' rs' ps' => tgs_ok hΨ ts hc2 r2 rs' ps' h' hq⟩
end
end L2
namespace L2
open PySem PySem.Spec PyProof.Rows
theorem sC_rs {K : Y00} {H : Hp} {own : List Str} {fr : List Nat} {σm : Sm} {σ : St} (rs : RS K H σm σ) : RS K H (sCm own fr σm) (sC own fr σ) := by
  refine ⟨by simp [sCm, sC], λi m e => ?_⟩
  unfold sCm at e
  unfold sC
  by_cases hi : i < own.length
  · rw [Y0q (by simpa using hi), Y0d] at e
    cases q : own[i]? with
    | none => rw [q] at e; cases e
    | some z => rw [q] at e; cases e
  · rw [Y0A (by simpa using hi), Y05, Y0d] at e
    rw [Y0A (by simpa using hi), Y05, Y0d]
    cases q : fr[i - own.length]? with
    | none => rw [q] at e; cases e
    | some j =>
      rw [q] at e
      have e' : σm.getD j none = some m := Y0x e
      have e2 : σm[j]? = some (some m) := by
        rw [Y0B] at e'
        cases q2 : σm[j]? with
        | none => rw [q2] at e'; cases e'
        | some o => rw [q2] at e'; rw [show o = some m from e']
      obtain ⟨v, hv, r⟩ := rs.2 j m e2
      refine ⟨v, ?_, r⟩
      show some (σ.getD j none) = _
      rw [Y0B, hv]
      rfl
theorem keep_set {own : List Str} {fr : List Nat} {σ σ' : St} {i : Nat} {v : V} (hi : i < own.length) (k : Keep (sC own fr σ) σ') : Keep (sC own fr σ) (σ'.set i (some v)) := by
  refine ⟨by rw [List.length_set]; exact k.1, λj w h => ?_⟩
  by_cases hij : i = j
  · subst hij
    exfalso
    unfold sC at h
    rw [Y0q (by simpa using hi), Y0d] at h
    cases q : own[i]? with
    | none => rw [q] at h; cases h
    | some z => rw [q] at h; cases h
  · rw [Y0I, if_neg hij]
    exact k.2 j w h
theorem plain_ix {y : Expr} (h : notSl y = true) : PlainIx y := by
  intro o i
  cases y <;> first | rfl | cases h
theorem fold_set {it : Expr} (h : notSet it = true) (env : Env) : ∀ x, foldedSetIterable it env x = pure x := by
  intro x
  cases it <;> first | rfl | cases h
theorem Cok.comp {X : Cx} {G : GI} {Φ : List (Str × SpM)} (c : Cok X G Φ) {scope : Scope} {own : List Str} {fr : List Nat} {C : Addr} {fp : List Addr} {s₃ : Shared} {H₃ : Hp} (hk : scope.kind = .function) (nd : (nC own fr X.N).Nodup) : Cok (cxC X scope own fr C fp s₃ H₃) G Φ :=
  ⟨c.room, c.calm, rfl, (by show (if scope.kind.isAnnotationScope then Y1R else scope.kind) = .function; rw [hk]; rfl), nd, c.bls, c.gls, c.fnn, c.mon, c.fns, c.mts, c.mks, c.cls⟩
noncomputable def ttOf (K : Y00) (Φ : List (Str × SpM)) : IO → TT
  | .none => tAll
  | .some e => liT K (wE Φ e)
theorem comp_read {X : Cx} {Φ : List (Str × SpM)} (hΦ : ∀ (j : Nat) f sp, Φ[j]? = some (f, sp) → MonW sp) {own : List Str} {fr : List Nat} {src : ISr} {tg : ITg} {test : IO} {elt : IE} {sc : Scope} {N : List Str} {t : Expr}
    (h5 : chkTg sc N own.length false tg t = true) {σ : St} {H : Hp} {Q : VK} (hw : liE X.K (wE Φ (.comp own fr src tg test elt)) σ H Q) : tComp2 own fr (liSr X (wSr Φ src)) (gOf X.K tg) (ttOf X.K Φ test) (liE X.K (wE Φ elt)) σ H (λv H' => ∃ H2, Thw X H' H2 ∧ Q v H2) := by
  obtain ⟨σm, M, rs, rh, hw⟩ := hw
  refine ⟨σm, M, rs, rh, mon_sr hΦ src (λS M1 ⟨hz, q⟩ => ?_) hw⟩
  intro J H1 k1 rh1 sit D hD
  obtain ⟨Jm, j0, j1, j2, j3⟩ := q D (rh1.free hD)
  refine ⟨λi m ys H2 => m = S.len - i ∧ i ≤ S.len ∧ Kp H1 H2 ∧ ∃ mys M2, RH X.K M2 H2 ∧ Jm i mys M2, ⟨S.len, rfl, Y1p _, Kp.new hD _, [], _, rh1.put (Kp.new hD (.lst [])) (o := .lst []) RMs.nil, j0⟩, ?_⟩
  rintro i m ys H2 ⟨rfl, hi, k2, mys, M2, rh2, hj⟩
  obtain ⟨d1, d2, d3⟩ := j1 i mys M2 hj
  obtain ⟨goes, stops⟩ := src_turn sit k2 rh2 d3
  by_cases hlt : i < S.len
  · obtain ⟨go, yld⟩ := goes i hlt
    refine .inr ⟨go, λys' H' => Kp H1 H' ∧ ∃ mys M', RH X.K M' H' ∧ Jm (i + 1) mys M', λys' H' ⟨a, mys', M', b, c⟩ => ⟨S.len - (i + 1), by lia, rfl, hlt, a, mys', M', b, c⟩, λx H3 y => ?_⟩
    obtain ⟨e3, m, hm, rm⟩ := yld x H3 y
    subst e3
    have ht := j2 i m mys M2 hm hj
    refine tg_ok (Ψ := Keep (sC own fr σ)) (lim := own.length) (λσ' i v hi k => keep_set hi k) tg h5 rm (sC_rs (rs.mono (k1.trans k2))) ⟨rfl, λ_ _ h => h⟩ ht λσm' σ' hP rs' keep => ⟨keep, ?_⟩
    have eltp : ∀ {M4 : MH} {H5 : Hp}, Kp H3 H5 → RH X.K M4 H5 → (wE Φ elt σm' M4 λy M5 => M5 D = some (.lst mys) ∧ Jm (i + 1) (mys ++ [y]) (updM M5 D (.lst (mys ++ [y])))) →
        liE X.K (wE Φ elt) σ' H5 λy H6 => ∃ zs, H6 D = some (.lst zs) ∧ zs.length < sizeLine ∧ Kp H1 (upd H6 D (.lst (zs ++ [y]))) ∧ ∃ mys M', RH X.K M' (upd H6 D (.lst (zs ++ [y]))) ∧ Jm (i + 1) mys M' := fun {M4 H5} k5 rh5 q => by
      refine ⟨σm', M4, rs'.mono k5, rh5, mon_e hΦ elt (λy M5 ⟨hd, hj'⟩ => ?_) q⟩
      intro v H6 k6 r6 rh6
      obtain ⟨zs, e, rz⟩ := rh6.lst hd
      have ku := Kp.upd e rfl (.lst (zs ++ [v]))
      exact ⟨zs, e, by rw [← rz.length]; lia, k2.trans (k5.trans (k6.trans ku)), _, _, rh6.put ku (o := .lst (mys ++ [y])) ((rz.append (.cons r6 .nil)).mono ku), hj'⟩
    cases test with
    | none =>
      rw [wI] at hP
      rw [if_pos rfl] at hP
      rw [ttOf]
      refine all_go ?_
      dsimp only
      rw [if_pos rfl]
      exact eltp (Kp.refl _) rh2 hP
    | some e =>
      refine ⟨σm', M2, rs', rh2, mon_e hΦ e (λv M4 ⟨b, eb, q⟩ => ⟨b, eb, λH5 k5 rh5 => mon_ite (λq => eltp k5 rh5 q) (λq => ⟨k2.trans k5, _, _, rh5, q⟩) q⟩) hP⟩
  · refine .inl ⟨stops i (by lia), ?_⟩
    have e : i = S.len := by lia
    subst e
    obtain ⟨H', th, k3, rh3⟩ := src_thaw sit rh2 (ok_okT d3)
    exact ⟨H', th, j3 mys M2 hj _ _ (k1.trans (k2.trans k3)) (.ref D) rh3⟩
theorem chn_read {K : Y00} {Φ : List (Str × SpM)} (hΦ : ∀ (j : Nat) f sp, Φ[j]? = some (f, sp) → MonW sp) {op op' : CmpOp} {a b d : IE} {σ : St} {H : Hp} {Q : VK} (hw : liE K (wE Φ (.chn op op' a b d)) σ H Q) :
    tChain (li2 K (wCmp op)) (li2 K (wCmp op')) (liE K (wE Φ a)) (liE K (wE Φ b)) (liE K (wE Φ d)) σ H Q := by
  obtain ⟨σm, M, rs, rh, hw⟩ := hw
  rw [x_chn] at hw
  refine ⟨σm, M, rs, rh, mon_e hΦ a (λx M1 q1 => ?_) hw⟩
  intro v H1 k1 r1 rh1
  refine ⟨σm, M1, rs.mono k1, rh1, mon_e hΦ b (λy M2 q2 => ?_) q1⟩
  intro u H2 k2 r2 rh2
  refine ⟨x, y, M2, r1.mono k2, r2, rh2, mon_cmp op (λz M3 ⟨k, e, q3⟩ => ?_) q2⟩
  subst e
  intro z H3 k3 r3 rh3
  cases r3
  refine ⟨k, rfl, mon_ite (λq => ?_) (λq => ?_) q3⟩
  · refine ⟨σm, M3, rs.mono (k1.trans (k2.trans k3)), rh3, mon_e hΦ d (λw M4 q4 => ?_) q⟩
    intro w' H4 k4 r4 rh4
    exact ⟨y, w, M4, r2.mono (k3.trans k4), r4, rh4, mon_cmp op' (λm M' hq => hq.on (k1.trans (k2.trans (k3.trans k4)))) q4⟩
  · exact q _ _ (k1.trans (k2.trans k3)) (.bl _) rh3
noncomputable def trOf (K : Y00) (Φ : List (Str × SpM)) : IPs → List (TE × TE)
  | .nil => []
  | .cons k v r => (liE K (wE Φ k), liE K (wE Φ v)) :: trOf K Φ r
noncomputable def aob : IE → Bool
  | .and .. => true
  | .or .. => true
  | _ => false
structure Snd (X : Cx) (Φ : List (Str × SpM)) (ie : IE) (e : Expr) : Prop where
  pe : PE X e (liE X.K (wE Φ ie))
  pt : tok ie = true → PT X e (liT X.K (wE Φ ie))
  pw : tok ie = true → aob ie = true → PW X e (liT X.K (wE Φ ie))
theorem Snd.plain {X : Cx} {G : GI} {Φ : List (Str × SpM)} {ie : IE} {e : Expr} (c : Cok X G Φ) (pe : PE X e (liE X.K (wE Φ ie))) (he : ∀ whole, isTrue e X.env whole = (do let v ← whole; standAt e.pos; holding [v] (truthy v))) (na : aob ie = false) : Snd X Φ ie e :=
  ⟨pe, λ_ => (pt_val pe he).weak λσ H Q h => li_test (t := wE Φ ie) (mon_e c.mon ie) h, λ_ h => by rw [na] at h; cases h⟩
mutual
theorem sE {G : GI} {Φ : List (Str × SpM)} : ∀ (ie : IE) {X : Cx} {e : Expr}, Cok X G Φ → chkE G ie X.env.scope X.N e = true → Snd X Φ ie e
  | .var i, X, e, c, h => by
    obtain ⟨x, p, rfl, h1, h2, h3, h4⟩ := inv_var h
    refine .plain c ?_ (λ_ => rfl) rfl
    refine (pe_var h1 (vis_of h2) h3 h4).weak λσ H Q hw => ?_
    obtain ⟨σm, M, rs, rh, hw⟩ := hw
    rw [x_var] at hw
    obtain ⟨v, e, q⟩ := hw
    obtain ⟨u, hu, r⟩ := rs.2 i v e
    exact ⟨u, hu, q _ _ (Kp.refl _) r rh⟩
  | .int i, X, e, c, h => by
    obtain ⟨k, p, rfl⟩ := inv_int h
    refine .plain c ?_ (λ_ => rfl) rfl
    refine pe_int.weak λσ H Q hw => ?_
    obtain ⟨σm, M, rs, rh, hw⟩ := hw
    exact hw _ _ (Kp.refl _) (.int i) rh
  | .str i, X, e, c, h => by
    obtain ⟨k, p, rfl⟩ := inv_str h
    refine .plain c ?_ (λ_ => rfl) rfl
    refine pe_str.weak λσ H Q hw => ?_
    obtain ⟨σm, M, rs, rh, hw⟩ := hw
    exact hw _ _ (Kp.refl _) (.str i) rh
  | .bl i, X, e, c, h => by
    obtain ⟨k, p, rfl⟩ := inv_bl h
    refine .plain c ?_ (λ_ => rfl) rfl
    refine pe_bl.weak λσ H Q hw => ?_
    obtain ⟨σm, M, rs, rh, hw⟩ := hw
    exact hw _ _ (Kp.refl _) (.bl i) rh
  | .non, X, e, c, h => by
    obtain ⟨k, p, rfl⟩ := inv_non h
    refine .plain c ?_ (λ_ => rfl) rfl
    refine pe_non.weak λσ H Q hw => ?_
    obtain ⟨σm, M, rs, rh, hw⟩ := hw
    exact hw _ _ (Kp.refl _) .non rh
  | .glb x i, X, e, c, h => by
    obtain ⟨p, rfl, h1, h2⟩ := inv_glb h
    obtain ⟨g1, g2, g3⟩ := gl_of h2
    obtain ⟨tk, hm⟩ := c.gls x i h1
    refine .plain c ?_ (λ_ => rfl) rfl
    refine (pe_glob (v := .int i) g1 hm ⟨tk, rfl⟩ g2).weak λσ H Q hw => ?_
    obtain ⟨σm, M, rs, rh, hw⟩ := hw
    exact hw _ _ (Kp.refl _) (.int i) rh
  | .ty t, X, e, c, h => by
    obtain ⟨p, rfl, h0, h1, h2⟩ := inv_ty h
    obtain ⟨g1, g2, g3⟩ := gl_of h2
    refine .plain c ?_ (λ_ => rfl) rfl
    refine (pe_bltn (v := .ty t.name) g1 (c.bls _ h1) (boot_ty h0) rfl g3 g2).weak λσ H Q hw => ?_
    obtain ⟨σm, M, rs, rh, hw⟩ := hw
    exact hw _ _ (Kp.refl _) (.ty t) rh
  | .bin op a b, X, e, c, h => by
    obtain ⟨l, r, p, rfl, h1, h2⟩ := inv_bin h
    refine .plain c ?_ (λ_ => rfl) rfl
    refine (pe_op (op_bin op) (sE a c h1).pe (sE b c h2).pe).weak λσ H Q hw => ?_
    have : wE Φ (.bin op a b) = λσ M Q => wE Φ a σ M λx M1 => wE Φ b σ M1 λy M2 => wBin op x y M2 Q := rfl
    rw [this] at hw
    exact li_op (ta := wE Φ a) (tb := wE Φ b) (w := wBin op) (mon_e c.mon a) (mon_e c.mon b) (mon_bin op) hw
  | .neg a, X, e, c, h => by
    obtain ⟨l, p, rfl, h1⟩ := inv_neg h
    refine .plain c ?_ (λ_ => rfl) rfl
    refine (pe_un un_neg (sE a c h1).pe).weak λσ H Q hw => ?_
    obtain ⟨σm, M, rs, rh, hw⟩ := hw
    refine ⟨σm, M, rs, rh, mon_e c.mon a (λx M1 ⟨i, e, q⟩ => ?_) hw⟩
    subst e
    intro v H1 k1 r1 rh1
    cases r1
    exact ⟨i, rfl, q _ _ k1 (.int _) rh1⟩
  | .not a, X, e, c, h => by
    obtain ⟨l, p, rfl, h1⟩ := inv_not h
    have ih := sE a c h1
    refine ⟨(pe_not ih.pe).weak λσ H Q hw => ?_, λht => (pt_not (ih.pt ht)).weak λσ H Q hw => ?_, λ_ z => by cases z⟩
    · obtain ⟨σm, M, rs, rh, hw⟩ := hw
      rw [x_not] at hw
      refine ⟨σm, M, rs, rh, mon_e c.mon a (λx M1 ⟨i, e, q⟩ => ?_) hw⟩
      subst e
      intro v H1 k1 r1 rh1
      cases r1
      exact ⟨i, rfl, q _ _ k1 (.bl _) rh1⟩
    · obtain ⟨σm, M, rs, rh, hw⟩ := hw
      rw [x_not] at hw
      refine ⟨σm, M, rs, rh, mon_e c.mon a (λx M1 ⟨i, e, b, e2, q⟩ => ⟨i, e, λH' k rh' => ?_⟩) hw⟩
      cases e2
      exact q H' k rh'
  | .cmp op a b, X, e, c, h => by
    obtain ⟨l, r, p, rfl, h1, h2, h3⟩ := inv_cmp h
    have rd : ∀ σ H Q, liE X.K (wE Φ (.cmp op a b)) σ H Q → tOp (li2 X.K (wCmp op)) (liE X.K (wE Φ a)) (liE X.K (wE Φ b)) σ H Q := λσ H Q hw => by
      have : wE Φ (.cmp op a b) = λσ M Q => wE Φ a σ M λx M1 => wE Φ b σ M1 λy M2 => wCmp op x y M2 Q := rfl
      rw [this] at hw
      exact li_op (ta := wE Φ a) (tb := wE Φ b) (w := wCmp op) (mon_e c.mon a) (mon_e c.mon b) (mon_cmp op) hw
    refine ⟨(pe_cmpR (op_cmp c.room op) (sE a c h1).pe (sE b c h2).pe h3).weak rd, λ_ => (pt_cmpR (op_cmp c.room op) (sE a c h1).pe (sE b c h2).pe h3).weak λσ H Q hw => ?_, λ_ z => by cases z⟩
    exact rd σ H _ (li_test (t := wE Φ (.cmp op a b)) (mon_e c.mon _) hw)
  | .chn op op' a b d, X, e, c, h => by
    obtain ⟨l, m, r, p, rfl, h1, h2, h3, h4⟩ := inv_chn h
    refine ⟨(pe_chain (op_cmp c.room op) (op_cmp c.room op') (sE a c h1).pe (sE b c h2).pe (sE d c h3).pe h4).weak λσ H Q hw => chn_read c.mon hw,
      λ_ => (pt_chain (op_cmp c.room op) (op_cmp c.room op') (sE a c h1).pe (sE b c h2).pe (sE d c h3).pe h4).weak λσ H Q hw => ?_, λ_ z => by cases z⟩
    exact chn_read c.mon (li_test (t := wE Φ (.chn op op' a b d)) (mon_e c.mon _) hw)
  | .and a b, X, e, c, h => by
    obtain ⟨l, r, rest, p, rfl, h1, h2⟩ := inv_and h
    have ih := sE a c h1
    have hb : PE X (.BoolOp .And (r :: rest) p) (liE X.K (wE Φ b)) := by
      rcases h2 with ⟨rfl, h2⟩ | h2
      · exact pe_one (sE b c h2).pe
      · exact (sE b c h2).pe
    have hw' : tok (.and a b) = true → PW X (.BoolOp .And (l :: r :: rest) p) (liT X.K (wE Φ (.and a b))) := λht => by
      have ht : (tok a && tok b) = true := ht
      rw [Y04] at ht
      have hb2 : PW X (.BoolOp .And (r :: rest) p) (liT X.K (wE Φ b)) := by
        rcases h2 with ⟨rfl, h2⟩ | h2
        · exact pw_and1 ((sE b c h2).pt ht.2)
        · refine (sE b c h2).pw ht.2 ?_
          cases b <;> first | rfl | exact absurd h2 Y01
      refine (pw_and (ih.pt ht.1) hb2).weak λσ H Q hw => ?_
      obtain ⟨σm, M, rs, rh, hw⟩ := hw
      rw [x_and] at hw
      refine ⟨σm, M, rs, rh, mon_e c.mon a (λx M1 ⟨k, e, q⟩ => ⟨k, e, λH1 k1 rh1 => ?_⟩) hw⟩
      refine mon_ite (λq => ⟨σm, M1, rs.mono k1, rh1, liT_on (t := wE Φ b) (mon_e c.mon b) k1 q⟩) (λq => let ⟨b, e, q⟩ := q; MV.noConfusion e λeb => eb ▸ q H1 k1 rh1) q
    refine ⟨(pe_and ih.pe hb).weak λσ H Q hw => ?_, λht => (hw' ht).pt, λht _ => hw' ht⟩
    obtain ⟨σm, M, rs, rh, hw⟩ := hw
    rw [x_and] at hw
    refine ⟨σm, M, rs, rh, mon_e c.mon a (λx M1 ⟨k, e, q⟩ => ?_) hw⟩
    subst e
    intro v H1 k1 r1 rh1
    cases r1
    refine ⟨k, rfl, mon_ite (λq => ⟨σm, M1, rs.mono k1, rh1, mon_e c.mon b (λm M' hq => hq.on k1) q⟩) (λq => q _ _ k1 (.bl _) rh1) q⟩
  | .or a b, X, e, c, h => by
    obtain ⟨l, r, rest, p, rfl, h1, h2⟩ := inv_or h
    have ih := sE a c h1
    have hb : PE X (.BoolOp .Or (r :: rest) p) (liE X.K (wE Φ b)) := by
      rcases h2 with ⟨rfl, h2⟩ | h2
      · exact pe_one (sE b c h2).pe
      · exact (sE b c h2).pe
    have hw' : tok (.or a b) = true → PW X (.BoolOp .Or (l :: r :: rest) p) (liT X.K (wE Φ (.or a b))) := λht => by
      have ht : (tok a && tok b) = true := ht
      rw [Y04] at ht
      have hb2 : PW X (.BoolOp .Or (r :: rest) p) (liT X.K (wE Φ b)) := by
        rcases h2 with ⟨rfl, h2⟩ | h2
        · exact pw_or1 ((sE b c h2).pt ht.2)
        · refine (sE b c h2).pw ht.2 ?_
          cases b <;> first | rfl | exact absurd h2 Y01
      refine (pw_or (ih.pt ht.1) hb2).weak λσ H Q hw => ?_
      obtain ⟨σm, M, rs, rh, hw⟩ := hw
      rw [x_or] at hw
      refine ⟨σm, M, rs, rh, mon_e c.mon a (λx M1 ⟨k, e, q⟩ => ⟨k, e, λH1 k1 rh1 => ?_⟩) hw⟩
      refine mon_ite (λq => let ⟨b, e, q⟩ := q; MV.noConfusion e λeb => eb ▸ q H1 k1 rh1) (λq => ⟨σm, M1, rs.mono k1, rh1, liT_on (t := wE Φ b) (mon_e c.mon b) k1 q⟩) q
    refine ⟨(pe_or ih.pe hb).weak λσ H Q hw => ?_, λht => (hw' ht).pt, λht _ => hw' ht⟩
    obtain ⟨σm, M, rs, rh, hw⟩ := hw
    rw [x_or] at hw
    refine ⟨σm, M, rs, rh, mon_e c.mon a (λx M1 ⟨k, e, q⟩ => ?_) hw⟩
    subst e
    intro v H1 k1 r1 rh1
    cases r1
    refine ⟨k, rfl, mon_ite (λq => q _ _ k1 (.bl _) rh1) (λq => ⟨σm, M1, rs.mono k1, rh1, mon_e c.mon b (λm M' hq => hq.on k1) q⟩) q⟩
  | .ife d a b, X, e, c, h => absurd h Y01
  | .tup es, X, e, c, h => by
    obtain ⟨xs, k, p, rfl, h1⟩ := inv_tup h
    refine .plain c ?_ (λ_ => rfl) rfl
    refine (pe_tup (sA es c h1)).weak λσ H Q hw => ?_
    obtain ⟨σm, M, rs, rh, hw⟩ := hw
    refine ⟨σm, M, rs, rh, mon_es c.mon es (λms M1 ⟨hz, q⟩ => ?_) hw⟩
    intro vs H1 k1 r1 rh1
    refine ⟨by rw [← r1.length]; exact hz, λp hp => ?_⟩
    have k2 := Kp.new hp (.tup vs)
    exact q _ _ (k1.trans k2) (.tup upd_same (r1.mono k2)) (rh1.kept hp _)
  | .lst es, X, e, c, h => by
    obtain ⟨xs, p, rfl, h1⟩ := inv_lst h
    refine .plain c ?_ (λ_ => rfl) rfl
    refine (pe_lst (sA es c h1)).weak λσ H Q hw => ?_
    obtain ⟨σm, M, rs, rh, hw⟩ := hw
    refine ⟨σm, M, rs, rh, mon_es c.mon es (λms M1 ⟨hz, q⟩ => ?_) hw⟩
    intro vs H1 k1 r1 rh1
    refine ⟨by rw [← r1.length]; exact hz, λp hp => ?_⟩
    have k2 := Kp.new hp (.lst vs)
    exact q p (rh1.free hp) _ _ (k1.trans k2) (.ref p) (rh1.put k2 (r1.mono k2))
  | .dic, X, e, c, h => absurd h Y01
  | .ix a b, X, e, c, h => by
    obtain ⟨l, r, p, rfl, h1, h2, h3⟩ := inv_ix h
    refine .plain c ?_ (λ_ => rfl) rfl
    refine (pe_ix (ix_any (by have := c.room; lia)) (sE a c h1).pe (sE b c h2).pe (plain_ix h3)).weak λσ H Q hw => ?_
    have : wE Φ (.ix a b) = λσ M Q => wE Φ a σ M λx M1 => wE Φ b σ M1 λy M2 => wIx x y M2 Q := rfl
    rw [this] at hw
    exact li_op (ta := wE Φ a) (tb := wE Φ b) (w := wIx) (mon_e c.mon a) (mon_e c.mon b) mon_ix hw
  | .sl a lo hi, X, e, c, h => by
    obtain ⟨x, l, u, p, p2, rfl, h1, h2, h3⟩ := inv_sl h
    refine .plain c ?_ (λ_ => rfl) rfl
    refine (pe_slice sl_any (sE a c h1).pe (sO lo c h2) (sO hi c h3)).weak λσ H Q hw => ?_
    obtain ⟨σm, M, rs, rh, hw⟩ := hw
    refine ⟨σm, M, rs, rh, mon_e c.mon a (λx M1 q1 => ?_) hw⟩
    intro v H1 k1 r1 rh1
    refine ⟨σm, M1, rs.mono k1, rh1, mon_o c.mon lo (λl M2 q2 => ?_) q1⟩
    intro H2 k2 rh2
    refine ⟨σm, M2, rs.mono (k1.trans k2), rh2, mon_o c.mon hi (λu M3 q3 => ?_) q2⟩
    intro H3 k3 rh3
    exact ⟨x, M3, r1.mono (k2.trans k3), rh3, mon_sl (λm M' hq => hq.on (k1.trans (k2.trans k3))) q3⟩
  | .call j a es, X, e, c, h => by
    obtain ⟨f, p, x, xs, p2, rfl, h1, h2, h3, h4⟩ := inv_call h
    obtain ⟨g1, g2, g3⟩ := gl_of h2
    obtain ⟨sp, hj⟩ := c.fnn j f h1
    obtain ⟨k, fa, fd, ps, hr, F, hm, hk, hb⟩ := c.fns j f sp h1 hj
    have ha : PA X (x :: xs) (tCons (liE X.K (wE Φ a)) (liA X.K (wEs Φ es))) := pa_cons (sE a c h3).pe (sA es c h4) (star_of h3)
    refine .plain c ?_ (λ_ => rfl) rfl
    refine (pe_call (E := E0) F hr g1 hm hk hb .nil pass0 ha g2 (star_of h3) (back_all (star_any (pos := p2) h4)).2).weak λσ H Q hw => ?_
    obtain ⟨σm, M, rs, rh, hw⟩ := hw
    rw [x_call] at hw
    refine ⟨σm, M, rs, rh, mon_e c.mon a (λv M1 q1 => ?_) hw⟩
    intro u H1 k1 r1 rh1
    refine ⟨σm, M1, rs.mono k1, rh1, mon_es c.mon es (λvs M2 ⟨f', sp', e, q2⟩ => ?_) q1⟩
    rw [hj] at e
    cases e
    intro us H2 k2 r2 rh2
    refine ⟨v :: vs, M2, ?_, rh2, c.mon j f sp hj (λm M' hq => hq.on (k1.trans k2)) q2⟩
    rw [Y0X]
    exact .cons (r1.mono k2) r2
  | .bi f a es, X, e, c, h => by
    obtain ⟨p, x, xs, p2, rfl, h1, h2, h3, h4⟩ := inv_bi h
    obtain ⟨g1, g2, g3⟩ := gl_of h2
    have ha : PA X (x :: xs) (tCons (liE X.K (wE Φ a)) (liA X.K (wEs Φ es))) := pa_cons (sE a c h3).pe (sA es c h4) (star_of h3)
    have hv := boot_bi f
    have hcall := call_bi (X := X) c.calm f
    have hp : PE X (.Call (.Name (f.name : Str) p) (x :: xs) [] p2) (tCB (liW X.K (wBi f)) (tCons (liE X.K (wE Φ a)) (liA X.K (wEs Φ es)))) := by
      cases hf : f.val <;> rw [hf] at hv hcall <;> first
        | exact pe_callB hcall g1 (c.bls _ h1) hv ha g3 g2 (star_of h3) (back_all (star_any (pos := p2) h4)).2
        | exact pe_callTy hcall g1 (c.bls _ h1) hv ha g3 g2 (star_of h3) (back_all (star_any (pos := p2) h4)).2
        | (cases f <;> cases hf)
    refine .plain c ?_ (λ_ => rfl) rfl
    refine hp.weak λσ H Q hw => ?_
    obtain ⟨σm, M, rs, rh, hw⟩ := hw
    refine ⟨σm, M, rs, rh, mon_e c.mon a (λv M1 q1 => ?_) hw⟩
    intro u H1 k1 r1 rh1
    refine ⟨σm, M1, rs.mono k1, rh1, mon_es c.mon es (λvs M2 q2 => ?_) q1⟩
    intro us H2 k2 r2 rh2
    exact ⟨v :: vs, M2, .cons (r1.mono k2) r2, rh2, mon_bi f (λm M' hq => hq.on (k1.trans k2)) q2⟩
  | .b2 f a, X, e, c, h => by
    obtain ⟨p, p', x, p2, p2', rfl, h1, h2, h3, h4, h5⟩ := inv_b2 h
    obtain ⟨g1, g2, g3⟩ := gl_of h3
    obtain ⟨k1, k2, k3⟩ := gl_of h4
    have hv : bootBuiltins (f.out : Str) = some f.outV := by cases f <;> decide +kernel
    have hv' : bootBuiltins (f.inn : Str) = some (.type f.inn) := by cases f <;> decide +kernel
    have hp : PE X (.Call (.Name (f.out : Str) p) [.Call (.Name (f.inn : Str) p') [x] [] p2'] [] p2) (λσ H Q => liE X.K (wE Φ a) σ H λv H1 => li1 X.K (wB2 f) v H1 Q) := by
      have hc := call_b2 (X := X) c.calm f
      cases f with
      | lrng => exact pe_call2T (p := p) (p' := p') (pos := p2) (pos' := p2') hc g1 (c.bls _ h1) hv k1 (c.bls _ h2) hv' (sE a c h5).pe g3 g2 k3 k2 (star_of h5)
      | ssrt => exact pe_call2 (p := p) (p' := p') (pos := p2) (pos' := p2') hc g1 (c.bls _ h1) hv k1 (c.bls _ h2) hv' (sE a c h5).pe g3 g2 k3 k2 (star_of h5)
      | lset => exact pe_call2 (p := p) (p' := p') (pos := p2) (pos' := p2') hc g1 (c.bls _ h1) hv k1 (c.bls _ h2) hv' (sE a c h5).pe g3 g2 k3 k2 (star_of h5)
      | tset => exact pe_call2 (p := p) (p' := p') (pos := p2) (pos' := p2') hc g1 (c.bls _ h1) hv k1 (c.bls _ h2) hv' (sE a c h5).pe g3 g2 k3 k2 (star_of h5)
    refine .plain c ?_ (λ_ => rfl) rfl
    refine hp.weak λσ H Q hw => ?_
    obtain ⟨σm, M, rs, rh, hw⟩ := hw
    refine ⟨σm, M, rs, rh, mon_e c.mon a (λv M1 q1 => ?_) hw⟩
    intro u H1 k1 r1 rh1
    exact ⟨v, M1, r1, rh1, mon_b2 f (λm M' hq => hq.on k1) q1⟩
  | .st3 a, X, e, c, h => absurd h Y01
  | .mxd a, X, e, c, h => absurd h Y01
  | .mt m o es, X, e, c, h => by
    obtain ⟨ob, ap, args, cp, rfl, h1, h2, h3, h4⟩ := inv_mt h
    have slot : PySem.Slot m.ty (m.name : Str) m.id ∧ typeOf (.builtin m.id) = pure (.type "method_descriptor") := by
      cases m
      · exact ⟨PySem.F.slot_list_append, PySem.F.type_list_append⟩
      · exact ⟨PySem.F.slot_list_extend, PySem.F.type_list_extend⟩
      · exact ⟨PySem.F.slot_list_reverse, PySem.F.type_list_reverse⟩
      · exact ⟨PySem.F.slot_list_clear, PySem.F.type_list_clear⟩
      · exact ⟨Y2t, Y2u⟩
      · exact ⟨Y2t, Y2u⟩
      · exact ⟨PySem.F.slot_dict_clear, PySem.F.type_dict_clear⟩
      · exact ⟨Y2v, Y2w⟩
      · exact ⟨Y2v, Y2w⟩
      · exact ⟨PySem.F.slot_str_join, PySem.F.type_str_join⟩
      · exact ⟨PySem.F.slot_list_remove, PySem.F.type_list_remove⟩
    have plain : PlainAttrs m.ty := by
      cases m <;> first | exact PySem.F.plainAttrs_list | exact PySem.F.plainAttrs_dict | exact PySem.F.plainAttrs_str
    have hu1 : X.A.units + 1 < cLine := by have := c.room; lia
    have tyL : ∀ {H1 : Hp} {M1 : MH} {mx : MV} {v : V}, RH X.K M1 H1 → RM X.K H1 mx v → mtOk m mx M1 → tyV X.K m.ty v H1 := by
      intro H1 M1 mx v rh r hm
      cases m
      case join =>
        obtain ⟨z, rfl⟩ := hm
        cases r
        exact rfl
      case dclear | dget | dgetD =>
        obtain ⟨a, kvs, rfl, hm⟩ := hm
        cases r
        obtain ⟨vs, e, _⟩ := rh.dic hm
        exact .inr (.inr (.inl ⟨rfl, .inl ⟨vs, e⟩⟩))
      all_goals
        obtain ⟨a, xs, rfl, hm⟩ := hm
        cases r
        obtain ⟨vs, e, _⟩ := rh.lst hm
        exact .inl ⟨rfl, vs, SqL.of e⟩
    refine .plain c ?_ (λ_ => rfl) rfl
    cases args with
    | nil =>
      refine (pe_bm0 plain slot.1 slot.2 (mt_any hu1 m) (sE o c h2).pe (attr_base h2) h1).weak λσ H Q hw => ?_
      obtain ⟨σm, M, rs, rh, hw⟩ := hw
      refine ⟨σm, M, rs, rh, mon_e c.mon o (λv M1 ⟨q0, q1⟩ => ?_) hw⟩
      intro u H1 k1 r1 rh1
      cases es with
      | cons _ _ => exact absurd h3 Y01
      | nil =>
        exact ⟨tyL rh1 r1 q0, v, [], M1, r1, .nil, rh1, mon_mt (λm M' hq => hq.on k1) q1⟩
    | cons x xs =>
      cases es with
      | nil => cases inv_es_nil h3
      | cons a es =>
        have h3' := h3
        obtain ⟨x', xs', e', h3⟩ := inv_es_cons h3
        cases e'
        have ha := sA (.cons a es) c h3'
        have hall := back_all (pos := cp) (star_any (env := X.env) (pos := cp) h3')
        refine (pe_bm plain slot.1 slot.2 (mt_any hu1 m) (sE o c h2).pe ha (attr_base h2) ?_ h1 (star_of h3.1) (back_all (star_any (pos := cp) h3.2)).2).weak λσ H Q hw => ?_
        · rw [hall.1]
          simp only [Bool.true_and, Y04, decide_eq_true_eq]
          refine ⟨rfl, ?_⟩
          simp at h4 ⊢
          lia
        obtain ⟨σm, M, rs, rh, hw⟩ := hw
        refine ⟨σm, M, rs, rh, mon_e c.mon o (λv M1 ⟨q0, q1⟩ => ?_) hw⟩
        intro u H1 k1 r1 rh1
        refine ⟨tyL rh1 r1 q0, σm, M1, rs.mono k1, rh1, mon_es c.mon (.cons a es) (λvs M2 q2 => ?_) q1⟩
        intro us H2 k2 r2 rh2
        exact ⟨v, vs, M2, r1.mono k2, r2, rh2, mon_mt (λm M' hq => hq.on (k1.trans k2)) q2⟩
  | .comp own fr src tg test elt, X, e, c, h => by
    obtain ⟨x, t, it, ifs, scope, p, rfl, h1, h2, h3, h4, h5, h6, h7⟩ := inv_comp h
    refine .plain c ?_ (λ_ => rfl) rfl
    refine (pe_comp2 own fr (g := gOf X.K tg) (te := liE X.K (wE Φ elt)) (λe s h => by rw [c.nox] at h; exact h) c.calm h1 (sSr src (tg := t) c h4) (λC fp s₃ H₃ => sTg (X := cxC X scope own fr C fp s₃ H₃) (lim := own.length) (all := false) c.calm h3 (λz => by cases z) tg h5) (tt := ttOf X.K Φ test) (λC fp s₃ H₃ => sI (X := cxC X scope own fr C fp s₃ H₃) test (c.comp (compOk_of h1).kind h3) h6)
      (λC fp s₃ H₃ => (sE (X := cxC X scope own fr C fp s₃ H₃) elt (c.comp (compOk_of h1).kind h3) h7).pe) (fold_set h2 _)).thaw.weak λσ H Q hw => ?_
    exact comp_read c.mon h5 hw
  | .fld cn o f, X, e, c, h => absurd h Y01
  | .mcall j cn m o es, X, e, c, h => absurd h Y01
  | .make j cn a es, X, e, c, h => absurd h Y01
  | .disp ps, X, e, c, h => absurd h Y01
theorem sP {G : GI} {Φ : List (Str × SpM)} : ∀ (ps : IPs) {X : Cx} {pos : Pos} {ks : List (Option Expr)} {vs : List Expr}, Cok X G Φ → chkPs G ps X.env.scope X.N ks vs = true → PPs X pos ks vs (trOf X.K Φ ps)
  | .nil, X, pos, ks, vs, c, h => by
    obtain ⟨rfl, rfl⟩ := inv_ps_nil h
    exact pps_nil
  | .cons k v r, X, pos, ks, vs, c, h => by
    obtain ⟨x, ks', y, vs', rfl, rfl, h1, h2, h3⟩ := inv_ps_cons h
    exact pps_cons (sE k c h1).pe (sE v c h2).pe (sP r c h3)
theorem sA {G : GI} {Φ : List (Str × SpM)} : ∀ (ies : IEs) {X : Cx} {es : List Expr}, Cok X G Φ → chkEs G ies X.env.scope X.N es = true → PA X es (liA X.K (wEs Φ ies))
  | .nil, X, es, c, h => by
    cases es with
    | cons _ _ => cases inv_es_nil h
    | nil =>
      refine pa_nil.weak λσ H Q hw => ?_
      obtain ⟨σm, M, rs, rh, hw⟩ := hw
      exact hw _ _ (Kp.refl _) .nil rh
  | .cons a as, X, es, c, h => by
    cases es with
    | nil => cases h
    | cons x xs =>
      obtain ⟨x', xs', e', h⟩ := inv_es_cons h
      cases e'
      refine (pa_cons (sE a c h.1).pe (sA as c h.2) (star_of h.1)).weak λσ H Q hw => ?_
      have : wEs Φ (.cons a as) = λσ M Q => wE Φ a σ M λv M1 => wEs Φ as σ M1 λvs M2 => Q (v :: vs) M2 := rfl
      rw [this] at hw
      exact li_cons (te := wE Φ a) (t := wEs Φ as) (mon_e c.mon a) (mon_es c.mon as) hw
theorem sO {G : GI} {Φ : List (Str × SpM)} : ∀ (io : IO) {X : Cx} {e : Option Expr}, Cok X G Φ → chkO G io X.env.scope X.N e = true → PO X e (liO X.K (wO Φ io))
  | .none, X, e, c, h => by
    cases e with
    | some _ => cases inv_o_none h
    | none =>
      intro pins s σ H Q I hw
      refine po_none pins s σ H Q I ?_
      obtain ⟨σm, M, rs, rh, hw⟩ := hw
      exact hw _ (Kp.refl _) rh
  | .some a, X, e, c, h => by
    cases e with
    | none => exact absurd h Y01
    | some x =>
      obtain ⟨x', e', h⟩ := inv_o_some h
      cases e'
      intro pins s σ H Q I hw
      refine po_some (sE a c h).pe pins s σ H Q I ?_
      obtain ⟨σm, M, rs, rh, hw⟩ := hw
      refine ⟨σm, M, rs, rh, mon_e c.mon a (λv M1 ⟨i, e, q⟩ => ?_) hw⟩
      subst e
      intro u H1 k1 r1 rh1
      cases r1
      exact ⟨i, rfl, q H1 k1 rh1⟩
theorem sI {G : GI} {Φ : List (Str × SpM)} : ∀ (io : IO) {X : Cx} {es : List Expr}, Cok X G Φ → chkI G io X.env.scope X.N es = true → PTs X es (ttOf X.K Φ io)
  | .none, X, es, c, h => by
    cases es with
    | cons _ _ => cases inv_i_none h
    | nil => exact .inl ⟨rfl, rfl⟩
  | .some a, X, es, c, h => by
    obtain ⟨x, rfl, h1, h2⟩ := inv_i_some h
    exact .inr ⟨x, rfl, (sE a c h2).pt h1⟩
theorem sSr {G : GI} {Φ : List (Str × SpM)} : ∀ (s : ISr) {X : Cx} {tg e : Expr}, Cok X G Φ → chkSr G s X.env.scope X.N e = true → PI X tg e (liSr X (wSr Φ s))
  | .seq a, X, tg, e, c, h => by
    refine (pi_seqS (sE a c h).pe).weak λσ H R hw => ?_
    obtain ⟨σm, M, rs, rh, hw⟩ := hw
    refine ⟨σm, M, rs, rh, mon_e c.mon a (λv M1 q => ?_) hw⟩
    intro u H1 k1 r1 rh1
    rcases q with ⟨xs, e, q⟩ | ⟨b, xs, e, hb, q⟩ | ⟨b, kvs, e, hb, q⟩ | ⟨z, e, q⟩
    · rcases e with e | e
      · subst e
        cases r1 with
        | tup h1 q1 => exact .inl ⟨_, rfl, .inr (.inl ⟨_, SqT.of h1, q _ _ k1 rh1 (.inl ⟨_, _, h1, q1, rfl⟩)⟩)⟩
      · subst e
        cases r1 with
        | frl h1 q1 => exact .inl ⟨_, rfl, .inl ⟨_, h1.sq, q _ _ k1 rh1 (.inr ⟨_, _, h1, q1, rfl⟩)⟩⟩
    · subst e
      cases r1
      obtain ⟨vs, e2, _⟩ := rh1.lst hb
      exact .inl ⟨_, rfl, .inl ⟨_, SqL.of e2, q _ _ k1 rh1 rfl⟩⟩
    · subst e
      cases r1
      obtain ⟨vs, e2, r2, nd⟩ := rh1.dic hb
      refine .inl ⟨_, rfl, .inr (.inr ⟨vs, e2, λo nf => ?_⟩)⟩
      have k := Kp.upd e2 rfl (.frz o (.dK vs))
      exact q o _ _ (k1.trans k) (rh1.put k (o := .fdic o kvs) ⟨rfl, r2.mono k, nd⟩) ⟨rfl, nf⟩
    · subst e
      cases r1
      exact .inr ⟨z, rfl, q _ _ k1 rh1 rfl⟩
  | .rng a, X, tg, e, c, h => by
    obtain ⟨p, x, p2, rfl, h2, h3, h4⟩ := inv_rng h
    refine (pi_range1 (gl_of h3).1 (c.bls _ h2) (pa_cons (sE a c h4).pe pa_nil (star_of h4)) (star_of h4)).weak λσ H R hw => ?_
    obtain ⟨σm, M, rs, rh, hw⟩ := hw
    refine ⟨σm, M, rs, rh, mon_e c.mon a (λv M1 ⟨j, e, q1, q2, q⟩ => ?_) hw⟩
    subst e
    intro u H1 k1 r1 rh1
    cases r1
    exact ⟨j, rfl, q1, q2, q _ _ k1 rh1 rfl⟩
  | .rng2 a b, X, tg, e, c, h => by
    obtain ⟨p, x, y, p2, rfl, h2, h3, h4, h5⟩ := inv_rng2 h
    refine (pi_range2 (gl_of h3).1 (c.bls _ h2) (pa_cons (sE a c h4).pe (pa_cons (sE b c h5).pe pa_nil (star_of h5)) (star_of h4)) (by rw [star_of h4, star_of h5]; rfl) (star_of h5)).weak λσ H R hw => ?_
    obtain ⟨σm, M, rs, rh, hw⟩ := hw
    refine ⟨σm, M, rs, rh, mon_e c.mon a (λv M1 q1 => ?_) hw⟩
    intro u H1 k1 r1 rh1
    refine ⟨σm, M1, rs.mono k1, rh1, mon_e c.mon b (λw M2 ⟨i, j, e1, e2, hb, q⟩ => ?_) q1⟩
    subst e1 e2
    intro u2 H2 k2 r2 rh2
    cases r1
    cases r2
    exact ⟨i, j, rfl, hb, q _ _ (k1.trans k2) rh2 rfl⟩
  | .rng3 a b d, X, tg, e, c, h => by
    obtain ⟨p, x, y, z, p2, rfl, h2, h3, h4, h5, h6⟩ := inv_rng3 h
    refine (pi_range3 (gl_of h3).1 (c.bls _ h2) (pa_cons (sE a c h4).pe (pa_cons (sE b c h5).pe (pa_cons (sE d c h6).pe pa_nil (star_of h6)) (star_of h5)) (star_of h4)) (by rw [star_of h4, star_of h5, star_of h6]; rfl) (by rw [star_of h5, star_of h6]; rfl)).weak λσ H R hw => ?_
    obtain ⟨σm, M, rs, rh, hw⟩ := hw
    refine ⟨σm, M, rs, rh, mon_e c.mon a (λv M1 q1 => ?_) hw⟩
    intro u H1 k1 r1 rh1
    refine ⟨σm, M1, rs.mono k1, rh1, mon_e c.mon b (λw M2 q2 => ?_) q1⟩
    intro u2 H2 k2 r2 rh2
    refine ⟨σm, M2, rs.mono (k1.trans k2), rh2, mon_e c.mon d (λw2 M3 ⟨i, j, e1, e2, e3, hb, q⟩ => ?_) q2⟩
    subst e1 e2 e3
    intro u3 H3 k3 r3 rh3
    cases r1
    cases r2
    cases r3
    exact ⟨i, j, rfl, hb, q _ _ (k1.trans (k2.trans k3)) rh3 rfl⟩
end
end L2
namespace L2
set_option genInjectivity false
open PySem PySem.Spec PyProof.Rows
mutual
inductive IS where
  | pass | brk | cnt | never
  | ret (e : IE) | retN
  | set (i : Nat) (e : IE)
  | asg (t : ITgs) (e : IE)
  | put (o i e : IE)
  | fset (c : Str) (o : IE) (f : Str) (e : IE)
  | expr (e : IE)
  | ite (c : IE) (a b : ISs)
  | for_ (t : ITg) (s : ISr) (b : ISs)
  | while_ (c : IE) (b : ISs)
inductive ISs where | nil | cons (s : IS) (r : ISs)
end
structure EndM where
  nx : Sm → MH → Prop
  rt : QM
  bk : Sm → MH → Prop := λ_ _ => False
  ct : Sm → MH → Prop := λ_ _ => False
mutual
noncomputable def wS (Φ : List (Str × SpM)) : IS → EndM → Sm → MH → Prop
  | .pass, D, σ, M => D.nx σ M
  | .brk, D, σ, M => D.bk σ M
  | .cnt, D, σ, M => D.ct σ M
  | .never, _, _, _ => False
  | .ret e, D, σ, M => wE Φ e σ M D.rt
  | .retN, D, _, M => D.rt .non M
  | .set i e, D, σ, M => wE Φ e σ M λv M1 => D.nx (σ.set i (some v)) M1
  | .asg t e, D, σ, M => wE Φ e σ M λv M1 => ∃ xs, v = .tup xs ∧ wTgs t xs σ λσ' => D.nx σ' M1
  | .put o i e, D, σ, M => wE Φ e σ M λv M1 => wE Φ o σ M1 λx M2 => wE Φ i σ M2 λy M3 => wPut x y v M3 λM4 => D.nx σ M4
  | .fset c o f e, D, σ, M => wE Φ e σ M λv M1 => wE Φ o σ M1 λx M2 => ∃ a fs, x = .ref a ∧ M2 a = some (.ins c fs) ∧ fs.length < 1000 ∧ D.nx σ (updM M2 a (.ins c (putM fs f v)))
  | .expr e, D, σ, M => wE Φ e σ M λ_ M1 => D.nx σ M1
  | .ite c a b, D, σ, M => wE Φ c σ M λx M1 => onB x λk => (if k = true then wSs Φ a D σ M1 else wSs Φ b D σ M1)
  | .for_ t s b, D, σ, M => wSr Φ s σ M λS M1 => ∃ J : Nat → Sm → MH → Prop, J 0 σ M1 ∧ (∀ i σ M, J i σ M → S.ok M) ∧
      (∀ i x σ M, S.items[i]? = some x → J i σ M → wTg t x σ λσ2 => wSs Φ b { nx := J (i + 1), rt := λv M => S.okT M ∧ D.rt v (S.thaw M), bk := λσ M => S.okT M ∧ D.nx σ (S.thaw M), ct := J (i + 1) } σ2 M) ∧ ∀ σ M, J S.len σ M → D.nx σ (S.thaw M)
  | .while_ c b, D, σ, M => ∃ J : Nat → Sm → MH → Prop, (∃ m, J m σ M) ∧ ∀ m σ M, J m σ M → wE Φ c σ M λx M1 => ∃ k, x = .bl k ∧
      (if k = true then wSs Φ b { nx := λσ' M' => ∃ m', m' < m ∧ J m' σ' M', rt := D.rt, bk := D.nx, ct := λσ' M' => ∃ m', m' < m ∧ J m' σ' M' } σ M1 else D.nx σ M1)
noncomputable def wSs (Φ : List (Str × SpM)) : ISs → EndM → Sm → MH → Prop
  | .nil, D, σ, M => D.nx σ M
  | .cons s r, D, σ, M => wS Φ s { nx := λσ M => wSs Φ r D σ M, rt := D.rt, bk := D.bk, ct := D.ct } σ M
end
theorem x_ite {Φ : List (Str × SpM)} {c : IE} {a b : ISs} {D : EndM} {σ : Sm} {M : MH} : wS Φ (.ite c a b) D σ M = wE Φ c σ M λx M1 => ∃ k, x = .bl k ∧ (if k = true then wSs Φ a D σ M1 else wSs Φ b D σ M1) := by rw [wS]; simp only [onB_ex]
structure EndM.Le (D D' : EndM) : Prop where
  nx : ∀ σ M, D.nx σ M → D'.nx σ M
  rt : ∀ v M, D.rt v M → D'.rt v M
  bk : ∀ σ M, D.bk σ M → D'.bk σ M
  ct : ∀ σ M, D.ct σ M → D'.ct σ M
mutual
theorem mon_s {Φ : List (Str × SpM)} (hΦ : ∀ (j : Nat) f sp, Φ[j]? = some (f, sp) → MonW sp) : ∀ (s : IS) {D D' : EndM} {σ : Sm} {M : MH}, D.Le D' → wS Φ s D σ M → wS Φ s D' σ M
  | .pass, D, D', σ, M, l, h => by exact l.nx _ _ h
  | .brk, D, D', σ, M, l, h => by exact l.bk _ _ h
  | .cnt, D, D', σ, M, l, h => by exact l.ct _ _ h
  | .never, D, D', σ, M, l, h => h.elim
  | .ret e, D, D', σ, M, l, h => by exact mon_e hΦ e l.rt h
  | .retN, D, D', σ, M, l, h => by exact l.rt _ _ h
  | .set i e, D, D', σ, M, l, h => by exact mon_e hΦ e (λv M1 h1 => l.nx _ _ h1) h
  | .asg t e, D, D', σ, M, l, h => by exact mon_e hΦ e (λv M1 ⟨xs, e, h1⟩ => ⟨xs, e, mon_tgs t (λσ' h2 => l.nx _ _ h2) h1⟩) h
  | .put o i e, D, D', σ, M, l, h => by
    exact mon_e hΦ e (λv M1 h1 => mon_e hΦ o (λx M2 h2 => mon_e hΦ i (λy M3 h3 => mon_put (λM4 h4 => l.nx _ _ h4) h3) h2) h1) h
  | .fset c o f e, D, D', σ, M, l, h => by
    exact mon_e hΦ e (λv M1 h1 => mon_e hΦ o (λx M2 ⟨a, fs, e1, e2, e3, h2⟩ => ⟨a, fs, e1, e2, e3, l.nx _ _ h2⟩) h1) h
  | .expr e, D, D', σ, M, l, h => by exact mon_e hΦ e (λv M1 h1 => l.nx _ _ h1) h
  | .ite c a b, D, D', σ, M, l, h => by
    rw [x_ite] at h ⊢
    exact mon_e hΦ c (λx M1 ⟨k, e, h1⟩ => ⟨k, e, mon_ite (mon_ss hΦ a l) (mon_ss hΦ b l) h1⟩) h
  | .for_ t s b, D, D', σ, M, l, h => by
    refine mon_sr hΦ s (λS M1 ⟨J, j0, j1, j2, j3⟩ => ⟨J, j0, j1, λi x σ M hx hj => ?_, λσ M hj => l.nx _ _ (j3 σ M hj)⟩) h
    exact mon_tg t (λσ2 h2 => by refine mon_ss hΦ b ?_ h2; exact ⟨λ_ _ z => z, λ_ _ z => ⟨z.1, l.rt _ _ z.2⟩, λ_ _ z => ⟨z.1, l.nx _ _ z.2⟩, λ_ _ z => z⟩) (j2 i x σ M hx hj)
  | .while_ c b, D, D', σ, M, l, h => by
    obtain ⟨J, j0, j1⟩ := h
    refine ⟨J, j0, λm σ M hj => mon_e hΦ c (λx M1 ⟨k, e, h1⟩ => ⟨k, e, mon_ite (λz => by refine mon_ss hΦ b ?_ z; exact ⟨λ_ _ z => z, l.rt, l.nx, λ_ _ z => z⟩) (l.nx _ _) h1⟩) (j1 m σ M hj)⟩
theorem mon_ss {Φ : List (Str × SpM)} (hΦ : ∀ (j : Nat) f sp, Φ[j]? = some (f, sp) → MonW sp) : ∀ (s : ISs) {D D' : EndM} {σ : Sm} {M : MH}, D.Le D' → wSs Φ s D σ M → wSs Φ s D' σ M
  | .nil, D, D', σ, M, l, h => by exact l.nx _ _ h
  | .cons s r, D, D', σ, M, l, h => by
    refine mon_s hΦ s ?_ h
    exact ⟨λσ M h1 => mon_ss hΦ r l h1, l.rt, l.bk, l.ct⟩
end
noncomputable def notTup : Expr → Bool
  | .Tuple .. => false | _ => true
noncomputable def notComp : Expr → Bool
  | .ListComp .. => false | .SetComp .. => false | .DictComp .. => false | _ => true
noncomputable def asRet : Stmt → Option (Option Expr) | .Return v _ => some v | _ => none
noncomputable def asAsg : Stmt → Option (List Expr × Expr) | .Assign ts v _ => some (ts, v) | _ => none
noncomputable def asEx : Stmt → Option Expr | .Expr v _ => some v | _ => none
noncomputable def asIfS : Stmt → Option (Expr × List Stmt × List Stmt) | .If t x y _ => some (t, x, y) | _ => none
noncomputable def asFor : Stmt → Option (Expr × Expr × List Stmt × List Stmt) | .For t i b r _ => some (t, i, b, r) | _ => none
noncomputable def asWh : Stmt → Option (Expr × List Stmt × List Stmt) | .While t b r _ => some (t, b, r) | _ => none
section
variable {e : Stmt}
theorem asRet_of {x : Option Expr} (h : asRet e = some x) : ∃ p, e = .Return x p := by cases e <;> cases h; exact ⟨_, rfl⟩
theorem asAsg_of {x : List Expr × Expr} (h : asAsg e = some x) : ∃ p, e = .Assign x.1 x.2 p := by cases e <;> cases h; exact ⟨_, rfl⟩
theorem asEx_of {x : Expr} (h : asEx e = some x) : ∃ p, e = .Expr x p := by cases e <;> cases h; exact ⟨_, rfl⟩
theorem asIfS_of {x : Expr × List Stmt × List Stmt} (h : asIfS e = some x) : ∃ p, e = .If x.1 x.2.1 x.2.2 p := by cases e <;> cases h; exact ⟨_, rfl⟩
theorem asFor_of {x : Expr × Expr × List Stmt × List Stmt} (h : asFor e = some x) : ∃ p, e = .For x.1 x.2.1 x.2.2.1 x.2.2.2 p := by cases e <;> cases h; exact ⟨_, rfl⟩
theorem asWh_of {x : Expr × List Stmt × List Stmt} (h : asWh e = some x) : ∃ p, e = .While x.1 x.2.1 x.2.2 p := by cases e <;> cases h; exact ⟨_, rfl⟩
end
mutual
noncomputable def chkS (G : GI) (sc : Scope) (N : List Str) : IS → Stmt → Bool
  | .pass, _ => false
  | .brk, _ => false
  | .cnt, _ => false
  | .never, _ => true
  | .ret e, s => (asRet s).any λo => o.any λx => chkE G e sc N x
  | .retN, _ => false
  | .set i e, s => (asAsg s).any λq => (the1 q.1).any λt => (asName t).any λx => decide (N[i]? = some x) && locB sc x && chkE G e sc N q.2
  | .asg t e, s => (asAsg s).any λq => (the1 q.1).any λg => (asTup g).any λes => chkTgs sc N N.length true t es && chkE G e sc N q.2 && notTup q.2
  | .put o i e, _ => false
  | .fset c o f e, _ => false
  | .expr e, s => (asEx s).any λv => chkE G e sc N v && notComp v
  | .ite c a b, s => (asIfS s).any λq => tok c && chkE G c sc N q.1 && chkSs G sc N a q.2.1 && chkSs G sc N b q.2.2
  | .for_ t r b, s => (asFor s).any λq => chkTg sc N N.length true t q.1 && chkSr G r sc N q.2.1 && notSet q.2.1 && chkSs G sc N b q.2.2.1 && non0 q.2.2.2
  | .while_ c b, s => (asWh s).any λq => tok c && chkE G c sc N q.1 && chkSs G sc N b q.2.1 && non0 q.2.2
noncomputable def chkSs (G : GI) (sc : Scope) (N : List Str) : ISs → List Stmt → Bool
  | .nil, l => non0 l
  | .cons s r, l => (hd1 l).any λq => chkS G sc N s q.1 && chkSs G sc N r q.2
end
noncomputable def liD (K : Y00) (H : Hp) (D : Ends) : EndM where
  nx := λσm M => ∀ σ H', Kp H H' → RS K H' σm σ → RH K M H' → D.nx σ H'
  rt := Dn K H D.rt
  bk := λσm M => ∀ σ H', Kp H H' → RS K H' σm σ → RH K M H' → D.bk σ H'
  ct := λσm M => ∀ σ H', Kp H H' → RS K H' σm σ → RH K M H' → D.ct σ H'
theorem liD.on {K : Y00} {H H1 : Hp} {D : Ends} (k : Kp H H1) : (liD K H D).Le (liD K H1 D) :=
  ⟨λ_ _ h σ H' k' => h σ H' (k.trans k'), λ_ _ h => h.on k, λ_ _ h σ H' k' => h σ H' (k.trans k'), λ_ _ h σ H' k' => h σ H' (k.trans k')⟩
noncomputable def liSt (K : Y00) (t : EndM → Sm → MH → Prop) : TS := λD σ H => ∃ σm M, RS K H σm σ ∧ RH K M H ∧ t (liD K H D) σm M
theorem swap_name {e : Expr} {x : Str} {p : Pos} {ln : Nat} {env : Env} (h : notComp e = true) : swapsWith e (some (.Name x p)) ln env = pure false := by cases e <;> first | rfl | cases h
theorem swap_none {e : Expr} {ln : Nat} {env : Env} (h : notComp e = true) : swapsWith e none ln env = pure false := by cases e <;> first | rfl | cases h
theorem swap_tup {e : Expr} {es : List Expr} {k : Nat} {p : Pos} {ln : Nat} {env : Env} : swapsWith e (some (.Tuple es k p)) ln env = pure false := by cases e <;> rfl
theorem swap_comp {elt : Expr} {gs : List Comprehension} {scope : Scope} {pos p : Pos} {x : Str} {ln : Nat} {env : Env} : ∃ b : Bool, swapsWith (.ListComp elt gs scope pos) (some (.Name x p)) ln env = pure b := ⟨_, rfl⟩
theorem comp_of {G : GI} {ie : IE} {sc : Scope} {N : List Str} {e : Expr} (h : chkE G ie sc N e = true) : notComp e = true ∨ ∃ own fr src tg test elt, ie = .comp own fr src tg test elt := by
  cases e <;> first
    | exact .inl rfl
    | (cases ie <;> first
        | exact .inr ⟨_, _, _, _, _, _, rfl⟩
        | exact absurd h Y01)
section
variable {G : GI} {sc : Scope} {N : List Str} {st : Stmt}
theorem invS_ret {e : IE} (h : chkS G sc N (.ret e) st = true) : ∃ x p, st = .Return (some x) p ∧ chkE G e sc N x = true := by
  replace h := any_of h
  obtain ⟨o, h1, h⟩ := h
  obtain ⟨p, rfl⟩ := asRet_of h1
  replace h := any_of h
  obtain ⟨x, rfl, h⟩ := h
  exact ⟨x, p, rfl, h⟩
theorem invS_set {i : Nat} {e : IE} (h : chkS G sc N (.set i e) st = true) : ∃ x px v p, st = .Assign [.Name x px] v p ∧ N[i]? = some x ∧ locB sc x = true ∧ chkE G e sc N v = true := by
  replace h := any_of h
  obtain ⟨⟨ts, v⟩, h1, h⟩ := h
  obtain ⟨p, rfl⟩ := asAsg_of h1
  replace h := any_of h
  obtain ⟨t, h2, h⟩ := h
  obtain rfl := the1_of h2
  replace h := any_of h
  obtain ⟨x, h3, h⟩ := h
  obtain ⟨px, rfl⟩ := asName_of h3
  replace h := and_of h
  obtain ⟨h, h6⟩ := h
  replace h := and_of h
  obtain ⟨h4, h5⟩ := h
  exact ⟨x, px, v, p, rfl, dec_of h4, h5, h6⟩
theorem invS_asg {t : ITgs} {e : IE} (h : chkS G sc N (.asg t e) st = true) : ∃ es k pt v p, st = .Assign [.Tuple es k pt] v p ∧ chkTgs sc N N.length true t es = true ∧ chkE G e sc N v = true ∧ notTup v = true := by
  replace h := any_of h
  obtain ⟨⟨ts, v⟩, h1, h⟩ := h
  obtain ⟨p, rfl⟩ := asAsg_of h1
  replace h := any_of h
  obtain ⟨g, h2, h⟩ := h
  obtain rfl := the1_of h2
  replace h := any_of h
  obtain ⟨es, h3, h⟩ := h
  obtain ⟨k, pt, rfl⟩ := asTup_of h3
  replace h := and_of h
  obtain ⟨h, h6⟩ := h
  replace h := and_of h
  obtain ⟨h4, h5⟩ := h
  exact ⟨es, k, pt, v, p, rfl, h4, h5, h6⟩
theorem invS_expr {e : IE} (h : chkS G sc N (.expr e) st = true) : ∃ v p, st = .Expr v p ∧ chkE G e sc N v = true ∧ notComp v = true := by
  replace h := any_of h
  obtain ⟨v, h1, h⟩ := h
  obtain ⟨p, rfl⟩ := asEx_of h1
  exact ⟨v, p, rfl, and_of h⟩
theorem invS_ite {c : IE} {a b : ISs} (h : chkS G sc N (.ite c a b) st = true) : ∃ t x y p, st = .If t x y p ∧ tok c = true ∧ chkE G c sc N t = true ∧ chkSs G sc N a x = true ∧ chkSs G sc N b y = true := by
  replace h := any_of h
  obtain ⟨⟨t, x, y⟩, h1, h⟩ := h
  obtain ⟨p, rfl⟩ := asIfS_of h1
  replace h := and_of h
  obtain ⟨h, h5⟩ := h
  replace h := and_of h
  obtain ⟨h, h4⟩ := h
  replace h := and_of h
  obtain ⟨h2, h3⟩ := h
  exact ⟨t, x, y, p, rfl, h2, h3, h4, h5⟩
theorem invS_for {t : ITg} {s : ISr} {b : ISs} (h : chkS G sc N (.for_ t s b) st = true) : ∃ tg it body p, st = .For tg it body [] p ∧ chkTg sc N N.length true t tg = true ∧ chkSr G s sc N it = true ∧ notSet it = true ∧ chkSs G sc N b body = true := by
  replace h := any_of h
  obtain ⟨⟨tg, it, body, els⟩, h1, h⟩ := h
  obtain ⟨p, rfl⟩ := asFor_of h1
  replace h := and_of h
  obtain ⟨h, h6⟩ := h
  replace h := and_of h
  obtain ⟨h, h5⟩ := h
  replace h := and_of h
  obtain ⟨h, h4⟩ := h
  replace h := and_of h
  obtain ⟨h2, h3⟩ := h
  obtain rfl := non0_of h6
  exact ⟨tg, it, body, p, rfl, h2, h3, h4, h5⟩
theorem invS_while {c : IE} {b : ISs} (h : chkS G sc N (.while_ c b) st = true) : ∃ t body p, st = .While t body [] p ∧ tok c = true ∧ chkE G c sc N t = true ∧ chkSs G sc N b body = true := by
  replace h := any_of h
  obtain ⟨⟨tg, body, els⟩, h1, h⟩ := h
  obtain ⟨p, rfl⟩ := asWh_of h1
  replace h := and_of h
  obtain ⟨h, h5⟩ := h
  replace h := and_of h
  obtain ⟨h, h4⟩ := h
  replace h := and_of h
  obtain ⟨h2, h3⟩ := h
  obtain rfl := non0_of h5
  exact ⟨tg, body, p, rfl, h2, h3, h4⟩
theorem invSs_nil {sts : List Stmt} (h : chkSs G sc N .nil sts = true) : sts = [] := by
  exact non0_of h
theorem invSs_cons {s : IS} {r : ISs} {sts : List Stmt} (h : chkSs G sc N (.cons s r) sts = true) : ∃ x xs, sts = x :: xs ∧ chkS G sc N s x = true ∧ chkSs G sc N r xs = true := by
  replace h := any_of h
  obtain ⟨⟨x, xs⟩, h1, h⟩ := h
  exact ⟨x, xs, hd1_of h1, and_of h⟩
end
mutual
theorem sS {G : GI} {Φ : List (Str × SpM)} : ∀ (is : IS) {X : Cx} {st : Stmt}, Cok X G Φ → (∀ x, X.fn x = true) → chkS G X.env.scope X.N is st = true → PS X st (liSt X.K (wS Φ is))
  | .pass, X, st, c, hf, h => absurd h Y01
  | .brk, X, st, c, hf, h => absurd h Y01
  | .cnt, X, st, c, hf, h => absurd h Y01
  | .never, X, st, c, hf, h => by
    refine ps_never.weak λD σ H hw => ?_
    obtain ⟨σm, M, rs, rh, hw⟩ := hw
    exact hw
  | .ret e, X, st, c, hf, h => by
    obtain ⟨v, p, rfl, h⟩ := invS_ret h
    refine (ps_ret (sE e c h).pe).weak λD σ H hw => ?_
    obtain ⟨σm, M, rs, rh, hw⟩ := hw
    exact ⟨σm, M, rs, rh, hw⟩
  | .retN, X, st, c, hf, h => absurd h Y01
  | .set i e, X, st, c, hf, h => by
      obtain ⟨x, px, v, p, rfl, h1, h2, h3⟩ := invS_set h
      have rd : ∀ D σ H, liSt X.K (wS Φ (.set i e)) D σ H → liE X.K (wE Φ e) σ H λv H1 => D.nx (σ.set i (some v)) H1 := λD σ H hw => by
        obtain ⟨σm, M, rs, rh, hw⟩ := hw
        refine ⟨σm, M, rs, rh, mon_e c.mon e (λv M1 q => ?_) hw⟩
        intro u H1 k1 r1 rh1
        exact q _ _ k1 ((rs.mono k1).set r1 i) rh1
      rcases comp_of h3 with hn | ⟨own, fr, src, tg, test, elt, rfl⟩
      · exact (ps_set c.nd h1 (loc_of h2) (sE e c h3).pe (swap_name hn) (.inl (hf _))).weak rd
      · obtain ⟨y, t, it, ifs, scope, p3, rfl, i1, i2, i3, i4, i5, i6, i7⟩ := inv_comp h3
        obtain ⟨b, hb⟩ := swap_comp (elt := y) (gs := [⟨t, it, ifs, 0⟩]) (scope := scope) (pos := p3) (p := px) (x := x) (ln := p.line) (env := X.env)
        cases b with
        | false => exact (ps_set c.nd h1 (loc_of h2) (sE _ c h3).pe hb (.inl (hf _))).weak rd
        | true =>
          refine (ps_setcomp2 own fr (g := gOf X.K tg) (te := liE X.K (wE Φ elt)) (tt := ttOf X.K Φ test) c.nd h1 (loc_of h2) (λe s h => by rw [c.nox] at h; exact h) c.calm i1 (sSr src (tg := t) c i4)
            (λC fp s₃ H₃ => sTg (X := cxC X scope own fr C fp s₃ H₃) (lim := own.length) (all := false) c.calm i3 (λz => by cases z) tg i5) (λC fp s₃ H₃ => sI (X := cxC X scope own fr C fp s₃ H₃) test (c.comp (compOk_of i1).kind i3) i6)
            (λC fp s₃ H₃ => (sE (X := cxC X scope own fr C fp s₃ H₃) elt (c.comp (compOk_of i1).kind i3) i7).pe) hb (fold_set i2 _) (.inl (hf _))).thaw.weak λD σ H hw => ?_
          exact comp_read c.mon i5 (rd D σ H hw)
  | .asg t e, X, st, c, hf, h => by
      obtain ⟨es, k, pt, v, p, rfl, h1, h2, h3⟩ := invS_asg h
      have hT : chkTg X.env.scope X.N X.N.length true (.tup t) (.Tuple es k pt) = true := h1
      refine (ps_asg (sE e c h2).pe (sTg (lim := X.N.length) (all := true) c.calm c.nd (λ_ => hf) (.tup t) hT) (swap_tup (e := v) (es := es) (k := k) (p := pt) (ln := p.line) (env := X.env)) (by cases v <;> first | rfl | cases h3) rfl).weak λD σ H hw => ?_
      obtain ⟨σm, M, rs, rh, hw⟩ := hw
      refine ⟨σm, M, rs, rh, mon_e c.mon e (λv M1 ⟨xs, e, q⟩ => ?_) hw⟩
      intro u H1 k1 r1 rh1
      refine tg_ok (Ψ := λ_ => True) (lim := X.N.length) (λ_ _ _ _ z => z) (.tup t) hT r1 (rs.mono k1) trivial (P := λσ' => (liD X.K H D).nx σ' M1) ⟨xs, e, q⟩ λσm' σ' q' rs' _ => ?_
      exact q' _ _ k1 rs' rh1
  | .put o i e, X, st, c, hf, h => absurd h Y01
  | .fset cn o f e, X, st, c, hf, h => absurd h Y01
  | .expr e, X, st, c, hf, h => by
    obtain ⟨v, p, rfl, h1, h2⟩ := invS_expr h
    refine (ps_expr (sE e c h1).pe (swap_none h2)).weak λD σ H hw => ?_
    obtain ⟨σm, M, rs, rh, hw⟩ := hw
    refine ⟨σm, M, rs, rh, mon_e c.mon e (λv M1 q => ?_) hw⟩
    intro u H1 k1 r1 rh1
    exact q _ _ k1 (rs.mono k1) rh1
  | .ite d a b, X, st, c, hf, h => by
    obtain ⟨t, x, y, p, rfl, h1, h2, h3, h4⟩ := invS_ite h
    refine (ps_if ((sE d c h2).pt h1) (sSs a c hf h3) (sSs b c hf h4)).weak λD σ H hw => ?_
    obtain ⟨σm, M, rs, rh, hw⟩ := hw
    rw [x_ite] at hw
    refine ⟨σm, M, rs, rh, mon_e c.mon d (λx M1 ⟨k, e, q⟩ => ⟨k, e, λH1 k1 rh1 => ?_⟩) hw⟩
    exact mon_ite (λq => ⟨σm, M1, rs.mono k1, rh1, mon_ss c.mon a (liD.on k1) q⟩) (λq => ⟨σm, M1, rs.mono k1, rh1, mon_ss c.mon b (liD.on k1) q⟩) q
  | .for_ t s b, X, st, c, hf, h => by
      obtain ⟨tg, it, body, p, rfl, h1, h2, h3, h4⟩ := invS_for h
      refine (ps_for (by rw [c.nox]; exact PassesOwn.never) c.calm (sSr s (tg := tg) c h2) (sTg (lim := X.N.length) (all := true) c.calm c.nd (λ_ => hf) t h1) (sSs b c hf h4) (fold_set h3 _)).thaw.weak λD σ H hw => ?_
      obtain ⟨σm, M, rs, rh, hw⟩ := hw
      refine ⟨σm, M, rs, rh, mon_sr c.mon s (λS M1 ⟨J, j0, j1, j2, j3⟩ => ?_) hw⟩
      intro I H1 k1 rh1 sit
      refine ⟨λi m σ' H' => m = S.len - i ∧ i ≤ S.len ∧ Kp H1 H' ∧ ∃ σm' M', RS X.K H' σm' σ' ∧ RH X.K M' H' ∧ J i σm' M', ⟨_, rfl, Y1p _, Kp.refl _, σm, M1, rs.mono k1, rh1, j0⟩, ?_⟩
      rintro i m σ2 H2 ⟨rfl, hi, k2, σm2, M2, rs2, rh2, hj⟩
      obtain ⟨goes, stops⟩ := src_turn sit k2 rh2 (j1 i σm2 M2 hj)
      by_cases hlt : i < S.len
      · obtain ⟨go, yld⟩ := goes i hlt
        refine .inr ⟨go, λσ' H' => Kp H1 H' ∧ ∃ σm' M', RS X.K H' σm' σ' ∧ RH X.K M' H' ∧ J (i + 1) σm' M', λσ' H' ⟨a, z⟩ => ⟨S.len - (i + 1), by lia, rfl, hlt, a, z⟩, λx H' y => ?_⟩
        obtain ⟨e, m, hm, rm⟩ := yld x H' y
        subst e
        refine tg_ok (Ψ := λ_ => True) (lim := X.N.length) (λ_ _ _ _ z => z) t h1 rm rs2 trivial (j2 i m σm2 M2 hm hj) λσm3 σ3 q rs3 _ => ?_
        refine ⟨σm3, M2, rs3, rh2, ?_⟩
        refine mon_ss c.mon b ?_ q
        refine ⟨λσ' M' z σv H3 k3 rs' rh' => ⟨k2.trans k3, σ', M', rs', rh', z⟩, λv M' z u H3 k3 r3 rh' => ?_, λσ' M' z σv H3 k3 rs' rh' => ?_, λσ' M' z σv H3 k3 rs' rh' => ⟨k2.trans k3, σ', M', rs', rh', z⟩⟩
        · obtain ⟨H4, th, k4, rh4⟩ := src_thaw sit rh' z.1
          exact ⟨H4, th, z.2 u H4 (k1.trans (k2.trans (k3.trans k4))) (r3.mono k4) rh4⟩
        · obtain ⟨H4, th, k4, rh4⟩ := src_thaw sit rh' z.1
          exact ⟨H4, th, z.2 σv H4 (k1.trans (k2.trans (k3.trans k4))) (rs'.mono k4) rh4⟩
      · have e : i = S.len := by lia
        subst e
        obtain ⟨H4, th, k4, rh4⟩ := src_thaw sit rh2 (ok_okT (j1 _ σm2 M2 hj))
        exact .inl ⟨stops _ (Y07 _), H4, th, j3 σm2 M2 hj _ _ (k1.trans (k2.trans k4)) (rs2.mono k4) rh4⟩
  | .while_ d b, X, st, c, hf, h => by
      obtain ⟨tst, body, p, rfl, h1, h2, h3⟩ := invS_while h
      refine (ps_while (by rw [c.nox]; exact PassesOwn.never) ((sE d c h2).pt h1) (sSs b c hf h3)).weak λD σ H hw => ?_
      obtain ⟨σm, M, rs, rh, hw⟩ := hw
      obtain ⟨J, ⟨m0, j0⟩, j1⟩ := hw
      refine ⟨λm σ' H' => Kp H H' ∧ ∃ σm' M', RS X.K H' σm' σ' ∧ RH X.K M' H' ∧ J m σm' M', ⟨m0, Kp.refl _, σm, M, rs, rh, j0⟩, ?_⟩
      rintro m σ2 H2 ⟨k2, σm2, M2, rs2, rh2, hj⟩
      refine ⟨σm2, M2, rs2, rh2, mon_e c.mon d (λx M1 ⟨k, e, q⟩ => ⟨k, e, λH3 k3 rh3 => ?_⟩) (j1 m σm2 M2 hj)⟩
      refine mon_ite (λq => ?_) (λq => q _ _ (k2.trans k3) (rs2.mono k3) rh3) q
      refine ⟨λσ' H' => ∃ m', m' < m ∧ Kp H H' ∧ ∃ σm' M', RS X.K H' σm' σ' ∧ RH X.K M' H' ∧ J m' σm' M', λσ' H' z => z, σm2, M1, rs2.mono k3, rh3, ?_⟩
      refine mon_ss c.mon b ?_ q
      refine ⟨?_, λv M' z => z.on (k2.trans k3), λσ' M' z σv H4 k4 => z σv H4 (k2.trans (k3.trans k4)), ?_⟩
      · rintro σ' M' ⟨m', hm, z⟩ σv H4 k4 rs' rh'
        exact ⟨m', hm, k2.trans (k3.trans k4), σ', M', rs', rh', z⟩
      · rintro σ' M' ⟨m', hm, z⟩ σv H4 k4 rs' rh'
        exact ⟨m', hm, k2.trans (k3.trans k4), σ', M', rs', rh', z⟩
theorem sSs {G : GI} {Φ : List (Str × SpM)} : ∀ (is : ISs) {X : Cx} {sts : List Stmt}, Cok X G Φ → (∀ x, X.fn x = true) → chkSs G X.env.scope X.N is sts = true → PSs X sts (liSt X.K (wSs Φ is))
  | .nil, X, sts, c, hf, h => by
      cases invSs_nil h
      refine pss_nil.weak λD σ H hw => ?_
      obtain ⟨σm, M, rs, rh, hw⟩ := hw
      exact hw σ H (Kp.refl _) rs rh
  | .cons s r, X, sts, c, hf, h => by
      obtain ⟨x, xs, rfl, h1, h2⟩ := invSs_cons h
      refine (pss_cons (sS s c hf h1) (sSs r c hf h2)).weak λD σ H hw => ?_
      obtain ⟨σm, M, rs, rh, hw⟩ := hw
      refine ⟨σm, M, rs, rh, ?_⟩
      refine mon_s c.mon s ?_ hw
      refine ⟨λσ' M' z σv H1 k1 rs' rh' => ?_, λv M' z => z, λσ' M' z => z, λσ' M' z => z⟩
      exact ⟨σ', M', rs', rh', mon_ss c.mon r (liD.on k1) z⟩
end
end L2
namespace L2
open PySem PySem.Spec PyProof.Rows
structure Fts (P : Program) (w : World) (K : Y00) (mg : Str → Option Value) (base : Heap) (k : Nat) (G : GI) (Φ : List (Str × SpM)) : Prop where
  bls : ∀ x, G.bl.contains x = true → mg x = none
  gls : ∀ x i, G.gl.lookup x = some i → ∃ tk, mg x = some (.int i tk)
  fnn : ∀ (j : Nat) f, G.fns[j]? = some f → ∃ sp, Φ[j]? = some (f, sp)
  mon : ∀ (j : Nat) f sp, Φ[j]? = some (f, sp) → MonW sp
  fns : ∀ (j : Nat) f sp, G.fns[j]? = some f → Φ[j]? = some (f, sp) → ∃ fa fd ps, FnOk P w K mg base CX0 k fa fd ps (liSp K sp) ∧ mg f = some (.ref fa) ∧ Y0v K (.ref fa) = true ∧ Binds K fd ps []
  mts : ∀ (j : Nat) c m, G.mts.contains (j, c, m) = true → ∃ f sp, Φ[j]? = some (f, sp) ∧ ∃ C fa fd ps, FnOk P w K mg base CX0 k fa fd ps (liSp K sp) ∧ Y0f K mainGlobals c = some (some (.ref C)) ∧ Cls K C ∧ Meth K C m fa ∧ Binds K fd ps []
  mks : ∀ (j : Nat) c, G.mks.contains (j, c) = true → ∃ f sp, Φ[j]? = some (f, sp) ∧ ∃ k' C fa fd ps, k' + 1 ≤ k ∧ FnOk P w K mg base CX0 k' fa fd ps (liSp K sp) ∧ Y0f K mainGlobals c = some (some (.ref C)) ∧ mg c = some (.ref C) ∧ Mk K C fa ∧ Binds K fd ps []
  cls : ∀ c f, G.cls.contains (c, f) = true → ∃ C, Y0f K mainGlobals c = some (some (.ref C)) ∧ Cls K C ∧ NoAttr K C f
noncomputable def startM (n : Nat) (vs : List MV) : Sm := vs.map some ++ Y0c (n - vs.length) none
theorem start_rs {K : Y00} {H : Hp} {N : List Str} {ms : List MV} {vs : List V} (r : RMs K H ms vs) : RS K H (startM N.length ms) (start N vs) := by
  unfold startM start
  have hl := r.length
  refine ⟨by simp [hl], λi m e => ?_⟩
  by_cases hi : i < ms.length
  · rw [Y0q (by simpa using hi), Y0d] at e
    cases q : ms[i]? with
    | none => rw [q] at e; cases e
    | some x =>
      rw [q] at e
      have ex : x = m := Y0x (Y0x e)
      subst ex
      obtain ⟨u, hu, ru⟩ := r.get q
      exact ⟨u, by rw [Y0q (by simpa [← hl] using hi), Y0d, hu]; rfl, ru⟩
  · rw [Y0A (by simpa using hi), Y22] at e
    split at e <;> cases e
theorem Fun.okM {P : Program} {w : World} {K : Y00} {mg : Str → Option Value} {base : Heap} {G : GI} {Φ : List (Str × SpM)} {x qual : Str} {st : Stmt} {f : Addr} {fd : FuncData} {N ps : List Str} {k : Nat} {sp : SpM}
    (F : Fun K x qual st f fd) (S : FnScope N ps (defScope st)) (T : Fts P w K mg base k G Φ) (ir : ISs) (hc : chkSs G (defScope st) N ir (defBody st) = true)
    (len : ∀ vs M Q, sp vs M Q → vs.length = ps.length) (h : ∀ vs M Q, sp vs M Q → wSs Φ ir { nx := λ_ M' => Q .non M', rt := Q } (startM N.length vs) M) : FnOk P w K mg base CX0 (k + 1) f fd ps (liSp K sp) := by
  refine F.ok S (λvs H Q E hs => ?_) λcdv A outer s H vs Q E hr hs => ?_
  · obtain ⟨ms, M, r, rh, q⟩ := hs
    rw [← r.length]; exact len _ _ _ q
  obtain ⟨ms, M, r, rh, q⟩ := hs
  have c : Cok (cxOf CX0 P w K mg base N qual (defScope st) f cdv A outer s H E).nox G Φ :=
    ⟨(by have := hr.un; show (A.deeper _).units + 70 < cLine; lia), rfl, rfl, (by show (if (defScope st).kind.isAnnotationScope then Y1R else (defScope st).kind) = .function; rw [S.kind]; rfl), S.nd, T.bls, T.gls, T.fnn, T.mon,
      (λj f sp hg hj => let ⟨fa, fd, ps, F, hm, hk, hb⟩ := T.fns j f sp hg hj; ⟨k, fa, fd, ps, hr, F, hm, hk, hb⟩),
      (λj c m h => let ⟨f, sp, hj, C, fa, fd, ps, F, hC, cl, hm, hb⟩ := T.mts j c m h; ⟨f, sp, hj, k, C, fa, fd, ps, hr, F, hC, cl, hm, hb⟩),
      (λj c h => let ⟨f, sp, hj, k', C, fa, fd, ps, hk, F, hC, hm, mk1, hb⟩ := T.mks j c h; ⟨f, sp, hj, k', C, fa, fd, ps, hr.mono hk, F, hC, hm, mk1, hb⟩), T.cls⟩
  refine ⟨_, sSs ir c (λ_ => rfl) hc, startM N.length ms, M, start_rs r, rh, ?_⟩
  refine mon_ss T.mon ir ?_ (h ms M _ q)
  exact ⟨λσ M' z σv H' k1 rs' rh' => z _ _ k1 .non rh', λv M' z => z, λ_ _ z => z.elim, λ_ _ z => z.elim⟩
noncomputable def spLawM : SpM := λvs M Q => ∃ ns : List Int, vs = [.frl (ns.map .int)] ∧ ns.length ≤ 63 ∧ ∀ M', Q (.bl true) M'
noncomputable def spLawV (K : Y00) : Sp := λvs H Q _ => ∃ (a : Addr) (ns : List Int), vs = [.ref a] ∧ FrL K H a (ns.map V.int) ∧ ns.length ≤ 63 ∧ ∀ H', Q (.bl true) H'
theorem law_imp {K : Y00} {P : Program} {w : World} {mg : Str → Option Value} {base : Heap} {k : Nat} {f : Addr} {fd : FuncData} {ps : List Str} (F : FnOk P w K mg base CX0 k f fd ps (liSp K spLawM)) : FnOk P w K mg base CX0 k f fd ps (spLawV K) :=
  F.imp λvs H Q E ⟨a, ns, e, hs, hl, q⟩ => by
    subst e
    refine ⟨[.frl (ns.map .int)], λ_ => none, .cons (.frl hs (RMs.ints ns)) .nil, λ_ _ z => (by cases z), ns, rfl, hl, λM' => ?_⟩
    intro v H' k r rh
    cases r
    exact q _
theorem frl_of {K : Y00} {H : Hp} {a : Addr} {vs : List V} (o : Only H) (h : SqL K H a vs) : FrL K H a vs := by
  rcases h with (h | ⟨ob, h⟩) | h
  · rcases o a with z | ⟨ob, xs, z⟩
    · rw [h] at z; cases z
    · rw [h] at z; cases z
  · exact .inl ⟨ob, h⟩
  · exact .inr h
end L2
namespace L2
open PySem PySem.Spec PyProof.Rows
theorem mkFts0 {P : Program} {w : World} {K : Y00} {mg : Str → Option Value} {base : Heap} {k : Nat} {G : GI} {Φ Ψ : List (Str × SpM)} (hb : ∀ x ∈ G.bl, mg x = none) (hg : ∀ p ∈ G.gl, ∃ tk, mg p.1 = some (.int p.2 tk)) (hf : Φ.map (·.1) = G.fns)
    (hm : ∀ p ∈ Φ ++ Ψ, MonW p.2) (hF : ∀ p ∈ Φ, ∃ fa fd ps, FnOk P w K mg base CX0 k fa fd ps (liSp K p.2) ∧ mg p.1 = some (.ref fa) ∧ Y0v K (.ref fa) = true ∧ Binds K fd ps [])
    (ht : ∀ q ∈ G.mts, ∃ f sp, (Φ ++ Ψ)[q.1]? = some (f, sp) ∧ ∃ C fa fd ps, FnOk P w K mg base CX0 k fa fd ps (liSp K sp) ∧ Y0f K mainGlobals q.2.1 = some (some (.ref C)) ∧ Cls K C ∧ Meth K C q.2.2 fa ∧ Binds K fd ps [])
    (hk : ∀ q ∈ G.mks, ∃ f sp, (Φ ++ Ψ)[q.1]? = some (f, sp) ∧ ∃ k' C fa fd ps, k' + 1 ≤ k ∧ FnOk P w K mg base CX0 k' fa fd ps (liSp K sp) ∧ Y0f K mainGlobals q.2 = some (some (.ref C)) ∧ mg q.2 = some (.ref C) ∧ Mk K C fa ∧ Binds K fd ps [])
    (hc : ∀ q ∈ G.cls, ∃ C, Y0f K mainGlobals q.1 = some (some (.ref C)) ∧ Cls K C ∧ NoAttr K C q.2) : Fts P w K mg base k G (Φ ++ Ψ) where
  bls := λx h => hb x (by simpa using h)
  gls := λx i h => hg (x, i) (Y0Y h)
  fnn := λj f h => by
    rw [← hf, Y0d] at h
    cases e : Φ[j]? with
    | none => rw [e] at h; cases h
    | some p => rw [e] at h; cases h; exact ⟨p.2, by rw [Y0q (Y0j.mp e).1, e]⟩
  mon := λj f sp h => hm (f, sp) (Y0C h)
  fns := λj f sp hj h => by
    rw [← hf, Y0d] at hj
    cases e : Φ[j]? with
    | none => rw [e] at hj; cases hj
    | some p =>
      rw [Y0q (Y0j.mp e).1, e] at h
      cases h
      exact hF (f, sp) (Y0C e)
  mts := λj c m h => ht (j, c, m) (by simpa using h)
  mks := λj c h => hk (j, c) (by simpa using h)
  cls := λc f h => hc (c, f) (by simpa using h)
theorem mkFts {P : Program} {w : World} {K : Y00} {mg : Str → Option Value} {base : Heap} {k : Nat} {G : GI} {Φ : List (Str × SpM)} (hb : ∀ x ∈ G.bl, mg x = none) (hg : ∀ p ∈ G.gl, ∃ tk, mg p.1 = some (.int p.2 tk)) (hf : Φ.map (·.1) = G.fns)
    (hm : ∀ p ∈ Φ, MonW p.2) (hF : ∀ p ∈ Φ, ∃ fa fd ps, FnOk P w K mg base CX0 k fa fd ps (liSp K p.2) ∧ mg p.1 = some (.ref fa) ∧ Y0v K (.ref fa) = true ∧ Binds K fd ps []) (h1 : G.mts = [] := by rfl) (h2 : G.mks = [] := by rfl) (h3 : G.cls = [] := by rfl) : Fts P w K mg base k G Φ := by
  have := mkFts0 (Ψ := []) hb hg hf (by rw [Y0X]; exact hm) hF (by rw [h1]; exact λ_ z => nomatch z) (by rw [h2]; exact λ_ z => nomatch z) (by rw [h3]; exact λ_ z => nomatch z)
  rwa [Y0X] at this
structure Fn1 (K : Y00) (x : Str) (st : Stmt) (f : Addr) (d : FuncData) : Prop where
  a : Y0f K mainGlobals x = some (some (.ref f))
  F : Fun K x x st f d
structure FnT (K : Y00) (mg : Str → Option Value) (x : Str) (ps : List Str) (st : Stmt) (f : Addr) (d : FuncData) : Prop where
  F : Fun K x x st f d
  b : Binds K d ps []
  m : mg x = some (.ref f)
theorem Fn1.t {K : Y00} {h : Heap} {mg : Str → Option Value} {x : Str} {ps : List Str} {st : Stmt} {f : Addr} {d : FuncData} (H : Fn1 K x st f d) (X : K.In h) (G : h.Ns mainGlobals mg)
    (b : ∀ (kV doc pm : Value) (an : Option Addr) (cdv ct : Value) (us : List Value), us.length = ps.length → bindArgs (Y1i x x (defArgs st) (defBody st) (defScope st) .none kV doc pm an cdv ct) ⟨us, []⟩ = pure (ps.zip us)) : FnT K mg x ps st f d := ⟨H.F, H.F.binds b, Y11 X G H.a⟩
theorem Fn1.bt {K : Y00} {x : Str} {y : Str} {st : Stmt} {f : Addr} {d : FuncData} (H : Fn1 K x st f d)
    (r : ∀ (kV doc pm : Value) (an : Option Addr) (cdv ct v : Value), bindArgs (Y1i x x (defArgs st) (defBody st) (defScope st) .none kV doc pm an cdv ct) ⟨[v], []⟩ = pure [(y, v)]) (s : Shared) (v : Value) : BindsTo s d ⟨[v], []⟩ [(y, v)] := by
  obtain ⟨_, _, kV, doc, pm, an, cdv, ct, _, rfl, _⟩ := H.F.ex
  exact .of_eq (r kV doc pm an cdv ct v)
theorem us0 {p : List Value → Prop} (h : p []) (us : List Value) (hl : us.length = 0) : p us := by cases us with | nil => exact h | cons _ _ => cases hl
theorem us1 {p : List Value → Prop} (h : ∀ a0, p [a0]) (us : List Value) (hl : us.length = 1) : p us := by cases us with | nil => cases hl | cons a r => exact us0 (p := λr => p (a :: r)) (h a) r (Y2X hl)
theorem us2 {p : List Value → Prop} (h : ∀ a0 a1, p [a0, a1]) (us : List Value) (hl : us.length = 2) : p us := by cases us with | nil => cases hl | cons a r => exact us1 (p := λr => p (a :: r)) (h a) r (Y2X hl)
theorem us3 {p : List Value → Prop} (h : ∀ a0 a1 a2, p [a0, a1, a2]) (us : List Value) (hl : us.length = 3) : p us := by cases us with | nil => cases hl | cons a r => exact us2 (p := λr => p (a :: r)) (h a) r (Y2X hl)
end L2
namespace L2
open PySem PySem.Spec PyProof.Rows
section
variable {M : MH} {Q : QM} {i j : Int} {x y : MV} {a b : Addr}
theorem q_add : wBin .Add (.int i) (.int j) M Q = Q (.int (i + j)) M := rfl
theorem q_sub : wBin .Sub (.int i) (.int j) M Q = Q (.int (i - j)) M := rfl
theorem q_mul : wBin .Mult (.int i) (.int j) M Q = (CMul i j ∧ Q (.int (i * j)) M) := rfl
theorem q_fdiv : wBin .FloorDiv (.int i) (.int j) M Q = (CDivB i j ∧ Q (.int (i / j)) M) := rfl
theorem q_mod : wBin .Mod (.int i) (.int j) M Q = (0 < j ∧ Q (.int (i % j)) M) := rfl
theorem q_pow : wBin .Pow (.int i) (.int j) M Q = (CPow i j ∧ Q (.int (i ^ j.toNat)) M) := rfl
theorem q_and : wBin .BitAnd (.int i) (.int j) M Q = Q (.int (Y2A i j)) M := rfl
theorem q_xor : wBin .BitXor (.int i) (.int j) M Q = Q (.int (Y2B i j)) M := rfl
theorem q_adds {x y : Str} : wBin .Add (.str x) (.str y) M Q = (x.length + y.length ≤ sizeLine ∧ Q (.str (x ++ y)) M) := rfl
theorem q_muls {x : Str} : wBin .Mult (.str x) (.int i) M Q = (x.length ≤ 16 ∧ -1000 ≤ i ∧ i ≤ 1000 ∧ Q (.str (Txt.mul x i)) M) := rfl
theorem q_addt {xs ys : List MV} : wBin .Add (.tup xs) (.tup ys) M Q = (xs ≠ [] ∧ xs.length + ys.length ≤ sizeLine ∧ Q (.tup (xs ++ ys)) M) := rfl
theorem q_mult {xs : List MV} : wBin .Mult (.tup xs) (.int i) M Q = (xs ≠ [] ∧ 1 ≤ i ∧ xs.length * i.toNat ≤ 1000000 ∧ Q (.tup (Y0c i.toNat xs).flatten) M) := rfl
theorem q_mulr : wBin .Mult (.ref a) (.int i) M Q = ∃ xs, M a = some (.lst xs) ∧ -(2 ^ 63) ≤ i ∧ i < 2 ^ 63 ∧ xs.length * i.toNat ≤ sizeLine ∧ ∀ p, M p = none → Q (.ref p) (updM M p (.lst (Y0c i.toNat xs).flatten)) := rfl
theorem q_addl : wBin .Add (.ref a) (.ref b) M Q = ∃ xs ys, M a = some (.lst xs) ∧ M b = some (.lst ys) ∧ xs.length + ys.length ≤ sizeLine ∧ ∀ p, M p = none → Q (.ref p) (updM M p (.lst (xs ++ ys))) := rfl
theorem q_lt : wCmp .Lt (.int i) (.int j) M Q = Q (.bl (decide (i < j))) M := propext ⟨λ⟨_, _, e, f, h⟩ => by cases e; cases f; exact h, λh => ⟨i, j, rfl, rfl, h⟩⟩
theorem q_le : wCmp .LtE (.int i) (.int j) M Q = Q (.bl (decide (i ≤ j))) M := propext ⟨λh => Or.elim h (λ⟨_, _, e, f, h⟩ => by cases e; cases f; exact h) (λ⟨_, _, e, _⟩ => nomatch e), λh => Or.inl ⟨i, j, rfl, rfl, h⟩⟩
theorem q_gt : wCmp .Gt (.int i) (.int j) M Q = Q (.bl (decide (j < i))) M := propext ⟨λ⟨_, _, e, f, h⟩ => by cases e; cases f; exact h, λh => ⟨i, j, rfl, rfl, h⟩⟩
theorem q_eqi : wCmp .Eq (.int i) (.int j) M Q = Q (.bl (decide (i = j))) M := rfl
theorem q_nei : wCmp .NotEq (.int i) (.int j) M Q = Q (.bl (!decide (i = j))) M := rfl
theorem q_eqs {x y : Str} : wCmp .Eq (.str x) (.str y) M Q = Q (.bl (decide (x = y))) M := rfl
theorem q_nes {x y : Str} : wCmp .NotEq (.str x) (.str y) M Q = Q (.bl (!decide (x = y))) M := rfl
theorem q_eqb {x y : Bool} : wCmp .Eq (.bl x) (.bl y) M Q = Q (.bl (decide (x = y))) M := rfl
theorem q_neb {x y : Bool} : wCmp .NotEq (.bl x) (.bl y) M Q = Q (.bl (!decide (x = y))) M := rfl
theorem q_isnot : wCmp .IsNot x .non M Q = Q (.bl (!isNon x)) M := propext ⟨λh => Or.elim h (λh => h.2) (λ⟨_, e, _⟩ => nomatch e), λh => Or.inl ⟨rfl, h⟩⟩
theorem q_eqr {y : MV} : wCmp .Eq (.ref a) y M Q = wEq (.ref a) y M λb => Q (.bl b) M := rfl
theorem q_ner {y : MV} : wCmp .NotEq (.ref a) y M Q = wEq (.ref a) y M λb => Q (.bl (!b)) M := rfl
theorem q_eqt {xs : List MV} {y : MV} : wCmp .Eq (.tup xs) y M Q = wEq (.tup xs) y M λb => Q (.bl b) M := rfl
theorem q_net {xs : List MV} {y : MV} : wCmp .NotEq (.tup xs) y M Q = wEq (.tup xs) y M λb => Q (.bl (!b)) M := rfl
theorem q_in : wCmp .In x y M Q = wIn x y M λb => Q (.bl b) M := rfl
theorem eq_nil {xs : List MV} {k : Bool → Prop} (h : M a = some (.lst xs)) (hb : M b = some (.lst [])) (q : k xs.isEmpty) : wEq (.ref a) (.ref b) M k := .inr (.inl ⟨a, b, xs, rfl, rfl, h, hb, q⟩)
theorem eq_alike {k : Bool → Prop} {m : Nat} (n : eqS x y = none) (h : Alike M m x y) (le : m ≤ 60) (q : k true) : wEq x y M k := by
  unfold wEq; rw [n]; exact .inl ⟨m, le, h, q⟩
theorem Alike.flat {x : MV} (n : Nat) (f : flatM x = true) : Alike M n x x := by
  cases n <;> rw [Alike]
  · exact ⟨f, rfl⟩
  · exact .inl ⟨f, rfl⟩
theorem Alike.tup {xs ys : List MV} {n : Nat} (e : xs.length = ys.length) (h : ∀ (i : Nat) u v, xs[i]? = some u → ys[i]? = some v → Alike M n u v) : Alike M (n + 1) (.tup xs) (.tup ys) := by
  rw [Alike]; exact .inr (.inl ⟨xs, ys, rfl, rfl, e, h⟩)
theorem Alike.two {a b a' b' : MV} {n : Nat} (h1 : Alike M n a a') (h2 : Alike M n b b') : Alike M (n + 1) (.tup [a, b]) (.tup [a', b']) := by
  refine .tup rfl λi u v h h' => ?_
  match i with
  | 0 => cases h; cases h'; exact h1
  | 1 => cases h; cases h'; exact h2
  | i + 2 => cases h
theorem Alike.lst {x y : MV} {xs ys : List MV} {n : Nat} (h1 : LstM M x xs) (h2 : LstM M y ys) (e : xs.length = ys.length) (h : ∀ (i : Nat) u v, xs[i]? = some u → ys[i]? = some v → Alike M n u v) : Alike M (n + 1) x y := by
  rw [Alike]; exact .inr (.inr (.inl ⟨xs, ys, h1, h2, e, h⟩))
theorem Alike.dic {a b : Addr} {ka kb : List (Key × MV)} {n : Nat} (h1 : M a = some (.dic ka)) (h2 : M b = some (.dic kb)) (e : ka.length = kb.length) (h : ∀ k u, (k, u) ∈ ka → ∃ v, valM kb k = some v ∧ Alike M n u v) : Alike M (n + 1) (.ref a) (.ref b) := by
  rw [Alike]; exact .inr (.inr (.inr ⟨a, b, ka, kb, rfl, rfl, h1, h2, e, h⟩))
noncomputable def ixO (o : Option MO) (y : MV) (M : MH) (Q : QM) : Prop := match o with
  | some (.lst xs) => ∃ i v, y = .int i ∧ atI xs i = some v ∧ Q v M
  | some (.dic kvs) => ∃ kk v, keyM y = some kk ∧ valM kvs kk = some v ∧ Q v M
  | some (.fdic _ kvs) => ∃ kk v, keyM y = some kk ∧ valM kvs kk = some v ∧ Q v M
  | _ => False
theorem q_ixr : wIx (.ref a) y M Q = ixO (M a) y M Q := propext ⟨λh => by
    rcases h with ⟨xs, i, v, e, r⟩ | ⟨kvs, kk, v, e, r⟩ | ⟨o, kvs, kk, v, e, r⟩
    · rw [e]; exact ⟨i, v, r⟩
    · rw [e]; exact ⟨kk, v, r⟩
    · rw [e]; exact ⟨kk, v, r⟩, λh => by
    cases e : M a with
    | none => rw [e] at h; exact h.elim
    | some o =>
      rw [e] at h
      cases o with
      | lst xs => obtain ⟨i, v, r⟩ := h; exact .inl ⟨xs, i, v, e, r⟩
      | dic kvs => obtain ⟨kk, v, r⟩ := h; exact .inr (.inl ⟨kvs, kk, v, e, r⟩)
      | ins _ _ => exact h.elim
      | fdic o kvs => obtain ⟨kk, v, r⟩ := h; exact .inr (.inr ⟨o, kvs, kk, v, e, r⟩)⟩
theorem q_ixol {xs : List MV} : ixO (some (.lst xs)) (.int i) M Q = ∃ v, atI xs i = some v ∧ Q v M := propext ⟨λ⟨_, v, e, h⟩ => by cases e; exact ⟨v, h⟩, λ⟨v, h⟩ => ⟨i, v, rfl, h⟩⟩
noncomputable def slO (o : Option MO) (lo hi : Option Int) (M : MH) (Q : QM) : Prop := match o with
  | some (.lst xs) => ∀ p, M p = none → Q (.ref p) (updM M p (.lst (cutM xs lo hi)))
  | _ => False
theorem q_slr {lo hi : Option Int} : wSl (.ref a) lo hi M Q = slO (M a) lo hi M Q := propext ⟨λ⟨xs, e, h⟩ => by rw [e]; exact h, λh => by
    cases e : M a with
    | none => rw [e] at h; exact h.elim
    | some o =>
      rw [e] at h
      cases o with
      | lst xs => exact ⟨xs, e, h⟩
      | dic kvs => exact h.elim
      | ins _ _ => exact h.elim
      | fdic _ _ => exact h.elim⟩
theorem q_slol {lo hi : Option Int} {xs : List MV} : slO (some (.lst xs)) lo hi M Q = ∀ p, M p = none → Q (.ref p) (updM M p (.lst (cutM xs lo hi))) := rfl
theorem q_slf {lo hi : Option Int} {xs : List MV} : wSl (.frl xs) lo hi M Q = ∀ p, M p = none → Q (.ref p) (updM M p (.lst (cutM xs lo hi))) := rfl
theorem q_sls {lo hi : Option Int} {z : Str} : wSl (.str z) lo hi M Q = (z.length ≤ sizeLine ∧ Q (.str (cutS z lo hi)) M) := rfl
theorem q_slt {lo hi : Option Int} {xs : List MV} : wSl (.tup xs) lo hi M Q = Q (.tup (cutM xs lo hi)) M := rfl
theorem q_lent {xs : List MV} : wBi .len [.tup xs] M Q = Q (.int xs.length) M := rfl
theorem q_lenf {xs : List MV} : wBi .len [.frl xs] M Q = Q (.int xs.length) M := rfl
theorem q_lens {z : Str} : wBi .len [.str z] M Q = (z.length ≤ sizeLine ∧ Q (.int z.length) M) := rfl
noncomputable def lenO (o : Option MO) (M : MH) (Q : QM) : Prop := match o with
  | some (.lst xs) => Q (.int xs.length) M
  | some (.dic kvs) => Q (.int kvs.length) M
  | _ => False
theorem q_lenr : wBi .len [.ref a] M Q = lenO (M a) M Q := propext ⟨λh => by
    rcases h with ⟨xs, e, h⟩ | ⟨kvs, e, h⟩ <;> (rw [e]; exact h), λh => by
    cases e : M a with
    | none => rw [e] at h; exact h.elim
    | some o =>
      rw [e] at h
      cases o with
      | lst xs => exact .inl ⟨xs, e, h⟩
      | dic kvs => exact .inr ⟨kvs, e, h⟩
      | ins _ _ => exact h.elim
      | fdic _ _ => exact h.elim⟩
theorem q_lenol {xs : List MV} : lenO (some (.lst xs)) M Q = Q (.int xs.length) M := rfl
theorem q_lenod {kvs : List (Key × MV)} : lenO (some (.dic kvs)) M Q = Q (.int kvs.length) M := rfl
noncomputable def isO (o : Option Ty7) (c : Ty7) (M : MH) (Q : QM) : Prop := match o with
  | some T => c ≠ .none ∧ Q (.bl (isTy T c)) M
  | none => False
theorem q_isi {c : Ty7} : wBi .isinst [x, .ty c] M Q = isO (tyM M x) c M Q := propext (by
  have e : wBi .isinst [x, .ty c] M Q = ∃ T, tyM M x = some T ∧ c ≠ .none ∧ Q (.bl (isTy T c)) M := by cases x <;> rfl
  rw [e]
  exact ⟨λ⟨T, e, h⟩ => by rw [e]; exact h, λh => by
    cases e : tyM M x with
    | none => rw [e] at h; exact h.elim
    | some T => rw [e] at h; exact ⟨T, rfl, h⟩⟩)
noncomputable def isO2 (o : Option Ty7) (c d : Ty7) (M : MH) (Q : QM) : Prop := match o with
  | some T => c ≠ .none ∧ d ≠ .none ∧ Q (.bl (isTy T c || isTy T d)) M
  | none => False
theorem q_isoi2 {T c d : Ty7} : isO2 (some T) c d M Q = (c ≠ .none ∧ d ≠ .none ∧ Q (.bl (isTy T c || isTy T d)) M) := rfl
theorem q_isoi {T c : Ty7} : isO (some T) c M Q = (c ≠ .none ∧ Q (.bl (isTy T c)) M) := rfl
theorem q_tyi : tyM M (.int i) = some .int := rfl
theorem q_tyb {k : Bool} : tyM M (.bl k) = some .bool := rfl
theorem q_tys {k : Str} : tyM M (.str k) = some .str := rfl
theorem q_tyn : tyM M .non = some .none := rfl
theorem q_tyt {xs : List MV} : tyM M (.tup xs) = some .tuple := rfl
noncomputable def tyO : Option MO → Option Ty7
  | some (.lst _) => some .list
  | some (.dic _) => some .dict
  | _ => none
theorem q_tyol {xs : List MV} : tyO (some (.lst xs)) = some .list := rfl
theorem q_tyod {kvs : List (Key × MV)} : tyO (some (.dic kvs)) = some .dict := rfl
theorem q_listt {xs : List MV} : wBi .list [.tup xs] M Q = ∀ p, M p = none → Q (.ref p) (updM M p (.lst xs)) := rfl
theorem q_listf {xs : List MV} : wBi .list [.frl xs] M Q = ∀ p, M p = none → Q (.ref p) (updM M p (.lst xs)) := rfl
theorem q_listr : wBi .list [.ref a] M Q = ∃ xs, M a = some (.lst xs) ∧ ∀ p, M p = none → Q (.ref p) (updM M p (.lst xs)) := rfl
theorem q_tupt {xs : List MV} : wBi .tuple [.tup xs] M Q = Q (.tup xs) M := rfl
theorem q_tupr : wBi .tuple [.ref a] M Q = ∃ xs, M a = some (.lst xs) ∧ Q (.tup xs) M := rfl
noncomputable def apO (o : Option MO) (a : Addr) (y : MV) (M : MH) (Q : QM) : Prop := match o with
  | some (.lst xs) => xs.length < sizeLine ∧ Q .non (updM M a (.lst (xs ++ [y])))
  | _ => False
theorem q_app : wMts .append (.ref a) [y] M Q = apO (M a) a y M Q := propext ⟨λ⟨xs, e, h⟩ => by rw [e]; exact h, λh => by
    cases e : M a with
    | none => rw [e] at h; exact h.elim
    | some o =>
      rw [e] at h
      cases o with
      | lst xs => exact ⟨xs, e, h⟩
      | dic kvs => exact h.elim
      | ins _ _ => exact h.elim
      | fdic _ _ => exact h.elim⟩
theorem q_apol {xs : List MV} : apO (some (.lst xs)) a y M Q = (xs.length < sizeLine ∧ Q .non (updM M a (.lst (xs ++ [y])))) := rfl
theorem q_okl1 : mtOk .append x M = (∃ a xs, x = .ref a ∧ M a = some (.lst xs)) := rfl
theorem q_addf {xs : List MV} : wBin .Add (.frl xs) (.ref b) M Q = (∃ ys, M b = some (.lst ys) ∧ xs.length + ys.length ≤ sizeLine ∧ ∀ p, M p = none → Q (.ref p) (updM M p (.lst (xs ++ ys)))) := rfl
noncomputable def srO (o : Option MO) (a : Addr) (M : MH) (Q : Src → MH → Prop) : Prop := match o with
  | some (.lst xs) => Q (.lst a xs) M
  | some (.dic kvs) => ∀ o, Q (.dic a o kvs) (updM M a (.fdic o kvs))
  | _ => False
noncomputable def srV (v : MV) (M : MH) (Q : Src → MH → Prop) : Prop := (∃ xs, (v = .tup xs ∨ v = .frl xs) ∧ Q (.tup xs) M) ∨ (∃ a xs, v = .ref a ∧ M a = some (.lst xs) ∧ Q (.lst a xs) M) ∨ (∃ a kvs, v = .ref a ∧ M a = some (.dic kvs) ∧ ∀ o, Q (.dic a o kvs) (updM M a (.fdic o kvs))) ∨ ∃ z, v = .str z ∧ Q (.str z) M
theorem q_seq {Φ : List (Str × SpM)} {e : IE} {σ : Sm} {R : Src → MH → Prop} : wSr Φ (.seq e) σ M R = wE Φ e σ M λv M1 => srV v M1 R := rfl
theorem q_srr {R : Src → MH → Prop} : srV (.ref a) M R = srO (M a) a M R := propext ⟨λh => by
    rcases h with ⟨xs, e, h⟩ | ⟨b, xs, e, f, h⟩ | ⟨b, xs, e, f, h⟩ | ⟨z, e, _⟩
    · rcases e with e | e <;> cases e
    · cases e; rw [f]; exact h
    · cases e; rw [f]; exact h
    · exact (nomatch e), λh => by
    cases e : M a with
    | none => rw [e] at h; exact h.elim
    | some o =>
      rw [e] at h
      cases o with
      | lst xs => exact .inr (.inl ⟨a, xs, rfl, e, h⟩)
      | dic kvs => exact .inr (.inr (.inl ⟨a, kvs, rfl, e, h⟩))
      | ins _ _ => exact h.elim
      | fdic _ _ => exact h.elim⟩
theorem q_srod {kvs : List (Key × MV)} {R : Src → MH → Prop} : srO (some (.dic kvs)) a M R = ∀ o, R (.dic a o kvs) (updM M a (.fdic o kvs)) := rfl
theorem q_th5 {x : Str} : Src.thaw M (.str x) = M := rfl
theorem q_ot5 {x : Str} : Src.okT M (.str x) = True := rfl
theorem q_th1 {xs : List MV} : Src.thaw M (.tup xs) = M := rfl
theorem q_th2 {xs : List MV} : Src.thaw M (.lst a xs) = M := rfl
theorem q_th3 {n : Nat} : Src.thaw M (.rng i n) = M := rfl
theorem q_th4 {o : Obj} {kvs : List (Key × MV)} : Src.thaw M (.dic a o kvs) = updM M a (.dic kvs) := rfl
theorem q_ot1 {xs : List MV} : Src.okT M (.tup xs) = True := rfl
theorem q_ot2 {xs : List MV} : Src.okT M (.lst a xs) = True := rfl
theorem q_ot3 {n : Nat} : Src.okT M (.rng i n) = True := rfl
theorem q_ot4 {o : Obj} {kvs : List (Key × MV)} : Src.okT M (.dic a o kvs) = (M a = some (.fdic o kvs)) := rfl
theorem q_srol {xs : List MV} {R : Src → MH → Prop} : srO (some (.lst xs)) a M R = R (.lst a xs) M := rfl
noncomputable def rgV (v : MV) (M : MH) (Q : Src → MH → Prop) : Prop := ∃ j, v = .int j ∧ -(2 ^ 62) ≤ j ∧ j < 2 ^ 62 ∧ Q (.rng 0 j.toNat) M
theorem q_rng {Φ : List (Str × SpM)} {e : IE} {σ : Sm} {R : Src → MH → Prop} : wSr Φ (.rng e) σ M R = wE Φ e σ M λv M1 => rgV v M1 R := rfl
theorem q_rgi {R : Src → MH → Prop} : rgV (.int i) M R = (-(2 ^ 62) ≤ i ∧ i < 2 ^ 62 ∧ R (.rng 0 i.toNat) M) := propext ⟨λ⟨_, e, h⟩ => by cases e; exact h, λh => ⟨i, rfl, h⟩⟩
noncomputable def rgV2 (x y : MV) (M : MH) (Q : Src → MH → Prop) : Prop := ∃ i j, x = .int i ∧ y = .int j ∧ (-(2 ^ 62) ≤ i ∧ i < 2 ^ 62 ∧ -(2 ^ 62) ≤ j ∧ j < 2 ^ 62) ∧ Q (.rng i (j - i).toNat) M
theorem q_rng3 {Φ : List (Str × SpM)} {e f g : IE} {σ : Sm} {R : Src → MH → Prop} : wSr Φ (.rng3 e f g) σ M R = wE Φ e σ M λx M1 => wE Φ f σ M1 λy M2 => wE Φ g σ M2 λz M3 => ∃ i j, x = .int i ∧ y = .int j ∧ z = .int 2 ∧ (0 ≤ i ∧ i < 2 ^ 60 ∧ 0 ≤ j ∧ j < 2 ^ 60) ∧ R (.rst i 2 (len2 i j)) M3 := rfl
theorem q_th6 {n : Nat} {st : Int} : Src.thaw M (.rst i st n) = M := rfl
theorem q_ot6 {n : Nat} {st : Int} : Src.okT M (.rst i st n) = True := rfl
theorem q_rng2 {Φ : List (Str × SpM)} {e f : IE} {σ : Sm} {R : Src → MH → Prop} : wSr Φ (.rng2 e f) σ M R = wE Φ e σ M λx M1 => wE Φ f σ M1 λy M2 => rgV2 x y M2 R := rfl
theorem q_inti : wBi .int [.int i] M Q = Q (.int i) M := rfl
theorem q_intb {k : Bool} : wBi .int [.bl k] M Q = Q (.int (if k then 1 else 0)) M := rfl
end
theorem v_s {v : MV} {k : MV → Prop} : onV (some (some v)) k = k v := rfl
theorem b_0 {b : Bool} {k : Bool → Prop} : onB (.bl b) k = k b := rfl
theorem f_s {f : Str} {sp : SpM} {k : SpM → Prop} : onF (some (f, sp)) k = k sp := rfl
theorem e_var {Φ : List (Str × SpM)} {σ : Sm} {M : MH} {Q : QM} {i : Nat} : wE Φ (.var i) σ M Q = onV σ[i]? (λv => Q v M) := rfl
theorem e_int {Φ : List (Str × SpM)} {σ : Sm} {M : MH} {Q : QM} {i : Int} : wE Φ (.int i) σ M Q = (Q (.int i) M) := rfl
theorem e_str {Φ : List (Str × SpM)} {σ : Sm} {M : MH} {Q : QM} {x : Str} : wE Φ (.str x) σ M Q = (Q (.str x) M) := rfl
theorem e_bl {Φ : List (Str × SpM)} {σ : Sm} {M : MH} {Q : QM} {b : Bool} : wE Φ (.bl b) σ M Q = (Q (.bl b) M) := rfl
theorem e_non {Φ : List (Str × SpM)} {σ : Sm} {M : MH} {Q : QM}  : wE Φ (.non) σ M Q = (Q .non M) := rfl
theorem e_glb {Φ : List (Str × SpM)} {σ : Sm} {M : MH} {Q : QM} {x : Str} {i : Int} : wE Φ (.glb x i) σ M Q = (Q (.int i) M) := rfl
theorem e_ty {Φ : List (Str × SpM)} {σ : Sm} {M : MH} {Q : QM} {c : Ty7} : wE Φ (.ty c) σ M Q = (Q (.ty c) M) := rfl
theorem e_bin {Φ : List (Str × SpM)} {σ : Sm} {M : MH} {Q : QM} {op : Operator} {a b : IE} : wE Φ (.bin op a b) σ M Q = (wE Φ a σ M λx M1 => wE Φ b σ M1 λy M2 => wBin op x y M2 Q) := rfl
theorem e_neg {Φ : List (Str × SpM)} {σ : Sm} {M : MH} {Q : QM} {a : IE} : wE Φ (.neg a) σ M Q = (wE Φ a σ M λx M1 => ∃ i, x = .int i ∧ Q (.int (-i)) M1) := rfl
theorem e_not {Φ : List (Str × SpM)} {σ : Sm} {M : MH} {Q : QM} {a : IE} : wE Φ (.not a) σ M Q = (wE Φ a σ M λx M1 => onB x λb => Q (.bl (!b)) M1) := rfl
theorem e_cmp {Φ : List (Str × SpM)} {σ : Sm} {M : MH} {Q : QM} {op : CmpOp} {a b : IE} : wE Φ (.cmp op a b) σ M Q = (wE Φ a σ M λx M1 => wE Φ b σ M1 λy M2 => wCmp op x y M2 Q) := rfl
theorem e_chn {Φ : List (Str × SpM)} {σ : Sm} {M : MH} {Q : QM} {op op' : CmpOp} {a b c : IE} : wE Φ (.chn op op' a b c) σ M Q = (wE Φ a σ M λx M1 => wE Φ b σ M1 λy M2 => wCmp op x y M2 λz M3 => onB z λk => (if k = true then wE Φ c σ M3 λw M4 => wCmp op' y w M4 Q else Q (.bl false) M3)) := rfl
theorem e_and {Φ : List (Str × SpM)} {σ : Sm} {M : MH} {Q : QM} {a b : IE} : wE Φ (.and a b) σ M Q = (wE Φ a σ M λx M1 => onB x λc => (if c = true then wE Φ b σ M1 Q else Q (.bl false) M1)) := rfl
theorem e_or {Φ : List (Str × SpM)} {σ : Sm} {M : MH} {Q : QM} {a b : IE} : wE Φ (.or a b) σ M Q = (wE Φ a σ M λx M1 => onB x λc => (if c = true then Q (.bl true) M1 else wE Φ b σ M1 Q)) := rfl
theorem e_tup {Φ : List (Str × SpM)} {σ : Sm} {M : MH} {Q : QM} {es : IEs} : wE Φ (.tup es) σ M Q = (wEs Φ es σ M λvs M1 => vs.length ≤ sizeLine ∧ Q (.tup vs) M1) := rfl
theorem e_lst {Φ : List (Str × SpM)} {σ : Sm} {M : MH} {Q : QM} {es : IEs} : wE Φ (.lst es) σ M Q = (wEs Φ es σ M λvs M1 => vs.length ≤ sizeLine ∧ ∀ p, M1 p = none → Q (.ref p) (updM M1 p (.lst vs))) := rfl
theorem e_ix {Φ : List (Str × SpM)} {σ : Sm} {M : MH} {Q : QM} {a b : IE} : wE Φ (.ix a b) σ M Q = (wE Φ a σ M λx M1 => wE Φ b σ M1 λy M2 => wIx x y M2 Q) := rfl
theorem e_sl {Φ : List (Str × SpM)} {σ : Sm} {M : MH} {Q : QM} {a : IE} {lo hi : IO} : wE Φ (.sl a lo hi) σ M Q = (wE Φ a σ M λx M1 => wO Φ lo σ M1 λl M2 => wO Φ hi σ M2 λh M3 => wSl x l h M3 Q) := rfl
theorem e_call {Φ : List (Str × SpM)} {σ : Sm} {M : MH} {Q : QM} {j : Nat} {e : IE} {es : IEs} : wE Φ (.call j e es) σ M Q = (wE Φ e σ M λv M1 => wEs Φ es σ M1 λvs M2 => onF Φ[j]? λsp => sp (v :: vs) M2 Q) := rfl
theorem e_b2 {Φ : List (Str × SpM)} {σ : Sm} {M : MH} {Q : QM} {f : B2} {e : IE} : wE Φ (.b2 f e) σ M Q = (wE Φ e σ M λv M1 => wB2 f v M1 Q) := rfl
theorem e_bi {Φ : List (Str × SpM)} {σ : Sm} {M : MH} {Q : QM} {f : BI} {e : IE} {es : IEs} : wE Φ (.bi f e es) σ M Q = (wE Φ e σ M λv M1 => wEs Φ es σ M1 λvs M2 => wBi f (v :: vs) M2 Q) := rfl
theorem e_mt {Φ : List (Str × SpM)} {σ : Sm} {M : MH} {Q : QM} {m : MT} {o : IE} {es : IEs} : wE Φ (.mt m o es) σ M Q = (wE Φ o σ M λx M1 => mtOk m x M1 ∧ wEs Φ es σ M1 λvs M2 => wMts m x vs M2 Q) := rfl
theorem q_tg1 {i : Nat} {v : MV} {σ : Sm} {R : Sm → Prop} : wTg (.nm i) v σ R = R (σ.set i (some v)) := rfl
theorem q_tgc {t : ITg} {ts : ITgs} {v : MV} {r : List MV} {σ : Sm} {R : Sm → Prop} : wTgs (.cons t ts) (v :: r) σ R = wTg t v σ λσ' => wTgs ts r σ' R := by
  exact propext ⟨λ⟨_, _, e, h⟩ => by cases e; exact h, λh => ⟨_, _, rfl, h⟩⟩
theorem q_tgn {σ : Sm} {R : Sm → Prop} : wTgs .nil [] σ R = R σ := propext ⟨λh => h.2, λh => ⟨rfl, h⟩⟩
section
variable {M : MH}
theorem Alike.lstFlat {x y : MV} {xs : List MV} (n : Nat) (h1 : LstM M x xs) (h2 : LstM M y xs) (f : ∀ v ∈ xs, flatM v = true) : Alike M (n + 1) x y :=
  .lst h1 h2 rfl λi u v e e' => by
    rw [e] at e'; cases e'
    exact .flat n (f u (Y0C e))
end
section
variable {Φ : List (Str × SpM)} {D : EndM} {σ : Sm} {M : MH}
theorem s_nil : wSs Φ .nil D σ M = D.nx σ M := rfl
theorem s_cons {s : IS} {r : ISs} : wSs Φ (.cons s r) D σ M = wS Φ s { nx := λσ M => wSs Φ r D σ M, rt := D.rt, bk := D.bk, ct := D.ct } σ M := rfl
theorem s_pass : wS Φ .pass D σ M = D.nx σ M := rfl
theorem s_brk : wS Φ .brk D σ M = D.bk σ M := rfl
theorem s_cnt : wS Φ .cnt D σ M = D.ct σ M := rfl
theorem s_never : wS Φ .never D σ M = False := rfl
theorem s_ret {e : IE} : wS Φ (.ret e) D σ M = wE Φ e σ M D.rt := rfl
theorem s_retN : wS Φ .retN D σ M = D.rt .non M := rfl
theorem s_set {i : Nat} {e : IE} : wS Φ (.set i e) D σ M = wE Φ e σ M λv M1 => D.nx (σ.set i (some v)) M1 := rfl
theorem s_asg {t : ITgs} {e : IE} : wS Φ (.asg t e) D σ M = wE Φ e σ M λv M1 => ∃ xs, v = .tup xs ∧ wTgs t xs σ λσ' => D.nx σ' M1 := rfl
theorem s_expr {e : IE} : wS Φ (.expr e) D σ M = wE Φ e σ M λ_ M1 => D.nx σ M1 := rfl
theorem s_ite {c : IE} {a b : ISs} : wS Φ (.ite c a b) D σ M = wE Φ c σ M λx M1 => onB x λk => (if k = true then wSs Φ a D σ M1 else wSs Φ b D σ M1) := rfl
theorem s_for {t : ITg} {s : ISr} {b : ISs} : wS Φ (.for_ t s b) D σ M = wSr Φ s σ M λS M1 => ∃ J : Nat → Sm → MH → Prop, J 0 σ M1 ∧ (∀ i σ M, J i σ M → S.ok M) ∧
      (∀ i x σ M, S.items[i]? = some x → J i σ M → wTg t x σ λσ2 => wSs Φ b { nx := J (i + 1), rt := λv M => S.okT M ∧ D.rt v (S.thaw M), bk := λσ M => S.okT M ∧ D.nx σ (S.thaw M), ct := J (i + 1) } σ2 M) ∧ ∀ σ M, J S.len σ M → D.nx σ (S.thaw M) := rfl
theorem s_while {c : IE} {b : ISs} : wS Φ (.while_ c b) D σ M = ∃ J : Nat → Sm → MH → Prop, (∃ m, J m σ M) ∧ ∀ m σ M, J m σ M → wE Φ c σ M λx M1 => ∃ k, x = .bl k ∧
      (if k = true then wSs Φ b { nx := λσ' M' => ∃ m', m' < m ∧ J m' σ' M', rt := D.rt, bk := D.nx, ct := λσ' M' => ∃ m', m' < m ∧ J m' σ' M' } σ M1 else D.nx σ M1) := rfl
theorem o_none {Q : Option Int → MH → Prop} : wO Φ .none σ M Q = Q none M := rfl
theorem o_some {e : IE} {Q : Option Int → MH → Prop} : wO Φ (.some e) σ M Q = wE Φ e σ M λv M1 => ∃ i, v = .int i ∧ Q (some i) M1 := rfl
theorem i_none {Q : Bool → MH → Prop} : wI Φ .none σ M Q = Q true M := rfl
theorem i_some {e : IE} {Q : Bool → MH → Prop} : wI Φ (.some e) σ M Q = wE Φ e σ M λv M1 => ∃ b, v = .bl b ∧ Q b M1 := rfl
theorem es_nil {Q : List MV → MH → Prop} : wEs Φ .nil σ M Q = Q [] M := rfl
theorem es_cons {e : IE} {es : IEs} {Q : List MV → MH → Prop} : wEs Φ (.cons e es) σ M Q = wE Φ e σ M λv M1 => wEs Φ es σ M1 λvs M2 => Q (v :: vs) M2 := rfl
theorem ps_nil {Q : List (Key × MV) → MH → Prop} : wPs Φ .nil σ M Q = Q [] M := rfl
theorem ps_cons {k v : IE} {r : IPs} {Q : List (Key × MV) → MH → Prop} : wPs Φ (.cons k v r) σ M Q = wE Φ k σ M λx M1 => ∃ kk, keyM x = some kk ∧ wE Φ v σ M1 λy M2 => wPs Φ r σ M2 λl M3 => Q ((kk, y) :: l) M3 := rfl
end
section
variable {Φ : List (Str × SpM)} {σ σ' : Sm} {M M' : MH} {Q : QM} {x x' y y' z z' : MV} {o o' : Option MO} {vs vs' : List MV}
end
end L2
namespace L2
open PySem PySem.Spec PyProof.Rows
theorem ObjOk.there {P : Program} {w : World} {H : Hp} {h : Heap} {a : Addr} {o : HO} (x : ObjOk P w H h a o) : ∃ u, h.get? a = some u := by
  cases o with
  | lst xs => obtain ⟨_, _, _, _, e⟩ := x; exact ⟨_, e⟩
  | tup xs => obtain ⟨_, _, _, _, o, e, _⟩ := x; exact ⟨_, e⟩
  | dK kvs => obtain ⟨_, _, _, _, o, _, _, e, _⟩ := x; exact ⟨_, e⟩
  | dT kvs => obtain ⟨_, _, _, _, o, _, _, e, _⟩ := x; exact ⟨_, e⟩
  | set S n => obtain ⟨o, _, _, _, e, _⟩ := x; exact ⟨_, e⟩
  | ins C dx fs => obtain ⟨_, _, _, e, _⟩ := x; exact ⟨_, e⟩
  | own y => exact x
  | xd fs => obtain ⟨_, ⟨_, _, _, e, _⟩, _⟩ := x; exact ⟨_, e⟩
  | rng lo hi => obtain ⟨_, _, _, e⟩ := x; exact ⟨_, e⟩
  | frz ob u => obtain ⟨e, _⟩ := x; exact ⟨_, e⟩
  | tbl ps => exact ⟨_, (show h.get? a = some _ from x)⟩
  | met f y => exact ⟨_, (show h.get? a = some _ from x)⟩
  | ext φ => exact x.2.1
noncomputable def CX1 (P : Program) (w : World) : CXT := λouter H s E e s' =>
  ∃ (a C t : Addr) (B : Heap) (H' : Hp), e = .ref a ∧ s'.os = s.os ∧ AllBare s'.gens ∧ Un (frs outer) [] H H' s.heap s'.heap ∧ HOk P w H' s'.heap ∧ Y1C B outer a (.ref C) (.ref t) s'.heap ∧
    (∀ b o, s.heap.get? b = some o → b ∉ frs outer → (H b = none → B.get? b = some o) ∧ ∃ o', B.get? b = some o') ∧ (∀ b u, H' b = some u → ∃ o, B.get? b = some o) ∧ E (.ref C) none H'
section
variable {P : Program} {w : World} {K : Y00} {mg : Str → Option Value} {base : Heap} {N : List Str} {qual : Str} {scope : Scope} {f : Addr} {cd : Value} {A : Around} {outer : List Env} {s₀ : Shared} {H₀ : Hp} {E : XK}
  {pins : List (Addr × Obj)} {σ : St} {H : Hp} {s : Shared}
theorem left1 {a C t : Addr} {B : Heap} {s' : Shared} (I : Inv (cxOf (CX1 P w) P w K mg base N qual scope f cd A outer s₀ H₀ E) pins σ H s) {H' : Hp} {h : Heap} (os : s'.os = s.os) (bare : AllBare s'.gens) (hu : Un (frs outer) [] H₀ H' s₀.heap h) (hok : HOk P w H' h)
    (st : B.StaysIn h) (fl : Y1C B outer a (.ref C) (.ref t) s'.heap) (ups : h.UpToSlots s'.heap) (fun1 : h.FunFrames B (envOfC qual scope s₀.heap.objs.size f cd :: outer))
    (cov : ∀ b o, s₀.heap.get? b = some o → b ∉ frs outer → (H₀ b = none → B.get? b = some o) ∧ ∃ o', B.get? b = some o') (own : ∀ b u, H' b = some u → ∃ o, B.get? b = some o) (q : E (.ref C) none H') : CX1 P w outer H₀ s₀ E (.ref a) s' := by
  have frm : ∀ b ∈ frs outer, ∃ o, h.get? b = some o ∧ ∀ vs, o.data ≠ .fields vs := λb hb => (fun1.2.2.mem hb).2
  refine ⟨a, C, t, B, H', rfl, os.trans I.os, bare, ⟨λb o e n hb _ => fl.1 b o ((cov b o e hb).1 n), λb o e n hb hx => ?_, λb o e n hx => hu.free b o e n hx, λb o e hx => ?_, hu.tups, hu.frzs, hu.tbls⟩, λb u e => ?_, fl, cov, own, q⟩
  · obtain ⟨sl, e1⟩ := hu.slot b o e n hb hx
    obtain ⟨o1, e2, nf⟩ := frm b hb
    rw [e1] at e2; cases e2
    obtain ⟨sl2, e3⟩ := ups b _ e1 nf
    exact ⟨sl2, e3⟩
  · by_cases hb : b ∈ frs outer
    · obtain ⟨o1, e2, nf⟩ := frm b hb
      obtain ⟨sl2, e3⟩ := ups b _ e2 nf
      exact ⟨_, e3⟩
    · obtain ⟨o', e'⟩ := (cov b o e hb).2
      exact ⟨o', fl.1 b o' e'⟩
  · refine (hok b u e).stay (λc v hc r => ?_) (λ_ z => z) λ_ _ z => z
    obtain ⟨o, ho⟩ : ∃ o, B.get? c = some o := by
      rcases hc with rfl | hc
      · exact own _ _ e
      · exact own _ _ hc
    have := st c o ho
    rw [r] at this; cases this
    exact fl.1 c _ ho
theorem raise1 {a C : Addr} {h' : Heap} {vs : List Value} (I : Inv (cxOf (CX1 P w) P w K mg base N qual scope f cd A outer s₀ H₀ E) pins σ H s) (hx : Y2I s.heap h' a (.ref C) vs) (q : E (.ref C) none H) :
    (cxOf (CX1 P w) P w K mg base N qual scope f cd A outer s₀ H₀ E).xe (.ref a) { s with heap := h' } := by
  have hst := I.stack
  have stk : frs (cxOf (CX1 P w) P w K mg base N qual scope f cd A outer s₀ H₀ E).stack = s₀.heap.objs.size :: frs outer := rfl
  have hB : (Y1s s.heap (frs (envOfC qual scope s₀.heap.objs.size f cd :: outer))).StaysIn s.heap := λb o e => PySem.W.of_hideAll _ e
  have get : ∀ b o, s.heap.get? b = some o → b ∉ frs (envOfC qual scope s₀.heap.objs.size f cd :: outer) → (Y1s s.heap (frs (envOfC qual scope s₀.heap.objs.size f cd :: outer))).get? b = some o := λb o e n => Y2J _ e n
  have nfr : ∀ b o, s₀.heap.get? b = some o → b ∉ frs outer → b ∉ frs (envOfC qual scope s₀.heap.objs.size f cd :: outer) := λb o e n z => by
    rcases Y0m.mp (show b ∈ s₀.heap.objs.size :: frs outer from z) with rfl | z
    · exact absurd (Y08 e) (Y1b _)
    · exact n z
  have ff := PySem.W.funFrames_hide hst λenv he b hb => Y1P.mpr ⟨env, he, hb⟩
  have un : Un (frs outer) [] H₀ H s₀.heap s.heap := I.base
  have cov : ∀ b o, s₀.heap.get? b = some o → b ∉ frs outer → (H₀ b = none → (Y1s s.heap (frs (envOfC qual scope s₀.heap.objs.size f cd :: outer))).get? b = some o) ∧ ∃ o', (Y1s s.heap (frs (envOfC qual scope s₀.heap.objs.size f cd :: outer))).get? b = some o' := λb o e n => by
    refine ⟨λz => get b o (un.keep b o e z n (by simp)) (nfr b o e n), ?_⟩
    obtain ⟨o', e'⟩ := un.there b o e (by simp)
    exact ⟨o', get b o' e' (nfr b o e n)⟩
  refine wpAny_leaves_madeW I.ok.frames rfl hB ff hx λh'' t fl _ _ ups => ?_
  refine left1 (h := s.heap) (s' := { s with heap := h'' }) I rfl I.bare un I.hok hB fl ((Heap.UpToSlots.of_keeps hx.keeps).trans ups) ff cov (λb u e => ?_) q
  obtain ⟨o, ho⟩ := (I.hok b u e).there
  exact ⟨o, get b o ho λz => by rw [I.stkFree b z] at e; cases e⟩
theorem pass1 : Passes (CX1 P w) (cxOf (CX1 P w) P w K mg base N qual scope f cd A outer s₀ H₀ E) E := by
  intro pins σ H s e s' I hc
  obtain ⟨a, C, t, B, H', rfl, os, bare, un, hok, fl, cov, own, q⟩ := hc
  have I' := I.call' os un hok bare (λ_ z => nomatch z)
  refine wpAny_leaves_onW I.ok.frames rfl fl λh'' fl' ups => ?_
  refine left1 (h := s'.heap) (s' := { s' with heap := h'' }) I os bare I'.base hok fl.1 fl' ups fl.2.2.1 (λb o e n => ?_) own q
  have nfr : b ∉ frs (envOfC qual scope s₀.heap.objs.size f cd :: outer) := λz => by
    rcases Y0m.mp (show b ∈ s₀.heap.objs.size :: frs outer from z) with rfl | z
    · exact absurd (Y08 e) (Y1b _)
    · exact n z
  refine ⟨λz => ?_, ?_⟩
  · exact (cov b o (I.base.keep b o e z n (by simp [cxOf])) nfr).1 (I.base.free b o e z (by simp [cxOf]))
  · obtain ⟨o', e'⟩ := I.base.there b o e (by simp [cxOf])
    exact (cov b o' e' nfr).2
theorem own1 : PassesOwn (model P w) (cxOf (CX1 P w) P w K mg base N qual scope f cd A outer s₀ H₀ E).A (cxOf (CX1 P w) P w K mg base N qual scope f cd A outer s₀ H₀ E).env (cxOf (CX1 P w) P w K mg base N qual scope f cd A outer s₀ H₀ E).xe := by
  unfold cxOf
  passes_own
end
end L2
namespace L2
open PySem PySem.Spec PyProof.Rows
noncomputable def nsOk (K : Y00) (N : Addr) : Bool := match K.lookup N with
  | some ⟨_, _, .dict es _, _⟩ => es.toList.all (fun e => match e.key with | .str _ _ => true | _ => false) && (nsFind es "__init__").isNone
  | _ => false
theorem nsOk_of {K : Y00} {N : Addr} (e : nsOk K N = true) : ∃ mN, (∀ h : Heap, K.In h → h.Ns N mN) ∧ mN "__init__" = none := by
  unfold nsOk at e
  split at e
  · rename_i c d es ep sl ho
    rw [Y04] at e
    refine ⟨nsFind es, λh X => ⟨_, es, ep, X _ _ ho, rfl, λx hx => ?_, λ_ => rfl⟩, Option.isNone_iff_eq_none.mp e.2⟩
    have := Y1e.mp e.1 x (by simpa using hx)
    split at this
    · rename_i n t z; exact ⟨n, t, z⟩
    · cases this
  · cases e
noncomputable abbrev veMro : List Value := [.type "ValueError", .type "Exception", .type "BaseException", .type "object"]
noncomputable def XCls (K : Y00) (C : Addr) (bm : List Value) : Prop :=
  ∃ nm q N bs hdct sn sub ab col dd k0 k1 k2 k3 k5, K.lookup C = some (excClassObj nm q C N bs bm hdct sn sub ab col dd k0 k1 k2 k3 k5 "ValueError.__new__") ∧ nsOk K N = true
theorem own_tail {K : Y00} {h : Heap} {F : Addr} (X : K.In h) (hF : XCls K F veMro) : OwnTail h veMro (.ref F :: veMro) := by
  obtain ⟨nm, q, N, bs, hdct, sn, sub, ab, col, dd, k0, k1, k2, k3, k5, l, n⟩ := hF
  obtain ⟨mN, a, b⟩ := nsOk_of n
  exact .own (X _ _ l) (a h X) b .base
section
variable {X : Cx} {C F : Addr} {x : Str} {a : Expr} {t : TA} {R : Hp → Prop} {np cpos pos : Pos}
theorem ps_raise (hF : XCls X.K F veMro) (hC : XCls X.K C (.ref F :: veMro)) (hc : X.calm = true) (hg : Gl X x) (hm : X.mg x = some (.ref C)) (ha : PA X [a] t)
    (hxe : ∀ pins σ H s h' e vs, Inv X pins σ H s → Y2I s.heap h' e (.ref C) vs → R H → X.xe (.ref e) { s with heap := h' })
    (hdb : (x == ("__debug__" : Str)) = false) (he : starEach [a] X.env = (false, eval a X.env) :: starEach [] X.env) :
    PS X (.Raise (some (.Call (.Name x np) [a] [] cpos)) none pos) (λ_ σ H => t σ H λvs H1 => vs.length ≤ sizeLine ∧ R H1) := by
  intro pins s σ H D I h
  obtain ⟨nm, q, N, bs, hdct, sn, sub, ab, col, dd, k0, k1, k2, k3, k5, l, n⟩ := hC
  have hplain : (backTo cpos (starEach [a] X.env)).any (·.1) = false := by rw [he]; rfl
  obtain ⟨mN, hmN, hni⟩ := nsOk_of n
  refine wpAny_Raise_call_subT (mN := mN) (C := C) (nm := nm) (q := q) (N := N) (bs := bs) (bm := .ref F :: veMro) (hdct := hdct) (sn := sn) (sub := sub) (ab := ab) (col := col) (dd := dd) (k0 := k0) (k1 := k1) (k2 := k2) (k3 := k3) (k5 := k5) PySem.F.excBase_ValueError (by rw [Y13, show veMro.contains (Y0u "BaseException") = true by decide +kernel, Y1Q]) (I.ok.hd hc) hplain hni ?_
  refine ld_glob I hg hm ⟨rfl, ?_⟩ hdb
  have h2 := ha cpos pins s σ H _ I h
  rw [he] at h2 ⊢
  refine Calls.evalArgs_plain (wpAny_mono h2 (λus s1 hs => ?_) λ_ _ z => z)
  obtain ⟨vs, H1, I1, r, hl, q1⟩ := hs
  exact ⟨rfl, by rw [← r.length]; exact hl, I1.kIn _ _ l, hmN _ I1.kIn, own_tail I1.kIn hF, λh' e hm => hxe pins σ H1 s1 h' e us I1 hm q1⟩
end
end L2
namespace L2
set_option genInjectivity false
open PySem PySem.Spec PyProof.Rows
noncomputable abbrev SpX := List MV → MH → QM → (Str → MH → Prop) → Prop
noncomputable def MonX (sp : SpX) : Prop := ∀ ⦃vs : List MV⦄ ⦃M : MH⦄ ⦃Q Q' : QM⦄ ⦃X X' : Str → MH → Prop⦄, (∀ v M, Q v M → Q' v M) → (∀ c M, X c M → X' c M) → sp vs M Q X → sp vs M Q' X'
noncomputable def liEx (K : Y00) (E : XK) (H : Hp) : Str → MH → Prop := λc M' => ∀ C H', Y0f K mainGlobals c = some (some (.ref C)) → Kp H H' → RH K M' H' → E (.ref C) none H'
noncomputable def liSpX (K : Y00) (sp : SpX) : Sp := λvs H Q E => ∃ ms M, RMs K H ms vs ∧ RH K M H ∧ sp ms M (Dn K H Q) (liEx K E H)
mutual
inductive IX where
  | pl (s : IS)
  | rs (c : Str) (e : IE)
  | cl (j : Nat) (e : IE) (es : IEs)
  | st (i j : Nat) (e : IE) (es : IEs)
  | rt (j : Nat) (e : IE) (es : IEs)
  | ite (c : IE) (a b : IXs)
  | for_ (t : ITg) (s : ISr) (b : IXs)
inductive IXs where | nil | cons (s : IX) (r : IXs)
end
noncomputable def Src.flat : Src → Prop
  | .dic _ _ _ => False
  | _ => True
section
variable (Φ : List (Str × SpM)) (Ψ : List (Str × SpX)) (ex : Str → MH → Prop)
mutual
noncomputable def wX : IX → EndM → Sm → MH → Prop
  | .pl s, D, σ, M => wS Φ s D σ M
  | .rs c e, _, σ, M => wE Φ e σ M λ_ M1 => ex c M1
  | .cl j e es, D, σ, M => wE Φ e σ M λv M1 => wEs Φ es σ M1 λvs M2 => ∃ f sp, Ψ[j]? = some (f, sp) ∧ sp (v :: vs) M2 (λ_ M3 => D.nx σ M3) ex
  | .st i j e es, D, σ, M => wE Φ e σ M λv M1 => wEs Φ es σ M1 λvs M2 => ∃ f sp, Ψ[j]? = some (f, sp) ∧ sp (v :: vs) M2 (λx M3 => D.nx (σ.set i (some x)) M3) ex
  | .rt j e es, D, σ, M => wE Φ e σ M λv M1 => wEs Φ es σ M1 λvs M2 => ∃ f sp, Ψ[j]? = some (f, sp) ∧ sp (v :: vs) M2 D.rt ex
  | .ite c a b, D, σ, M => wE Φ c σ M λx M1 => onB x λk => (if k = true then wXs a D σ M1 else wXs b D σ M1)
  | .for_ t s b, D, σ, M => wSr Φ s σ M λS M1 => S.flat ∧ ∃ J : Nat → Sm → MH → Prop, J 0 σ M1 ∧ (∀ i σ M, J i σ M → S.ok M) ∧
      (∀ i x σ M, S.items[i]? = some x → J i σ M → wTg t x σ λσ2 => wXs b { nx := J (i + 1), rt := D.rt, bk := D.nx, ct := J (i + 1) } σ2 M) ∧ ∀ σ M, J S.len σ M → D.nx σ M
noncomputable def wXs : IXs → EndM → Sm → MH → Prop
  | .nil, D, σ, M => D.nx σ M
  | .cons s r, D, σ, M => wX s { nx := λσ M => wXs r D σ M, rt := D.rt, bk := D.bk, ct := D.ct } σ M
end
end
section
variable {Φ : List (Str × SpM)} {Ψ : List (Str × SpX)} {ex : Str → MH → Prop}
theorem x_iteX {c : IE} {a b : IXs} {D : EndM} {σ : Sm} {M : MH} : wX Φ Ψ ex (.ite c a b) D σ M = wE Φ c σ M λx M1 => ∃ k, x = .bl k ∧ (if k = true then wXs Φ Ψ ex a D σ M1 else wXs Φ Ψ ex b D σ M1) := by rw [wX]; simp only [onB_ex]
mutual
theorem mon_x (hΦ : ∀ (j : Nat) f sp, Φ[j]? = some (f, sp) → MonW sp) (hΨ : ∀ (j : Nat) f sp, Ψ[j]? = some (f, sp) → MonX sp) : ∀ (s : IX) {ex' : Str → MH → Prop} {D D' : EndM} {σ : Sm} {M : MH}, (∀ c M, ex c M → ex' c M) → D.Le D' → wX Φ Ψ ex s D σ M → wX Φ Ψ ex' s D' σ M
  | .pl s, ex', D, D', σ, M, hx, l, h => by exact mon_s hΦ s l h
  | .rs c e, ex', D, D', σ, M, hx, l, h => by exact mon_e hΦ e (λv M1 h1 => hx _ _ h1) h
  | .cl j e es, ex', D, D', σ, M, hx, l, h => by
    exact mon_e hΦ e (λv M1 h1 => mon_es hΦ es (λvs M2 ⟨f, sp, e, h2⟩ => ⟨f, sp, e, hΨ j f sp e (λ_ _ z => l.nx _ _ z) hx h2⟩) h1) h
  | .st i j e es, ex', D, D', σ, M, hx, l, h => by
    exact mon_e hΦ e (λv M1 h1 => mon_es hΦ es (λvs M2 ⟨f, sp, e, h2⟩ => ⟨f, sp, e, hΨ j f sp e (λ_ _ z => l.nx _ _ z) hx h2⟩) h1) h
  | .rt j e es, ex', D, D', σ, M, hx, l, h => by
    exact mon_e hΦ e (λv M1 h1 => mon_es hΦ es (λvs M2 ⟨f, sp, e, h2⟩ => ⟨f, sp, e, hΨ j f sp e l.rt hx h2⟩) h1) h
  | .ite c a b, ex', D, D', σ, M, hx, l, h => by
    rw [x_iteX] at h ⊢
    exact mon_e hΦ c (λx M1 ⟨k, e, h1⟩ => ⟨k, e, mon_ite (mon_xs hΦ hΨ a hx l) (mon_xs hΦ hΨ b hx l) h1⟩) h
  | .for_ t s b, ex', D, D', σ, M, hx, l, h => by
    refine mon_sr hΦ s (λS M1 ⟨fl, J, j0, j1, j2, j3⟩ => ⟨fl, J, j0, j1, λi x σ M hi hj => ?_, λσ M hj => l.nx _ _ (j3 σ M hj)⟩) h
    exact mon_tg t (λσ2 h2 => by refine mon_xs hΦ hΨ b hx ?_ h2; exact ⟨λ_ _ z => z, l.rt, l.nx, λ_ _ z => z⟩) (j2 i x σ M hi hj)
theorem mon_xs (hΦ : ∀ (j : Nat) f sp, Φ[j]? = some (f, sp) → MonW sp) (hΨ : ∀ (j : Nat) f sp, Ψ[j]? = some (f, sp) → MonX sp) : ∀ (s : IXs) {ex' : Str → MH → Prop} {D D' : EndM} {σ : Sm} {M : MH}, (∀ c M, ex c M → ex' c M) → D.Le D' → wXs Φ Ψ ex s D σ M → wXs Φ Ψ ex' s D' σ M
  | .nil, ex', D, D', σ, M, hx, l, h => by exact l.nx _ _ h
  | .cons s r, ex', D, D', σ, M, hx, l, h => by
    refine mon_x hΦ hΨ s hx ?_ h
    exact ⟨λσ M h1 => mon_xs hΦ hΨ r hx l h1, l.rt, l.bk, l.ct⟩
end
end
noncomputable def asRaise : Stmt → Option (Str × Expr)
  | .Raise (some (.Call (.Name x _) [a] [] _)) none _ => some (x, a)
  | _ => none
theorem asRaise_of {st : Stmt} {q : Str × Expr} (h : asRaise st = some q) : ∃ np cpos pos, st = .Raise (some (.Call (.Name q.1 np) [q.2] [] cpos)) none pos := by
  unfold asRaise at h
  split at h
  · cases h; exact ⟨_, _, _, rfl⟩
  · cases h
structure GX where
  g : GI
  xf : List Str
  xc : List Str
noncomputable def chkC (G : GX) (sc : Scope) (N : List Str) (j : Nat) (e : IE) (es : IEs) (v : Expr) : Bool :=
  (asCall v).any λq => (asName q.1).any λf => (hd1 q.2.1).any λy => non0 q.2.2.1 && decide (G.xf[j]? = some f) && glB sc f && chkE G.g e sc N y.1 && chkEs G.g es sc N y.2
mutual
noncomputable def chkX (G : GX) (sc : Scope) (N : List Str) : IX → Stmt → Bool
  | .pl s, st => chkS G.g sc N s st
  | .rs c e, st => (asRaise st).any λq => decide (q.1 = c) && G.xc.contains c && glB sc c && chkE G.g e sc N q.2
  | .cl j e es, st => (asEx st).any λv => chkC G sc N j e es v
  | .st i j e es, st => (asAsg st).any λq => (the1 q.1).any λt => (asName t).any λx => decide (N[i]? = some x) && locB sc x && chkC G sc N j e es q.2
  | .rt j e es, st => (asRet st).any λo => o.any λx => chkC G sc N j e es x
  | .ite c a b, s => (asIfS s).any λq => tok c && chkE G.g c sc N q.1 && chkXs G sc N a q.2.1 && chkXs G sc N b q.2.2
  | .for_ t r b, s => (asFor s).any λq => chkTg sc N N.length true t q.1 && chkSr G.g r sc N q.2.1 && notSet q.2.1 && chkXs G sc N b q.2.2.1 && non0 q.2.2.2
noncomputable def chkXs (G : GX) (sc : Scope) (N : List Str) : IXs → List Stmt → Bool
  | .nil, l => non0 l
  | .cons s r, l => (hd1 l).any λq => chkX G sc N s q.1 && chkXs G sc N r q.2
end
theorem chkC_of {G : GX} {sc : Scope} {N : List Str} {j : Nat} {a : IE} {es : IEs} {v : Expr} (h : chkC G sc N j a es v = true) : ∃ f p x xs p2, v = .Call (.Name f p) (x :: xs) [] p2 ∧ G.xf[j]? = some f ∧ glB sc f = true ∧ chkE G.g a sc N x = true ∧ chkEs G.g es sc N xs = true := by
  replace h := any_of h
  obtain ⟨⟨f, l, ks, p2⟩, h1, h⟩ := h
  obtain rfl := asCall_of h1
  replace h := any_of h
  obtain ⟨g, h2, h⟩ := h
  obtain ⟨p, rfl⟩ := asName_of h2
  replace h := any_of h
  obtain ⟨⟨x, xs⟩, h3, h⟩ := h
  obtain rfl := hd1_of h3
  simp only [Y04] at h
  obtain ⟨⟨⟨⟨a1, a2⟩, a3⟩, a4⟩, a5⟩ := h
  obtain rfl := non0_of a1
  exact ⟨g, p, x, xs, p2, rfl, dec_of a2, a3, a4, a5⟩
section
variable {X : Cx} {E : Value → Shared → Prop}
theorem PA.nox {es : List Expr} {t : TA} (h : PA X.nox es t) : PA X es t := λpos pins s σ H Q I hw =>
  wpAny_mono (h pos pins s σ H Q (I.wish _) hw) (λ_ _ ⟨v, H', I', r, q⟩ => ⟨v, H', I'.unwish, r, q⟩) λ_ _ z => Y0g z
theorem PS.nox {st : Stmt} {t : TS} (h : PS X.nox st t) : PS X st t := λpins s σ H D I hw =>
  wpAny_mono (h pins s σ H D (I.wish _) hw) (λ_ _ q => q.unwish) λ_ _ z => Y0g z
theorem PG.nox {e : Expr} {t : TG} (h : PG X.nox e t) : PG X e t := λpins s σ H v u Q I r hw =>
  wpAny_mono (h pins s σ H v u Q (I.wish _) r hw) (λ_ _ ⟨σ', H', I', q⟩ => ⟨σ', H', I'.unwish, q⟩) λ_ _ z => Y0g z
theorem PI.nox {tg e : Expr} {t : TI} (h : PI X.nox tg e t) : PI X tg e t := λpins s σ H R I hw =>
  wpAny_mono (h pins s σ H R (I.wish _) hw) (λ_ _ q => wpAny_mono q (λ_ _ ⟨it, fp, tn, J, H', e, I', T, t0, f, r⟩ => ⟨it, fp, tn, J, H', e, I'.unwish, T, t0, f, r⟩) λ_ _ z => Y0g z) λ_ _ z => Y0g z
end
structure Xok (X : Cx) (G : GX) (Φ : List (Str × SpM)) (Ψ : List (Str × SpX)) (H₀ : Hp) (E : XK) : Prop where
  c : Cok X.nox G.g Φ
  nd : X.N.Nodup
  calm : X.calm = true
  own : PassesOwn (model X.prog X.w) X.A X.env X.xe
  pass : Passes (CX1 X.prog X.w) X E
  rais : ∀ pins σ H s h' e C vs, Inv X pins σ H s → Y2I s.heap h' e (.ref C) vs → E (.ref C) none H → X.xe (.ref e) { s with heap := h' }
  mon : ∀ (j : Nat) f sp, Ψ[j]? = some (f, sp) → MonX sp
  fnn : ∀ (j : Nat) f, G.xf[j]? = some f → ∃ sp, Ψ[j]? = some (f, sp)
  fns : ∀ (j : Nat) f sp, G.xf[j]? = some f → Ψ[j]? = some (f, sp) → ∃ k fa fd ps, Room k X.A ∧ FnOk X.prog X.w X.K X.mg X.base (CX1 X.prog X.w) k fa fd ps (liSpX X.K sp) ∧ X.mg f = some (.ref fa) ∧ Y0v X.K (.ref fa) = true ∧ Binds X.K fd ps []
  exc : ∀ c, G.xc.contains c = true → ∃ C F, X.mg c = some (.ref C) ∧ Y0f X.K mainGlobals c = some (some (.ref C)) ∧ XCls X.K F veMro ∧ XCls X.K C (.ref F :: veMro)
noncomputable def liXt (K : Y00) (H₀ : Hp) (t : EndM → Sm → MH → Prop) : TS := λD σ H => Kp H₀ H ∧ ∃ σm M, RS K H σm σ ∧ RH K M H ∧ t (liD K H D) σm M
section
variable {X : Cx} {G : GX} {Φ : List (Str × SpM)} {Ψ : List (Str × SpX)} {H₀ : Hp} {E : XK} {ex : Str → MH → Prop}
theorem sCl (x : Xok X G Φ Ψ H₀ E) (hex : ∀ c M', ex c M' → liEx X.K E H₀ c M') {j : Nat} {a : IE} {es : IEs} {v : Expr} (h : chkC G X.env.scope X.N j a es v = true) :
    PE X v (λσ H Q => Kp H₀ H ∧ ∃ σm M, RS X.K H σm σ ∧ RH X.K M H ∧ wE Φ a σm M λv M1 => wEs Φ es σm M1 λvs M2 => ∃ f sp, Ψ[j]? = some (f, sp) ∧ sp (v :: vs) M2 (Dn X.K H Q) ex) ∧ notComp v = true := by
  obtain ⟨f, p, y, ys, p2, rfl, h1, h2, h3, h4⟩ := chkC_of h
  obtain ⟨g1, g2, g3⟩ := gl_of h2
  obtain ⟨sp, hj⟩ := x.fnn j f h1
  obtain ⟨k, fa, fd, ps, hr, F, hm, hk, hb⟩ := x.fns j f sp h1 hj
  have c := x.c
  have ha : PA X (y :: ys) (tCons (liE X.K (wE Φ a)) (liA X.K (wEs Φ es))) := PA.nox (pa_cons (X := X.nox) (sE a c h3).pe (sA es c h4) (star_of h3))
  refine ⟨(pe_call (E := E) F hr g1 hm hk hb .nil x.pass ha g2 (star_of h3) (back_all (star_any (pos := p2) h4)).2).weak λσ H Q hw => ?_, rfl⟩
  obtain ⟨k0, σm, M, rs, rh, hw⟩ := hw
  refine ⟨σm, M, rs, rh, mon_e c.mon a (λv M1 q1 => ?_) hw⟩
  intro u H1 k1 r1 rh1
  refine ⟨σm, M1, rs.mono k1, rh1, mon_es c.mon es (λvs M2 ⟨f', sp', e, q2⟩ => ?_) q1⟩
  rw [hj] at e
  cases e
  intro us H2 k2 r2 rh2
  refine ⟨v :: vs, M2, ?_, rh2, x.mon j f sp hj (λm M' hq => hq.on (k1.trans k2)) (λc' M' hc C H' e' kk rr => hex c' M' hc C H' e' (k0.trans (k1.trans (k2.trans kk))) rr) q2⟩
  rw [Y0X]
  exact .cons (r1.mono k2) r2
mutual
theorem sX (x : Xok X G Φ Ψ H₀ E) (hex : ∀ c M', ex c M' → liEx X.K E H₀ c M') (hf : ∀ y, X.fn y = true) : ∀ (is : IX) {st : Stmt}, chkX G X.env.scope X.N is st = true → PS X st (liXt X.K H₀ (wX Φ Ψ ex is))
  | .pl s, st, h => by
    refine (PS.nox (sS s x.c hf h)).weak λD σ H hw => ?_
    obtain ⟨_, hw⟩ := hw
    exact hw
  | .rs c e, st, h => by
    replace h := any_of h
    obtain ⟨⟨n, a⟩, h1, h⟩ := h
    obtain ⟨np, cpos, pos, rfl⟩ := asRaise_of h1
    simp only [Y04] at h
    obtain ⟨⟨⟨a1, a2⟩, a3⟩, a4⟩ := h
    obtain rfl := dec_of a1
    obtain ⟨g1, g2, g3⟩ := gl_of a3
    obtain ⟨C, F, m1, m2, cF, cC⟩ := x.exc _ a2
    have ha : PA X [a] (tCons (liE X.K (wE Φ e)) tNil) := PA.nox (pa_cons (X := X.nox) (sE e x.c a4).pe pa_nil (star_of a4))
    refine (ps_raise (R := λH => E (.ref C) none H) cF cC x.calm g1 m1 ha (λpins σ H s h' e vs I hm q => x.rais pins σ H s h' e C vs I hm q) g2 (star_of a4)).weak λD σ H hw => ?_
    obtain ⟨k0, σm, M, rs, rh, hw⟩ := hw
    refine ⟨σm, M, rs, rh, mon_e x.c.mon e (λv M1 q1 => ?_) hw⟩
    intro u H1 k1 r1 rh1
    refine ⟨by rw [List.length_singleton]; decide, ?_⟩
    exact hex _ _ q1 C H1 m2 (k0.trans k1) rh1
  | .cl j e es, st, h => by
    replace h := any_of h
    obtain ⟨v, h1, h⟩ := h
    obtain ⟨p, rfl⟩ := asEx_of h1
    obtain ⟨hp, hn⟩ := sCl x hex h
    refine (ps_expr hp (swap_none hn)).weak λD σ H hw => ?_
    obtain ⟨k0, σm, M, rs, rh, hw⟩ := hw
    refine ⟨k0, σm, M, rs, rh, mon_e x.c.mon e (λv M1 q1 => mon_es x.c.mon es (λvs M2 ⟨f, sp, e1, q2⟩ => ⟨f, sp, e1, x.mon j f sp e1 (λm M' z => ?_) (λ_ _ z => z) q2⟩) q1) hw⟩
    intro u H1 k1 r1 rh1
    exact z _ _ k1 (rs.mono k1) rh1
  | .st i j e es, st, h => by
    replace h := any_of h
    obtain ⟨⟨ts, v⟩, h1, h⟩ := h
    obtain ⟨p, rfl⟩ := asAsg_of h1
    replace h := any_of h
    obtain ⟨t, h2, h⟩ := h
    obtain rfl := the1_of h2
    replace h := any_of h
    obtain ⟨y, h3, h⟩ := h
    obtain ⟨px, rfl⟩ := asName_of h3
    simp only [Y04] at h
    obtain ⟨⟨a1, a2⟩, a3⟩ := h
    obtain ⟨hp, hn⟩ := sCl x hex a3
    refine (ps_set x.nd (dec_of a1) (loc_of a2) hp (swap_name hn) (.inl (hf _))).weak λD σ H hw => ?_
    obtain ⟨k0, σm, M, rs, rh, hw⟩ := hw
    refine ⟨k0, σm, M, rs, rh, mon_e x.c.mon e (λv M1 q1 => mon_es x.c.mon es (λvs M2 ⟨f, sp, e1, q2⟩ => ⟨f, sp, e1, x.mon j f sp e1 (λm M' z => ?_) (λ_ _ z => z) q2⟩) q1) hw⟩
    intro u H1 k1 r1 rh1
    exact z _ _ k1 ((rs.mono k1).set r1 i) rh1
  | .rt j e es, st, h => by
    replace h := any_of h
    obtain ⟨o, h1, h⟩ := h
    obtain ⟨p, rfl⟩ := asRet_of h1
    replace h := any_of h
    obtain ⟨v, rfl, h⟩ := h
    obtain ⟨hp, hn⟩ := sCl x hex h
    refine (ps_ret hp).weak λD σ H hw => ?_
    obtain ⟨k0, σm, M, rs, rh, hw⟩ := hw
    exact ⟨k0, σm, M, rs, rh, hw⟩
  | .ite d a b, st, h => by
    replace h := any_of h
    obtain ⟨⟨t, u, v⟩, h1, h⟩ := h
    obtain ⟨p, rfl⟩ := asIfS_of h1
    simp only [Y04] at h
    obtain ⟨⟨⟨a1, a2⟩, a3⟩, a4⟩ := h
    refine (ps_if (PT.nox ((sE d x.c a2).pt a1)) (sXs x hex hf a a3) (sXs x hex hf b a4)).weak λD σ H hw => ?_
    obtain ⟨k0, σm, M, rs, rh, hw⟩ := hw
    rw [x_iteX] at hw
    refine ⟨σm, M, rs, rh, mon_e x.c.mon d (λy M1 ⟨k, e, q⟩ => ⟨k, e, λH1 k1 rh1 => ?_⟩) hw⟩
    exact mon_ite (λq => ⟨k0.trans k1, σm, M1, rs.mono k1, rh1, mon_xs x.c.mon x.mon a (λ_ _ z => z) (liD.on k1) q⟩) (λq => ⟨k0.trans k1, σm, M1, rs.mono k1, rh1, mon_xs x.c.mon x.mon b (λ_ _ z => z) (liD.on k1) q⟩) q
  | .for_ t s b, st, h => by
    replace h := any_of h
    obtain ⟨⟨tg, it, body, els⟩, h1, h⟩ := h
    obtain ⟨p, rfl⟩ := asFor_of h1
    simp only [Y04] at h
    obtain ⟨⟨⟨⟨a1, a2⟩, a3⟩, a4⟩, a5⟩ := h
    obtain rfl := non0_of a5
    refine (ps_for x.own x.calm (PI.nox (sSr s (tg := tg) x.c a2)) (PG.nox (sTg (X := X.nox) (lim := X.N.length) (all := true) x.c.calm x.c.nd (λ_ => hf) t a1)) (sXs x hex hf b a4) (fold_set a3 _)).weak λD σ H hw => ?_
    obtain ⟨k0, σm, M, rs, rh, hw⟩ := hw
    refine ⟨σm, M, rs, rh, mon_sr x.c.mon s (λS M1 ⟨fl, J, j0, j1, j2, j3⟩ => ?_) hw⟩
    intro I H1 k1 rh1 sit
    refine ⟨λi m σ' H' => m = S.len - i ∧ i ≤ S.len ∧ Kp H1 H' ∧ ∃ σm' M', RS X.K H' σm' σ' ∧ RH X.K M' H' ∧ J i σm' M', ⟨_, rfl, Y1p _, Kp.refl _, σm, M1, rs.mono k1, rh1, j0⟩, ?_⟩
    rintro i m σ2 H2 ⟨rfl, hi, k2, σm2, M2, rs2, rh2, hj⟩
    obtain ⟨goes, stops⟩ := src_turn sit k2 rh2 (j1 i σm2 M2 hj)
    by_cases hlt : i < S.len
    · obtain ⟨go, yld⟩ := goes i hlt
      refine .inr ⟨go, λσ' H' => Kp H1 H' ∧ ∃ σm' M', RS X.K H' σm' σ' ∧ RH X.K M' H' ∧ J (i + 1) σm' M', λσ' H' ⟨a, z⟩ => ⟨S.len - (i + 1), by lia, rfl, hlt, a, z⟩, λy H' yl => ?_⟩
      obtain ⟨e, m, hm, rm⟩ := yld y H' yl
      subst e
      refine tg_ok (Ψ := λ_ => True) (lim := X.N.length) (λ_ _ _ _ z => z) t a1 rm rs2 trivial (j2 i m σm2 M2 hm hj) λσm3 σ3 q rs3 _ => ?_
      refine ⟨k0.trans (k1.trans k2), σm3, M2, rs3, rh2, ?_⟩
      refine mon_xs x.c.mon x.mon b (λ_ _ z => z) ?_ q
      exact ⟨λσ' M' z σv H3 k3 rs' rh' => ⟨k2.trans k3, σ', M', rs', rh', z⟩, λv M' z => z.on (k1.trans k2), λσ' M' z σv H3 k3 => z σv H3 (k1.trans (k2.trans k3)), λσ' M' z σv H3 k3 rs' rh' => ⟨k2.trans k3, σ', M', rs', rh', z⟩⟩
    · have e : i = S.len := by lia
      subst e
      exact .inl ⟨stops _ (Y07 _), j3 σm2 M2 hj _ _ (k1.trans k2) rs2 rh2⟩
theorem sXs (x : Xok X G Φ Ψ H₀ E) (hex : ∀ c M', ex c M' → liEx X.K E H₀ c M') (hf : ∀ y, X.fn y = true) : ∀ (is : IXs) {sts : List Stmt}, chkXs G X.env.scope X.N is sts = true → PSs X sts (liXt X.K H₀ (wXs Φ Ψ ex is))
  | .nil, sts, h => by
    obtain rfl := non0_of h
    refine pss_nil.weak λD σ H hw => ?_
    obtain ⟨_, σm, M, rs, rh, hw⟩ := hw
    exact hw σ H (Kp.refl _) rs rh
  | .cons s r, sts, h => by
    replace h := any_of h
    obtain ⟨⟨y, ys⟩, h1, h⟩ := h
    obtain rfl := hd1_of h1
    rw [Y04] at h
    refine (pss_cons (sX x hex hf s h.1) (sXs x hex hf r h.2)).weak λD σ H hw => ?_
    obtain ⟨k0, σm, M, rs, rh, hw⟩ := hw
    refine ⟨k0, σm, M, rs, rh, ?_⟩
    refine mon_x x.c.mon x.mon s (λ_ _ z => z) ?_ hw
    refine ⟨λσ' M' z σv H1 k1 rs' rh' => ?_, λv M' z => z, λσ' M' z => z, λσ' M' z => z⟩
    exact ⟨k0.trans k1, σ', M', rs', rh', mon_xs x.c.mon x.mon r (λ_ _ z => z) (liD.on k1) z⟩
end
end
end L2
namespace L2
open PySem PySem.Spec PyProof.Rows
section
variable {prog : Program} {w : World} {A : Around} {E : Value → Shared → Prop} {h : Heap} {g : Array GenState} {d : Drawn} {t : Nat} {os : OsState} {a : Addr} {o : Obj}
  {nm q : Str} {C N : Addr} {bs bm : List Value} {hdct : Bool} {sn : List Str} {sub : List Value} {ab : Bool} {col : Option Bool} {dd : Option Addr} {k0 k1 k2 k3 k5 : Option Value} {newId : String}
theorem class_get_exc {R : Result → Shared → Prop} (hC : h.get? C = some (excClassObj nm q C N bs bm hdct sn sub ab col dd k0 k1 k2 k3 k5 newId)) (hb : bm.contains (.type "object") = true)
    (hx : h.get? a = some o) (hc : o.cls = .ref C) (hq : R (.ok (.ret (.ref C))) ⟨h, g, d, t, os⟩) :
    codeAny (model prog w) A (.call (.builtin "getset_descriptor.__get__") ⟨[.builtin "object.__class__", .ref a, .ref C], []⟩) R ⟨h, g, d, t, os⟩ := by
  have hT5 : (⟨h, g, d, t, os⟩ : Shared).TypeIs (.builtin "object.__class__") "getset_descriptor" := Y1D
  have hcB : (Y0a C :: bm).contains (.type (".".intercalate ("object.__class__".cutAt '.').dropLast)) = true := by
    rw [F.owner_object_class, Y13, hb]; rfl
  refine codeAny_call_builtin F.slot_gs_get.plain F.entry_gs_get (F.slot_gs_get.check _ _ _ _ _ _ _ _ hT5 (F.args_gs_get _ _ _) ?_)
  repeat (any_goals (first | assumption | (with_reducible refine wpAny_loadPart_at hx ?_; rw [hc]) | (with_reducible refine wpAny_isSubtype_exc hC ?_; rw [hcB]) | wp_step))
  refine ⟨Code.quiet_builtin _ (by decide +kernel), codeAny_builtin F.entry_object_class ?_⟩
  repeat (any_goals (first | assumption | (with_reducible refine wpAny_loadPart_at hx ?_; rw [hc]) | wp_step))
noncomputable abbrev Lk (prog : Program) (w : World) (h : Heap) (C : Addr) (n : Str) (r : Option Value) : Prop := ∀ (A : Around) (Q : Option Value → Shared → Prop) (E : Value → Shared → Prop) (g : Array GenState) (d : Drawn) (t : Nat) (os : OsState), Q r ⟨h, g, d, t, os⟩ → wpAny (model prog w) A (typeLookup (.ref C) n) Q E ⟨h, g, d, t, os⟩
theorem class_entry_exc {tk : Tok} {Q : Fin → Shared → Prop} (hC : h.get? C = some (excClassObj nm q C N bs bm hdct sn sub ab col dd k0 k1 k2 k3 k5 newId)) (hb : bm.contains (.type "object") = true)
    (l3 : Lk prog w h C "__class__" (some (.builtin "object.__class__"))) (hx : h.get? a = some o) (hc : o.cls = .ref C) (hq : Q (.done (.ret (.ref C))) ⟨h, g, d, t, os⟩) :
    wpAny (model prog w) A (Builtin.«object.__getattribute__» ⟨[.ref a, .str "__class__" tk], []⟩) Q E ⟨h, g, d, t, os⟩ := by
  have hT5 : (⟨h, g, d, t, os⟩ : Shared).TypeIs (.builtin "object.__class__") "getset_descriptor" := Y1D
  have f5 := Y1D
  have f6 := F.slot_gs_get.lookup
  have f7 := F.slot_gs_set.lookup
  repeat (any_goals (first | assumption | (with_reducible refine wpAny_loadPart_at hx ?_; rw [hc]) | with_reducible refine l3 _ _ _ _ _ _ _ ?_ | wp_step))
  refine class_get_exc hC hb hx hc ?_
  repeat (any_goals (first | assumption | wp_step))
theorem check_ga_exc {M : Model} {nameV : Value} {Q : Unit → Shared → Prop} (hC : h.get? C = some (excClassObj nm q C N bs bm hdct sn sub ab col dd k0 k1 k2 k3 k5 newId)) (hb : bm.contains (.type "BaseException") = true)
    (hx : h.get? a = some o) (hc : o.cls = .ref C) (hq : Q () ⟨h, g, d, t, os⟩) : wpAny M A (checkBuiltinCall "BaseException.__getattribute__" ⟨[.ref a, nameV], []⟩) Q E ⟨h, g, d, t, os⟩ := by
  have hk : builtinKind "BaseException.__getattribute__" = some .slot := by decide +kernel
  have hsplit : splitId "BaseException.__getattribute__" = some ("BaseException", "__getattribute__") := by decide +kernel
  have hcB : (Y0a C :: bm).contains (.type "BaseException") = true := by rw [Y13, hb]; rfl
  have ha := F.args_bexc_ga (.ref a) nameV
  simp only [checkBuiltinCall, hk, hsplit]
  refine wpAny_bind ?_
  · unfold isInstance
    repeat (first | (with_reducible refine wpAny_loadPart_at hx ?_; rw [hc]) | (with_reducible refine wpAny_isSubtype_exc hC ?_; rw [hcB]) | wp_step)
    exact hq
theorem class_attr_exc {Q : Option Value → Shared → Prop} (hC : h.get? C = some (excClassObj nm q C N bs bm hdct sn sub ab col dd k0 k1 k2 k3 k5 newId)) (hb : bm.contains (.type "BaseException") = true) (hbo : bm.contains (.type "object") = true)
    (l1 : Lk prog w h C "__getattribute__" (some (.builtin "BaseException.__getattribute__"))) (l2 : Lk prog w h C "__getattr__" none) (l3 : Lk prog w h C "__class__" (some (.builtin "object.__class__"))) (hx : h.get? a = some o) (hc : o.cls = .ref C)
    (hq : Q (some (.ref C)) ⟨h, g, d, t + 1, os⟩) : wpAny (model prog w) A (getAttr? (.ref a) "__class__") Q E ⟨h, g, d, t, os⟩ := by
  have by_ : ∀ {tk : Tok} {A : Around} {Q : Value → Shared → Prop} {E : Value → Shared → Prop} {t : Nat}, Q (.ref C) ⟨h, g, d, t, os⟩ → wpAny (model prog w) A (getAttrBy (.ref a) (.str "__class__" tk) false) Q E ⟨h, g, d, t, os⟩ := by
    intro tk A Q E t hq
    have f3 := F.attr_ValueError.ga.bind (.ref a)
    have hx0 : (false && onTheHeap (Y1E "BaseException.__getattribute__")) = false := rfl
    have hx2 : (Y1E "BaseException.__getattribute__" == Y1E "object.__getattribute__") = false := by decide +kernel
    have hx1 : (onTheHeap (Y0a C) && Y1E "BaseException.__getattribute__" == Y1E "object.__getattribute__") = false := by rw [hx2]; rfl
    repeat (any_goals (first | assumption | (with_reducible refine wpAny_loadPart_at hx ?_; rw [hc]) | with_reducible refine l1 _ _ _ _ _ _ _ ?_ | with_reducible refine l2 _ _ _ _ _ _ _ ?_ | wp_step))
    refine codeAny_call_builtin F.attr_ValueError.ga.plain F.entry_bexc_ga (check_ga_exc hC hb hx hc (class_entry_exc hC hbo l3 hx hc ?_))
    repeat (any_goals (first | assumption | wp_step))
  unfold getAttr? getAttrBy?
  repeat (any_goals (first | assumption | with_reducible apply by_ | wp_step))
end
end L2
namespace L2
open PySem PySem.Spec PyProof.Rows PySem.W PySem.Calls
noncomputable def isNotR (K : Y00) (C C' : Addr) : Bool := (clsIn K C').isSome && typeIn K (.ref C') == some (.type "type") && instIn K (.ref C') (.type "type") == some true && subIn K (.ref C) (.ref C') == some false && !(Y0a C == Y0a C')
section
variable {prog : Program} {w : World} {A : Around} {E : Value → Shared → Prop} {s : Shared} {K : Y00} {C C' a : Addr} {o : Obj}
theorem looks_obj {M : Model} {h : Heap} (hx : h.get? a = some o) (hc : o.cls = .ref C) : Looks M h (typeOf (.ref a)) (.ref C) := by
  intro A Q E s k q
  obtain ⟨hh, g, d, tt, os⟩ := s
  have hx := k _ _ hx
  repeat (first | (with_reducible refine wpAny_loadPart_at hx ?_; rw [hc]) | wp_step)
  exact q
theorem isn_nested_own {dep : Int} {tk : Tok} {Q : Fin → Shared → Prop} (X : K.In s.heap) (hx : s.heap.get? a = some o) (hc : o.cls = .ref C) (e : isNotR K C C' = true)
    (ca : ∀ {A : Around} {E : Value → Shared → Prop} {Q : Option Value → Shared → Prop}, Q (some (.ref C)) { s with toks := s.toks + 1 } → wpAny (model prog w) A (getAttr? (.ref a) "__class__") Q E s) (cC : (clsIn K C).isSome = true)
    (h : Q (.done (.ret (.bool false))) { s with toks := s.toks + 1 }) :
    wpAny (model prog w) A (Builtin.«isinstance.nested» ⟨[.ref a, .ref C', .int dep tk], []⟩) Q E s := by
  have ht := looks_obj (M := model prog w) hx hc
  obtain ⟨hh, g, d, tt, os⟩ := s
  unfold Builtin.«isinstance.nested»
  refine wpAny_bind (ht.at ?_)
  unfold isNotR at e
  simp only [Y04, Y1z] at e
  obtain ⟨⟨⟨⟨e0, e1⟩, e2⟩, e3⟩, e4⟩ := e
  rw [e4, if_neg (by simp)]
  have L1 := looks_typeIn (M := model prog w) X (beq_iff_eq.mp e1)
  have L2 := looks_instIn (M := model prog w) X (beq_iff_eq.mp e2)
  have L4 : Looks (model prog w) hh (isSubtype (.ref C) (.ref C')) false := looks_subIn X (beq_iff_eq.mp e3)
  have L3 : Looks (model prog w) hh (isInstance (.ref a) (.ref C')) false := ht.andThen L4
  refine wpAny_bind (L1.at ?_)
  rw [if_pos (by decide)]
  k_delta "plainIsInstance"
  unfold isType
  repeat lk
  unfold clsIn at e0
  split at e0
  · rename_i ho
    refine nd_load (X _ _ ho) (nd_pure (wpAny_pure ?_))
    simp only [Y2Q, Y12, if_false]
    refine wpAny_bind (L3.at ?_)
    simp only [Y12, if_false]
    refine wpAny_bind (ca ?_)
    unfold clsIn at cC
    split at cC
    · rename_i ho'
      refine wpAny_bind ?_
      refine nd_load (X _ _ ho') (nd_pure ?_)
      simp only [Y2Q, Y12, if_false]
      refine wpAny_bind (wpAny_rule ?_)
      refine L4.at ?_
      exact wpAny_pure h
    · cases cC
  · cases e0
noncomputable def xAttr (K : Y00) (C : Addr) : Bool := findIn K (.ref C) "__getattribute__" == some (some (.builtin "BaseException.__getattribute__")) && findIn K (.ref C) "__getattr__" == some none && findIn K (.ref C) "__class__" == some (some (.builtin "object.__class__"))
theorem lk_of {h : Heap} {n : Str} {r : Option Value} (X : K.In h) (e : findIn K (.ref C) n = some r) : Lk prog w h C n r := λA Q E g d t os q => (looks_findIn (M := model prog w) X e).here (s := ⟨h, g, d, t, os⟩) q
theorem class_of {bm : List Value} (X : K.In s.heap) (hC : XCls K C bm) (hA : xAttr K C = true) (hb : bm.contains (.type "BaseException") = true) (hbo : bm.contains (.type "object") = true) (hx : s.heap.get? a = some o) (hc : o.cls = .ref C) {A : Around} {E : Value → Shared → Prop} {Q : Option Value → Shared → Prop}
    (q : Q (some (.ref C)) { s with toks := s.toks + 1 }) : wpAny (model prog w) A (getAttr? (.ref a) "__class__") Q E s := by
  obtain ⟨h, g, d, t, os⟩ := s
  obtain ⟨nm, qn, N, bs, hdct, sn, sub, ab, col, dd, k0, k1, k2, k3, k5, l, n⟩ := hC
  unfold xAttr at hA
  simp only [Y04, beq_iff_eq] at hA
  obtain ⟨⟨a1, a2⟩, a3⟩ := hA
  exact class_attr_exc (X _ _ l) hb hbo (lk_of X a1) (lk_of X a2) (lk_of X a3) hx hc q
theorem call_isi_own {bm : List Value} {b : Bool} {Q : Value → Shared → Prop} (X : K.In s.heap) (hC : XCls K C bm) (hA : xAttr K C = true) (hb : bm.contains (.type "BaseException") = true) (hbo : bm.contains (.type "object") = true) (hx : s.heap.get? a = some o) (hc : o.cls = .ref C)
    (e : (if b then isIn K (.ref C) C' else isNotR K C C') = true) (q : ∀ t, Q (.bool b) { s with toks := t }) : wpAny (model prog w) A (call (.builtin "isinstance") [.ref a, .ref C']) Q E s := by
  cases b with
  | true => exact isi_call X (λM => looks_obj hx hc) e (by intro z; cases z) (q s.toks)
  | false =>
    have cC : (clsIn K C).isSome = true := by
      obtain ⟨nm, qn, N, bs, hdct, sn, sub, ab, col, dd, k0, k1, k2, k3, k5, l, n⟩ := hC
      unfold clsIn; rw [l]; rfl
    refine call_isinstance (S := λ_ R s' => s' = s ∧ R (.ok (.ret (.bool false))) { s with toks := s.toks + 1 }) (λ_ _ _ _ s' hs => ?_) ⟨rfl, q _⟩
    obtain ⟨rfl, hs⟩ := hs
    refine isinstance_outer (isn_nested_own X hx hc e (λq => ?_) cC hs) (by intro z; cases z)
    exact class_of X hC hA hb hbo hx hc q
theorem isi_ve_nested {bm : List Value} {dep : Int} {tk : Tok} {Q : Fin → Shared → Prop} (X : K.In s.heap) (hC : XCls K C bm) (hv : bm.contains (.type "ValueError") = true) (hx : s.heap.get? a = some o) (hc : o.cls = .ref C) (h : Q (.done (.ret (.bool true))) s) :
    wpAny (model prog w) A (Builtin.«isinstance.nested» ⟨[.ref a, .type "ValueError", .int dep tk], []⟩) Q E s := by
  have ht := looks_obj (M := model prog w) hx hc
  obtain ⟨hh, g, d, tt, os⟩ := s
  obtain ⟨nm, qn, N, bs, hdct, sn, sub, ab, col, dd, k0, k1, k2, k3, k5, l, n⟩ := hC
  have f1 : typeOf (.type "ValueError") = pure (.type "type") := by kernel_rfl
  have hcB : (Y0a C :: bm).contains (.type "ValueError") = true := by rw [Y13, hv]; rfl
  unfold Builtin.«isinstance.nested»
  refine wpAny_bind (ht.at ?_)
  rw [if_neg (λq => by cases beq_iff_eq.mp q), f1]
  refine wpAny_bind (wpAny_pure ?_)
  rw [if_pos (by decide)]
  k_delta "plainIsInstance"
  have hl : hh.get? C = some _ := X _ _ l
  have hx : hh.get? a = some o := hx
  repeat (any_goals (first | assumption | (with_reducible refine wpAny_loadPart_at hx ?_; rw [hc]) | (with_reducible refine wpAny_isSubtype_exc hl ?_; rw [hcB]) | wp_step))
theorem call_isi_ve {bm : List Value} {Q : Value → Shared → Prop} (X : K.In s.heap) (hC : XCls K C bm) (hv : bm.contains (.type "ValueError") = true) (hx : s.heap.get? a = some o) (hc : o.cls = .ref C) (q : Q (.bool true) s) :
    wpAny (model prog w) A (call (.builtin "isinstance") [.ref a, .type "ValueError"]) Q E s := by
  refine call_isinstance (S := λ_ R s' => s' = s ∧ R (.ok (.ret (.bool true))) s) (λ_ _ _ _ s' hs => ?_) ⟨rfl, q⟩
  obtain ⟨rfl, hs⟩ := hs
  exact isinstance_outer (isi_ve_nested X hC hv hx hc hs) (by intro z; cases z)
end
end L2
namespace L2
open PySem PySem.Spec PyProof.Rows
section
variable {M : Model} {A : Around} {E : Value → Shared → Prop} {h : Heap} {g : Array GenState} {d : Drawn} {t : Nat} {os : OsState} {e : Addr} {oe : Obj}
  {nm q : Str} {C N : Addr} {bs bm : List Value} {hdct : Bool} {sn : List Str} {sub : List Value} {ab : Bool} {col : Option Bool} {dd : Option Addr} {k0 k1 k2 k3 k5 : Option Value} {newId : String}
  {nm' q' : Str} {F N' : Addr} {bs' bm' : List Value} {hdct' : Bool} {sn' : List Str} {sub' : List Value} {ab' : Bool} {col' : Option Bool} {dd' : Option Addr} {k0' k1' k2' k3' k5' : Option Value} {newId' : String}
theorem excMatches_own {Q : Bool → Shared → Prop} (hC : h.get? C = some (excClassObj nm q C N bs bm hdct sn sub ab col dd k0 k1 k2 k3 k5 newId)) (hF : h.get? F = some (excClassObj nm' q' F N' bs' bm' hdct' sn' sub' ab' col' dd' k0' k1' k2' k3' k5' newId')) (he : h.get? e = some oe) (hcls : oe.cls = .ref C)
    (hb : bm'.contains (.type "BaseException") = true) (hs : (Y0a C :: bm).contains (.ref F) = true) (hq : Q true ⟨h, g, d, t, os⟩) : wpAny M A (excMatches (.ref e) (.ref F)) Q E ⟨h, g, d, t, os⟩ := by
  have hcB : (Y0a F :: bm').contains (.type "BaseException") = true := by rw [Y13, hb, Y1Q]
  have f := tc_notTuple
  unfold excMatches
  repeat (first | (with_reducible refine wpAny_loadPart_at he ?_; rw [hcls]) | with_reducible refine wpAny_loadPart_at hF ?_ | (with_reducible refine wpAny_isSubtype_exc hF ?_; rw [hcB]) | (with_reducible refine wpAny_isSubtype_exc hC ?_; rw [hs]) | wp_step)
  exact hq
end
noncomputable abbrev Cx.caught (X : Cx) (a : Addr) (oe : Obj) : Cx := { X with A := X.A.mark (some (.ref a)), calm := false, pn := (a, oe) :: X.pn, xe := λ_ _ => False }
section
variable {X : Cx} {pins : List (Addr × Obj)} {σ : St} {H : Hp} {s : Shared} {a : Addr} {oe : Obj}
theorem Inv.caught (I : Inv X pins σ H s) (ha : s.heap.get? a = some oe) (hn : H a = none) (hl : a ≠ X.env.locals) (hf : a ∉ X.fs) (hd : ∀ v, oe.data ≠ .cell v) : Inv (X.caught a oe) pins σ H s :=
  ⟨⟨I.ok.mod, I.ok.kind, I.ok.glob, I.ok.blt, I.ok.above, I.ok.inj, I.ok.has, I.ok.cab, λz => (by cases z), I.ok.frames, I.ok.stk, I.ok.exf, I.ok.bs, I.ok.bsz, I.ok.noex, I.ok.exfs, I.ok.funs, I.ok.frf⟩, I.os, I.bare, I.base, I.loc, I.cell, I.free, I.freeC,
    λp hp => by
      rcases Y0m.mp (show p ∈ (a, oe) :: (X.pn ++ pins) from hp) with rfl | hp
      · exact ⟨ha, hn, hl, hf, hd⟩
      · exact I.pin p hp, I.hok, I.len⟩
theorem Inv.uncaught (ok : X.Ok) (I : Inv (X.caught a oe) pins σ H s) : Inv X pins σ H s :=
  ⟨ok, I.os, I.bare, I.base, I.loc, I.cell, I.free, I.freeC, λp hp => I.pin p (Y0b _ hp), I.hok, I.len⟩
theorem Inv.pinA (I : Inv (X.caught a oe) pins σ H s) : s.heap.get? a = some oe := (I.pin (a, oe) (Y0e ..)).1
end
theorem un1 {outer : List Env} {H H' : Hp} {h0 h h' B : Heap} (u : Un (frs outer) [] H H' h0 h) (st' : B.StaysIn h') (ups : h.UpToSlots h') (ff : h.FunFrames B outer)
    (cov : ∀ b o, h0.get? b = some o → b ∉ frs outer → (H b = none → B.get? b = some o) ∧ ∃ o', B.get? b = some o') : Un (frs outer) [] H H' h0 h' := by
  have frm : ∀ b ∈ frs outer, ∃ o, h.get? b = some o ∧ ∀ vs, o.data ≠ .fields vs := λb hb => (ff.mem hb).2
  refine ⟨λb o e n hb _ => st' b o ((cov b o e hb).1 n), λb o e n hb hx => ?_, λb o e n hx => u.free b o e n hx, λb o e hx => ?_, u.tups, u.frzs, u.tbls⟩
  · obtain ⟨sl, e1⟩ := u.slot b o e n hb hx
    obtain ⟨o1, e2, nf⟩ := frm b hb
    rw [e1] at e2; cases e2
    obtain ⟨sl2, e3⟩ := ups b _ e1 nf
    exact ⟨sl2, e3⟩
  · by_cases hb : b ∈ frs outer
    · obtain ⟨o1, e2, nf⟩ := frm b hb
      obtain ⟨sl2, e3⟩ := ups b _ e2 nf
      exact ⟨_, e3⟩
    · obtain ⟨o', e'⟩ := (cov b o e hb).2
      exact ⟨o', st' b o' e'⟩
theorem hok1 {P : Program} {w : World} {H' : Hp} {h h' B : Heap} (hok : HOk P w H' h) (st : B.StaysIn h) (st' : B.StaysIn h') (own : ∀ b u, H' b = some u → ∃ o, B.get? b = some o) : HOk P w H' h' := λb u e => by
  refine (hok b u e).stay (λc v hc r => ?_) (λ_ z => z) λ_ _ z => z
  obtain ⟨o, ho⟩ : ∃ o, B.get? c = some o := by
    rcases hc with rfl | hc
    · exact own _ _ e
    · exact own _ _ hc
  have := st c o ho
  rw [r] at this; cases this
  exact st' c _ ho
theorem Inv.gone {X : Cx} {pins : List (Addr × Obj)} {σ : St} {H : Hp} {s : Shared} {ni tk : Nat} {n : Str} {v : Option Value} {m : Str → Option Value} {h' : Heap} (I : Inv X pins σ H s) (nd : X.N.Nodup) (hni : X.N[ni]? = some n)
    (hl : ∀ (i : Nat) (x : Str) (v : V), X.N[i]? = some x → σ[i]? = some (some v) → Vis X.env.scope x → ∃ u, RelV v u ∧ Look X.env s.heap m x u) (hm : s.heap.Ns X.env.locals m)
    (hn' : h'.Ns X.env.locals (λy => if y = n then v else m y)) (hs : Heap.SameBut X.env.locals s.heap h') : Inv X pins (σ.set ni none) H { s with heap := h', toks := tk } := by
  have cne := I.cne
  obtain ⟨oL, _, _, hoL, _⟩ := id hm
  have ne : ∀ b o, X.s₀.heap.get? b = some o → b ≠ X.env.locals := λb o e => Y0i (Y0k (Y08 e) I.ok.above)
  refine ⟨I.ok, I.os, I.bare, ⟨λb o e n hb hx => (hs.2 b (ne b o e)).trans (I.base.keep b o e n hb hx), λb o e n hb hx => ?_, I.base.free, λb o e hx => ?_, I.base.tups, I.base.frzs, I.base.tbls⟩, ⟨_, hn', λj y v' e1 e2 e3 => ?_⟩, λy c e => ?_, I.free, I.freeC, λp hp => ?_, λb ob e => ?_, by simpa using I.len⟩
  · obtain ⟨sl, e1⟩ := I.base.slot b o e n hb hx
    exact ⟨sl, (hs.2 b (ne b o e)).trans e1⟩
  · obtain ⟨o', e1⟩ := I.base.there b o e hx
    exact ⟨o', (hs.2 b (ne b o e)).trans e1⟩
  · by_cases hj : j = ni
    · subst hj
      rw [Y0I] at e2
      rw [if_pos rfl] at e2
      split at e2 <;> cases e2
    · rw [Y0T (Y2K hj)] at e2
      obtain ⟨u', r', q⟩ := hl j y v' e1 e2 e3
      refine ⟨u', r', ?_⟩
      rcases q with ⟨k, e⟩ | ⟨k, c, e, z⟩
      · refine .inl ⟨k, ?_⟩
        have : y ≠ n := λe => hj (nodup_ix nd e1 (e ▸ hni))
        simp [this, e]
      · exact .inr ⟨k, c, e, z.sameBut hs (cne y c e)⟩
  · obtain ⟨w', z⟩ := I.cell y c e
    exact ⟨w', z.sameBut hs (cne y c e)⟩
  · obtain ⟨e, n, ne, nf, d⟩ := I.pin p hp
    exact ⟨(hs.2 p.1 ne).trans e, n, ne, nf, d⟩
  · refine (I.hok b ob e).stay (λc w' hc q => (hs.2 c ?_).trans q) (λ_ q => q) λ_ _ q => q
    rintro rfl
    rcases hc with rfl | hc
    · rw [I.free] at e; cases e
    · rw [I.free] at hc; cases hc
section
variable {X : Cx} {pins : List (Addr × Obj)} {σ : St} {H1 : Hp} {s1 s' : Shared} {e : Value} {R : Addr → Hp → Prop} {Fn n : Str} {F : Addr} {ni : Nat} {b₀ : Stmt} {suite : List Stmt} {pos fp : Pos} {rest : List ExceptHandler} {Q : Flow → Shared → Prop}
theorem caught1 (I1 : Inv X pins σ H1 s1) (hc : CX1 X.prog X.w X.stack H1 s1 (λc _ H' => ∃ C, c = .ref C ∧ R C H') e s') (hstk : X.stack = X.env :: X.outer) (hfr : X.env.frame = some X.env.locals)
    (hF : XCls X.K F veMro) (hC : ∀ C H', R C H' → XCls X.K C (.ref F :: veMro)) (hgF : Gl X Fn) (hmF : X.mg Fn = some (.ref F)) (hdb : (Fn == ("__debug__" : Str)) = false)
    (nd : X.N.Nodup) (hni : X.N[ni]? = some n) (hln : X.env.scope.names.lookup n = some .local)
    (k : ∀ a oe C H' s6, oe.cls = .ref C → R C H' → Inv (X.caught a oe) pins (σ.set ni (some (.ref a))) H' s6 →
       wpAny (model X.prog X.w) (X.A.mark (some (.ref a))) (execs (b₀ :: suite) X.env) (λf s7 => ∃ σ' H'', Inv (X.caught a oe) pins σ' H'' s7 ∧ ∀ s8, Inv X pins (σ'.set ni none) H'' s8 → Q f s8) (λ_ _ => False) s6) :
    wpAny (model X.prog X.w) X.A (noteFrame e X.env) (λ_ s₂ => wpAny (model X.prog X.w) X.A (setFlight e none) (λ_ s₃ =>
      wpAny (model X.prog X.w) X.A (handleBy e X.env (.ExceptHandler (some (.Name Fn fp)) (some n) (b₀ :: suite) pos :: rest)) Q X.xe s₃) X.xe s₂) X.xe s' := by
  obtain ⟨a, C, t, B, H', rfl, os, bare, un, hok, fl, cov, own, C', ec, q⟩ := hc
  cases ec
  have fl0 := fl
  rw [hstk] at fl0
  have inv : ∀ (h5 : Heap) (tk : Nat), Y1C B X.stack a (.ref C) (.ref t) h5 → s'.heap.UpToSlots h5 → Inv X pins σ H' { s' with heap := h5, toks := tk } := λh5 tk f5 u5 =>
    I1.call' (s' := { s' with heap := h5, toks := tk }) os (un1 un f5.1 u5 fl.2.2.1 cov) (hok1 hok fl.1 f5.1 own) bare (λ_ z => nomatch z)
  have fresh : H' a = none := by
    cases z : H' a with
    | none => rfl
    | some u => obtain ⟨o, ho⟩ := own a u z; rw [fl.2.1] at ho; cases ho
  have fram : ∀ (h5 : Heap), Y1C B X.stack a (.ref C) (.ref t) h5 → a ∉ frs X.stack := λh5 f5 z => by
    obtain ⟨oe, vs, T, oT, ts, he, _, hd, _⟩ := f5.2.2.2
    obtain ⟨_, o, ho, nf⟩ := f5.2.2.1.mem z
    rw [he] at ho; cases ho; exact nf vs hd
  have obj : ∀ (h5 : Heap), Y1C B X.stack a (.ref C) (.ref t) h5 → ∃ oe, h5.get? a = some oe ∧ oe.cls = .ref C ∧ ∀ v, oe.data ≠ .cell v := λh5 f5 => by
    obtain ⟨oe, vs, T, oT, ts, he, hcl, hd, _⟩ := f5.2.2.2
    exact ⟨oe, he, hcl.1, λv z => by rw [hd] at z; cases z⟩
  have car : ∀ (h5 : Heap) (tk : Nat) oe, Y1C B X.stack a (.ref C) (.ref t) h5 → s'.heap.UpToSlots h5 → h5.get? a = some oe → (∀ v, oe.data ≠ .cell v) → Inv (X.caught a oe) pins σ H' { s' with heap := h5, toks := tk } := λh5 tk oe f5 u5 ho hd => by
    have na := fram h5 f5
    rw [hstk] at na
    refine (inv h5 tk f5 u5).caught ho fresh (λz => na ?_) (λz => na ?_) hd
    · unfold frs; rw [Y1c, hfr, z]; exact Y0e ..
    · unfold frs; rw [Y1c, hfr]; exact Y0b _ z
  have cC := hC C H' q
  obtain ⟨nm, qn, N, bs, hdct, sn, sub, ab, col, dd, k0, k1, k2, k3, k5, l, _⟩ := cC
  obtain ⟨nm', qn', N', bs', hdct', sn', sub', ab', col', dd', k0', k1', k2', k3', k5', l', _⟩ := hF
  refine wpAny_looks_onW (by rw [I1.ok.frames, hstk]) hfr fl0 λh4 hh4 u4 => ?_
  refine wpAny_landsW hh4 λh5 f5 u5 => ?_
  have u45 := u4.trans u5
  rw [← hstk] at f5
  obtain ⟨oe, ho, hcl, hd⟩ := obj h5 f5
  have I5 := car h5 s'.toks oe f5 u45 ho hd
  refine wpAny_handleBy_cons (codeAny_handlers_test ?_) (by intro q; cases q)
  refine ld_glob (X := X.caught a oe) I5 hgF hmF ?_ hdb
  refine excMatches_own (I5.kIn _ _ l) (I5.kIn _ _ l') ho hcl (by decide +kernel) (by simp) ?_
  refine codeAny_handlers_suite_as ?_
  refine lands_againW f5 λh6 f6 u6 => ?_
  obtain ⟨oe6, ho6, hcl6, hd6⟩ := obj h6 f6
  have I6 := car h6 s'.toks oe6 f6 (u45.trans u6) ho6 hd6
  refine store_ok (X := X.caught a oe6) (v := .ref a) (u := .ref a) I6 nd hni (.inl hln) rfl (λs7 I7 => ?_) (.inr hln)
  refine wpAny_mono (k a oe6 C H' s7 hcl6 q I7) (λf s8 ⟨σ', H'', I8, hQ⟩ => ?_) λ_ _ z => Y0g z
  have I9 : Inv X pins σ' H'' s8 := I8.uncaught I1.ok
  obtain ⟨m, hm, hl⟩ := id I9.loc
  have hcls : (X.env.scope.kind == .class || (X.env.scope.kind == .module && X.env.locals != X.env.globals)) = false := by rw [I9.ok.kind]; rfl
  refine wpAny_nameGoes_keeps hln hm hcls λh9 v hn9 hs9 => hQ _ ?_
  exact I9.gone nd hni hl hm hn9 hs9
end
end L2
namespace L2
set_option genInjectivity false
open PySem PySem.Spec PyProof.Rows
section
variable {X : Cx} {xe' : Value → Shared → Prop} {pins : List (Addr × Obj)} {σ : St} {H : Hp} {s : Shared} {k : Nat} {fa : Addr} {fd : FuncData} {ps : List Str} {sp : Sp} {x : Str} {p pos : Pos} {e : Expr} {es : List Expr} {t : TA} {Q : VK} {E : XK}
theorem call_try (I : Inv X pins σ H s) (F : FnOk X.prog X.w X.K X.mg X.base (CX1 X.prog X.w) k fa fd ps sp) (hr : Room k X.A) (hg : Gl X x) (hm : X.mg x = some (.ref fa)) (hk : Y0v X.K (.ref fa) = true) (hb : Binds X.K fd ps []) (ha : PA X.nox (e :: es) t)
    (hdb : (x == ("__debug__" : Str)) = false) (he : starEach (e :: es) X.env = (false, eval e X.env) :: starEach es X.env) (hpl : (backTo pos (starEach es X.env)).any (·.1) = false) (h : t σ H fun vs H1 => sp vs H1 Q E)
    (hx : ∀ H1 s1 e s', Inv X pins σ H1 s1 → CX1 X.prog X.w X.stack H1 s1 E e s' → xe' e s') : wpAny (model X.prog X.w) X.A (eval (.Call (.Name x p) (e :: es) [] pos) X.env) (EP X pins σ Q) xe' s := by
  refine wpAny_Call_Name_kw (ld_glob I hg hm ?_ hdb)
  refine PySem.W.callWith_K (h₀ := X.base) I.ok.mod.kin hk (wpAny_mono (ha pos pins s σ H _ (I.wish _) h) (λus s1 hq => ?_) λ_ _ z => Y0g z) he hpl
  obtain ⟨vs, H1, I1, r, q⟩ := hq
  have I1 : Inv X pins σ H1 s1 := I1.unwish
  have hl : (us ++ []).length = ps.length := by rw [Y0X, ← r.length]; exact F.len _ _ _ _ q
  have hb1 := hb s1 us I1.kIn hl
  rw [Y0X] at hb1
  refine ⟨I1.kIn, wpAny_call (codeAny_mono (F.run X.A X.stack s1 H1 ⟨us, []⟩ us vs Q E hr I1.env0 hb1 r q) λr s' hq => ?_)⟩
  cases r with
  | error e => exact hx H1 s1 e s' I1 hq
  | ok fl =>
    cases fl with
    | ret u => exact I1.after hq
    | next => exact Y0g hq
    | brk => exact Y0g hq
    | cont => exact Y0g hq
end
theorem ve_in {F : Addr} {T : Value} (h : veMro.contains T = true) : (Y0a F :: veMro).contains T = true := by rw [Y13, h, Y1Q]
section
variable {X : Cx} {a C F : Addr} {oe : Obj}
theorem call_isx (hc : oe.cls = .ref C) (hC : XCls X.K C (.ref F :: veMro)) (hA : xAttr X.K C = true) : CallR (X.caught a oe) (.builtin "isinstance") (fun vs H Q =>
    (∃ C' b, vs = [.ref a, .ref C'] ∧ (if b then Y1S X.K (.ref C) C' else isNotR X.K C C') = true ∧ Q (.bl b) H) ∨ (vs = [.ref a, .ty "ValueError"] ∧ Q (.bl true) H)) := by
  intro pins s σ H xs us Q I r h
  have ho := I.pinA
  rcases h with ⟨C', b, rfl, e, q⟩ | ⟨rfl, q⟩
  · match us, r with
    | [u1, u2], .cons h1 (.cons h2 .nil) =>
      cases h1
      cases h2
      refine call_isi_own (K := X.K) (s := s) I.kIn hC hA (ve_in (by decide +kernel)) (ve_in (by decide +kernel)) ho hc e λt => ?_
      exact ⟨.bl b, H, I.tok t, rfl, q⟩
  · match us, r with
    | [u1, u2], .cons h1 (.cons h2 .nil) =>
      cases h1
      cases h2
      exact call_isi_ve (K := X.K) (s := s) I.kIn hC (ve_in (by decide +kernel)) ho hc ⟨.bl true, H, I, rfl, q⟩
end
noncomputable def chkIs (G : GI) (sc : Scope) (n : Str) : List Str → List Expr → Bool
  | [], l => non0 l
  | c :: cs, l => (hd1 l).any λq => (asCall q.1).any λr => (asName r.1).any λf => (the2 r.2.1).any λy => (asName y.1).any λv => (asName y.2).any λw =>
      non0 r.2.2.1 && decide (f = ("isinstance" : Str)) && glB sc f && G.bl.contains f && decide (v = n) && decide (w = c) && glB sc c && chkIs G sc n cs q.2
section
variable {X : Cx} {a C F : Addr} {oe : Obj} {G : GI} {ni : Nat} {n : Str} {b : Str → Bool}
theorem pa_is (hc : oe.cls = .ref C) (hC : XCls X.K C (.ref F :: veMro)) (hA : xAttr X.K C = true) (bls : ∀ x, G.bl.contains x = true → X.mg x = none) (hni : X.N[ni]? = some n) (hln : X.env.scope.names.lookup n = some .local) (hd1 : (n == ("__debug__" : Str)) = false) (hd2 : (n == ("__classdict__" : Str)) = false) :
    ∀ (cs : List Str) (elts : List Expr), chkIs G X.env.scope n cs elts = true → (∀ c' ∈ cs, (c' = "ValueError" ∧ X.mg c' = none ∧ b c' = true) ∨ ∃ C', X.mg c' = some (.ref C') ∧ (if b c' then Y1S X.K (.ref C) C' else isNotR X.K C C') = true) →
    PA (X.caught a oe) elts (λσ H Q => σ[ni]? = some (some (.ref a)) ∧ Q (cs.map λc' => V.bl (b c')) H) ∧ (starEach elts X.env).all (λx => !x.1) = true := by
  intro cs
  induction cs with
  | nil =>
    intro elts h _
    obtain rfl := non0_of h
    exact ⟨pa_nil.weak λσ H Q hw => hw.2, rfl⟩
  | cons c' cs IH =>
    intro elts h ht
    replace h := any_of h
    obtain ⟨⟨x, xs⟩, h1, h⟩ := h
    obtain rfl := hd1_of h1
    replace h := any_of h
    obtain ⟨⟨f, l, ks, p2⟩, h2, h⟩ := h
    obtain rfl := asCall_of h2
    replace h := any_of h
    obtain ⟨f, h3, h⟩ := h
    obtain ⟨pf, rfl⟩ := asName_of h3
    replace h := any_of h
    obtain ⟨⟨y1, y2⟩, h4, h⟩ := h
    obtain rfl := the2_of h4
    replace h := any_of h
    obtain ⟨v, h5, h⟩ := h
    obtain ⟨pv1, rfl⟩ := asName_of h5
    replace h := any_of h
    obtain ⟨w, h6, h⟩ := h
    obtain ⟨pw1, rfl⟩ := asName_of h6
    simp only [Y04] at h
    obtain ⟨⟨⟨⟨⟨⟨⟨a1, a2⟩, a3⟩, a4⟩, a5⟩, a6⟩, a7⟩, a8⟩ := h
    obtain rfl := non0_of a1
    obtain rfl := dec_of a2
    obtain rfl := dec_of a5
    obtain rfl := dec_of a6
    obtain ⟨g1, g2, g3⟩ := gl_of a3
    obtain ⟨e1, e2, e3⟩ := gl_of a7
    obtain ⟨ih, is⟩ := IH xs a8 λc hc => ht c (Y0b _ hc)
    refine ⟨?_, by show (!false && (starEach xs X.env).all _) = true; rw [is]; rfl⟩
    have pv : PE (X.caught a oe) (.Name v pv1) (tVar ni) := pe_var hni (.inl hln) hd1 hd2
    have hd : PE (X.caught a oe) (.Call (.Name ("isinstance" : Str) pf) [.Name v pv1, .Name w pw1] [] p2) (fun σ H Q => σ[ni]? = some (some (.ref a)) ∧ Q (.bl (b w)) H) := by
      rcases ht w (Y0e ..) with ⟨rfl, m, hb⟩ | ⟨C', m, hb⟩
      · have pc : PE (X.caught a oe) (.Name ("ValueError" : Str) pw1) (tC (.ty "ValueError")) := fun pins s σ H Q I h => ld_blt (X := X.caught a oe) I e1 m (by decide +kernel : bootBuiltins ("ValueError" : Str) = some (.type "ValueError")) ⟨.ty "ValueError", H, I, rfl, h⟩ e3 e2
        refine (pe_callB (call_isx hc hC hA) g1 (bls _ a4) bt_isinstance (pa_cons pv (pa_cons pc pa_nil)) g3 g2).weak λσ H Q hw => ?_
        exact ⟨.ref a, hw.1, .inr ⟨rfl, hb ▸ hw.2⟩⟩
      · have pc : PE (X.caught a oe) (.Name w pw1) (tC (.ref C')) := pe_glob (X := X.caught a oe) e1 m rfl e2
        refine (pe_callB (call_isx hc hC hA) g1 (bls _ a4) bt_isinstance (pa_cons pv (pa_cons pc pa_nil)) g3 g2).weak λσ H Q hw => ?_
        exact ⟨.ref a, hw.1, .inl ⟨C', b w, rfl, hb, hw.2⟩⟩
    refine (pa_cons hd ih).weak λσ H Q hw => ?_
    exact ⟨hw.1, hw.1, hw.2⟩
end
end L2
namespace L2
set_option genInjectivity false
open PySem PySem.Spec PyProof.Rows
structure TryD where
  i : Option Nat
  j : Nat
  e : IE
  es : IEs
  ni : Nat
  k : Nat
  cs : List Str
noncomputable def asTry : Stmt → Option (Stmt × Str × Str × Stmt)
  | .Try [b] [.ExceptHandler (some (.Name F _)) (some n) [s] _] [] [] _ => some (b, F, n, s)
  | _ => none
theorem asTry_of {st : Stmt} {q : Stmt × Str × Str × Stmt} (h : asTry st = some q) : ∃ fp hp pos, st = .Try [q.1] [.ExceptHandler (some (.Name q.2.1 fp)) (some q.2.2.1) [q.2.2.2] hp] [] [] pos := by
  unfold asTry at h
  split at h
  · cases h; exact ⟨_, _, _, rfl⟩
  · cases h
noncomputable def xsub (c c' : Str) : Bool := decide (c' = "ValueError") || decide (c' = c)
noncomputable def stO (i : Option Nat) (x : MV) (σ : Sm) : Sm := match i with
  | none => σ
  | some i => σ.set i (some x)
section
variable (Φ : List (Str × SpM)) (Ψ : List (Str × SpX)) (xc : List Str)
noncomputable def wTry (D : TryD) (E : EndM) (σ : Sm) (M : MH) : Prop := wE Φ D.e σ M λv M1 => wEs Φ D.es σ M1 λvs M2 => ∃ f sp, Ψ[D.j]? = some (f, sp) ∧
  sp (v :: vs) M2 (λx M3 => E.nx (stO D.i x σ) M3) λc M3 => xc.contains c = true ∧ ∀ p, M3 p = none → E.nx ((σ.set D.k (some (.ref p))).set D.ni none) (updM M3 p (.lst (D.cs.map λc' => .bl (xsub c c'))))
inductive IT where | pl (s : IS) | tr (D : TryD)
noncomputable def wT : IT → EndM → Sm → MH → Prop
  | .pl s => wS Φ s
  | .tr D => wTry Φ Ψ xc D
noncomputable def wTs : List IT → EndM → Sm → MH → Prop
  | [], D, σ, M => D.nx σ M
  | s :: r, D, σ, M => wT Φ Ψ xc s { nx := λσ M => wTs r D σ M, rt := D.rt, bk := D.bk, ct := D.ct } σ M
end
section
variable {Φ : List (Str × SpM)} {Ψ : List (Str × SpX)} {xc : List Str}
theorem mon_t (hΦ : ∀ (j : Nat) f sp, Φ[j]? = some (f, sp) → MonW sp) (hΨ : ∀ (j : Nat) f sp, Ψ[j]? = some (f, sp) → MonX sp) (s : IT) {D D' : EndM} {σ : Sm} {M : MH} (l : D.Le D') (h : wT Φ Ψ xc s D σ M) : wT Φ Ψ xc s D' σ M := by
  cases s with
  | pl s => exact mon_s hΦ s l h
  | tr d => exact mon_e hΦ d.e (λv M1 h1 => mon_es hΦ d.es (λvs M2 ⟨f, sp, e, h2⟩ => ⟨f, sp, e, hΨ _ f sp e (λ_ _ z => l.nx _ _ z) (λc M3 ⟨z, y⟩ => ⟨z, λp hp => l.nx _ _ (y p hp)⟩) h2⟩) h1) h
theorem mon_ts (hΦ : ∀ (j : Nat) f sp, Φ[j]? = some (f, sp) → MonW sp) (hΨ : ∀ (j : Nat) f sp, Ψ[j]? = some (f, sp) → MonX sp) : ∀ (s : List IT) {D D' : EndM} {σ : Sm} {M : MH}, D.Le D' → wTs Φ Ψ xc s D σ M → wTs Φ Ψ xc s D' σ M
  | [], D, D', σ, M, l, h => by exact l.nx _ _ h
  | s :: r, D, D', σ, M, l, h => by
    refine mon_t hΦ hΨ s ?_ h
    exact ⟨λσ M h1 => mon_ts hΦ hΨ r l h1, l.rt, l.bk, l.ct⟩
end
noncomputable def chkTb (G : GX) (sc : Scope) (N : List Str) (D : TryD) (b : Stmt) : Bool := match D.i with
  | none => (asEx b).any λv => chkC G sc N D.j D.e D.es v
  | some i => (asAsg b).any λq => (the1 q.1).any λt => (asName t).any λx => decide (N[i]? = some x) && locB sc x && chkC G sc N D.j D.e D.es q.2
noncomputable def chkSu (G : GX) (sc : Scope) (N : List Str) (D : TryD) (n : Str) (s : Stmt) : Bool :=
  (asAsg s).any λq => (the1 q.1).any λt => (asName t).any λx => (asLst q.2).any λl => decide (N[D.k]? = some x) && locB sc x && chkIs G.g sc n D.cs l
noncomputable def chkTry (G : GX) (xb : Str) (sc : Scope) (N : List Str) (D : TryD) (st : Stmt) : Bool := (asTry st).any λq =>
  decide (q.2.1 = xb) && glB sc xb && decide (N[D.ni]? = some q.2.2.1) && decide (sc.names.lookup q.2.2.1 = some .local) && !(q.2.2.1 == ("__debug__" : Str)) && !(q.2.2.1 == ("__classdict__" : Str)) && !(D.k == D.ni) && decide (D.cs.length ≤ 100) &&
  D.cs.all (fun c => decide (c = "ValueError") || G.xc.contains c) && chkTb G sc N D q.1 && chkSu G sc N D q.2.2.1 q.2.2.2
noncomputable def chkT (G : GX) (xb : Str) (sc : Scope) (N : List Str) : IT → Stmt → Bool
  | .pl s, st => chkS G.g sc N s st
  | .tr D, st => chkTry G xb sc N D st
noncomputable def chkTs (G : GX) (xb : Str) (sc : Scope) (N : List Str) : List IT → List Stmt → Bool
  | [], l => non0 l
  | s :: r, l => (hd1 l).any λq => chkT G xb sc N s q.1 && chkTs G xb sc N r q.2
structure Exs (K : Y00) (mg : Str → Option Value) (xb : Str) (xc : List Str) : Prop where
  ve : mg "ValueError" = none
  bas : ∃ F, mg xb = some (.ref F) ∧ XCls K F veMro ∧ ∀ c, xc.contains c = true → ∃ C, mg c = some (.ref C) ∧ Y0f K mainGlobals c = some (some (.ref C)) ∧ XCls K C (.ref F :: veMro) ∧ xAttr K C = true ∧
    ∀ c', xc.contains c' = true → ∃ C', mg c' = some (.ref C') ∧ (if decide (c' = c) then Y1S K (.ref C) C' else isNotR K C C') = true
structure Tok (X : Cx) (G : GX) (xb : Str) (Φ : List (Str × SpM)) (Ψ : List (Str × SpX)) : Prop where
  c : Cok X.nox G.g Φ
  stk : X.stack = X.env :: X.outer
  frm : X.env.frame = some X.env.locals
  exs : Exs X.K X.mg xb G.xc
  vx : G.xc.contains "ValueError" = false
  mon : ∀ (j : Nat) f sp, Ψ[j]? = some (f, sp) → MonX sp
  fnn : ∀ (j : Nat) f, G.xf[j]? = some f → ∃ sp, Ψ[j]? = some (f, sp)
  fns : ∀ (j : Nat) f sp, G.xf[j]? = some f → Ψ[j]? = some (f, sp) → ∃ k fa fd ps, Room k X.A ∧ FnOk X.prog X.w X.K X.mg X.base (CX1 X.prog X.w) k fa fd ps (liSpX X.K sp) ∧ X.mg f = some (.ref fa) ∧ Y0v X.K (.ref fa) = true ∧ Binds X.K fd ps []
theorem RS.gone {K : Y00} {H : Hp} {σm : Sm} {σ : St} (h : RS K H σm σ) {m : MV} {v : V} (r : RM K H m v) (k ni : Nat) (w : Option V) : RS K H ((σm.set k (some m)).set ni none) (((σ.set ni w).set k (some v)).set ni none) := by
  refine ⟨by simp [h.1], λj x e => ?_⟩
  by_cases hj : ni = j
  · subst hj
    rw [Y0I, if_pos rfl] at e
    split at e <;> cases e
  · rw [Y0T hj] at e ⊢
    by_cases hk : k = j
    · subst hk
      rw [Y0I, if_pos rfl] at e
      split at e
      · rename_i hlt
        cases e
        refine ⟨v, ?_, r⟩
        rw [Y0I, if_pos rfl, if_pos (by simpa [← h.1] using hlt)]
      · cases e
    · rw [Y0T hk] at e ⊢
      rw [Y0T hj]
      exact h.2 j x e
section
variable {X : Cx} {G : GX} {xb : Str} {Φ : List (Str × SpM)} {Ψ : List (Str × SpX)}
noncomputable def Cau (X : Cx) (xc : List Str) (H : Hp) (R : Str → MH → Prop) (C : Addr) (H' : Hp) : Prop := ∃ c M3, xc.contains c = true ∧ Y0f X.K mainGlobals c = some (some (.ref C)) ∧ Kp H H' ∧ RH X.K M3 H' ∧ R c M3
theorem try_call (x : Tok X G xb Φ Ψ) {j : Nat} {a : IE} {es : IEs} {v : Expr} (h : chkC G X.env.scope X.N j a es v = true) {pins : List (Addr × Obj)} {s : Shared} {σ : St} {σm : Sm} {H : Hp} {M : MH} {Q : VK} {R : Str → MH → Prop} {xe' : Value → Shared → Prop} (I : Inv X pins σ H s) (rs : RS X.K H σm σ) (rh : RH X.K M H)
    (hw : wE Φ a σm M λv M1 => wEs Φ es σm M1 λvs M2 => ∃ f sp, Ψ[j]? = some (f, sp) ∧ sp (v :: vs) M2 (Dn X.K H Q) λc M3 => G.xc.contains c = true ∧ R c M3)
    (hx : ∀ H1 s1 e s', Inv X pins σ H1 s1 → CX1 X.prog X.w X.stack H1 s1 (λc _ H' => ∃ C, c = .ref C ∧ Cau X G.xc H R C H') e s' → xe' e s') :
    wpAny (model X.prog X.w) X.A (eval v X.env) (EP X pins σ Q) xe' s ∧ notComp v = true := by
  obtain ⟨f, p, y, ys, p2, rfl, h1, h2, h3, h4⟩ := chkC_of h
  obtain ⟨g1, g2, g3⟩ := gl_of h2
  obtain ⟨sp, hj⟩ := x.fnn j f h1
  obtain ⟨k, fa, fd, ps, hr, F, hm, hk, hb⟩ := x.fns j f sp h1 hj
  have c := x.c
  have ha : PA X.nox (y :: ys) (tCons (liE X.K (wE Φ a)) (liA X.K (wEs Φ es))) := pa_cons (X := X.nox) (sE a c h3).pe (sA es c h4) (star_of h3)
  refine ⟨call_try (E := λc _ H' => ∃ C, c = .ref C ∧ Cau X G.xc H R C H') I F hr g1 hm hk hb ha g2 (star_of h3) (back_all (star_any (pos := p2) h4)).2 ?_ hx, rfl⟩
  refine ⟨σm, M, rs, rh, mon_e c.mon a (λv M1 q1 => ?_) hw⟩
  intro u H1 k1 r1 rh1
  refine ⟨σm, M1, rs.mono k1, rh1, mon_es c.mon es (λvs M2 ⟨f', sp', e, q2⟩ => ?_) q1⟩
  rw [hj] at e
  cases e
  intro us H2 k2 r2 rh2
  refine ⟨v :: vs, M2, .cons (r1.mono k2) r2, rh2, x.mon j f sp hj (λm M' hq => hq.on (k1.trans k2)) (λc' M' hc C H' e' kk rr => ?_) q2⟩
  exact ⟨C, rfl, c', M', hc.1, e', k1.trans (k2.trans kk), rr, hc.2⟩
theorem try_suite (x : Tok X G xb Φ Ψ) {D : TryD} {F C a : Addr} {c n : Str} {oe : Obj} {st : Stmt} {pins : List (Addr × Obj)} {σ : St} {H' : Hp} {s6 : Shared} {Q : Flow → Shared → Prop} (hc : oe.cls = .ref C) (hC : XCls X.K C (.ref F :: veMro)) (hA : xAttr X.K C = true)
    (hT : ∀ c' ∈ D.cs, (c' = "ValueError" ∧ X.mg c' = none ∧ xsub c c' = true) ∨ ∃ C', X.mg c' = some (.ref C') ∧ (if xsub c c' then Y1S X.K (.ref C) C' else isNotR X.K C C') = true)
    (hni : X.N[D.ni]? = some n) (hln : X.env.scope.names.lookup n = some .local) (d1 : (n == ("__debug__" : Str)) = false) (d2 : (n == ("__classdict__" : Str)) = false) (hk : D.k ≠ D.ni) (hl : D.cs.length ≤ 100) (h : chkSu G X.env.scope X.N D n st = true) (hfn : ∀ y, X.fn y = true)
    (hlt : D.ni < σ.length) (I : Inv (X.caught a oe) pins (σ.set D.ni (some (.ref a))) H' s6)
    (hq : ∀ p, H' p = none → ∀ s8, Inv X pins (((σ.set D.ni (some (.ref a))).set D.k (some (.ref p))).set D.ni none) (upd H' p (.lst (D.cs.map λc' => V.bl (xsub c c')))) s8 → Q .next s8) :
    wpAny (model X.prog X.w) (X.A.mark (some (.ref a))) (execs [st] X.env) (λf s7 => ∃ σ' H'', Inv (X.caught a oe) pins σ' H'' s7 ∧ ∀ s8, Inv X pins (σ'.set D.ni none) H'' s8 → Q f s8) (λ_ _ => False) s6 := by
  replace h := any_of h
  obtain ⟨⟨ts, v⟩, h1, h⟩ := h
  obtain ⟨p, rfl⟩ := asAsg_of h1
  replace h := any_of h
  obtain ⟨t, h2, h⟩ := h
  obtain rfl := the1_of h2
  replace h := any_of h
  obtain ⟨y, h3, h⟩ := h
  obtain ⟨px, rfl⟩ := asName_of h3
  replace h := any_of h
  obtain ⟨l, h4, h⟩ := h
  obtain ⟨pl, rfl⟩ := asLst_of h4
  simp only [Y04] at h
  obtain ⟨⟨a1, a2⟩, a3⟩ := h
  obtain ⟨hp, _⟩ := pa_is (X := X) (a := a) (oe := oe) (b := xsub c) hc hC hA x.c.bls hni hln d1 d2 D.cs l a3 hT
  have ps := ps_set (X := X.caught a oe) (pos := p) (pos' := px) x.c.nd (dec_of a1) (loc_of a2) (pe_lst (pos := pl) hp) rfl (.inl (hfn _))
  have := pss_one ps pins s6 _ H' { nx := λσ' H'' => ∃ p, H' p = none ∧ σ' = (σ.set D.ni (some (.ref a))).set D.k (some (.ref p)) ∧ H'' = upd H' p (.lst (D.cs.map λc' => V.bl (xsub c c'))), rt := λ_ _ => False } I ⟨by rw [Y0I, if_pos rfl, if_pos hlt], by rw [Y05]; exact Y0D hl (by decide), λp hp => ⟨p, hp, rfl, rfl⟩⟩
  refine wpAny_mono this (λf s7 q => ?_) λ_ _ z => z
  cases f with
  | next =>
    obtain ⟨σ', H'', I', p, hp, rfl, rfl⟩ := q
    exact ⟨_, _, I', hq p hp⟩
  | ret u => obtain ⟨_, _, _, _, _, z⟩ := q; exact z.elim
  | brk => obtain ⟨_, _, _, z⟩ := q; exact z.elim
  | cont => obtain ⟨_, _, _, z⟩ := q; exact z.elim
end
end L2
namespace L2
set_option genInjectivity false
open PySem PySem.Spec PyProof.Rows
theorem RMs.bls {K : Y00} {H : Hp} (b : Str → Bool) : ∀ cs : List Str, RMs K H (cs.map λc => .bl (b c)) (cs.map λc => .bl (b c))
  | [] => .nil
  | _ :: cs => .cons (.bl _) (RMs.bls b cs)
section
variable {X : Cx} {G : GX} {xb : Str} {Φ : List (Str × SpM)} {Ψ : List (Str × SpX)}
theorem sTry (x : Tok X G xb Φ Ψ) (hf : ∀ y, X.fn y = true) (D : TryD) {st : Stmt} (h : chkTry G xb X.env.scope X.N D st = true) : PS X st (liSt X.K (wTry Φ Ψ G.xc D)) := by
  replace h := any_of h
  obtain ⟨⟨b, Fn, n, su⟩, h1, h⟩ := h
  obtain ⟨fp, hp, pos, rfl⟩ := asTry_of h1
  simp only [Y04, Y1z] at h
  obtain ⟨⟨⟨⟨⟨⟨⟨⟨⟨⟨a1, a2⟩, a3⟩, a4⟩, a5⟩, a6⟩, a7⟩, a8⟩, a9⟩, b1⟩, b2⟩ := h
  have e1 : Fn = xb := dec_of a1
  subst e1
  obtain ⟨g1, g2, g3⟩ := gl_of a2
  obtain ⟨F, mF, cF, cs⟩ := x.exs.bas
  intro pins s σ H E I hw
  obtain ⟨σm, M, rs, rh, hw⟩ := hw
  have hx : ∀ H1 s1 e s', Inv X pins σ H1 s1 → CX1 X.prog X.w X.stack H1 s1 (λc _ H' => ∃ C, c = .ref C ∧ Cau X G.xc H (λc M3 => ∀ p, M3 p = none → (liD X.K H E).nx ((σm.set D.k (some (.ref p))).set D.ni none) (updM M3 p (.lst (D.cs.map λc' => .bl (xsub c c'))))) C H') e s' →
      wpAny (model X.prog X.w) X.A (noteFrame e X.env) (λ_ s₂ => wpAny (model X.prog X.w) X.A (setFlight e none) (λ_ s₃ => wpAny (model X.prog X.w) X.A (handleBy e X.env [.ExceptHandler (some (.Name Fn fp)) (some n) [su] hp]) (SP X pins E) X.xe s₃) X.xe s₂) X.xe s' := by
    intro H1 s1 e s' I1 hc
    refine caught1 I1 hc x.stk x.frm cF (λC H' ⟨c, M3, hc, hn, _⟩ => ?_) g1 mF g2 x.c.nd (dec_of a3) (dec_of a4) ?_
    · obtain ⟨C', m', n', xc, _⟩ := cs c hc
      rw [hn] at n'; cases n'; exact xc
    rintro a oe C H' s6 hcls ⟨c, M3, hc, hn, kk, rr, hR⟩ I6
    obtain ⟨C', m', n', xC, xA, sub⟩ := cs c hc
    rw [hn] at n'; cases n'
    refine try_suite x hcls xC xA (c := c) (λc' hc' => ?_) (dec_of a3) (dec_of a4) a5 a6 (by simpa using a7) (dec_of a8) b2 hf ?_ I6 λp hp s8 I8 => ?_
    · have := Y1e.mp a9 c' hc'
      rw [Bool.or_eq_true] at this
      by_cases ev : c' = "ValueError"
      · subst ev
        exact .inl ⟨rfl, x.exs.ve, rfl⟩
      · rcases this with z | z
        · exact absurd (dec_of z) ev
        · obtain ⟨C', m'', q⟩ := sub c' z
          refine .inr ⟨C', m'', ?_⟩
          unfold xsub
          rw [decide_eq_false ev, Y2R]
          exact q
    · have := (Y0j.mp (dec_of a3)).1
      rw [I1.len]; exact this
    · have k2 := Kp.new hp (.lst (D.cs.map λc' => V.bl (xsub c c')))
      exact ⟨_, _, I8, hR p (rr.free hp) _ _ (kk.trans k2) (RS.gone (rs.mono (kk.trans k2)) (.ref p) _ _ _) (rr.put k2 (RMs.bls _ _))⟩
  refine wpAny_Try_except (wpAny_execs_cons ?_)
  unfold chkTb at b1
  unfold wTry stO at hw
  cases ei : D.i with
  | none =>
    rw [ei] at b1 hw
    replace b1 := any_of b1
    obtain ⟨v, h1, b1⟩ := b1
    obtain ⟨p, rfl⟩ := asEx_of h1
    obtain ⟨w1, w2⟩ := try_call (Q := λ_ H1 => E.nx σ H1) x b1 I rs rh (mon_e x.c.mon _ (λv M1 q1 => mon_es x.c.mon _ (λvs M2 ⟨f, sp, e1, q2⟩ => ⟨f, sp, e1, x.mon _ f sp e1 (λm M' z u H1 k1 r1 rh1 => z _ _ k1 (rs.mono k1) rh1) (λ_ _ z => z) q2⟩) q1) hw) hx
    refine wpAny_Expr_any (wpAny_mono w1 (λu s1 ⟨v, H1, I1, r1, q⟩ => ?_) λ_ _ z => z) I.quiet (swap_none w2)
    exact wpAny_execs_nil (wpAny_execs_nil ⟨σ, H1, I1, q⟩)
  | some i =>
    rw [ei] at b1 hw
    replace b1 := any_of b1
    obtain ⟨⟨ts, v⟩, h1, b1⟩ := b1
    obtain ⟨p, rfl⟩ := asAsg_of h1
    replace b1 := any_of b1
    obtain ⟨t, h2, b1⟩ := b1
    obtain rfl := the1_of h2
    replace b1 := any_of b1
    obtain ⟨y, h3, b1⟩ := b1
    obtain ⟨px, rfl⟩ := asName_of h3
    simp only [Y04] at b1
    obtain ⟨⟨c1, c2⟩, c3⟩ := b1
    obtain ⟨w1, w2⟩ := try_call (Q := λv H1 => E.nx (σ.set i (some v)) H1) x c3 I rs rh (mon_e x.c.mon _ (λv M1 q1 => mon_es x.c.mon _ (λvs M2 ⟨f, sp, e1, q2⟩ => ⟨f, sp, e1, x.mon _ f sp e1 (λm M' z u H1 k1 r1 rh1 => z _ _ k1 ((rs.mono k1).set r1 i) rh1) (λ_ _ z => z) q2⟩) q1) hw) hx
    refine wpAny_Assign_Name (wpAny_mono w1 (λu s1 ⟨v, H1, I1, r1, q⟩ => ?_) λ_ _ z => z) (swap_name w2)
    exact store_ok I1 x.c.nd (dec_of c1) (loc_of c2) r1 (λs2 I2 => wpAny_execs_nil (wpAny_execs_nil ⟨_, H1, I2, q⟩)) (.inl (hf _))
theorem sT (x : Tok X G xb Φ Ψ) (hf : ∀ y, X.fn y = true) (is : IT) {st : Stmt} (h : chkT G xb X.env.scope X.N is st = true) : PS X st (liSt X.K (wT Φ Ψ G.xc is)) := by
  cases is with
  | pl s => exact PS.nox (sS s x.c hf h)
  | tr d => exact sTry x hf d h
theorem sTs (x : Tok X G xb Φ Ψ) (hf : ∀ y, X.fn y = true) : ∀ (is : List IT) {sts : List Stmt}, chkTs G xb X.env.scope X.N is sts = true → PSs X sts (liSt X.K (wTs Φ Ψ G.xc is))
  | [], sts, h => by
    obtain rfl := non0_of h
    refine pss_nil.weak λD σ H hw => ?_
    obtain ⟨σm, M, rs, rh, hw⟩ := hw
    exact hw σ H (Kp.refl _) rs rh
  | s :: r, sts, h => by
    replace h := any_of h
    obtain ⟨⟨y, ys⟩, h1, h⟩ := h
    obtain rfl := hd1_of h1
    rw [Y04] at h
    refine (pss_cons (sT x hf s h.1) (sTs x hf r h.2)).weak λD σ H hw => ?_
    obtain ⟨σm, M, rs, rh, hw⟩ := hw
    refine ⟨σm, M, rs, rh, ?_⟩
    refine mon_t x.c.mon x.mon s ?_ hw
    refine ⟨λσ' M' z σv H1 k1 rs' rh' => ?_, λv M' z => z, λσ' M' z => z, λσ' M' z => z⟩
    exact ⟨σ', M', rs', rh', mon_ts x.c.mon x.mon r (liD.on k1) z⟩
end
end L2
namespace L2
set_option genInjectivity false
open PySem PySem.Spec PyProof.Rows
noncomputable def clsB (K : Y00) (C : Addr) (bm : List Value) : Bool := match K.lookup C with
  | some ⟨.type "type", _, .cls cd, sl⟩ => (match cd.mro, sl.toList with
    | .ref C' :: bm', [_, _, _, _, some (.builtin n), _] => C' == C && n == "ValueError.__new__" && !cd.hasDel && decide (bm' = bm) && nsOk K cd.ns
    | _, _ => false)
  | _ => false
theorem clsB_of {K : Y00} {C : Addr} {bm : List Value} (q : clsB K C bm = true) : XCls K C bm := by
  unfold clsB at q
  split at q
  · rename_i dd cd sl ho
    split at q
    · rename_i C' bm' k0 k1 k2 k3 n k5 hm hs
      simp only [Y04, beq_iff_eq, Y1z, decide_eq_true_eq] at q
      obtain ⟨⟨⟨⟨rfl, rfl⟩, hdel⟩, rfl⟩, hok⟩ := q
      obtain ⟨nm, bs, mro, ns, qn, hd, sn, sub, ab, col, del⟩ := cd
      dsimp only at hm hdel hok
      subst hm hdel
      have hsl : sl = #[k0, k1, k2, k3, some (.builtin "ValueError.__new__"), k5] := by
        obtain ⟨l⟩ := sl
        simp only at hs
        rw [hs]
      subst hsl
      exact ⟨_, _, _, _, _, _, _, _, _, _, _, _, _, _, _, ho, hok⟩
    · cases q
  · cases q
noncomputable def refIn (K : Y00) (c : Str) : Option Addr := match Y0f K mainGlobals c with
  | some (some (.ref C)) => some C
  | _ => none
theorem refIn_of {K : Y00} {c : Str} {C : Addr} (h : refIn K c = some C) : Y0f K mainGlobals c = some (some (.ref C)) := by
  unfold refIn at h
  split at h
  · cases h; assumption
  · cases h
noncomputable def exsB (K : Y00) (xb : Str) (xc : List Str) : Bool := (refIn K xb).any λF => clsB K F veMro && xc.all λc => (refIn K c).any λC => clsB K C (.ref F :: veMro) && xAttr K C && xc.all λc' => (refIn K c').any λC' => if decide (c' = c) then Y1S K (.ref C) C' else isNotR K C C'
theorem exs_of {K : Y00} {h : Heap} {mg : Str → Option Value} {xb : Str} {xc : List Str} (e : exsB K xb xc = true) (v : Y0f K mainGlobals "ValueError" = some none) (X : K.In h) (G : h.Ns mainGlobals mg) : Exs K mg xb xc := by
  unfold exsB at e
  obtain ⟨F, hF, e⟩ := any_of e
  rw [Y04] at e
  refine ⟨Y0w X G v, F, Y11 X G (refIn_of hF), clsB_of e.1, λc hc => ?_⟩
  obtain ⟨C, hC, q⟩ := any_of (Y1e.mp e.2 c (by simpa using hc))
  simp only [Y04] at q
  refine ⟨C, Y11 X G (refIn_of hC), refIn_of hC, clsB_of q.1.1, q.1.2, λc' hc' => ?_⟩
  obtain ⟨C', hC', q'⟩ := any_of (Y1e.mp q.2 c' (by simpa using hc'))
  exact ⟨C', Y11 X G (refIn_of hC'), q'⟩
structure FtX (P : Program) (w : World) (K : Y00) (mg : Str → Option Value) (base : Heap) (k : Nat) (xf : List Str) (Ψ : List (Str × SpX)) : Prop where
  mon : ∀ (j : Nat) f sp, Ψ[j]? = some (f, sp) → MonX sp
  fnn : ∀ (j : Nat) f, xf[j]? = some f → ∃ sp, Ψ[j]? = some (f, sp)
  fns : ∀ (j : Nat) f sp, xf[j]? = some f → Ψ[j]? = some (f, sp) → ∃ fa fd ps, FnOk P w K mg base (CX1 P w) k fa fd ps (liSpX K sp) ∧ mg f = some (.ref fa) ∧ Y0v K (.ref fa) = true ∧ Binds K fd ps []
theorem mkFtX {P : Program} {w : World} {K : Y00} {mg : Str → Option Value} {base : Heap} {k : Nat} {xf : List Str} {Ψ : List (Str × SpX)} (hf : Ψ.map (·.1) = xf) (hm : ∀ p ∈ Ψ, MonX p.2)
    (hF : ∀ p ∈ Ψ, ∃ fa fd ps, FnOk P w K mg base (CX1 P w) k fa fd ps (liSpX K p.2) ∧ mg p.1 = some (.ref fa) ∧ Y0v K (.ref fa) = true ∧ Binds K fd ps []) : FtX P w K mg base k xf Ψ where
  mon := λj f sp h => hm (f, sp) (Y0C h)
  fnn := λj f h => by
    rw [← hf, Y0d] at h
    cases e : Ψ[j]? with
    | none => rw [e] at h; cases h
    | some p => rw [e] at h; cases h; exact ⟨p.2, rfl⟩
  fns := λj f sp hj h => hF (f, sp) (Y0C h)
theorem cok_of {P : Program} {w : World} {K : Y00} {mg : Str → Option Value} {base : Heap} {G : GI} {Φ : List (Str × SpM)} {CX : CXT} {qual : Str} {sc : Scope} {f : Addr} {N ps : List Str} {k : Nat} {cdv : Value} {A : Around} {outer : List Env} {s : Shared} {H : Hp} {E : XK}
    (S : FnScope N ps sc) (T : Fts P w K mg base k G Φ) (hr : Room k (A.deeper (envOfC qual sc s.heap.objs.size f cdv))) : Cok (cxOf CX P w K mg base N qual sc f cdv A outer s H E).nox G Φ :=
  ⟨(by have := hr.un; show (A.deeper _).units + 70 < cLine; lia), rfl, rfl, (by show (if sc.kind.isAnnotationScope then Y1R else sc.kind) = .function; rw [S.kind]; rfl), S.nd, T.bls, T.gls, T.fnn, T.mon,
    (λj f sp hg hj => let ⟨fa, fd, ps, F, hm, hk, hb⟩ := T.fns j f sp hg hj; ⟨k, fa, fd, ps, hr, F, hm, hk, hb⟩),
    (λj c m h => let ⟨f, sp, hj, C, fa, fd, ps, F, hC, cl, hm, hb⟩ := T.mts j c m h; ⟨f, sp, hj, k, C, fa, fd, ps, hr, F, hC, cl, hm, hb⟩),
    (λj c h => let ⟨f, sp, hj, k', C, fa, fd, ps, hk, F, hC, hm, mk1, hb⟩ := T.mks j c h; ⟨f, sp, hj, k', C, fa, fd, ps, hr.mono hk, F, hC, hm, mk1, hb⟩), T.cls⟩
theorem Fun.okX {P : Program} {w : World} {K : Y00} {mg : Str → Option Value} {base : Heap} {G : GX} {xb : Str} {Φ : List (Str × SpM)} {Ψ : List (Str × SpX)} {x qual : Str} {st : Stmt} {f : Addr} {fd : FuncData} {N ps : List Str} {k : Nat} {sp : SpX}
    (F : Fun K x qual st f fd) (S : FnScope N ps (defScope st)) (T : Fts P w K mg base k G.g Φ) (TX : FtX P w K mg base k G.xf Ψ) (Ex : Exs K mg xb G.xc) (ir : IXs) (hc : chkXs G (defScope st) N ir (defBody st) = true)
    (len : ∀ vs M Q X, sp vs M Q X → vs.length = ps.length) (h : ∀ vs M Q X, sp vs M Q X → wXs Φ Ψ X ir { nx := λ_ M' => Q .non M', rt := Q } (startM N.length vs) M) : FnOk P w K mg base (CX1 P w) (k + 1) f fd ps (liSpX K sp) := by
  obtain ⟨oc, od, kV, doc, pm, an, cdv, ct, osl, rfl, lk, hcd⟩ := F.ex
  refine fn_of lk hcd S (λvs H Q E hs => ?_) λA outer s H vs Q E hr hsp => ?_
  · obtain ⟨ms, M, r, rh, q⟩ := hs
    rw [← r.length]; exact len _ _ _ _ q
  obtain ⟨ms, M, r, rh, q⟩ := hsp
  have x : Xok (cxOf (CX1 P w) P w K mg base N qual (defScope st) f cdv A outer s H E) G Φ Ψ H E :=
    ⟨cok_of S T hr, S.nd, rfl, own1, pass1, λpins σ H s h' e C vs I hm q => raise1 I hm q, TX.mon, TX.fnn, (λj f sp hg hj => let ⟨fa, fd, ps, F, hm, hk, hb⟩ := TX.fns j f sp hg hj; ⟨k, fa, fd, ps, hr, F, hm, hk, hb⟩),
      λc hc => let ⟨F, mF, cF, cs⟩ := Ex.bas; let ⟨C, m1, n1, xC, _⟩ := cs c hc; ⟨C, F, m1, n1, cF, xC⟩⟩
  refine ⟨_, sXs x (ex := liEx K E H) (λ_ _ z => z) (λ_ => rfl) ir hc, Kp.refl _, startM N.length ms, M, start_rs r, rh, ?_⟩
  refine mon_xs T.mon TX.mon ir (λ_ _ z => z) ?_ (h ms M _ _ q)
  exact ⟨λσ M' z σv H' k1 rs' rh' => z _ _ k1 .non rh', λv M' z => z, λ_ _ z => z.elim, λ_ _ z => z.elim⟩
theorem Fun.okT {P : Program} {w : World} {K : Y00} {mg : Str → Option Value} {base : Heap} {G : GX} {xb : Str} {Φ : List (Str × SpM)} {Ψ : List (Str × SpX)} {x qual : Str} {st : Stmt} {f : Addr} {fd : FuncData} {N ps : List Str} {k : Nat} {sp : SpM}
    (F : Fun K x qual st f fd) (S : FnScope N ps (defScope st)) (T : Fts P w K mg base k G.g Φ) (TX : FtX P w K mg base k G.xf Ψ) (Ex : Exs K mg xb G.xc) (vx : G.xc.contains "ValueError" = false) (ir : List IT) (hc : chkTs G xb (defScope st) N ir (defBody st) = true)
    (len : ∀ vs M Q, sp vs M Q → vs.length = ps.length) (h : ∀ vs M Q, sp vs M Q → wTs Φ Ψ G.xc ir { nx := λ_ M' => Q .non M', rt := Q } (startM N.length vs) M) : FnOk P w K mg base CX0 (k + 1) f fd ps (liSp K sp) := by
  refine F.ok S (λvs H Q E hs => ?_) λcdv A outer s H vs Q E hr hs => ?_
  · obtain ⟨ms, M, r, rh, q⟩ := hs
    rw [← r.length]; exact len _ _ _ q
  obtain ⟨ms, M, r, rh, q⟩ := hs
  have x : Tok (cxOf CX0 P w K mg base N qual (defScope st) f cdv A outer s H E).nox G xb Φ Ψ :=
    ⟨cok_of (CX := CX0) (E := E) S T hr, rfl, rfl, Ex, vx, TX.mon, TX.fnn, (λj f sp hg hj => let ⟨fa, fd, ps, F, hm, hk, hb⟩ := TX.fns j f sp hg hj; ⟨k, fa, fd, ps, hr, F, hm, hk, hb⟩)⟩
  refine ⟨_, sTs x (λ_ => rfl) ir hc, startM N.length ms, M, start_rs r, rh, ?_⟩
  refine mon_ts T.mon TX.mon ir ?_ (h ms M _ q)
  exact ⟨λσ M' z σv H' k1 rs' rh' => z _ _ k1 .non rh', λv M' z => z, λ_ _ z => z.elim, λ_ _ z => z.elim⟩
end L2
namespace L2
open PySem PySem.Spec PyProof.Rows
section
variable {Φ : List (Str × SpM)} {Ψ : List (Str × SpX)} {ex : Str → MH → Prop} {xc : List Str} {D : EndM} {σ : Sm} {M : MH}
theorem x_nil : wXs Φ Ψ ex .nil D σ M = D.nx σ M := rfl
theorem x_cons {s : IX} {r : IXs} : wXs Φ Ψ ex (.cons s r) D σ M = wX Φ Ψ ex s { nx := λσ M => wXs Φ Ψ ex r D σ M, rt := D.rt, bk := D.bk, ct := D.ct } σ M := rfl
theorem x_pl {s : IS} : wX Φ Ψ ex (.pl s) D σ M = wS Φ s D σ M := rfl
theorem x_rs {c : Str} {e : IE} : wX Φ Ψ ex (.rs c e) D σ M = wE Φ e σ M λ_ M1 => ex c M1 := rfl
theorem x_cl {j : Nat} {e : IE} {es : IEs} : wX Φ Ψ ex (.cl j e es) D σ M = wE Φ e σ M λv M1 => wEs Φ es σ M1 λvs M2 => ∃ f sp, Ψ[j]? = some (f, sp) ∧ sp (v :: vs) M2 (λ_ M3 => D.nx σ M3) ex := rfl
theorem x_st {i j : Nat} {e : IE} {es : IEs} : wX Φ Ψ ex (.st i j e es) D σ M = wE Φ e σ M λv M1 => wEs Φ es σ M1 λvs M2 => ∃ f sp, Ψ[j]? = some (f, sp) ∧ sp (v :: vs) M2 (λx M3 => D.nx (σ.set i (some x)) M3) ex := rfl
theorem x_rt {j : Nat} {e : IE} {es : IEs} : wX Φ Ψ ex (.rt j e es) D σ M = wE Φ e σ M λv M1 => wEs Φ es σ M1 λvs M2 => ∃ f sp, Ψ[j]? = some (f, sp) ∧ sp (v :: vs) M2 D.rt ex := rfl
theorem x_for {t : ITg} {s : ISr} {b : IXs} : wX Φ Ψ ex (.for_ t s b) D σ M = wSr Φ s σ M λS M1 => S.flat ∧ ∃ J : Nat → Sm → MH → Prop, J 0 σ M1 ∧ (∀ i σ M, J i σ M → S.ok M) ∧
      (∀ i x σ M, S.items[i]? = some x → J i σ M → wTg t x σ λσ2 => wXs Φ Ψ ex b { nx := J (i + 1), rt := D.rt, bk := D.nx, ct := J (i + 1) } σ2 M) ∧ ∀ σ M, J S.len σ M → D.nx σ M := rfl
theorem t_nil : wTs Φ Ψ xc [] D σ M = D.nx σ M := rfl
theorem t_cons {s : IT} {r : List IT} : wTs Φ Ψ xc (s :: r) D σ M = wT Φ Ψ xc s { nx := λσ M => wTs Φ Ψ xc r D σ M, rt := D.rt, bk := D.bk, ct := D.ct } σ M := rfl
theorem t_pl {s : IS} : wT Φ Ψ xc (.pl s) D σ M = wS Φ s D σ M := rfl
theorem t_tr {i : Option Nat} {j ni k : Nat} {e : IE} {es : IEs} {cs : List Str} : wT Φ Ψ xc (.tr ⟨i, j, e, es, ni, k, cs⟩) D σ M = wE Φ e σ M λv M1 => wEs Φ es σ M1 λvs M2 => ∃ f sp, Ψ[j]? = some (f, sp) ∧
  sp (v :: vs) M2 (λx M3 => D.nx (stO i x σ) M3) λc M3 => xc.contains c = true ∧ ∀ p, M3 p = none → D.nx ((σ.set k (some (.ref p))).set ni none) (updM M3 p (.lst (cs.map λc' => .bl (xsub c c')))) := rfl
theorem ex_callX {a : Str} {b : SpX} {R : SpX → Prop} : (∃ f sp, (a = f ∧ b = sp) ∧ R sp) ↔ R b := ⟨λ⟨_, _, ⟨_, e⟩, h⟩ => e ▸ h, λh => ⟨a, b, ⟨rfl, rfl⟩, h⟩⟩
theorem sto0 {x : MV} : stO none x σ = σ := rfl
theorem sto1 {i : Nat} {x : MV} : stO (some i) x σ = σ.set i (some x) := rfl
theorem xsubE {c c' : Str} : xsub c c' = (decide (c' = "ValueError") || decide (c' = c)) := rfl
end
end L2
namespace My
open PySem L2
noncomputable abbrev XB : Str := "FerryError"
noncomputable abbrev XC : List Str := ["NoCode", "NoFerry", "NoName", "NoStep", "NoText", "NoWidth", "NoWord", "TooMany", "Twice", "Unknown"]
noncomputable def top (i : Nat) : Stmt := PySem.Challenge.pw_bellferry_k06_no_code.main.body.getD i (.Pass ⟨0, 0, 0, 0⟩)
noncomputable abbrev s_is_whole : Stmt := top 13
noncomputable abbrev s_two_to : Stmt := top 14
noncomputable abbrev s_fits : Stmt := top 15
noncomputable abbrev s_amid : Stmt := top 16
noncomputable abbrev s_refuse_no_code : Stmt := top 21
noncomputable abbrev s_tear : Stmt := top 22
noncomputable abbrev s__law_stream : Stmt := top 24
noncomputable abbrev s__law_drawn : Stmt := top 25
noncomputable abbrev s__law_put : Stmt := top 26
noncomputable abbrev s__law_answer : Stmt := top 27
noncomputable abbrev s_law : Stmt := top 28
set_option genInjectivity false in
set_option genSizeOf false in
structure Adr where
  f_is_whole : Addr
  d_is_whole : FuncData
  f_two_to : Addr
  d_two_to : FuncData
  f_fits : Addr
  d_fits : FuncData
  f_amid : Addr
  d_amid : FuncData
  f_refuse_no_code : Addr
  d_refuse_no_code : FuncData
  f_tear : Addr
  d_tear : FuncData
  f__law_stream : Addr
  d__law_stream : FuncData
  f__law_drawn : Addr
  d__law_drawn : FuncData
  f__law_put : Addr
  d__law_put : FuncData
  f__law_answer : Addr
  d__law_answer : FuncData
  f_law : Addr
  d_law : FuncData
structure Txt (K : Y00) (mg : Str → Option Value) (t : Adr) : Prop where
  q_is_whole : FnT K mg "is_whole" ["value"] s_is_whole t.f_is_whole t.d_is_whole
  q_two_to : FnT K mg "two_to" ["exponent"] s_two_to t.f_two_to t.d_two_to
  q_fits : FnT K mg "fits" ["width", "number"] s_fits t.f_fits t.d_fits
  q_amid : FnT K mg "amid" ["old", "new", "choice"] s_amid t.f_amid t.d_amid
  q_refuse_no_code : FnT K mg "refuse_no_code" ["code"] s_refuse_no_code t.f_refuse_no_code t.d_refuse_no_code
  q_tear : FnT K mg "tear" ["code"] s_tear t.f_tear t.d_tear
  q__law_stream : FnT K mg "_law_stream" ["cell", "many"] s__law_stream t.f__law_stream t.d__law_stream
  q__law_drawn : FnT K mg "_law_drawn" ["cell", "many"] s__law_drawn t.f__law_drawn t.d__law_drawn
  q__law_put : FnT K mg "_law_put" ["code", "at", "word"] s__law_put t.f__law_put t.d__law_put
  q__law_answer : FnT K mg "_law_answer" ["code"] s__law_answer t.f__law_answer t.d__law_answer
  q_law : FnT K mg "law" ["script"] s_law t.f_law t.d_law
  z_ValueError : mg "ValueError" = none
  z_bool : mg "bool" = none
  z_int : mg "int" = none
  z_isinstance : mg "isinstance" = none
  z_len : mg "len" = none
  z_list : mg "list" = none
  z_range : mg "range" = none
  z_set : mg "set" = none
  z_tuple : mg "tuple" = none
  c_CODE_WIDTH : ∃ tk, mg "CODE_WIDTH" = some (.int 16 tk)
  c_FEWEST_WORDS : ∃ tk, mg "FEWEST_WORDS" = some (.int 2 tk)
  c_MOST_WORDS : ∃ tk, mg "MOST_WORDS" = some (.int 64 tk)
  ex : Exs K mg XB XC
theorem sc_is_whole : FnScope ["value"] ["value"] (defScope s_is_whole) := ⟨rfl, rfl, rfl, by decide +kernel, rfl, by decide +kernel, by decide +kernel⟩
theorem sc_two_to : FnScope ["exponent", "answer", "k"] ["exponent"] (defScope s_two_to) := ⟨rfl, rfl, rfl, by decide +kernel, rfl, by decide +kernel, by decide +kernel⟩
theorem sc_fits : FnScope ["width", "number"] ["width", "number"] (defScope s_fits) := ⟨rfl, rfl, rfl, by decide +kernel, rfl, by decide +kernel, by decide +kernel⟩
theorem sc_amid : FnScope ["old", "new", "choice"] ["old", "new", "choice"] (defScope s_amid) := ⟨rfl, rfl, rfl, by decide +kernel, rfl, by decide +kernel, by decide +kernel⟩
theorem sc_refuse_no_code : FnScope ["code", "word"] ["code"] (defScope s_refuse_no_code) := ⟨rfl, rfl, rfl, by decide +kernel, rfl, by decide +kernel, by decide +kernel⟩
theorem sc_tear : FnScope ["code", "k", "old", "new", "unlike", "others"] ["code"] (defScope s_tear) := ⟨rfl, rfl, rfl, by decide +kernel, rfl, by decide +kernel, by decide +kernel⟩
theorem sc__law_stream : FnScope ["cell", "many", "found", "number", "k"] ["cell", "many"] (defScope s__law_stream) := ⟨rfl, rfl, rfl, by decide +kernel, rfl, by decide +kernel, by decide +kernel⟩
theorem sc__law_drawn : FnScope ["cell", "many", "code", "number", "word"] ["cell", "many"] (defScope s__law_drawn) := ⟨rfl, rfl, rfl, by decide +kernel, rfl, by decide +kernel, by decide +kernel⟩
theorem sc__law_put : FnScope ["code", "at", "word"] ["code", "at", "word"] (defScope s__law_put) := ⟨rfl, rfl, rfl, by decide +kernel, rfl, by decide +kernel, by decide +kernel⟩
theorem sc__law_answer : FnScope ["code", "found", "kin", "e"] ["code"] (defScope s__law_answer) := ⟨rfl, rfl, rfl, by decide +kernel, rfl, by decide +kernel, by decide +kernel⟩
theorem sc_law : FnScope ["script", "cells", "cell", "numbers", "code", "good", "far", "handed", "found", "kin"] ["script"] (defScope s_law) := ⟨rfl, rfl, rfl, by decide +kernel, rfl, by decide +kernel, by decide +kernel⟩
noncomputable def GB : List Str := ["ValueError", "bool", "int", "isinstance", "len", "list", "range", "set", "tuple"]
noncomputable def GL : List (Str × Int) := [("CODE_WIDTH", 16), ("FEWEST_WORDS", 2), ("MOST_WORDS", 64)]
theorem gb_of {K : Y00} {mg : Str → Option Value} {t : Adr} (T : Txt K mg t) : ∀ x ∈ GB, mg x = none := (Y03.2 ⟨T.z_ValueError, (Y03.2 ⟨T.z_bool, (Y03.2 ⟨T.z_int, (Y03.2 ⟨T.z_isinstance, (Y03.2 ⟨T.z_len, (Y03.2 ⟨T.z_list, (Y03.2 ⟨T.z_range, (Y03.2 ⟨T.z_set, (Y03.2 ⟨T.z_tuple, (λ_ h => nomatch h)⟩)⟩)⟩)⟩)⟩)⟩)⟩)⟩)⟩)
theorem gl_of' {K : Y00} {mg : Str → Option Value} {t : Adr} (T : Txt K mg t) : ∀ p ∈ GL, ∃ tk, mg p.1 = some (.int p.2 tk) := (Y03.2 ⟨T.c_CODE_WIDTH, (Y03.2 ⟨T.c_FEWEST_WORDS, (Y03.2 ⟨T.c_MOST_WORDS, (λ_ h => nomatch h)⟩)⟩)⟩)
noncomputable def iis_whole_0 : ISs := .cons (.ret (.and (.bi .isinst (.var 0) (.cons (.ty .int) .nil)) (.not (.bi .isinst (.var 0) (.cons (.ty .bool) .nil))))) .nil
noncomputable abbrev ir_is_whole : ISs := iis_whole_0
noncomputable def G_is_whole : GI := { bl := GB, gl := GL, fns := [] }
theorem ck_is_whole : chkSs G_is_whole (defScope s_is_whole) ["value"] ir_is_whole (defBody s_is_whole) = true := by decide +kernel
noncomputable def itwo_to_3 : ISs := .cons (.ret (.var 1)) .nil
noncomputable def itwo_to_2 : ISs := .cons (.set 1 (.bin .Mult (.var 1) (.int 2))) .nil
noncomputable def itwo_to_1 : ISs := .cons (.for_ (.nm 2) (.rng (.var 0)) itwo_to_2) itwo_to_3
noncomputable def itwo_to_0 : ISs := .cons (.set 1 (.int 1)) itwo_to_1
noncomputable abbrev ir_two_to : ISs := itwo_to_0
noncomputable def G_two_to : GI := { bl := GB, gl := GL, fns := [] }
theorem ck_two_to : chkSs G_two_to (defScope s_two_to) ["exponent", "answer", "k"] ir_two_to (defBody s_two_to) = true := by decide +kernel
noncomputable def ifits_0 : ISs := .cons (.ret (.and (.call 0 (.var 1) .nil) (.chn .LtE .Lt (.int 0) (.var 1) (.call 1 (.var 0) .nil)))) .nil
noncomputable abbrev ir_fits : ISs := ifits_0
noncomputable def G_fits : GI := { bl := GB, gl := GL, fns := ["is_whole", "two_to"] }
theorem ck_fits : chkSs G_fits (defScope s_fits) ["width", "number"] ir_fits (defBody s_fits) = true := by decide +kernel
noncomputable def iamid_0 : ISs := .cons (.ret (.bin .BitXor (.var 0) (.bin .BitAnd (.bin .BitXor (.var 0) (.var 1)) (.var 2)))) .nil
noncomputable abbrev ir_amid : ISs := iamid_0
noncomputable def G_amid : GI := { bl := GB, gl := GL, fns := [] }
theorem ck_amid : chkSs G_amid (defScope s_amid) ["old", "new", "choice"] ir_amid (defBody s_amid) = true := by decide +kernel
noncomputable def irefuse_no_code_6 : IXs := .cons (.rs "NoCode" (.str "no two words of a code are alike")) .nil
noncomputable def irefuse_no_code_5 : IXs := .cons (.ite (.cmp .NotEq (.b2 .lset (.var 0)) (.bi .len (.var 0) .nil)) irefuse_no_code_6 .nil) .nil
noncomputable def irefuse_no_code_4 : IXs := .cons (.rs "NoCode" (.str "each word of a code has the width 16")) .nil
noncomputable def irefuse_no_code_3 : IXs := .cons (.ite (.not (.call 0 (.glb "CODE_WIDTH" 16) (.cons (.var 1) .nil))) irefuse_no_code_4 .nil) .nil
noncomputable def irefuse_no_code_2 : IXs := .cons (.for_ (.nm 1) (.seq (.var 0)) irefuse_no_code_3) irefuse_no_code_5
noncomputable def irefuse_no_code_1 : IXs := .cons (.rs "NoCode" (.str "a code has 2 to 64 words")) .nil
noncomputable def irefuse_no_code_0 : IXs := .cons (.ite (.not (.chn .LtE .LtE (.glb "FEWEST_WORDS" 2) (.bi .len (.var 0) .nil) (.glb "MOST_WORDS" 64))) irefuse_no_code_1 .nil) irefuse_no_code_2
noncomputable abbrev ir_refuse_no_code : IXs := irefuse_no_code_0
noncomputable def G_refuse_no_code : GI := { bl := GB, gl := GL, fns := ["fits"] }
noncomputable def H_refuse_no_code : GX := { g := G_refuse_no_code, xf := [], xc := XC }
theorem ck_refuse_no_code : chkXs H_refuse_no_code (defScope s_refuse_no_code) ["code", "word"] ir_refuse_no_code (defBody s_refuse_no_code) = true := by decide +kernel
noncomputable def itear_8 : IXs := .cons (.pl (.ret .non)) .nil
noncomputable def itear_7 : ISs := .cons (.ret (.tup (.cons (.var 1) (.cons (.call 0 (.var 2) (.cons (.var 3) (.cons (.bin .Sub (.var 4) (.var 5)) .nil))) .nil)))) .nil
noncomputable def itear_6 : ISs := .cons (.ite (.cmp .NotEq (.var 5) (.int 0)) itear_7 .nil) .nil
noncomputable def itear_5 : ISs := .cons (.set 5 (.bin .BitAnd (.var 4) (.bin .Sub (.var 4) (.int 1)))) itear_6
noncomputable def itear_4 : ISs := .cons (.set 4 (.bin .BitXor (.var 2) (.var 3))) itear_5
noncomputable def itear_3 : ISs := .cons (.set 3 (.ix (.var 0) (.bin .Mod (.bin .Add (.var 1) (.int 1)) (.bi .len (.var 0) .nil)))) itear_4
noncomputable def itear_2 : ISs := .cons (.set 2 (.ix (.var 0) (.var 1))) itear_3
noncomputable def itear_1 : IXs := .cons (.pl (.for_ (.nm 1) (.rng (.bi .len (.var 0) .nil)) itear_2)) itear_8
noncomputable def itear_0 : IXs := .cons (.cl 0 (.var 0) .nil) itear_1
noncomputable abbrev ir_tear : IXs := itear_0
noncomputable def G_tear : GI := { bl := GB, gl := GL, fns := ["amid"] }
noncomputable def H_tear : GX := { g := G_tear, xf := ["refuse_no_code"], xc := XC }
theorem ck_tear : chkXs H_tear (defScope s_tear) ["code", "k", "old", "new", "unlike", "others"] ir_tear (defBody s_tear) = true := by decide +kernel
noncomputable def i_law_stream_5 : ISs := .cons (.ret (.sl (.var 2) (.some (.int 3)) .none)) .nil
noncomputable def i_law_stream_4 : ISs := .cons (.expr (.mt .append (.var 2) (.cons (.var 3) .nil))) .nil
noncomputable def i_law_stream_3 : ISs := .cons (.set 3 (.bin .Mod (.bin .Add (.bin .Add (.bin .Add (.bin .Mult (.var 3) (.var 3)) (.bin .Mult (.int 48271) (.var 3))) (.var 4)) (.int 1)) (.int 2305843009213693951))) i_law_stream_4
noncomputable def i_law_stream_2 : ISs := .cons (.for_ (.nm 4) (.rng (.bin .Add (.var 1) (.int 3))) i_law_stream_3) i_law_stream_5
noncomputable def i_law_stream_1 : ISs := .cons (.set 3 (.bin .Mod (.var 0) (.int 2305843009213693951))) i_law_stream_2
noncomputable def i_law_stream_0 : ISs := .cons (.set 2 (.lst .nil)) i_law_stream_1
noncomputable abbrev ir__law_stream : ISs := i_law_stream_0
noncomputable def G__law_stream : GI := { bl := GB, gl := GL, fns := [] }
theorem ck__law_stream : chkSs G__law_stream (defScope s__law_stream) ["cell", "many", "found", "number", "k"] ir__law_stream (defBody s__law_stream) = true := by decide +kernel
noncomputable def i_law_drawn_6 : ISs := .cons (.ret (.var 2)) .nil
noncomputable def i_law_drawn_5 : ISs := .cons (.expr (.mt .append (.var 2) (.cons (.var 4) .nil))) .nil
noncomputable def i_law_drawn_4 : ISs := .cons (.set 4 (.bin .Mod (.bin .Add (.var 4) (.int 1)) (.int 65536))) .nil
noncomputable def i_law_drawn_3 : ISs := .cons (.while_ (.cmp .In (.var 4) (.var 2)) i_law_drawn_4) i_law_drawn_5
noncomputable def i_law_drawn_2 : ISs := .cons (.set 4 (.bin .Mod (.var 3) (.int 65536))) i_law_drawn_3
noncomputable def i_law_drawn_1 : ISs := .cons (.for_ (.nm 3) (.seq (.call 0 (.var 0) (.cons (.var 1) .nil))) i_law_drawn_2) i_law_drawn_6
noncomputable def i_law_drawn_0 : ISs := .cons (.set 2 (.lst .nil)) i_law_drawn_1
noncomputable abbrev ir__law_drawn : ISs := i_law_drawn_0
noncomputable def G__law_drawn : GI := { bl := GB, gl := GL, fns := ["_law_stream"] }
theorem ck__law_drawn : chkSs G__law_drawn (defScope s__law_drawn) ["cell", "many", "code", "number", "word"] ir__law_drawn (defBody s__law_drawn) = true := by decide +kernel
noncomputable def i_law_put_1 : ISs := .cons (.ret (.bin .Add (.bin .Add (.sl (.var 0) .none (.some (.var 1))) (.lst (.cons (.var 2) .nil))) (.sl (.var 0) (.some (.var 1)) .none))) .nil
noncomputable def i_law_put_0 : ISs := .cons (.set 1 (.bin .Mod (.var 1) (.bin .Add (.bi .len (.var 0) .nil) (.int 1)))) i_law_put_1
noncomputable abbrev ir__law_put : ISs := i_law_put_0
noncomputable def G__law_put : GI := { bl := GB, gl := GL, fns := [] }
theorem ck__law_put : chkSs G__law_put (defScope s__law_put) ["code", "at", "word"] ir__law_put (defBody s__law_put) = true := by decide +kernel
noncomputable abbrev ir__law_answer : List IT := [.pl (.set 1 .non), .pl (.set 2 (.lst .nil)), .tr ⟨(some 1), 0, (.var 0), .nil, 3, 2, ["ValueError", "NoCode", "NoFerry", "NoName", "NoStep", "NoText", "NoWidth", "NoWord", "TooMany", "Twice", "Unknown"]⟩, .pl (.ret (.tup (.cons (.var 1) (.cons (.var 2) .nil))))]
noncomputable def G__law_answer : GI := { bl := GB, gl := GL, fns := [] }
noncomputable def H__law_answer : GX := { g := G__law_answer, xf := ["tear"], xc := XC }
theorem ck__law_answer : chkTs H__law_answer XB (defScope s__law_answer) ["code", "found", "kin", "e"] ir__law_answer (defBody s__law_answer) = true := by decide +kernel
noncomputable def ilaw_23 : ISs := .cons (.ret (.bl true)) .nil
noncomputable def ilaw_22 : ISs := .cons (.ret (.bl false)) .nil
noncomputable def ilaw_21 : ISs := .cons (.ite (.and (.not (.var 5)) (.cmp .NotEq (.var 9) (.bin .Add (.lst (.cons (.bl true) (.cons (.bl true) .nil))) (.bin .Mult (.lst (.cons (.bl false) .nil)) (.int 9))))) ilaw_22 .nil) .nil
noncomputable def ilaw_20 : ISs := .cons (.ret (.bl false)) .nil
noncomputable def ilaw_19 : ISs := .cons (.ite (.and (.var 5) (.or (.cmp .NotEq (.var 9) (.lst .nil)) (.and (.cmp .IsNot (.var 8) .non) (.not (.bi .isinst (.var 8) (.cons (.ty .tuple) .nil)))))) ilaw_20 .nil) ilaw_21
noncomputable def ilaw_18 : ISs := .cons (.ret (.bl false)) .nil
noncomputable def ilaw_17 : ISs := .cons (.ite (.cmp .NotEq (.var 7) (.var 4)) ilaw_18 .nil) ilaw_19
noncomputable def ilaw_16 : ISs := .cons (.asg (.cons (.nm 8) (.cons (.nm 9) .nil)) (.call 0 (.var 7) .nil)) ilaw_17
noncomputable def ilaw_15 : ISs := .cons (.set 7 (.bi .list (.var 4) .nil)) ilaw_16
noncomputable def ilaw_14 : ISs := .cons (.set 5 (.and (.var 5) (.cmp .Gt (.bi .len (.var 4) .nil) (.int 1)))) ilaw_15
noncomputable def ilaw_13 : ISs := .cons (.set 4 (.call 2 (.var 4) (.cons (.ix (.var 3) (.int 0)) (.cons (.ix (.lst (.cons (.bin .Sub (.neg (.int 1)) (.var 6)) (.cons (.bin .Add (.int 65536) (.var 6)) .nil))) (.bin .Mod (.ix (.var 3) (.int 2)) (.int 2))) .nil)))) .nil
noncomputable def ilaw_12 : ISs := .cons (.set 6 (.ix (.lst (.cons (.int 0) (.cons (.bin .Mod (.ix (.var 3) (.int 1)) (.int 1000)) (.cons (.bin .Mult (.bin .Mod (.ix (.var 3) (.int 1)) (.int 1000)) (.bin .Pow (.int 10) (.int 50))) .nil)))) (.bin .Mod (.bin .FloorDiv (.ix (.var 3) (.int 1)) (.int 1000)) (.int 3)))) ilaw_13
noncomputable def ilaw_11 : ISs := .cons (.set 5 (.bl false)) ilaw_12
noncomputable def ilaw_10 : ISs := .cons (.ite (.cmp .Eq (.bin .Mod (.var 2) (.int 4)) (.int 2)) ilaw_11 .nil) ilaw_14
noncomputable def ilaw_9 : ISs := .cons (.set 4 (.call 2 (.var 4) (.cons (.ix (.var 3) (.int 0)) (.cons (.ix (.var 4) (.bin .Mod (.ix (.var 3) (.int 1)) (.bi .len (.var 4) .nil))) .nil)))) .nil
noncomputable def ilaw_8 : ISs := .cons (.set 5 (.bl false)) ilaw_9
noncomputable def ilaw_7 : ISs := .cons (.ite (.and (.cmp .Eq (.bin .Mod (.var 2) (.int 4)) (.int 1)) (.cmp .Gt (.bi .len (.var 4) .nil) (.int 0))) ilaw_8 .nil) ilaw_10
noncomputable def ilaw_6 : ISs := .cons (.set 5 (.cmp .Lt (.bi .len (.var 4) .nil) (.int 65))) ilaw_7
noncomputable def ilaw_5 : ISs := .cons (.set 4 (.call 1 (.bin .FloorDiv (.var 2) (.int 32)) (.cons (.ix (.lst (.cons (.bin .Mod (.bin .FloorDiv (.var 2) (.int 4)) (.int 8)) (.cons (.bin .Add (.int 60) (.bin .Mod (.bin .FloorDiv (.var 2) (.int 4)) (.int 8))) (.cons (.bin .Add (.int 2) (.bin .Mod (.ix (.var 3) (.int 3)) (.int 69))) .nil)))) (.bin .Mod (.var 2) (.int 3))) .nil))) ilaw_6
noncomputable def ilaw_4 : ISs := .cons (.set 3 (.call 3 (.bin .FloorDiv (.var 2) (.int 32)) (.cons (.int 4) .nil))) ilaw_5
noncomputable def ilaw_3 : ISs := .cons (.for_ (.nm 2) (.seq (.var 1)) ilaw_4) ilaw_23
noncomputable def ilaw_2 : ISs := .cons (.set 1 (.lst (.cons (.int 0) .nil))) .nil
noncomputable def ilaw_1 : ISs := .cons (.ite (.cmp .Eq (.var 1) (.lst .nil)) ilaw_2 .nil) ilaw_3
noncomputable def ilaw_0 : ISs := .cons (.set 1 (.sl (.var 0) .none (.some (.int 30)))) ilaw_1
noncomputable abbrev ir_law : ISs := ilaw_0
noncomputable def G_law : GI := { bl := GB, gl := GL, fns := ["_law_answer", "_law_drawn", "_law_put", "_law_stream"] }
theorem ck_law : chkSs G_law (defScope s_law) ["script", "cells", "cell", "numbers", "code", "good", "far", "handed", "found", "kin"] ir_law (defBody s_law) = true := by decide +kernel
theorem szl : sizeLine = 16777216 := by decide
theorem na10 : Int.natAbs 10 = 10 := rfl
theorem na1 : Int.natAbs 1 = 1 := rfl
theorem na2 : Int.natAbs 2 = 2 := rfl
theorem at0 {α : Type} {x : α} {xs : List α} : atI (x :: xs) 0 = some x := by unfold atI ixN; simp
theorem at1 {α : Type} {x y : α} {xs : List α} : atI (x :: y :: xs) 1 = some y := atI_nat (j := 1) (by rfl)
theorem at2 {α : Type} {x y z : α} {xs : List α} : atI (x :: y :: z :: xs) 2 = some z := atI_nat (j := 2) (by rfl)
theorem at3 {α : Type} {x y z u : α} {xs : List α} : atI (x :: y :: z :: u :: xs) 3 = some u := atI_nat (j := 3) (by rfl)
theorem strEq {a b : String} : (Y0V a = Y0V b) ↔ a = b := by
  constructor
  · intro h
    rw [Str.ofString_eq_toList, Str.ofString_eq_toList] at h
    have h1 : a.toList.map Y2W = b.toList.map Y2W := by
      have := congrArg (λs : Str => s.cps.toList) h
      simpa using this
    have inj : ∀ (xs ys : List Char), xs.map Y2W = ys.map Y2W → xs = ys := by
      intro xs
      induction xs with
      | nil =>
        intro ys e
        cases ys with
        | nil => rfl
        | cons _ _ => cases e
      | cons x r ih =>
        intro ys e
        cases ys with
        | nil => cases e
        | cons y s =>
          rw [Y0l, Y0l] at e
          injection e with e1 e2
          rw [ih s e2, Char.toNat_inj.mp e1]
    exact String.toList_inj.mp (inj _ _ h1)
  · intro h; rw [h]
theorem ite_i {c A B : Prop} [Decidable c] (h1 : c → A) (h2 : ¬ c → B) : if c then A else B := by
  split
  · exact h1 ‹_›
  · exact h2 ‹_›
theorem isN0 : isNon .non = true := rfl
theorem isN1 {b : Bool} : isNon (.bl b) = false := rfl
theorem isN2 {b : Int} : isNon (.int b) = false := rfl
theorem isN3 {b : Str} : isNon (.str b) = false := rfl
theorem isN4 {b : List MV} : isNon (.tup b) = false := rfl
theorem isN5 {b : Addr} : isNon (.ref b) = false := rfl
theorem isN6 {b : List MV} : isNon (.frl b) = false := rfl
theorem isB0 {c : Bool} : isBl c .non = false := rfl
theorem isB1 {b c : Bool} : isBl c (.bl b) = decide (b = c) := rfl
theorem isB2 {c : Bool} {b : Int} : isBl c (.int b) = false := rfl
theorem isB3 {c : Bool} {b : Str} : isBl c (.str b) = false := rfl
theorem isB4 {c : Bool} {b : List MV} : isBl c (.tup b) = false := rfl
theorem isB5 {c : Bool} {b : Addr} : isBl c (.ref b) = false := rfl
local macro_rules | `(tactic| walk_at "s") => `(tactic| simp only [seval, x_nil, x_cons, x_pl, x_rs, x_cl, x_st, x_rt, x_iteX, x_for, t_nil, t_cons, t_pl, t_tr, ex_callX, sto0, sto1, xsubE, List.map_cons, List.map_nil, szl, na10, na1, na2, Nat.zero_add, Nat.reduceAdd, Nat.zero_le, at0, at1, at2, at3, strEq, updM_same, s_nil, s_cons, s_pass, s_brk, s_cnt, s_never, s_ret, s_retN, s_set, s_asg, s_expr, s_ite, s_for, s_while, v_s, b_0, f_s, e_var, e_int, e_str, e_bl, e_non, e_glb, e_ty, e_bin, e_neg, e_not, e_cmp, e_chn, e_and, e_or, e_tup, e_lst, e_ix, e_sl, e_call, e_bi, e_b2, e_mt, ps_nil, ps_cons, es_nil, es_cons, o_none, o_some, i_none, i_some, q_tg1, q_tgc, q_tgn, isN0, isN1, isN2, isN3, isN4, isN5, isN6, isTy, q_add, q_sub, q_mul, q_fdiv, q_mod, q_pow, q_and, q_xor, q_adds, q_muls, q_addt, q_mult, q_addl, q_lt, q_le, q_gt, q_eqi, q_nei, q_eqs, q_nes, q_eqb, q_neb, q_isnot, isB0, isB1, isB2, isB3, isB4, isB5, q_mulr, q_isoi2, q_th5, q_ot5, q_eqr, q_ner, q_eqt, q_net, q_in, q_ixr, q_ixol, q_slr, q_slol, q_slf, q_slt, q_sls, q_lent, q_lenf, q_lens, q_lenr, q_lenol, q_lenod, q_isi, q_isoi, q_tyi, q_tyb, q_tys, q_tyn, q_tyt, q_tyol, q_tyod, q_listt, q_listf, q_listr, q_tupt, q_tupr, q_app, q_apol, q_okl1, q_addf, q_seq, q_srr, q_srol, q_srod, q_th1, q_th2, q_th3, q_th4, q_ot1, q_ot2, q_ot3, q_ot4, q_rng, q_rgi, q_rng2, q_rng3, q_th6, q_ot6, q_inti, q_intb, CDivB, CMul, CPow, List.getElem?_cons_zero, List.getElem?_cons_succ, Option.some.injEq,
  MV.int.injEq, MV.str.injEq, MV.bl.injEq, MV.tup.injEq, MV.frl.injEq, MV.ref.injEq, MV.ty.injEq, MO.lst.injEq, MO.dic.injEq, MO.ins.injEq, Prod.mk.injEq, exists_eq_left', exists_eq_left, exists_eq_right, exists_eq_right', exists_and_left, exists_eq, exists_const, true_and, and_true, false_and, and_false, true_or, or_true, false_or, or_false, reduceCtorEq, ne_eq, not_false_eq_true, not_true_eq_false,
  List.set_cons_zero, List.set_cons_succ, decide_eq_true_eq, Bool.not_eq_true', decide_eq_false_iff_not, if_true, if_false, Bool.false_eq_true, ite_true, ite_false, reduceIte, List.length_cons, List.length_nil, and_self, String.reduceEq, String.reduceNe, Int.reduceLT, Int.reduceLE, Int.reducePow, Int.reduceNeg, Int.reduceToNat, Int.reduceSub, Int.reduceAdd, Int.reduceMul, Nat.reduceLT, Nat.reducePow, Nat.reduceLeDiff])
theorem ex_mono {α : Sort _} {p q : α → Prop} (h : ∀ a, p a → q a) : (∃ a, p a) → ∃ a, q a := λ⟨a, x⟩ => ⟨a, h a x⟩
theorem and_mono {a b c : Prop} (h : b → c) : a ∧ b → a ∧ c := λx => ⟨x.1, h x.2⟩
theorem and_mono2 {a b c d : Prop} (h : a → c) (g : b → d) : a ∧ b → c ∧ d := λx => ⟨h x.1, g x.2⟩
theorem or_mono {a b c d : Prop} (h : a → c) (g : b → d) : a ∨ b → c ∨ d := λx => x.elim (λy => .inl (h y)) λy => .inr (g y)
theorem all_mono {α : Sort _} {p q : α → Prop} (h : ∀ a, p a → q a) : (∀ a, p a) → ∀ a, q a := λx a => h a (x a)
local macro_rules | `(tactic| walk_at "m") => `(tactic| (intro vs M Q Q' hq; repeat (first | exact hq _ _ | exact id | refine ex_mono fun _ => ?_ | refine and_mono ?_ | refine and_mono2 ?_ ?_ | refine all_mono fun _ => ?_ | refine or_mono ?_ ?_)))
noncomputable def SameM (M M' : MH) : Prop := ∀ a o, M a = some o → M' a = some o
theorem SameM.trans {M M1 M2 : MH} (a : SameM M M1) (b : SameM M1 M2) : SameM M M2 := λc o h => b c o (a c o h)
theorem neM {M : MH} {a p : Addr} {o : MO} (h : M a = some o) (hp : M p = none) : a ≠ p := by intro e; subst e; rw [h] at hp; cases hp
theorem SameM.new {M : MH} {p : Addr} (h : M p = none) (o : MO) : SameM M (updM M p o) := λa u e => by rw [updM_ne (neM e h)]; exact e
theorem SameM.free {M M' : MH} (s : SameM M M') {p : Addr} (h : M' p = none) : M p = none := by
  cases e : M p with
  | none => rfl
  | some o => rw [s _ _ e] at h; cases h
theorem SameM.upd {M M' : MH} (s : SameM M M') {p : Addr} (h : M p = none) (o : MO) : SameM M (updM M' p o) := λa u e => by rw [updM_ne (neM e h)]; exact s a u e
theorem rng_item {lo : Int} {n i : Nat} {x : MV} (h : (Src.rng lo n).items[i]? = some x) : i < n ∧ x = .int (lo + (i : Nat)) := by
  have hi := (Y0j.mp h).1
  rw [Src.items_len] at hi
  refine ⟨hi, ?_⟩
  have h' : ((Y0z n).map λi => MV.int (lo + (i : Nat)))[i]? = some x := h
  rw [Y0d, Y0h (by simpa using (show i < n from hi))] at h'
  simpa using h'.symm
theorem map_item {α : Type} {f : α → MV} {xs : List α} {i : Nat} {x : MV} (h : (xs.map f)[i]? = some x) : ∃ hi : i < xs.length, x = f xs[i] := by
  have hi := (Y0j.mp h).1
  rw [Y05] at hi
  refine ⟨hi, ?_⟩
  rw [Y0d, Y0h hi] at h
  exact (Y0x h).symm
theorem mkMon {Φ : List (Str × SpM)} (hm : ∀ p ∈ Φ, MonW p.2) : ∀ (j : Nat) f sp, Φ[j]? = some (f, sp) → MonW sp := λj f sp h => hm (f, sp) (Y0C h)
theorem cutM_upto0 (xs : List MV) (k : Nat) : cutM xs none (some (k : Int)) = xs.take k := by
  unfold cutM
  rw [HT.sIx_none, HT.sIx_nat]
  simp
theorem cutM_from0 (xs : List MV) (k : Nat) : cutM xs (some (k : Int)) none = xs.drop k := by
  unfold cutM
  rw [HT.sIx_none, HT.sIx_nat]
  by_cases h : k ≤ xs.length
  · rw [Nat.min_eq_left h, Y2i (by rw [Y0R]; exact Y07 _)]
  · rw [Nat.min_eq_right (by lia), Y2j (Y07 _), Y2j (by lia)]
    simp
section
variable {P : Program} {w : World} {K : Y00} {mg : Str → Option Value} {base : Heap} {t : Adr}
noncomputable abbrev sp_two_to : SpM := λvs M Q => ∃ k : Nat, vs = [.int k] ∧ k ≤ 64 ∧ Q (.int (2 ^ k)) M
theorem mon_sp_two_to : MonW sp_two_to := by walk_at "m"
theorem ok_two_to (T : Txt K mg t) : FnOk P w K mg base CX0 1 t.f_two_to t.d_two_to ["exponent"] (liSp K sp_two_to) := by
  refine T.q_two_to.F.okM sc_two_to (mkFts (Φ := []) (gb_of T) (gl_of' T) rfl (λ_ h => nomatch h) (λ_ h => nomatch h) : Fts P w K mg base 0 G_two_to []) ir_two_to ck_two_to (λvs M Q h => ?_) (λvs M Q h => ?_)
  · obtain ⟨k, rfl, _⟩ := h; rfl
  obtain ⟨k, rfl, hk, q⟩ := h
  show wSs _ _ _ [some (.int k), none, none] M
  rw [ir_two_to, itwo_to_0]
  walk_at "s"
  rw [itwo_to_1]
  walk_at "s"
  refine ⟨by lia, by lia, λi σ M' => M' = M ∧ ∃ v, σ = [some (.int k), some (.int (2 ^ i)), v], ⟨rfl, _, rfl⟩, λ_ _ _ _ => trivial, ?_, ?_⟩
  · rintro i x σ M' hx ⟨rfl, v, rfl⟩
    obtain ⟨hi, rfl⟩ := rng_item hx
    rw [itwo_to_2]
    walk_at "s"
    exact ⟨_, by rw [Int.pow_succ]⟩
  · rintro σ M' ⟨rfl, v, rfl⟩
    rw [itwo_to_3]
    walk_at "s"
    exact q
noncomputable abbrev sp_is_whole : SpM := λvs M Q => ∃ i : Int, vs = [.int i] ∧ Q (.bl true) M
theorem mon_sp_is_whole : MonW sp_is_whole := by walk_at "m"
theorem ok_is_whole (T : Txt K mg t) : FnOk P w K mg base CX0 1 t.f_is_whole t.d_is_whole ["value"] (liSp K sp_is_whole) := by
  refine T.q_is_whole.F.okM sc_is_whole (mkFts (Φ := []) (gb_of T) (gl_of' T) rfl (λ_ h => nomatch h) (λ_ h => nomatch h) : Fts P w K mg base 0 G_is_whole []) ir_is_whole ck_is_whole (λvs M Q h => ?_) (λvs M Q h => ?_)
  · obtain ⟨i, rfl, _⟩ := h; rfl
  obtain ⟨i, rfl, q⟩ := h
  show wSs _ _ _ [some (.int i)] M
  rw [ir_is_whole, iis_whole_0]
  walk_at "s"
  simpa using q
noncomputable abbrev sp_fits : SpM := λvs M Q => ∃ (k : Nat) (i : Int), vs = [.int k, .int i] ∧ k ≤ 64 ∧ Q (.bl (decide (0 ≤ i ∧ i < 2 ^ k))) M
theorem mon_sp_fits : MonW sp_fits := by walk_at "m"
theorem ok_fits (T : Txt K mg t) : FnOk P w K mg base CX0 2 t.f_fits t.d_fits ["width", "number"] (liSp K sp_fits) := by
  refine T.q_fits.F.okM sc_fits (mkFts (Φ := [("is_whole", sp_is_whole), ("two_to", sp_two_to)]) (gb_of T) (gl_of' T) rfl (Y03.2 ⟨mon_sp_is_whole, (Y03.2 ⟨mon_sp_two_to, (fun _ h => nomatch h)⟩)⟩) (Y03.2 ⟨⟨_, _, _, (FnOk.mono (ok_is_whole T) (by decide)), T.q_is_whole.m, T.q_is_whole.F.kp, T.q_is_whole.b⟩, (Y03.2 ⟨⟨_, _, _, (FnOk.mono (ok_two_to T) (by decide)), T.q_two_to.m, T.q_two_to.F.kp, T.q_two_to.b⟩, (fun _ h => nomatch h)⟩)⟩) : Fts P w K mg base 1 G_fits [("is_whole", sp_is_whole), ("two_to", sp_two_to)]) ir_fits ck_fits (fun vs M Q h => ?_) (fun vs M Q h => ?_)
  · obtain ⟨k, i, rfl, _⟩ := h; rfl
  obtain ⟨k, i, rfl, h1, q⟩ := h
  show wSs _ _ _ [some (.int k), some (.int i)] M
  rw [ir_fits, ifits_0]
  walk_at "s"
  refine ⟨i, rfl, ?_⟩
  walk_at "s"
  by_cases h2 : 0 ≤ i
  · rw [if_pos h2]
    refine ⟨k, rfl, h1, ?_⟩
    walk_at "s"
    simp only [h2, true_and] at q
    exact q
  · rw [if_neg h2]
    simp only [h2, false_and, decide_false] at q
    exact q
noncomputable def natI (c : Nat) : MV := .int c
structure GoodI (xs : List Int) : Prop where
  lo : 2 ≤ xs.length
  hi : xs.length ≤ 64
  lt : ∀ c ∈ xs, 0 ≤ c ∧ c < 65536
  nd : xs.Nodup
noncomputable abbrev sp_refuse_no_code : SpX := fun vs M Q X => ∃ (p : Addr) (xs : List Int), vs = [.ref p] ∧ M p = some (.lst (xs.map .int)) ∧ xs.length ≤ 100 ∧ (GoodI xs → Q .non M) ∧ (¬ GoodI xs → X "NoCode" M)
theorem mon_sp_refuse_no_code : MonX sp_refuse_no_code := by
  rintro vs M Q Q' X X' hq hx ⟨p, xs, e, h, l, a, b⟩
  exact ⟨p, xs, e, h, l, λg => hq _ _ (a g), λg => hx _ _ (b g)⟩
theorem ok_refuse_no_code (T : Txt K mg t) : FnOk P w K mg base (CX1 P w) 3 t.f_refuse_no_code t.d_refuse_no_code ["code"] (liSpX K sp_refuse_no_code) := by
  refine T.q_refuse_no_code.F.okX (G := H_refuse_no_code) sc_refuse_no_code (mkFts (Φ := [("fits", sp_fits)]) (gb_of T) (gl_of' T) rfl (Y03.2 ⟨mon_sp_fits, (fun _ h => nomatch h)⟩) (Y03.2 ⟨⟨_, _, _, (FnOk.mono (ok_fits T) (by decide)), T.q_fits.m, T.q_fits.F.kp, T.q_fits.b⟩, (fun _ h => nomatch h)⟩) : Fts P w K mg base 2 G_refuse_no_code [("fits", sp_fits)]) (mkFtX (Ψ := []) rfl (fun _ h => nomatch h) (fun _ h => nomatch h) : FtX P w K mg base 2 [] []) T.ex ir_refuse_no_code ck_refuse_no_code (fun vs M Q X h => ?_) (fun vs M Q X h => ?_)
  · obtain ⟨p, xs, rfl, _⟩ := h; rfl
  obtain ⟨p, xs, rfl, hp, hl, q1, q2⟩ := h
  show wXs _ _ _ _ _ [some (.ref p), none] M
  rw [ir_refuse_no_code, irefuse_no_code_0]
  repeat (first | walk_at "s" | simp only [hp, Y05])
  refine ite_i (λc1 => ite_i (λc2 => ?_) (λc2 => ?_)) (λc1 => ?_)
  · rw [irefuse_no_code_1]
    walk_at "s"
    exact q2 λg => c2 (by have := g.hi; omega)
  · rw [irefuse_no_code_2]
    repeat (first | walk_at "s" | simp only [hp])
    refine ⟨trivial, ?_⟩
    obtain ⟨J, hJ⟩ : ∃ J : Nat → Sm → MH → Prop, ∀ j σ M', J j σ M' ↔ M' = M ∧ (∀ i (h : i < xs.length), i < j → 0 ≤ xs[i] ∧ xs[i] < 65536) ∧ ∃ v, σ = [some (.ref p), v] := ⟨_, λ_ _ _ => Y2Z⟩
    refine ⟨J, (hJ _ _ _).mpr ⟨rfl, λi h z => by omega, _, rfl⟩, λj σ M' h => by rw [((hJ _ _ _).mp h).1]; exact hp, ?_, ?_⟩
    · rintro j y σ M' hy h
      obtain ⟨rfl, hs, v, rfl⟩ := (hJ _ _ _).mp h
      obtain ⟨hj, rfl⟩ := map_item (show (xs.map MV.int)[j]? = some y from hy)
      rw [irefuse_no_code_3]
      walk_at "s"
      refine ⟨16, xs[j], rfl, by decide, ?_⟩
      walk_at "s"
      refine ite_i (λc => ?_) (λc => ?_)
      · rw [irefuse_no_code_4]
        walk_at "s"
        exact q2 λg => c (g.lt _ (Y29 hj))
      · refine (hJ _ _ _).mpr ⟨rfl, λi hi hlt => ?_, _, rfl⟩
        rcases Nat.lt_succ_iff_lt_or_eq.mp hlt with z | z
        · exact hs i hi z
        · subst z
          exact Classical.not_not.mp c
    · rintro σ M' h
      obtain ⟨rfl, hs, v, rfl⟩ := (hJ _ _ _).mp h
      have el : (Src.lst p (xs.map MV.int)).len = xs.length := Y05 _
      rw [irefuse_no_code_5]
      walk_at "s"
      rw [el] at hs
      refine ⟨p, xs, rfl, hp, Nat.lt_of_le_of_lt (show xs.length + 1 ≤ 101 by omega) (by decide +kernel), λk hk _ => ?_⟩
      repeat (first | walk_at "s" | simp only [hp, Y05])
      refine ite_i (λc => ?_) (λc => ?_)
      · rw [irefuse_no_code_6]
        walk_at "s"
        exact q2 λg => c (by rw [hk.mpr g.nd])
      · refine q1 ⟨by omega, by omega, λc hc => ?_, hk.mp (by omega)⟩
        obtain ⟨i, hi, rfl⟩ := List.getElem_of_mem hc
        exact hs i hi hi
  · rw [irefuse_no_code_1]
    walk_at "s"
    exact q2 λg => c1 (by have := g.lo; omega)
noncomputable abbrev sp_amid : SpM := λvs M Q => ∃ (o n c : Int), vs = [.int o, .int n, .int c] ∧ ∀ r : Int, Q (.int r) M
theorem mon_sp_amid : MonW sp_amid := by walk_at "m"
theorem ok_amid (T : Txt K mg t) : FnOk P w K mg base CX0 1 t.f_amid t.d_amid ["old", "new", "choice"] (liSp K sp_amid) := by
  refine T.q_amid.F.okM sc_amid (mkFts (Φ := []) (gb_of T) (gl_of' T) rfl (λ_ h => nomatch h) (λ_ h => nomatch h) : Fts P w K mg base 0 G_amid []) ir_amid ck_amid (λvs M Q h => ?_) (λvs M Q h => ?_)
  · obtain ⟨o, n, c, rfl, _⟩ := h; rfl
  obtain ⟨o, n, c, rfl, q⟩ := h
  show wSs _ _ _ [some (.int o), some (.int n), some (.int c)] M
  rw [ir_amid, iamid_0]
  walk_at "s"
  exact q _
noncomputable abbrev sp_tear : SpX := fun vs M Q X => ∃ (p : Addr) (xs : List Int), vs = [.ref p] ∧ M p = some (.lst (xs.map .int)) ∧ xs.length ≤ 100 ∧ (GoodI xs → Q .non M ∧ ∀ a b : Int, Q (.tup [.int a, .int b]) M) ∧ (¬ GoodI xs → X "NoCode" M)
theorem mon_sp_tear : MonX sp_tear := by
  rintro vs M Q Q' X X' hq hx ⟨p, xs, e, h, l, a, b⟩
  exact ⟨p, xs, e, h, l, λg => ⟨hq _ _ (a g).1, λy z => hq _ _ ((a g).2 y z)⟩, λg => hx _ _ (b g)⟩
theorem ok_tear (T : Txt K mg t) : FnOk P w K mg base (CX1 P w) 4 t.f_tear t.d_tear ["code"] (liSpX K sp_tear) := by
  refine T.q_tear.F.okX (G := H_tear) sc_tear (mkFts (Φ := [("amid", sp_amid)]) (gb_of T) (gl_of' T) rfl (Y03.2 ⟨mon_sp_amid, (fun _ h => nomatch h)⟩) (Y03.2 ⟨⟨_, _, _, (FnOk.mono (ok_amid T) (by decide)), T.q_amid.m, T.q_amid.F.kp, T.q_amid.b⟩, (fun _ h => nomatch h)⟩) : Fts P w K mg base 3 G_tear [("amid", sp_amid)]) (mkFtX (Ψ := [("refuse_no_code", sp_refuse_no_code)]) rfl (Y03.2 ⟨mon_sp_refuse_no_code, (fun _ h => nomatch h)⟩) (Y03.2 ⟨⟨_, _, _, (FnOk.mono (ok_refuse_no_code T) (by decide)), T.q_refuse_no_code.m, T.q_refuse_no_code.F.kp, T.q_refuse_no_code.b⟩, (fun _ h => nomatch h)⟩) : FtX P w K mg base 3 ["refuse_no_code"] [("refuse_no_code", sp_refuse_no_code)]) T.ex ir_tear ck_tear (fun vs M Q X h => ?_) (fun vs M Q X h => ?_)
  · obtain ⟨p, xs, rfl, _⟩ := h; rfl
  obtain ⟨p, xs, rfl, hp, hl, q1, q2⟩ := h
  show wXs _ _ _ _ _ [some (.ref p), none, none, none, none, none] M
  rw [ir_tear, itear_0]
  walk_at "s"
  refine ⟨p, xs, rfl, hp, hl, λg => ?_, q2⟩
  replace q1 := q1 g
  have glo := g.lo
  have ghi := g.hi
  rw [itear_1]
  repeat (first | walk_at "s" | simp only [hp, Y05])
  obtain ⟨J, hJ⟩ : ∃ J : Nat → Sm → MH → Prop, ∀ j σ M', J j σ M' ↔ M' = M ∧ ∃ v1 v2 v3 v4 v5, σ = [some (.ref p), v1, v2, v3, v4, v5] := ⟨_, λ_ _ _ => Y2Z⟩
  refine ⟨by omega, by omega, J, (hJ _ _ _).mpr ⟨rfl, _, _, _, _, _, rfl⟩, λj σ M' h => trivial, ?_, ?_⟩
  · rintro j y σ M' hy h
    obtain ⟨rfl, v1, v2, v3, v4, v5, rfl⟩ := (hJ _ _ _).mp h
    obtain ⟨hj, rfl⟩ := rng_item hy
    have hj : j < xs.length := by simpa using hj
    have ei : ((j : Int) + 1) % (xs.length : Int) = (((j + 1) % xs.length : Nat) : Int) := by rw [Int.natCast_emod, Int.natCast_add]; rfl
    have hm : (j + 1) % xs.length < xs.length := Nat.mod_lt _ (by omega)
    have at_ : ∀ k (hk : k < xs.length), atI (xs.map MV.int) (k : Int) = some (.int xs[k]) := λk hk => atI_nat (by rw [Y0d, Y0h hk]; rfl)
    rw [itear_2, Int.zero_add]
    repeat (first | walk_at "s" | simp only [hp])
    refine ⟨_, at_ j hj, ?_⟩
    rw [itear_3]
    repeat (first | walk_at "s" | simp only [hp, Y05])
    refine ⟨by omega, ?_⟩
    rw [ei]
    refine ⟨_, at_ _ hm, ?_⟩
    rw [itear_4]
    walk_at "s"
    rw [itear_5]
    walk_at "s"
    rw [itear_6]
    walk_at "s"
    refine ite_i (λc => ?_) (λc => ?_)
    · rw [itear_7]
      walk_at "s"
      exact ⟨_, _, _, rfl, λr => q1.2 _ _⟩
    · exact (hJ _ _ _).mpr ⟨rfl, _, _, _, _, _, rfl⟩
  · rintro σ M' h
    obtain ⟨rfl, v1, v2, v3, v4, v5, rfl⟩ := (hJ _ _ _).mp h
    rw [itear_8]
    walk_at "s"
    exact q1.1
noncomputable abbrev sp__law_stream : SpM := λvs M Q => ∃ (c : Int) (m : Nat), vs = [.int c, .int m] ∧ m ≤ 100 ∧ ∀ p (xs : List Nat) M', SameM M M' → M p = none → M' p = some (.lst (xs.map natI)) → xs.length = m → Q (.ref p) M'
theorem mon_sp__law_stream : MonW sp__law_stream := by walk_at "m"
theorem ok__law_stream (T : Txt K mg t) : FnOk P w K mg base CX0 1 t.f__law_stream t.d__law_stream ["cell", "many"] (liSp K sp__law_stream) := by
  refine T.q__law_stream.F.okM sc__law_stream (mkFts (Φ := []) (gb_of T) (gl_of' T) rfl (λ_ h => nomatch h) (λ_ h => nomatch h) : Fts P w K mg base 0 G__law_stream []) ir__law_stream ck__law_stream (λvs M Q h => ?_) (λvs M Q h => ?_)
  · obtain ⟨c, m, rfl, _⟩ := h; rfl
  obtain ⟨c, m, rfl, hm, q⟩ := h
  show wSs _ _ _ [some (.int c), some (.int m), none, none, none] M
  rw [ir__law_stream, i_law_stream_0]
  walk_at "s"
  intro p hp
  have s0 := SameM.new hp (.lst [])
  have h0 : updM M p (.lst []) p = some (.lst []) := updM_same
  generalize updM M p _ = M0 at *
  rw [i_law_stream_1]
  walk_at "s"
  rw [i_law_stream_2]
  walk_at "s"
  obtain ⟨J, hJ⟩ : ∃ J : Nat → Sm → MH → Prop, ∀ j σ M', J j σ M' ↔ SameM M M' ∧ (∃ (xs : List Nat) (x : Nat), xs.length = j ∧ x < 2305843009213693951 ∧ M' p = some (.lst (xs.map natI)) ∧ ∃ v, σ = [some (.int c), some (.int m), some (.ref p), some (.int x), v]) := ⟨_, λ_ _ _ => Y2Z⟩
  refine ⟨by omega, by omega, J, (hJ _ _ _).mpr ⟨s0, [], (c % 2305843009213693951).toNat, rfl, by omega, h0, _, by rw [Y1J (by omega)]⟩, λj σ M' h => trivial, ?_, ?_⟩
  · rintro j y σ M' hy h
    obtain ⟨s, xs, x, hl, hx, hd, v, rfl⟩ := (hJ _ _ _).mp h
    obtain ⟨hj, rfl⟩ := rng_item hy
    rw [i_law_stream_3]
    walk_at "s"
    refine ⟨.inl ⟨by omega, by omega⟩, ?_⟩
    obtain ⟨x', hx', hx2⟩ : ∃ x' : Nat, ((x : Int) * (x : Int) + 48271 * (x : Int) + (0 + (j : Int)) + 1) % 2305843009213693951 = (x' : Int) ∧ x' < 2305843009213693951 :=
      ⟨(((x : Int) * (x : Int) + 48271 * (x : Int) + (0 + (j : Int)) + 1) % 2305843009213693951).toNat, by omega, by omega⟩
    rw [hx', i_law_stream_4]
    repeat (first | walk_at "s" | simp only [hd, Y05])
    refine ⟨⟨_, rfl⟩, by simp at hj; omega, ?_⟩
    refine (hJ _ _ _).mpr ⟨s.upd hp _, xs ++ [x'], x', by simp [hl], hx2, ?_, _, rfl⟩
    rw [updM_same, Y2x]; rfl
  · rintro σ M' h
    obtain ⟨s, xs, x, hl, hx, hd, v, rfl⟩ := (hJ _ _ _).mp h
    have el : (Src.rng 0 ((m : Int) + 3).toNat).len = m + 3 := by show ((m : Int) + 3).toNat = _; omega
    rw [el] at hl
    rw [i_law_stream_5]
    repeat (first | walk_at "s" | simp only [hd])
    intro p2 hp2
    have ec : cutM (xs.map natI) (some 3) none = (xs.drop 3).map natI := by
      have := cutM_from0 (xs.map natI) 3
      rw [List.map_drop]; exact this
    rw [ec]
    exact q p2 (xs.drop 3) _ (s.trans (SameM.new hp2 _)) (s.free hp2) updM_same (by rw [Y0R]; omega)
theorem sub_len : ∀ {L cs : List Nat}, L.Nodup → (∀ x ∈ L, x ∈ cs) → L.length ≤ cs.length
  | [], _, _, _ => Y1p _
  | a :: L, cs, nd, h => by
    rw [Y0L] at nd
    have ha := h a (Y0e ..)
    have := sub_len (cs := cs.erase a) nd.2 λx hx => by
      have hne : x ≠ a := λe => nd.1 (e ▸ hx)
      exact (List.mem_erase_of_ne hne).mpr (h x (Y0b _ hx))
    rw [List.length_erase_of_mem ha] at this
    have hp : 0 < cs.length := List.length_pos_of_mem ha
    rw [Y0r]; omega
theorem free_at {cs : List Nat} (h : cs.length ≤ 90) (w : Nat) : ∃ m, (w + m) % 65536 ∉ cs := by
  refine Y1W λz => ?_
  have z : ∀ m, (w + m) % 65536 ∈ cs := λm => Y1W λy => z ⟨m, y⟩
  have nd : ((Y0z 91).map λm => (w + m) % 65536).Nodup := by
    unfold List.Nodup
    rw [List.pairwise_map]
    refine List.Pairwise.imp_of_mem (R := λa b => a ≠ b) (λha hb ne e => ?_) List.nodup_range
    have ha := Y1A.mp ha
    have hb := Y1A.mp hb
    omega
  have := sub_len nd λx hx => by
    obtain ⟨m, _, rfl⟩ := Y1T.mp hx
    exact z m
  rw [Y05, Y1x] at this
  omega
theorem in_nat (w : Nat) : ∀ cs : List Nat, inV (toV (.int w)) ((cs.map natI).map toV) = decide (w ∈ cs)
  | [] => rfl
  | c :: r => by
    have ih := in_nat w r
    have e : inV (toV (.int w)) (((c :: r).map natI).map toV) = (((c : Int) == (w : Int)) || inV (toV (.int w)) ((r.map natI).map toV)) := rfl
    rw [e, ih]
    by_cases h : w = c
    · subst h; simp
    · have : ((c : Int) == (w : Int)) = false := by rw [beq_eq_false_iff_ne]; exact λz => h (Int.ofNat.inj z).symm
      rw [this, Y2R]
      simp [h]
theorem flat_nat (cs : List Nat) : (cs.map natI).all flatM = true := by
  rw [Y1e]
  intro x hx
  obtain ⟨c, _, rfl⟩ := Y1T.mp hx
  rfl
noncomputable abbrev sp__law_drawn : SpM := λvs M Q => ∃ (c : Int) (m : Nat), vs = [.int c, .int m] ∧ m ≤ 90 ∧ ∀ p (cs : List Nat) M', SameM M M' → M p = none → M' p = some (.lst (cs.map natI)) → cs.length = m → cs.Nodup → (∀ c ∈ cs, c < 65536) → Q (.ref p) M'
theorem mon_sp__law_drawn : MonW sp__law_drawn := by walk_at "m"
theorem ok__law_drawn (T : Txt K mg t) : FnOk P w K mg base CX0 2 t.f__law_drawn t.d__law_drawn ["cell", "many"] (liSp K sp__law_drawn) := by
  refine T.q__law_drawn.F.okM sc__law_drawn (mkFts (Φ := [("_law_stream", sp__law_stream)]) (gb_of T) (gl_of' T) rfl (Y03.2 ⟨mon_sp__law_stream, (fun _ h => nomatch h)⟩) (Y03.2 ⟨⟨_, _, _, (FnOk.mono (ok__law_stream T) (by decide)), T.q__law_stream.m, T.q__law_stream.F.kp, T.q__law_stream.b⟩, (fun _ h => nomatch h)⟩) : Fts P w K mg base 1 G__law_drawn [("_law_stream", sp__law_stream)]) ir__law_drawn ck__law_drawn (fun vs M Q h => ?_) (fun vs M Q h => ?_)
  · obtain ⟨c, m, rfl, _⟩ := h; rfl
  obtain ⟨c, m, rfl, h2, q⟩ := h
  show wSs _ _ _ [some (.int c), some (.int m), none, none, none] M
  rw [ir__law_drawn, i_law_drawn_0]
  walk_at "s"
  intro D hD
  have s0 := SameM.new hD (.lst [])
  have h0 : updM M D (.lst []) D = some (.lst []) := updM_same
  generalize updM M D _ = M0 at *
  rw [i_law_drawn_1]
  walk_at "s"
  refine ⟨c, m, rfl, by omega, λpx xs M1 s1 hpx hx hl => ?_⟩
  have s01 := s0.trans s1
  have hd1 := s1 _ _ h0
  have dpx : D ≠ px := neM h0 hpx
  repeat (first | walk_at "s" | simp only [hx])
  obtain ⟨J, hJ⟩ : ∃ J : Nat → Sm → MH → Prop, ∀ j σ M', J j σ M' ↔ SameM M M' ∧ M' px = some (.lst (xs.map natI)) ∧ (∃ cs : List Nat, cs.length = j ∧ cs.Nodup ∧ (∀ c ∈ cs, c < 65536) ∧ M' D = some (.lst (cs.map natI))) ∧ ∃ v3 v4, σ = [some (.int c), some (.int m), some (.ref D), v3, v4] := ⟨_, λ_ _ _ => Y2Z⟩
  refine ⟨J, (hJ _ _ _).mpr ⟨s01, hx, ⟨[], rfl, List.nodup_nil, λc h => (nomatch h), hd1⟩, _, _, rfl⟩, λj σ M' h => ((hJ _ _ _).mp h).2.1, ?_, ?_⟩
  · rintro j y σ M' hy h
    obtain ⟨s, hx, ⟨cs, hl2, nd, lt, hd⟩, v3, v4, rfl⟩ := (hJ _ _ _).mp h
    obtain ⟨hj, rfl⟩ := map_item (show (xs.map natI)[j]? = some y from hy)
    rw [i_law_drawn_2]
    repeat (first | walk_at "s" | simp only [natI])
    rw [i_law_drawn_3]
    walk_at "s"
    obtain ⟨J', hJ'⟩ : ∃ J' : Nat → Sm → MH → Prop, ∀ k σ M'', J' k σ M'' ↔ M'' = M' ∧ ∃ w : Nat, w < 65536 ∧ (w + k) % 65536 ∉ cs ∧ σ = [some (.int c), some (.int m), some (.ref D), some (.int (xs[j] : Nat)), some (.int w)] := ⟨_, λ_ _ _ => Y2Z⟩
    obtain ⟨k0, hk0⟩ := free_at (cs := cs) (by omega) (xs[j] % 65536)
    refine ⟨J', ⟨k0, (hJ' _ _ _).mpr ⟨rfl, xs[j] % 65536, by omega, hk0, ?_⟩⟩, ?_⟩
    · have : ((xs[j] : Nat) : Int) % 65536 = ((xs[j] % 65536 : Nat) : Int) := by omega
      rw [this]
    · rintro k σ M'' h
      obtain ⟨rfl, w, hw, hk, rfl⟩ := (hJ' _ _ _).mp h
      walk_at "s"
      refine .inl ⟨_, hd, rfl, flat_nat cs, ?_⟩
      rw [in_nat]
      by_cases hin : w ∈ cs
      · rw [decide_eq_true hin]
        dsimp only
        rw [if_pos rfl, i_law_drawn_4]
        walk_at "s"
        have hk0 : k ≠ 0 := λe => hk (by rw [e, Nat.add_zero, Nat.mod_eq_of_lt hw]; exact hin)
        have e1 : ((w : Int) + 1) % 65536 = (((w + 1) % 65536 : Nat) : Int) := by omega
        refine ⟨k - 1, by omega, (hJ' _ _ _).mpr ⟨rfl, (w + 1) % 65536, by omega, ?_, by rw [e1]⟩⟩
        have e2 : ((w + 1) % 65536 + (k - 1)) % 65536 = (w + k) % 65536 := by omega
        rw [e2]; exact hk
      · rw [decide_eq_false hin]
        dsimp only
        rw [if_neg (by simp), i_law_drawn_5]
        repeat (first | walk_at "s" | simp only [hd, Y05])
        refine ⟨⟨_, rfl⟩, by omega, ?_⟩
        refine (hJ _ _ _).mpr ⟨s.upd hD _, ?_, ⟨cs ++ [w], by simp [hl2], ?_, λc hc => ?_, ?_⟩, _, _, rfl⟩
        · rw [updM_ne dpx.symm]; exact hx
        · rw [List.nodup_append]
          refine ⟨nd, by simp, λa ha b hb e => ?_⟩
          rw [Y1t] at hb
          subst hb e
          exact hin ha
        · rcases Y1F.mp hc with hc | hc
          · exact lt c hc
          · rw [Y1t] at hc; subst hc; exact hw
        · rw [updM_same, Y2x]; rfl
  · rintro σ M' h
    obtain ⟨s, hx, ⟨cs, hl2, nd, lt, hd⟩, v3, v4, rfl⟩ := (hJ _ _ _).mp h
    rw [i_law_drawn_6]
    walk_at "s"
    have el : (Src.lst px (xs.map natI)).len = xs.length := Y05 _
    rw [el] at hl2
    exact q D cs M' s hD hd (by omega) nd lt
noncomputable abbrev sp__law_put : SpM := λvs M Q => ∃ (p : Addr) (xs : List Int) (a w : Int), vs = [.ref p, .int a, .int w] ∧ M p = some (.lst (xs.map .int)) ∧ xs.length ≤ 90 ∧ ∀ k p' M', k ≤ xs.length → SameM M M' → M p' = none → M' p' = some (.lst ((xs.take k ++ w :: xs.drop k).map .int)) → Q (.ref p') M'
theorem mon_sp__law_put : MonW sp__law_put := by walk_at "m"
theorem ok__law_put (T : Txt K mg t) : FnOk P w K mg base CX0 1 t.f__law_put t.d__law_put ["code", "at", "word"] (liSp K sp__law_put) := by
  refine T.q__law_put.F.okM sc__law_put (mkFts (Φ := []) (gb_of T) (gl_of' T) rfl (λ_ h => nomatch h) (λ_ h => nomatch h) : Fts P w K mg base 0 G__law_put []) ir__law_put ck__law_put (λvs M Q h => ?_) (λvs M Q h => ?_)
  · obtain ⟨p, xs, a, w, rfl, _⟩ := h; rfl
  obtain ⟨p, xs, a, w, rfl, hp, hl, q⟩ := h
  show wSs _ _ _ [some (.ref p), some (.int a), some (.int w)] M
  rw [ir__law_put, i_law_put_0]
  repeat (first | walk_at "s" | simp only [hp, Y05])
  refine ⟨by omega, ?_⟩
  rw [i_law_put_1]
  repeat (first | walk_at "s" | simp only [hp, Y05])
  obtain ⟨k, hk, hkl⟩ : ∃ k : Nat, a % ((xs.length : Int) + 1) = (k : Int) ∧ k ≤ xs.length := by
    have h1 := Int.emod_nonneg a (show (xs.length : Int) + 1 ≠ 0 by omega)
    have h2 := Int.emod_lt_of_pos a (show 0 < (xs.length : Int) + 1 by omega)
    exact ⟨(a % ((xs.length : Int) + 1)).toNat, by omega, by omega⟩
  simp only [hk, cutM_upto0]
  intro p1 h1
  have s1 := SameM.new h1 (.lst ((xs.map MV.int).take k))
  have e1 : updM M p1 (.lst ((xs.map MV.int).take k)) p1 = some (.lst ((xs.map MV.int).take k)) := updM_same
  generalize updM M p1 _ = M1 at *
  intro p2 h2
  have s2 := SameM.new h2 (.lst [MV.int w])
  have e2 : updM M1 p2 (.lst [MV.int w]) p2 = some (.lst [MV.int w]) := updM_same
  have e1' := s2 _ _ e1
  generalize updM M1 p2 _ = M2 at *
  refine ⟨_, e1', by rw [Y0Q, Y05]; omega, λp3 h3 => ?_⟩
  have s3 := SameM.new h3 (.lst ((xs.map MV.int).take k ++ [MV.int w]))
  have e3 : updM M2 p3 (.lst ((xs.map MV.int).take k ++ [MV.int w])) p3 = some (.lst ((xs.map MV.int).take k ++ [MV.int w])) := updM_same
  have s123 := s1.trans (s2.trans s3)
  have hp3 := s123 _ _ hp
  generalize updM M2 p3 _ = M3 at *
  repeat (first | walk_at "s" | simp only [hp3])
  simp only [cutM_from0]
  intro p4 h4
  have s4 := SameM.new h4 (.lst ((xs.map MV.int).drop k))
  have e4 : updM M3 p4 (.lst ((xs.map MV.int).drop k)) p4 = some (.lst ((xs.map MV.int).drop k)) := updM_same
  have e3' := s4 _ _ e3
  have s14 := s123.trans s4
  generalize updM M3 p4 _ = M4 at *
  repeat (first | walk_at "s" | simp only [e4])
  refine ⟨_, e3', by simp only [Y0E, Y0Q, Y0R, Y05, Y0r, List.length_nil]; omega, λp5 h5 => ?_⟩
  refine q k p5 _ hkl (s14.trans (SameM.new h5 _)) (s14.free h5) ?_
  rw [updM_same, Y2x, Y0l, List.map_take, List.map_drop, List.append_assoc]; rfl
noncomputable abbrev sp__law_answer : SpM := λvs M Q => ∃ (p : Addr) (xs : List Int), vs = [.ref p] ∧ M p = some (.lst (xs.map .int)) ∧ xs.length ≤ 100 ∧
  (GoodI xs → ∀ f k M', SameM M M' → M' k = some (.lst []) → (f = .non ∨ ∃ ys, f = .tup ys) → Q (.tup [f, .ref k]) M') ∧
  (¬ GoodI xs → ∀ k M', SameM M M' → M' k = some (.lst ([true, true, false, false, false, false, false, false, false, false, false].map .bl)) → Q (.tup [.non, .ref k]) M')
theorem mon_sp__law_answer : MonW sp__law_answer := by walk_at "m"
theorem ok__law_answer (T : Txt K mg t) : FnOk P w K mg base CX0 5 t.f__law_answer t.d__law_answer ["code"] (liSp K sp__law_answer) := by
  refine T.q__law_answer.F.okT (G := H__law_answer) sc__law_answer (mkFts (Φ := []) (gb_of T) (gl_of' T) rfl (fun _ h => nomatch h) (fun _ h => nomatch h) : Fts P w K mg base 4 G__law_answer []) (mkFtX (Ψ := [("tear", sp_tear)]) rfl (Y03.2 ⟨mon_sp_tear, (fun _ h => nomatch h)⟩) (Y03.2 ⟨⟨_, _, _, (FnOk.mono (ok_tear T) (by decide)), T.q_tear.m, T.q_tear.F.kp, T.q_tear.b⟩, (fun _ h => nomatch h)⟩) : FtX P w K mg base 4 ["tear"] [("tear", sp_tear)]) T.ex (by decide +kernel) ir__law_answer ck__law_answer (fun vs M Q h => ?_) (fun vs M Q h => ?_)
  · obtain ⟨p, xs, rfl, _⟩ := h; rfl
  obtain ⟨p, xs, rfl, hp, hl, q1, q2⟩ := h
  show wTs _ _ _ _ _ [some (.ref p), none, none, none] M
  rw [ir__law_answer]
  walk_at "s"
  intro k hk
  have s0 := SameM.new hk (.lst [])
  have e0 : updM M k (.lst []) k = some (.lst []) := updM_same
  generalize updM M k _ = M1 at *
  refine ⟨p, xs, rfl, s0 _ _ hp, hl, λg => ⟨q1 g _ _ _ s0 e0 (.inl rfl), λa b => q1 g _ _ _ s0 e0 (.inr ⟨_, rfl⟩)⟩, λg => ⟨by decide +kernel, λp' hp' => ?_⟩⟩
  refine q2 g p' _ (s0.trans (SameM.new hp' _)) ?_
  rw [updM_same]
  simp [strEq]
theorem ok_law (T : Txt K mg t) : FnOk P w K mg base CX0 60 t.f_law t.d_law ["script"] (liSp K spLawM) := by
  refine T.q_law.F.okM sc_law (mkFts (Φ := [("_law_answer", sp__law_answer), ("_law_drawn", sp__law_drawn), ("_law_put", sp__law_put), ("_law_stream", sp__law_stream)]) (gb_of T) (gl_of' T) rfl (Y03.2 ⟨mon_sp__law_answer, (Y03.2 ⟨mon_sp__law_drawn, (Y03.2 ⟨mon_sp__law_put, (Y03.2 ⟨mon_sp__law_stream, (fun _ h => nomatch h)⟩)⟩)⟩)⟩) (Y03.2 ⟨⟨_, _, _, (FnOk.mono (ok__law_answer T) (by decide)), T.q__law_answer.m, T.q__law_answer.F.kp, T.q__law_answer.b⟩, (Y03.2 ⟨⟨_, _, _, (FnOk.mono (ok__law_drawn T) (by decide)), T.q__law_drawn.m, T.q__law_drawn.F.kp, T.q__law_drawn.b⟩, (Y03.2 ⟨⟨_, _, _, (FnOk.mono (ok__law_put T) (by decide)), T.q__law_put.m, T.q__law_put.F.kp, T.q__law_put.b⟩, (Y03.2 ⟨⟨_, _, _, (FnOk.mono (ok__law_stream T) (by decide)), T.q__law_stream.m, T.q__law_stream.F.kp, T.q__law_stream.b⟩, (fun _ h => nomatch h)⟩)⟩)⟩)⟩) : Fts P w K mg base 59 G_law [("_law_answer", sp__law_answer), ("_law_drawn", sp__law_drawn), ("_law_put", sp__law_put), ("_law_stream", sp__law_stream)]) ir_law ck_law (fun vs M Q h => ?_) (fun vs M Q h => ?_)
  · obtain ⟨ns, rfl, _⟩ := h; rfl
  obtain ⟨ns, rfl, h63, q⟩ := h
  have hΦ := (mkMon (Φ := [("_law_answer", sp__law_answer), ("_law_drawn", sp__law_drawn), ("_law_put", sp__law_put), ("_law_stream", sp__law_stream)]) (Y03.2 ⟨mon_sp__law_answer, (Y03.2 ⟨mon_sp__law_drawn, (Y03.2 ⟨mon_sp__law_put, (Y03.2 ⟨mon_sp__law_stream, (fun _ h => nomatch h)⟩)⟩)⟩)⟩))
  show wSs _ _ _ [some (.frl (ns.map .int)), none, none, none, none, none, none, none, none, none] M
  rw [ir_law, ilaw_0]
  walk_at "s"
  have ec : cutM (ns.map MV.int) none (some 30) = (ns.take 30).map MV.int := by
    have := cutM_upto0 (ns.map MV.int) 30
    rw [List.map_take]; exact this
  rw [ec]
  intro p hp
  have s0 := SameM.new hp (.lst ((ns.take 30).map MV.int))
  have h0 : updM M p (.lst ((ns.take 30).map MV.int)) p = some (.lst ((ns.take 30).map MV.int)) := updM_same
  generalize updM M p _ = M0 at *
  have fin15 : ∀ (D : EndM) (M3 : MH) (pz pn pc : Addr) (zs xs : List Int) (c : Int) (g2 : Bool) (v6 v7 v8 v9 : Option MV), (∀ M4 w6 w7 w8 w9, M4 pz = some (.lst (zs.map MV.int)) → D.nx [some (.frl (ns.map MV.int)), some (.ref pz), some (.int c), some (.ref pn), some (.ref pc), w6, v6, w7, w8, w9] M4) →
      M3 pz = some (.lst (zs.map MV.int)) → M3 pc = some (.lst (xs.map MV.int)) → xs.length ≤ 95 → (g2 = true ↔ GoodI xs) →
      wSs ([("_law_answer", sp__law_answer), ("_law_drawn", sp__law_drawn), ("_law_put", sp__law_put), ("_law_stream", sp__law_stream)] : List (Str × SpM)) ilaw_15 D [some (.frl (ns.map MV.int)), some (.ref pz), some (.int c), some (.ref pn), some (.ref pc), some (.bl g2), v6, v7, v8, v9] M3 := by
    intro D M3 pz pn pc zs xs c g2 v6 v7 v8 v9 hD hz hc hl hg
    have fe : ∀ v ∈ xs.map MV.int, flatM v = true := λv hv => by obtain ⟨c, _, rfl⟩ := Y1T.mp hv; rfl
    rw [ilaw_15]
    repeat (first | walk_at "s" | simp only [hc])
    intro ph hph
    have s5 := SameM.new hph (.lst (xs.map MV.int))
    have eh : updM M3 ph (.lst (xs.map MV.int)) ph = some (.lst (xs.map MV.int)) := updM_same
    have hz := s5 _ _ hz
    have hc := s5 _ _ hc
    generalize updM M3 ph _ = M5 at *
    rw [ilaw_16]
    walk_at "s"
    refine ⟨ph, xs, rfl, eh, by omega, λg f k M6 s6 hk hf => ?_, λg k M6 s6 hk => ?_⟩
    · obtain rfl : g2 = true := hg.mpr g
      walk_at "s"
      rw [ilaw_17]
      walk_at "s"
      refine eq_alike rfl (Alike.lstFlat 0 (.inr ⟨_, rfl, s6 _ _ eh⟩) (.inr ⟨_, rfl, s6 _ _ hc⟩) fe) (by decide) ?_
      try walk_at "s"
      rw [ilaw_19]
      walk_at "s"
      intro pe hpe
      have s7 := SameM.new hpe (.lst [])
      have e7 : updM M6 pe (.lst []) pe = some (.lst []) := updM_same
      generalize updM M6 pe _ = M7 at *
      refine eq_nil (s7 _ _ hk) e7 ?_
      simp only [List.isEmpty_nil]
      rw [if_neg (by decide)]
      have hz7 := s7 _ _ (s6 _ _ hz)
      rcases hf with rfl | ⟨ys, rfl⟩
      · walk_at "s"
        rw [ilaw_21]
        walk_at "s"
        exact hD _ _ _ _ _ hz7
      · walk_at "s"
        rw [ilaw_21]
        walk_at "s"
        exact hD _ _ _ _ _ hz7
    · obtain rfl : g2 = false := by cases g2 with | false => rfl | true => exact absurd (hg.mp rfl) g
      walk_at "s"
      rw [ilaw_17]
      walk_at "s"
      refine eq_alike rfl (Alike.lstFlat 0 (.inr ⟨_, rfl, s6 _ _ eh⟩) (.inr ⟨_, rfl, s6 _ _ hc⟩) fe) (by decide) ?_
      try walk_at "s"
      rw [ilaw_19]
      walk_at "s"
      rw [ilaw_21]
      walk_at "s"
      intro p1 h1
      have s1 := SameM.new h1 (.lst [MV.bl true, MV.bl true])
      have e1 : updM M6 p1 (.lst [MV.bl true, MV.bl true]) p1 = some (.lst [MV.bl true, MV.bl true]) := updM_same
      generalize updM M6 p1 _ = M7 at *
      intro p2 h2
      have s2 := SameM.new h2 (.lst [MV.bl false])
      generalize updM M7 p2 _ = M8 at *
      intro p3 h3
      have s3 := SameM.new h3 (.lst ([[MV.bl false], [MV.bl false], [MV.bl false], [MV.bl false], [MV.bl false], [MV.bl false], [MV.bl false], [MV.bl false], [MV.bl false]].flatten))
      generalize updM M8 p3 _ = M9 at *
      refine ⟨_, s3 _ _ (s2 _ _ e1), by decide, λp4 h4 => ?_⟩
      have s4 := SameM.new h4 (.lst ([MV.bl true, MV.bl true] ++ [[MV.bl false], [MV.bl false], [MV.bl false], [MV.bl false], [MV.bl false], [MV.bl false], [MV.bl false], [MV.bl false], [MV.bl false]].flatten))
      have e4 : updM M9 p4 (.lst ([MV.bl true, MV.bl true] ++ [[MV.bl false], [MV.bl false], [MV.bl false], [MV.bl false], [MV.bl false], [MV.bl false], [MV.bl false], [MV.bl false], [MV.bl false]].flatten)) p4 = some (.lst ([true, true, false, false, false, false, false, false, false, false, false].map .bl)) := updM_same
      generalize updM M9 p4 _ = M10 at *
      have s10 := s6.trans (s1.trans (s2.trans (s3.trans s4)))
      have hk10 := (s1.trans (s2.trans (s3.trans s4))) _ _ hk
      refine eq_alike rfl (Alike.lstFlat 0 (.inr ⟨_, rfl, hk10⟩) (.inr ⟨_, rfl, e4⟩) (by decide)) (by decide) ?_
      try walk_at "s"
      exact hD _ _ _ _ _ (s10 _ _ hz)
  have fin : ∀ (D : EndM) (M3 : MH) (pz pn pc : Addr) (zs xs : List Int) (c : Int) (gb : Bool) (v6 v7 v8 v9 : Option MV), (∀ M4 w6 w7 w8 w9, M4 pz = some (.lst (zs.map MV.int)) → D.nx [some (.frl (ns.map MV.int)), some (.ref pz), some (.int c), some (.ref pn), some (.ref pc), w6, v6, w7, w8, w9] M4) →
      M3 pz = some (.lst (zs.map MV.int)) → M3 pc = some (.lst (xs.map MV.int)) → xs.length ≤ 95 → ((gb && decide (xs.length > 1)) = true ↔ GoodI xs) →
      wSs ([("_law_answer", sp__law_answer), ("_law_drawn", sp__law_drawn), ("_law_put", sp__law_put), ("_law_stream", sp__law_stream)] : List (Str × SpM)) ilaw_14 D [some (.frl (ns.map MV.int)), some (.ref pz), some (.int c), some (.ref pn), some (.ref pc), some (.bl gb), v6, v7, v8, v9] M3 := by
    intro D M3 pz pn pc zs xs c gb v6 v7 v8 v9 hD hz hc hl hg
    rw [ilaw_14]
    repeat (first | walk_at "s" | simp only [hc, Y05])
    refine ite_i (λz => ?_) (λz => ?_)
    · refine fin15 D M3 pz pn pc zs xs c _ v6 v7 v8 v9 hD hz hc hl ?_
      rw [← hg, z, Bool.true_and, decide_eq_true_eq, decide_eq_true_eq]
      omega
    · refine fin15 D M3 pz pn pc zs xs c _ v6 v7 v8 v9 hD hz hc hl ?_
      rw [← hg, Bool.eq_false_iff.mpr z, Y1U]
  have bad : ∀ (xs : List Int) (k : Nat) (w : Int), ((w ∈ xs) ∨ w < 0 ∨ 65536 ≤ w) → ¬ GoodI (xs.take k ++ w :: xs.drop k) := by
    intro xs k w h g
    rcases h with h | h
    · have nd := g.nd
      have hp : (xs.take k ++ w :: xs.drop k).Perm (w :: xs) := List.perm_middle.trans (by rw [List.take_append_drop])
      exact (Y0L.mp ((hp.nodup_iff).mp nd)).1 h
    · have := g.lt w (Y0n _ (Y0e ..))
      omega
  have fin10 : ∀ (D : EndM) (M3 : MH) (pz pn pc : Addr) (zs xs : List Int) (c : Int) (gb : Bool) (u0 u1 u2 u3 : Nat) (v6 v7 v8 v9 : Option MV), (∀ M4 pc' w5 w6 w7 w8 w9, M4 pz = some (.lst (zs.map MV.int)) → D.nx [some (.frl (ns.map MV.int)), some (.ref pz), some (.int c), some (.ref pn), some (.ref pc'), w5, w6, w7, w8, w9] M4) →
      M3 pz = some (.lst (zs.map MV.int)) → M3 pn = some (.lst [.int u0, .int u1, .int u2, .int u3]) → M3 pc = some (.lst (xs.map MV.int)) → xs.length ≤ 80 → ((gb && decide (xs.length > 1)) = true ↔ GoodI xs) →
      wSs ([("_law_answer", sp__law_answer), ("_law_drawn", sp__law_drawn), ("_law_put", sp__law_put), ("_law_stream", sp__law_stream)] : List (Str × SpM)) ilaw_10 D [some (.frl (ns.map MV.int)), some (.ref pz), some (.int c), some (.ref pn), some (.ref pc), some (.bl gb), v6, v7, v8, v9] M3 := by
    intro D M3 pz pn pc zs xs c gb u0 u1 u2 u3 v6 v7 v8 v9 hD hz hu hc hl hg
    rw [ilaw_10]
    walk_at "s"
    refine ite_i (λz => ?_) (λz => ?_)
    · rw [ilaw_11]
      walk_at "s"
      rw [ilaw_12]
      repeat (first | walk_at "s" | simp only [hu])
      refine ⟨by omega, λp1 h1 => ?_⟩
      have s1 := SameM.new h1 (.lst [MV.int 0, MV.int ((u1 : Int) % 1000), MV.int ((u1 : Int) % 1000 * 100000000000000000000000000000000000000000000000000)])
      have e1 : updM M3 p1 (.lst [MV.int 0, MV.int ((u1 : Int) % 1000), MV.int ((u1 : Int) % 1000 * 100000000000000000000000000000000000000000000000000)]) p1 = some (.lst [MV.int 0, MV.int ((u1 : Int) % 1000), MV.int ((u1 : Int) % 1000 * 100000000000000000000000000000000000000000000000000)]) := updM_same
      have hz := s1 _ _ hz
      have hu := s1 _ _ hu
      have hc := s1 _ _ hc
      generalize updM M3 p1 _ = M4 at *
      obtain ⟨far, ef, f0⟩ : ∃ far : Int, atI [MV.int 0, MV.int ((u1 : Int) % 1000), MV.int ((u1 : Int) % 1000 * 100000000000000000000000000000000000000000000000000)] ((u1 : Int) / 1000 % 3) = some (.int far) ∧ 0 ≤ far := by
        have : (u1 : Int) / 1000 % 3 = 0 ∨ (u1 : Int) / 1000 % 3 = 1 ∨ (u1 : Int) / 1000 % 3 = 2 := by omega
        rcases this with e | e | e <;> rw [e]
        · exact ⟨_, at0, by omega⟩
        · exact ⟨_, at1, by omega⟩
        · exact ⟨_, at2, by omega⟩
      repeat (first | walk_at "s" | simp only [hu, e1])
      refine ⟨_, ef, ?_⟩
      rw [ilaw_13]
      repeat (first | walk_at "s" | simp only [hu])
      intro p2 h2
      have s2 := SameM.new h2 (.lst [MV.int (-1 - far), MV.int (65536 + far)])
      have e2 : updM M4 p2 (.lst [MV.int (-1 - far), MV.int (65536 + far)]) p2 = some (.lst [MV.int (-1 - far), MV.int (65536 + far)]) := updM_same
      have hz := s2 _ _ hz
      have hu := s2 _ _ hu
      have hc := s2 _ _ hc
      generalize updM M4 p2 _ = M5 at *
      obtain ⟨wd, ew, w0⟩ : ∃ wd : Int, atI [MV.int (-1 - far), MV.int (65536 + far)] ((u2 : Int) % 2) = some (.int wd) ∧ (wd < 0 ∨ 65536 ≤ wd) := by
        have : (u2 : Int) % 2 = 0 ∨ (u2 : Int) % 2 = 1 := by omega
        rcases this with e | e <;> rw [e]
        · exact ⟨_, at0, .inl (by omega)⟩
        · exact ⟨_, at1, .inr (by omega)⟩
      repeat (first | walk_at "s" | simp only [hu, e2])
      refine ⟨_, ew, ?_⟩
      refine ⟨pc, xs, _, wd, rfl, hc, by omega, λk p' M' hk s' hp' hx => ?_⟩
      refine fin D M' pz pn p' zs _ c false _ v7 v8 v9 (λM4 w6 w7 w8 w9 h => hD _ _ _ _ _ _ _ h) (s' _ _ hz) hx (by simp only [Y0E, Y0Q, Y0r, Y0R]; omega) ?_
      rw [Y1U]
      exact ⟨λz => absurd z (by decide), λg => absurd g (bad xs k wd (.inr w0))⟩
    · exact fin D M3 pz pn pc zs xs c gb v6 v7 v8 v9 (λM4 w6 w7 w8 w9 h => hD _ _ _ _ _ _ _ h) hz hc (by omega) hg
  have loop : ∀ (zs : List Int) (pz : Addr) (M1 : MH), M1 pz = some (.lst (zs.map MV.int)) → wSs ([("_law_answer", sp__law_answer), ("_law_drawn", sp__law_drawn), ("_law_put", sp__law_put), ("_law_stream", sp__law_stream)] : List (Str × SpM)) ilaw_3 { nx := fun _ M' => Q .non M', rt := Q } [some (.frl (ns.map MV.int)), some (.ref pz), none, none, none, none, none, none, none, none] M1 := by
    intro zs pz M1 hz
    rw [ilaw_3]
    repeat (first | walk_at "s" | simp only [hz])
    obtain ⟨J, hJ⟩ : ∃ J : Nat → Sm → MH → Prop, ∀ j σ M', J j σ M' ↔ M' pz = some (.lst (zs.map MV.int)) ∧ ∃ v2 v3 v4 v5 v6 v7 v8 v9, σ = [some (.frl (ns.map MV.int)), some (.ref pz), v2, v3, v4, v5, v6, v7, v8, v9] := ⟨_, λ_ _ _ => Y2Z⟩
    refine ⟨J, (hJ _ _ _).mpr ⟨hz, _, _, _, _, _, _, _, _, rfl⟩, λj σ M' h => ((hJ _ _ _).mp h).1, ?_, ?_⟩
    · rintro j y σ M2 hy h
      obtain ⟨hz, v2, v3, v4, v5, v6, v7, v8, v9, rfl⟩ := (hJ _ _ _).mp h
      obtain ⟨hj, rfl⟩ := map_item (show (zs.map MV.int)[j]? = some y from hy)
      generalize zs[j] = c
      rw [ilaw_4]
      walk_at "s"
      refine ⟨c / 32, 4, rfl, by decide, λpn us M3 s3 hpn hu hul => ?_⟩
      obtain ⟨u0, u1, u2, u3, rfl⟩ : ∃ u0 u1 u2 u3, us = [u0, u1, u2, u3] := by
        match us, hul with
        | [a, b, c, d], _ => exact ⟨a, b, c, d, rfl⟩
      simp only [Y0l, Y2n, natI] at hu
      have hz := s3 _ _ hz
      clear s3 hpn
      rw [ilaw_5]
      repeat (first | walk_at "s" | simp only [hu])
      intro p1 h1
      have s4 := SameM.new h1 (.lst [.int (c / 4 % 8), .int (60 + c / 4 % 8), .int (2 + (u3 : Int) % 69)])
      have hz := s4 _ _ hz
      have hu := s4 _ _ hu
      generalize updM M3 p1 _ = M4 at *
      obtain ⟨m, em, m0, m1⟩ : ∃ m : Int, atI [MV.int (c / 4 % 8), .int (60 + c / 4 % 8), .int (2 + (u3 : Int) % 69)] (c % 3) = some (.int m) ∧ 0 ≤ m ∧ m ≤ 70 := by
        have : c % 3 = 0 ∨ c % 3 = 1 ∨ c % 3 = 2 := by omega
        rcases this with e | e | e <;> rw [e]
        · exact ⟨_, at0, by omega, by omega⟩
        · exact ⟨_, at1, by omega, by omega⟩
        · exact ⟨_, at2, by omega, by omega⟩
      refine ⟨_, em, ?_⟩
      try walk_at "s"
      refine ⟨_, m.toNat, by rw [Y1J m0], by omega, λpc cs M5 s5 hpc hcs hcl hnd hlt => ?_⟩
      have hz := s5 _ _ hz
      have hu := s5 _ _ hu
      clear s5 hpc s4 h1 em
      have e5 : cs.map natI = (cs.map λc : Nat => (c : Int)).map MV.int := by rw [List.map_map]; rfl
      rw [e5] at hcs
      rw [ilaw_6]
      repeat (first | walk_at "s" | simp only [hcs, Y05])
      rw [ilaw_7]
      repeat (first | walk_at "s" | simp only [hcs, Y05])
      have hD : ∀ M4 pc' w5 w6 w7 w8 w9, M4 pz = some (.lst (zs.map MV.int)) → J (j + 1) [some (.frl (ns.map MV.int)), some (.ref pz), some (.int c), some (.ref pn), some (.ref pc'), w5, w6, w7, w8, w9] M4 := λM4 pc' w5 w6 w7 w8 w9 h => (hJ _ _ _).mpr ⟨h, _, _, _, _, _, _, _, _, rfl⟩
      have keep : ((decide ((cs.length : Int) < 65)) && decide ((cs.map λc : Nat => (c : Int)).length > 1)) = true ↔ GoodI (cs.map λc : Nat => (c : Int)) := by
        rw [Y04, decide_eq_true_eq, decide_eq_true_eq, Y05]
        constructor
        · rintro ⟨h1, h2⟩
          refine ⟨by rw [Y05]; omega, by rw [Y05]; omega, λx hx => ?_, ?_⟩
          · obtain ⟨c, hc, rfl⟩ := Y1T.mp hx
            have := hlt c hc
            omega
          · unfold List.Nodup
            rw [List.pairwise_map]
            exact List.Pairwise.imp (λh e => h (Int.ofNat.inj e)) hnd
        · intro g
          have h1 := g.lo
          have h2 := g.hi
          rw [Y05] at h1 h2
          omega
      refine ite_i (λz1 => ite_i (λz2 => ?_) (λz2 => ?_)) (λz1 => ?_)
      · rw [ilaw_8]
        walk_at "s"
        rw [ilaw_9]
        repeat (first | walk_at "s" | simp only [hu, hcs, Y05])
        refine ⟨by omega, ?_⟩
        have hcl0 : 0 < cs.length := by omega
        have hi : u1 % cs.length < cs.length := Nat.mod_lt _ hcl0
        have ei : (u1 : Int) % (cs.length : Int) = ((u1 % cs.length : Nat) : Int) := by rw [Int.natCast_emod]
        refine ⟨.int (cs[u1 % cs.length] : Nat), ?_, pc, _, _, _, rfl, hcs, by rw [Y05]; omega, λk p' M' hk s' hp' hx => ?_⟩
        · rw [ei]
          exact atI_nat (by rw [Y0d, Y0d, Y0h hi]; rfl)
        · refine fin10 _ M' pz pn p' zs _ c false u0 u1 u2 u3 v6 v7 v8 v9 hD (s' _ _ hz) (s' _ _ hu) hx (by simp only [Y0E, Y0Q, Y0r, Y0R, Y05]; omega) ?_
          rw [Y1U]
          exact ⟨λz => absurd z (by decide), λg => absurd g (bad _ k _ (.inl (Y1T.mpr ⟨_, Y29 hi, rfl⟩)))⟩
      · exact fin10 _ M5 pz pn pc zs _ c _ u0 u1 u2 u3 v6 v7 v8 v9 hD hz hu hcs (by rw [Y05]; omega) keep
      · exact fin10 _ M5 pz pn pc zs _ c _ u0 u1 u2 u3 v6 v7 v8 v9 hD hz hu hcs (by rw [Y05]; omega) keep
    · rintro σ M' h
      obtain ⟨hz, v2, v3, v4, v5, v6, v7, v8, v9, rfl⟩ := (hJ _ _ _).mp h
      rw [ilaw_23]
      walk_at "s"
      exact q _
  rw [ilaw_1]
  repeat (first | walk_at "s" | simp only [h0])
  intro pe hpe
  have s1 := SameM.new hpe (.lst [])
  have e1 : updM M0 pe (.lst []) pe = some (.lst []) := updM_same
  generalize updM M0 pe _ = M1 at *
  refine eq_nil (s1 _ _ h0) e1 ?_
  refine ite_i (λz => ?_) (λz => ?_)
  · rw [ilaw_2]
    walk_at "s"
    intro p2 h2
    exact loop [0] p2 _ updM_same
  · exact loop _ p _ (s1 _ _ h0)
end
theorem all_mk {l : Y2p} {w : World} {K : Y00} {h : Heap} {mg : Str → Option Value} {fa : Addr} (X : K.In h) (G : h.Ns mainGlobals mg) (hfa : mg "law" = some (.ref fa))
    {f1 f2 f3 f4 f5 f6 f7 f8 f9 f10 f11 : Addr} {d1 d2 d3 d4 d5 d6 d7 d8 d9 d10 d11 : FuncData}
    {tk1 : Tok}
    {tk2 : Tok}
    {tk3 : Tok}
    (h1 : Fn1 K "is_whole" s_is_whole f1 d1)
    (h2 : Fn1 K "two_to" s_two_to f2 d2)
    (h3 : Fn1 K "fits" s_fits f3 d3)
    (h4 : Fn1 K "amid" s_amid f4 d4)
    (h5 : Fn1 K "refuse_no_code" s_refuse_no_code f5 d5)
    (h6 : Fn1 K "tear" s_tear f6 d6)
    (h7 : Fn1 K "_law_stream" s__law_stream f7 d7)
    (h8 : Fn1 K "_law_drawn" s__law_drawn f8 d8)
    (h9 : Fn1 K "_law_put" s__law_put f9 d9)
    (h10 : Fn1 K "_law_answer" s__law_answer f10 d10)
    (h11 : Fn1 K "law" s_law f11 d11)
    (z1 : Y0f K mainGlobals "ValueError" = some none)
    (z2 : Y0f K mainGlobals "bool" = some none)
    (z3 : Y0f K mainGlobals "int" = some none)
    (z4 : Y0f K mainGlobals "isinstance" = some none)
    (z5 : Y0f K mainGlobals "len" = some none)
    (z6 : Y0f K mainGlobals "list" = some none)
    (z7 : Y0f K mainGlobals "range" = some none)
    (z8 : Y0f K mainGlobals "set" = some none)
    (z9 : Y0f K mainGlobals "tuple" = some none)
    (g1 : Y0f K mainGlobals "CODE_WIDTH" = some (some (.int 16 tk1)))
    (g2 : Y0f K mainGlobals "FEWEST_WORDS" = some (some (.int 2 tk2)))
    (g3 : Y0f K mainGlobals "MOST_WORDS" = some (some (.int 64 tk3)))
    (xx : exsB K XB XC = true) :
    ∃ fd : FuncData, (∀ (s : Shared) (v : Value), BindsTo s fd ⟨[v], []⟩ [("script", v)]) ∧ ∀ base : Heap, K.In base → base.Ns mainGlobals mg → FnOk l.prog w K mg base CX0 60 fa fd ["script"] (spLawV K) := by
  have e := hfa.symm.trans (Y11 X G h11.a)
  cases e
  have T : Txt K mg ⟨f1, d1, f2, d2, f3, d3, f4, d4, f5, d5, f6, d6, f7, d7, f8, d8, f9, d9, f10, d10, fa, d11⟩ := {
    q_is_whole := h1.t X G λ_ _ _ _ _ _ => us1 (λ_ => rfl)
    q_two_to := h2.t X G λ_ _ _ _ _ _ => us1 (λ_ => rfl)
    q_fits := h3.t X G λ_ _ _ _ _ _ => us2 (λ_ _ => rfl)
    q_amid := h4.t X G λ_ _ _ _ _ _ => us3 (λ_ _ _ => rfl)
    q_refuse_no_code := h5.t X G λ_ _ _ _ _ _ => us1 (λ_ => rfl)
    q_tear := h6.t X G λ_ _ _ _ _ _ => us1 (λ_ => rfl)
    q__law_stream := h7.t X G λ_ _ _ _ _ _ => us2 (λ_ _ => rfl)
    q__law_drawn := h8.t X G λ_ _ _ _ _ _ => us2 (λ_ _ => rfl)
    q__law_put := h9.t X G λ_ _ _ _ _ _ => us3 (λ_ _ _ => rfl)
    q__law_answer := h10.t X G λ_ _ _ _ _ _ => us1 (λ_ => rfl)
    q_law := h11.t X G λ_ _ _ _ _ _ => us1 (λ_ => rfl)
    z_ValueError := Y0w X G z1
    z_bool := Y0w X G z2
    z_int := Y0w X G z3
    z_isinstance := Y0w X G z4
    z_len := Y0w X G z5
    z_list := Y0w X G z6
    z_range := Y0w X G z7
    z_set := Y0w X G z8
    z_tuple := Y0w X G z9
    c_CODE_WIDTH := ⟨_, Y11 X G g1⟩
    c_FEWEST_WORDS := ⟨_, Y11 X G g2⟩
    c_MOST_WORDS := ⟨_, Y11 X G g3⟩
    ex := exs_of xx z1 X G
  }
  exact ⟨d11, h11.bt λ_ _ _ _ _ _ _ => rfl, λbase _ _ => law_imp (FnOk.mono (ok_law T) (by decide))⟩
theorem walk {l : Y2p} {q : Program} {loose : List Str} {XP : (Str → Option Value) → Heap → Prop} {YP : World → Heap → Prop} {d : DefRec} {K : Params → Y00} (hn : l.most = some 63) (hdf : d.params.defaults = [])
    (hY : ∀ (w : World) (h : Heap), YP w h → (K w.params).In h)
    (F : ∀ (w : World) (mg : Str → Option Value) (fa : Addr) (h : Heap), (K w.params).In h → h.Ns mainGlobals mg → mg d.name = some (.ref fa) →
      ∃ fd : FuncData, (∀ (s : Shared) (u : Value), BindsTo s fd ⟨[u], []⟩ [("script", u)]) ∧ ∀ base : Heap, (K w.params).In base → base.Ns mainGlobals mg → FnOk l.prog w (K w.params) mg base CX0 60 fa fd ["script"] (spLawV (K w.params))) :
    PySem.W.WalkO q loose XP YP l.row.toRowW d [] (λf vs => PySem.call f vs) :=
  L2.walk_of (n := 63) (k := 60) (x := "script") (CX := fun _ => CX0) (sp := fun w => spLawV (K w.params)) hn (by decide) hdf ⟨rfl, by decide, by decide⟩ hY F (fun _ H a ns hl hO hS => ⟨a, ns, rfl, frl_of hO hS, hl, fun _ => rfl⟩) fun _ _ _ _ _ z => z
end My
structure PySem.W.Fast:Prop where
 (tw7961000085369789562 tw8471963312869222039 tw5426055660521092384 tw16883607092831673555 tw11256620718013224410 tw6007655290675097397 tw4464951811147412849 tw17516803983898170041 tw13709851006040232178 tw4942369784952980821 tw12516102649982202304 tw111710825208201186 tw15532267969560043658 tw8397755679922115333 tw970269858409003990 tw2766562545902030540 tw10888043773520313829 tw12148465899273862796 tw5467071868696420717 tw7672369929903546662 tw11813033993890157608 tw9273851972832306661 tw3029323171848966901 tw3262184555650838761 tw13210553172447131541 tw12657982860340349381 tw8132756909413515551 tw875949240049477116 tw12120636960432995883 tw9549349495465529610 tw13130630007037806522 tw1266349345048415163 tw7339297277062752221 tw608352234058912907 tw13943493457046852747 tw1361291306514926037 tw8516415662212761309 tw974228765120017253 tw11148379208542253125 tw5714856861529421787 tw8596344553598390504 tw1508342904996344216 tw13433997764063958103 tw10299931304753026149 tw8093272127819045518 tw3701265847880187849 tw1225611538790635103 tw9528000255793410812 tw16464628254892019842 tw1238342592338395471 tw12189791315547550946 tw17459271860070007169 tw6932661406614312705 tw15163600062553334190 tw16393895786182362500 tw7845384165048443819 tw15859289446293736258 tw304443144195214020 tw396214032442053615 tw16231599388253947866 tw4393791200018250416 tw17919262579615480819 tw5792733024816060947 tw3718607628462229965 tw16597309433120117331 tw10834055745472577070 tw15290375557184863502 tw9290751811446284358 tw8280574340436580900 tw2651398011131183028 tw15247289973692757787 tw16654988437844004049 tw5518630016077365916 tw12376383604958890591 tw14762193214271880121 tw3523062419793471430 tw8105690271824481106 tw11686727567169512162 tw3755226167821919445 tw13749263997602088436 tw12512510430202000971 tw626932321069487825 tw10566769367446496272 tw3638039619490541462 tw4142244236253601507 tw4657562110489685896 tw17109019405006226020 tw3952411432911822195 tw13726918629808457691 tw196470807165839662 tw13898706517615423390 tw14568786665207074469 tw14015826083347203305 tw2984145327535993150 tw4120792293890499419 tw5269554804369224051 tw5798050666144993535 tw13359577523480847131 tw4449477038571054431 tw3728436878990897916 tw1997824693440685473 tw2505384578097848737 tw14142242025404713746 tw15907011351407568051 tw5497870549279188035 tw358741026525954327 tw79194229656487424 tw9799359315765180438 tw1040033884287826525 tw7250605396860465747 tw7072725573100998597 tw3651647149890504126 tw11519394612142953228 tw11571882396543747798 tw9856082435420185956 tw16448955510695227640 tw6349675420699148694 tw15720589226092301472 tw17166314802773152129 tw5460241665539475086 tw10665106530818933123 tw16053726905747956205 tw1611428515398096264 tw253969287626812036 tw11448751262635381086 tw10731235990593309831 tw2980808274852901591 tw6369507555089481049 tw10904879974173857041 tw16008093596754673611 tw6698559843356517401 tw16235615664118918995 tw16235168336499688781 tw8278290918195718944 tw3422354191122451961 tw2731304082908530065 tw780943973484732064 tw10930230747508013843 tw578918746997159135 tw6310251087616318180 tw13679716223332881889 tw1489978214930196636 tw8156095754701919395 tw9781692046915116496 tw4832143464478283179 tw14175454403461868779 tw3157895338932192000 tw1423728074073179643 tw15907093555554865940 tw15245704785282492991 tw16438022024578744253 tw13220883727325214250 tw17138584560038183614 tw12725325098305048644 tw490483598897327687 tw3626685945223518978 tw16191392497317299558 tw14617743072312304493 tw4201622755006247712 tw13969848980934209157 tw10869999910444595033 tw5570446660277058928 tw11070152715353934920 tw3369058481192081524 tw3947660075508315370 tw4097916134441948638 tw7300802825261644796 tw8363829741647006981 tw5784732039866816350 tw7058915615999282380 tw16114291898633977584 tw13391515589368801336 tw13593140755673850623 tw132157445860189599 tw8351284693637515667 tw16550798144847998926 tw15476712543333230976 tw12799030523425571009 tw18357963425739090685 tw7748662384781168684 tw11348386974180968419 tw3945303264665104610 tw10237086533625196274 tw9385605870525974405 tw12473198442597515290 tw17021800055271543950 tw11940309395156219102 tw8485589778525052166 tw1911975227657041108 tw13999285145738267033 tw8853262567893340435 tw2683479017148395759 tw15614417848501848053 tw555721016784375698 tw13521451375774377429 tw7991746512677587316 tw17254880756535837670 tw6092242170632457806 tw9411667190528740617 tw13681930283658748586 tw17759222978096146742 tw5569977977411753953 tw6341316666520662736 tw5483339511118629082 tw787740328684043493 tw16216979252304065855 tw2508024685098759424 tw8327019853930012161 tw17934484444550857687 tw7968748254313251205 tw15115053464933929837 tw7840388126975606698 tw12147117496536467289 tw9230403238750862572 tw1028549556150849565 tw9217305556961577285 tw6641528032731455284 tw2108793129839579299 tw11608947042022614374 tw6728044517079934475 tw13104010916167001386 tw1940502297581752852 tw17386350996596015965 tw8719224472237606028 tw14938357213409418223 tw1831120397887262718 tw9267738131010325508 tw12030717835941688901 tw16871312645833064131 tw10297344205722574898 tw10204896358897454193 tw6041013681802809098 tw10326497258011547794 tw15209492111071560896 tw17076863530448506099 tw18153457239545527048 tw9537208543648090858 tw1845185286569571477 tw3527273608392076368 tw18269753281711605703 tw10111817898543412801 tw11718727414168214227 tw290267265194931854 tw1336239620021141416 tw3252344688436489195:True)
open PySem PySem.W PyProof.Rows
local macro_rules | `(tactic| walk_at "q_fn") => `(tactic| (refine' ⟨?a, L2.fun_mk ?l ?c ?k⟩; (case a => k_is); (case l => k_is); (case c => k_is); (case k => k_is)))
set_option maxRecDepth 100000 in
set_option maxHeartbeats 0 in
theorem PySem.Challenge.cw_bellferry_k06_no_code_holds : PySem.Challenge.rw_bellferry_k06_no_code.Holds := by
  w_on; o_law; k_head; (case hw => w_witness2)
  k_fill
  refine My.walk (l := PySem.Challenge.rw_bellferry_k06_no_code) rfl rfl (λw h Y => PySem.W.kIn_of Y) ?F
  case F =>
    intro w mg fa h KX G hmg
    refine' My.all_mk KX G hmg ?h1 ?h2 ?h3 ?h4 ?h5 ?h6 ?h7 ?h8 ?h9 ?h10 ?h11 ?z1 ?z2 ?z3 ?z4 ?z5 ?z6 ?z7 ?z8 ?z9 ?g1 ?g2 ?g3 ?xx
    (case h1 => walk_at "q_fn")
    (case h2 => walk_at "q_fn")
    (case h3 => walk_at "q_fn")
    (case h4 => walk_at "q_fn")
    (case h5 => walk_at "q_fn")
    (case h6 => walk_at "q_fn")
    (case h7 => walk_at "q_fn")
    (case h8 => walk_at "q_fn")
    (case h9 => walk_at "q_fn")
    (case h10 => walk_at "q_fn")
    (case h11 => walk_at "q_fn")
    (case z1 => k_is)
    (case z2 => k_is)
    (case z3 => k_is)
    (case z4 => k_is)
    (case z5 => k_is)
    (case z6 => k_is)
    (case z7 => k_is)
    (case z8 => k_is)
    (case z9 => k_is)
    (case g1 => k_is)
    (case g2 => k_is)
    (case g3 => k_is)
    (case xx => kernel_rfl)
#print axioms PySem.Challenge.cw_bellferry_k06_no_code_holds
