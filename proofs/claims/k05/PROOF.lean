import PyProof.Rows.All
import Wide.All
import OpenK.AllK
import Wide.FinOn
import Lean
import PyProof.EqAt
import PyProof.EqKinds
import PyProof.TupleCall
import PySem.Challenge.RW_bellferry_k05_a_tear
import PyProof.Rows.SetFrom
import PyProof.FactsAll.set_1
import PyProof.CollectWalk
import PyProof.Rows.SortStr
import PyProof.IsiH_list
import PyProof.ConsumeWalk
import PyProof.StrWalks
import PyProof.IsiH_tuple
import PyProof.SliceStr2
import PyProof.ListRange
import PyProof.Rows.Range3
import PyProof.FString5
set_option Elab.async false
set_option linter.all false
set_option maxRecDepth 100000
set_option maxHeartbeats 8000000
namespace L2
open PySem PySem.Spec PyProof.Rows
abbrev Key := Sum Int Str
def keyIs : Key → Value → Bool
  | .inl k, v => Value.isInt k v
  | .inr x, v => Value.isStrOf x v
def keyH (w : World) : Key → Int
  | .inl k => hashInt k
  | .inr x => hashStr w x
theorem keyIs_shape : ∀ {k : Key} {v : Value}, keyIs k v = true → (∃ i t, k = Sum.inl i ∧ v = Value.int i t) ∨ (∃ x t, k = Sum.inr x ∧ v = Value.str x t)
  | .inl i, v, h => by
    obtain ⟨t, e⟩ := Value.isInt_shape (k := i) (v := v) h
    exact .inl ⟨i, t, rfl, e⟩
  | .inr x, v, h => by
    obtain ⟨t, e⟩ := Value.isStrOf_shape (x := x) (v := v) h
    exact .inr ⟨x, t, rfl, e⟩
theorem keyIs_int (i : Int) (t : Tok) : keyIs (.inl i) (.int i t) = true := by simp [keyIs, Value.isInt]
theorem keyIs_str (x : Str) (t : Tok) : keyIs (.inr x) (.str x t) = true := by simp [keyIs, Value.isStrOf]
theorem key_ll (a b : Int) : decide ((Sum.inl a : Key) = Sum.inl b) = (a == b) := by
  by_cases e : a = b
  · subst e; simp
  · have h : ¬ (Sum.inl a : Key) = Sum.inl b := fun q => e (Sum.inl.inj q)
    rw [decide_eq_false h]
    exact (beq_eq_false_iff_ne.mpr e).symm
theorem key_rr (a b : Str) : decide ((Sum.inr a : Key) = Sum.inr b) = decide (a = b) := by
  by_cases e : a = b
  · subst e; simp
  · have h : ¬ (Sum.inr a : Key) = Sum.inr b := fun q => e (Sum.inr.inj q)
    rw [decide_eq_false h, decide_eq_false e]
theorem key_lr (a : Int) (b : Str) : decide ((Sum.inl a : Key) = Sum.inr b) = false := decide_eq_false (fun q => nomatch q)
theorem key_rl (a : Str) (b : Int) : decide ((Sum.inr a : Key) = Sum.inl b) = false := decide_eq_false (fun q => nomatch q)
def mixKind (prog : Program) (w : World) : PySem.KeyKind prog w Key where
  is := keyIs
  hash := keyH w
  inj := fun v a b ha hb => by
    rcases keyIs_shape ha with ⟨i, t, rfl, rfl⟩ | ⟨x, t, rfl, rfl⟩
    · rcases keyIs_shape hb with ⟨j, u, rfl, e⟩ | ⟨y, u, rfl, e⟩
      · injection e with e1 _; rw [e1]
      · exact nomatch e
    · rcases keyIs_shape hb with ⟨j, u, rfl, e⟩ | ⟨y, u, rfl, e⟩
      · exact nomatch e
      · injection e with e1 _; rw [e1]
  byValue := fun k v h => by
    rcases keyIs_shape h with ⟨i, t, rfl, rfl⟩ | ⟨x, t, rfl, rfl⟩ <;> rfl
  pyHash := fun hv h => by
    rcases keyIs_shape hv with ⟨i, t, rfl, rfl⟩ | ⟨x, t, rfl, rfl⟩
    · exact wpAny_pyHash_int h
    · exact wpAny_pyHash_str h
  eqBool := fun hu hv h => by
    rcases keyIs_shape hu with ⟨i, t, rfl, rfl⟩ | ⟨x, t, rfl, rfl⟩
    · rcases keyIs_shape hv with ⟨j, u, rfl, rfl⟩ | ⟨y, u, rfl, rfl⟩
      · rw [key_ll] at h; exact wpAny_eqBool_int h
      · rw [key_lr] at h; exact SeqAt.EqAt.int_str i t y u _ _ _ _ h
    · rcases keyIs_shape hv with ⟨j, u, rfl, rfl⟩ | ⟨y, u, rfl, rfl⟩
      · rw [key_rl] at h; exact SeqAt.EqAt.str_int x t j u _ _ _ _ h
      · rw [key_rr] at h; exact wpAny_eqBool_str h
  «strs» := fun k x t v h => by
    rcases keyIs_shape h with ⟨i, u, rfl, e⟩ | ⟨y, u, rfl, e⟩
    · exact nomatch e
    · injection e with e1 _
      subst e1
      cases v <;> rfl
theorem mixKind_int (prog : Program) (w : World) (i : Int) (t : Tok) : (mixKind prog w).is (.inl i) (.int i t) = true := keyIs_int i t
theorem mixKind_str (prog : Program) (w : World) (x : Str) (t : Tok) : (mixKind prog w).is (.inr x) (.str x t) = true := keyIs_str x t
end L2
namespace L2
open PySem PySem.Spec PyProof.Rows
inductive V where
  | non | bl (b : Bool) | int (i : Int) | str (x : Str) | byt (b : Array UInt8) | flt (b : UInt64) | ref (a : Addr) | ty (n : String)
  deriving DecidableEq
def RelV : V → Value → Prop
  | .non, u => u = Value.none
  | .bl b, u => u = Value.bool b
  | .int i, u => ∃ t, u = Value.int i t
  | .str x, u => ∃ t, u = Value.str x t
  | .byt b, u => ∃ t, u = Value.bytes b t
  | .flt b, u => ∃ t, u = Value.float b t
  | .ref a, u => u = Value.ref a
  | .ty n, u => u = Value.type n
abbrev Vals : List V → List Value → Prop := Paired RelV
theorem Vals.length {xs : List V} {us : List Value} (r : Vals xs us) : xs.length = us.length := Paired.length r
theorem Vals.get : ∀ {xs : List V} {us : List Value} {i : Nat} {x : V}, Vals xs us → xs[i]? = some x → ∃ u, us[i]? = some u ∧ RelV x u
  | _, _, _, _, .nil, e => by simp at e
  | _, _, 0, _, .cons r _, e => by simp at e; subst e; exact ⟨_, rfl, r⟩
  | _, _, i + 1, x, .cons _ t, e => by
    obtain ⟨u, h1, h2⟩ := Vals.get (i := i) (x := x) t (by simpa using e)
    exact ⟨u, by simpa using h1, h2⟩
theorem Vals.set {x : V} {u : Value} (r : RelV x u) : ∀ {xs : List V} {us : List Value} (i : Nat), Vals xs us → Vals (xs.set i x) (us.set i u)
  | _, _, _, .nil => .nil
  | _, _, 0, .cons _ t => .cons r t
  | _, _, i + 1, .cons q t => .cons q (Vals.set r i t)
theorem Vals.append : ∀ {xs ys : List V} {us ws : List Value}, Vals xs us → Vals ys ws → Vals (xs ++ ys) (us ++ ws)
  | _, _, _, _, .nil, s => s
  | _, _, _, _, .cons r t, s => .cons r (Vals.append t s)
theorem Vals.take : ∀ {xs : List V} {us : List Value} (n : Nat), Vals xs us → Vals (xs.take n) (us.take n)
  | _, _, 0, _ => .nil
  | _, _, _ + 1, .nil => .nil
  | _, _, n + 1, .cons r t => .cons r (Vals.take n t)
theorem Vals.drop : ∀ {xs : List V} {us : List Value} (n : Nat), Vals xs us → Vals (xs.drop n) (us.drop n)
  | _, _, 0, r => r
  | _, _, _ + 1, .nil => .nil
  | _, _, n + 1, .cons _ t => Vals.drop n t
theorem Vals.none_of : ∀ {xs : List V} {us : List Value} {i : Nat}, Vals xs us → xs[i]? = none → us[i]? = none := fun {xs us i} r e => by
  have h1 := r.length
  have h2 : xs.length ≤ i := List.getElem?_eq_none_iff.mp e
  exact List.getElem?_eq_none_iff.mpr (by omega)
def RelO : Option V → Option Value → Prop
  | some v, some u => RelV v u
  | none, none => True
  | _, _ => False
def KV {κ : Type} : List (κ × V) → List (κ × Value) → Prop := Paired fun (p : κ × V) (q : κ × Value) => p.1 = q.1 ∧ RelV p.2 q.2
def kV : Key → V
  | .inl i => .int i
  | .inr x => .str x
inductive HO where
  | lst (xs : List V)
  | tup (xs : List V)
  | dK (kvs : List (Key × V)) | dT (kvs : List (List Key × V))
  | set (S : Int → Bool) (n : Nat)
  | ins (C dx : Addr) (fs : List (Str × V))
  | own (x : Addr)
  | xd (fs : List (Str × V))
  | met (f x : Addr)
  | rng (lo hi : Int)
  | frz (o : Obj) (u : HO)
  | tbl (ps : Array Value)
  | ext (φ : Heap → Prop)
abbrev Hp := Addr → Option HO
def upd (H : Hp) (a : Addr) (o : HO) : Hp := fun b => if b = a then some o else H b
theorem upd_same {H : Hp} {a : Addr} {o : HO} : upd H a o a = some o := by unfold upd; rw [if_pos rfl]
theorem upd_ne {H : Hp} {a b : Addr} {o : HO} (h : b ≠ a) : upd H a o b = H b := by unfold upd; rw [if_neg h]
theorem ne_of {H : Hp} {a b : Addr} {o u : HO} (h : H a = some o) (h' : H b = some u) (d : o ≠ u) : a ≠ b := by
  intro e; subst e; rw [h] at h'; exact d (Option.some.inj h')
theorem ne_of_none {H : Hp} {a b : Addr} {o : HO} (h : H a = some o) (h' : H b = none) : a ≠ b := by
  intro e; subst e; rw [h] at h'; cases h'
section
variable (P : Program) (w : World)
def ObjOk (H : Hp) (h : Heap) (a : Addr) : HO → Prop
  | .lst xs => xs.length ≤ sizeLine ∧ ∃ (its : List Value) (n : Nat), Vals xs its ∧ h.get? a = some { cls := .type "list", data := .seq its.toArray n }
  | .tup xs => xs.length ≤ sizeLine ∧ ∃ its : List Value, Vals xs its ∧ IsTup h a its.toArray ∧ ∃ o, h.get? a = some o ∧ o.dict = none
  | .dK kvs => kvs.length ≤ sizeLine ∧ (a == sysModules) = false ∧ ∃ vs, KV kvs vs ∧ h.DictOf (mixKind P w) a vs
  | .dT kvs => kvs.length ≤ sizeLine ∧ (a == sysModules) = false ∧ ∃ xs : List (List Key × Addr × Value),
      Paired (fun (p : List Key × V) (q : List Key × Addr × Value) => p.1 = q.1 ∧ H q.2.1 = some (.tup (p.1.map kV)) ∧ RelV p.2 q.2.2) kvs xs ∧
      ∃ o es ep, h.get? a = some o ∧ o.ExactDict ∧ o.data = .dict es ep ∧ es.toList = xs.map (entryOfKey (tupleKind (mixKind P w))) ∧ (xs.map (·.1)).Nodup
  | .set S n => h.SetOf (intKind P w) a S n
  | .ins C dx fs => H dx = some (.own a) ∧ fs.length ≤ 1000 ∧ dx ≠ a ∧ h.get? a = some (PySem.W.instObj C dx) ∧
      ∃ mA, h.Ns1 dx mA ∧ (∀ f, RelO (fs.lookup f) (mA f)) ∧ PySem.Within mA (fs.map (·.1))
  | .own _ => ∃ o, h.get? a = some o
  | .xd fs => ∃ mA, h.Ns1 a mA ∧ ∀ f, RelO (fs.lookup f) (mA f)
  | .rng lo hi => ∃ t u v, h.get? a = some { cls := .type "range", data := .fields #[.int lo t, .int hi u, .int 1 v] }
  | .frz o u => h.get? a = some o ∧ ObjOk H h a u
  | .tbl ps => h.get? a = some { cls := .none, data := .fields ps }
  | .met f x => h.get? a = some (PySem.W.methodObj (.ref f) (.ref x))
  | .ext φ => φ h ∧ (∃ o, h.get? a = some o) ∧ ∀ h1 h2 : Heap, φ h1 → (∀ o, h1.get? a = some o → h2.get? a = some o) → φ h2
def HOk (H : Hp) (h : Heap) : Prop := ∀ a o, H a = some o → ObjOk P w H h a o
end
section
variable {P : Program} {w : World} {H H' : Hp} {h h' : Heap} {a : Addr} {o : HO}
theorem ObjOk.lt (x : ObjOk P w H h a o) : a < h.objs.size := by
  cases o with
  | lst xs => obtain ⟨_, _, _, _, e⟩ := x; exact Heap.lt_size e
  | tup xs => obtain ⟨_, _, _, p⟩ := x; exact p.1.lt
  | dK kvs => obtain ⟨_, _, _, _, o, _, _, e, _⟩ := x; exact Heap.lt_size e
  | dT kvs => obtain ⟨_, _, _, _, o, _, _, e, _⟩ := x; exact Heap.lt_size e
  | set S n => obtain ⟨o, _, _, _, e, _⟩ := x; exact Heap.lt_size e
  | ins C dx fs => obtain ⟨_, _, _, e, _⟩ := x; exact Heap.lt_size e
  | own y => obtain ⟨_, e⟩ := x; exact Heap.lt_size e
  | xd fs => obtain ⟨_, ⟨_, _, _, e, _⟩, _⟩ := x; exact Heap.lt_size e
  | rng lo hi => obtain ⟨_, _, _, e⟩ := x; exact Heap.lt_size e
  | frz ob u => obtain ⟨e, _⟩ := x; exact Heap.lt_size e
  | tbl ps => exact Heap.lt_size (show h.get? a = some _ from x)
  | met f y => exact Heap.lt_size (show h.get? a = some _ from x)
  | ext φ => obtain ⟨_, ⟨_, e⟩, _⟩ := x; exact Heap.lt_size e
theorem Paired.mapP {α β : Type} {F G : α → β → Prop} : ∀ {l₁ : List α} {l₂ : List β}, Paired F l₁ l₂ → (∀ a b, F a b → G a b) → Paired G l₁ l₂
  | _, _, .nil, _ => .nil
  | _, _, .cons r t, f => .cons (f _ _ r) (Paired.mapP t f)
theorem ObjOk.stay (x : ObjOk P w H h a o) (k : ∀ b u, (b = a ∨ H b = some (.own a)) → h.get? b = some u → h'.get? b = some u)
    (ho : ∀ b, H b = some (.own a) → H' b = some (.own a)) (ht : ∀ b xs, H b = some (.tup xs) → H' b = some (.tup xs)) : ObjOk P w H' h' a o := by
  induction o with
  | lst xs => obtain ⟨z, its, n, r, e⟩ := x; exact ⟨z, its, n, r, k _ _ (.inl rfl) e⟩
  | tup xs => obtain ⟨z, its, r, ⟨ob, e, c⟩, o2, e2, c2⟩ := x; exact ⟨z, its, r, ⟨ob, k _ _ (.inl rfl) e, c⟩, o2, k _ _ (.inl rfl) e2, c2⟩
  | dK kvs => obtain ⟨z, y, vs, r, ob, es, ep, e, c⟩ := x; exact ⟨z, y, vs, r, ob, es, ep, k _ _ (.inl rfl) e, c⟩
  | dT kvs =>
    obtain ⟨z, y, xs, r, ob, es, ep, e, c⟩ := x
    exact ⟨z, y, xs, Paired.mapP r fun p q z => ⟨z.1, ht _ _ z.2.1, z.2.2⟩, ob, es, ep, k _ _ (.inl rfl) e, c⟩
  | set S n => obtain ⟨ob, es, ep, t, e, c⟩ := x; exact ⟨ob, es, ep, t, k _ _ (.inl rfl) e, c⟩
  | ins C dx fs =>
    obtain ⟨d, z, ne, e, mA, ⟨od, es, ep, e2, c⟩, r⟩ := x
    exact ⟨ho _ d, z, ne, k _ _ (.inl rfl) e, mA, ⟨od, es, ep, k _ _ (.inr d) e2, c⟩, r⟩
  | own y => obtain ⟨ob, e⟩ := x; exact ⟨ob, k _ _ (.inl rfl) e⟩
  | xd fs => obtain ⟨mA, ⟨od, es, ep, e, c⟩, r⟩ := x; exact ⟨mA, ⟨od, es, ep, k _ _ (.inl rfl) e, c⟩, r⟩
  | rng lo hi => obtain ⟨t, u, v, e⟩ := x; exact ⟨t, u, v, k _ _ (.inl rfl) e⟩
  | frz ob u ih => obtain ⟨e, q⟩ := x; exact ⟨k _ _ (.inl rfl) e, ih q⟩
  | tbl ps =>
    have e : h.get? a = some { cls := .none, data := .fields ps } := x
    show h'.get? a = some { cls := .none, data := .fields ps }
    exact k a _ (.inl rfl) e
  | met f y =>
    have e : h.get? a = some (PySem.W.methodObj (.ref f) (.ref y)) := x
    show h'.get? a = some (PySem.W.methodObj (.ref f) (.ref y))
    exact k a _ (.inl rfl) e
  | ext φ => obtain ⟨p, ⟨o, e⟩, st⟩ := x; exact ⟨st _ _ p fun o q => k _ _ (.inl rfl) q, ⟨o, k _ _ (.inl rfl) e⟩, st⟩
theorem HOk.lt (x : HOk P w H h) (e : H a = some o) : a < h.objs.size := (x a o e).lt
theorem HOk.fresh (x : HOk P w H h) (e : h.objs.size ≤ a) : H a = none := by
  cases q : H a with
  | none => rfl
  | some u => exact absurd (Nat.lt_of_lt_of_le (x.lt q) e) (Nat.lt_irrefl _)
theorem HOk.kept (x : HOk P w H h) (k : ∀ b u, h.get? b = some u → h'.get? b = some u) : HOk P w H h' := fun a o e =>
  (x a o e).stay (fun b u _ q => k b u q) (fun _ q => q) fun _ _ q => q
theorem HOk.laid (x : HOk P w H h) (k : ∀ b u, h.get? b = some u → h'.get? b = some u) (hp : h.objs.size ≤ a) (new : ObjOk P w (upd H a o) h' a o) : HOk P w (upd H a o) h' := fun b u e => by
  have hn := x.fresh hp
  by_cases hb : b = a
  · subst hb; rw [upd_same] at e; cases e; exact new
  · rw [upd_ne hb] at e
    exact (x b u e).stay (fun c v _ q => k c v q) (fun c q => by rw [upd_ne (ne_of_none q hn)]; exact q) fun c xs q => by rw [upd_ne (ne_of_none q hn)]; exact q
end
def Rd (H : Hp) (a : Addr) (u : HO) : Prop := H a = some u ∨ ∃ o, H a = some (.frz o u)
theorem Rd.of {H : Hp} {a : Addr} {u : HO} (h : H a = some u) : Rd H a u := .inl h
theorem Rd.ok {P : Program} {w : World} {H : Hp} {h : Heap} {a : Addr} {u : HO} (r : Rd H a u) (x : HOk P w H h) : ObjOk P w H h a u := by
  rcases r with r | ⟨o, r⟩
  · exact x a u r
  · obtain ⟨_, q⟩ := x a _ r
    exact q
def Mut : Option HO → Prop
  | some (.lst _) => True
  | some (.dK _) => True
  | some (.dT _) => True
  | some (.set _ _) => True
  | some (.ins _ _ _) => True
  | some (.ext _) => True
  | _ => False
section
variable {P : Program} {w : World} {H : Hp} {h h' : Heap} {x e : Addr} {o' : HO}
theorem HOk.write (ok : HOk P w H h) (mu : Mut (H x)) (he : e = x ∨ H e = some (.own x)) (k : ∀ b u, b ≠ e → h.get? b = some u → h'.get? b = some u) (heo : ∃ u, h'.get? e = some u)
    (new : ObjOk P w (upd H x o') h' x o') : HOk P w (upd H x o') h' := fun b u q => by
  have nown : ∀ c y, H c = some (.own y) → c ≠ x := fun c y r z => by subst z; rw [r] at mu; exact mu
  have ntup : ∀ c xs, H c = some (.tup xs) → c ≠ x := fun c xs r z => by subst z; rw [r] at mu; exact mu
  by_cases hb : b = x
  · subst hb; rw [upd_same] at q; cases q; exact new
  · rw [upd_ne hb] at q
    by_cases hbe : b = e
    · have q' : H b = some (.own x) := by
        rcases he with z | z
        · exact absurd (hbe.trans z) hb
        · rw [hbe]; exact z
      rw [q] at q'; cases q'
      obtain ⟨v, hv⟩ := heo
      exact ⟨v, by rw [hbe]; exact hv⟩
    · refine (ok b u q).stay (fun c v hc r => k c v ?_ r) (fun c r => by rw [upd_ne (nown c b r)]; exact r) fun c xs r => by rw [upd_ne (ntup c xs r)]; exact r
      rcases hc with rfl | hc
      · exact hbe
      · rintro rfl
        rcases he with z | z
        · exact nown c b hc z
        · rw [hc] at z; cases z; exact hb rfl
end
structure Un (fs ex : List Addr) (H H' : Hp) (h h' : Heap) : Prop where
  keep : ∀ b o, h.get? b = some o → H b = none → b ∉ fs → b ∉ ex → h'.get? b = some o
  slot : ∀ b o, h.get? b = some o → H b = none → b ∈ fs → b ∉ ex → ∃ sl, h'.get? b = some { o with slots := sl }
  free : ∀ b o, h.get? b = some o → H b = none → b ∉ ex → H' b = none
  there : ∀ b o, h.get? b = some o → b ∉ ex → ∃ o', h'.get? b = some o'
  tups : ∀ b xs, H b = some (.tup xs) → H' b = some (.tup xs)
  frzs : ∀ b o u, H b = some (.frz o u) → H' b = some (.frz o u)
  tbls : ∀ b ps, H b = some (.tbl ps) → ∃ more, H' b = some (.tbl (ps ++ more))
section
variable {fs fs' ex ex' : List Addr} {H H1 H2 : Hp} {h h1 h2 h' : Heap} {a x e : Addr} {o : HO}
theorem Un.any (u : Un fs ex H H1 h h1) {b : Addr} {ob : Obj} (q : h.get? b = some ob) (n : H b = none) (hx : b ∉ ex) : ∃ sl, h1.get? b = some { ob with slots := sl } := by
  by_cases hb : b ∈ fs
  · exact u.slot b ob q n hb hx
  · exact ⟨ob.slots, u.keep b ob q n hb hx⟩
theorem Un.trans (a : Un fs ex H H1 h h1) (b : Un fs ex H1 H2 h1 h2) : Un fs ex H H2 h h2 where
  keep := fun c ob q n hc hx => b.keep c ob (a.keep c ob q n hc hx) (a.free c ob q n hx) hc hx
  slot := fun c ob q n hc hx => by
    obtain ⟨sl, e1⟩ := a.slot c ob q n hc hx
    obtain ⟨sl', e2⟩ := b.slot c _ e1 (a.free c ob q n hx) hc hx
    exact ⟨sl', e2⟩
  free := fun c ob q n hx => by
    obtain ⟨o', e1⟩ := a.there c ob q hx
    exact b.free c o' e1 (a.free c ob q n hx) hx
  there := fun c ob q hx => by
    obtain ⟨o', e1⟩ := a.there c ob q hx
    exact b.there c o' e1 hx
  tups := fun c xs q => b.tups c xs (a.tups c xs q)
  frzs := fun c ob xs q => b.frzs c ob xs (a.frzs c ob xs q)
  tbls := fun c ps q => by
    obtain ⟨m1, e1⟩ := a.tbls c ps q
    obtain ⟨m2, e2⟩ := b.tbls c _ e1
    exact ⟨m1 ++ m2, by rw [e2, Array.append_assoc]⟩
theorem Un.kept (k : ∀ b u, h.get? b = some u → h'.get? b = some u) : Un fs ex H H h h' :=
  ⟨fun b ob q _ _ _ => k b ob q, fun b ob q _ _ _ => ⟨ob.slots, k b ob q⟩, fun _ _ _ n _ => n, fun b ob q _ => ⟨ob, k b ob q⟩, fun _ _ q => q, fun _ _ _ q => q, fun _ ps q => ⟨#[], by rw [q]; simp⟩⟩
theorem Un.refl : Un fs ex H H h h := Un.kept fun _ _ q => q
theorem Un.laid (k : ∀ b u, h.get? b = some u → h'.get? b = some u) (hp : h.objs.size ≤ a) (hn : H a = none) : Un fs ex H (upd H a o) h h' where
  keep := fun b u q _ _ _ => k b u q
  slot := fun b u q _ _ _ => ⟨u.slots, k b u q⟩
  free := fun b u q n _ => by rw [upd_ne (Nat.ne_of_lt (Nat.lt_of_lt_of_le (Heap.lt_size q) hp))]; exact n
  there := fun b u q _ => ⟨u, k b u q⟩
  tups := fun b xs q => by rw [upd_ne (ne_of_none q hn)]; exact q
  frzs := fun b u xs q => by rw [upd_ne (ne_of_none q hn)]; exact q
  tbls := fun b ps q => ⟨#[], by rw [upd_ne (ne_of_none q hn), q]; simp⟩
theorem Un.write (mu : Mut (H x)) (he : e = x ∨ H e = some (.own x)) (k : ∀ b u, b ≠ e → h.get? b = some u → h'.get? b = some u) (heo : ∃ u, h'.get? e = some u) : Un fs ex H (upd H x o) h h' := by
  have hx : ∀ b, H b = none → b ≠ x := fun b n z => by subst z; rw [n] at mu; exact mu
  have hb : ∀ b, H b = none → b ≠ e := fun b n z => by
    subst z
    rcases he with r | r
    · exact hx b n r
    · rw [n] at r; cases r
  have hm : ∀ b u, H b = some u → ¬ Mut (some u) → b ≠ x := fun b u q nm z => by subst z; rw [q] at mu; exact nm mu
  refine ⟨fun b u q n _ _ => k b u (hb b n) q, fun b u q n _ _ => ⟨u.slots, k b u (hb b n) q⟩, fun b u q n _ => by rw [upd_ne (hx b n)]; exact n, fun b u q _ => ?_,
    fun b xs q => by rw [upd_ne (hm b _ q fun z => z)]; exact q, fun b u xs q => by rw [upd_ne (hm b _ q fun z => z)]; exact q, fun b ps q => ⟨#[], by rw [upd_ne (hm b _ q fun z => z), q]; simp⟩⟩
  by_cases hbe : b = e
  · subst hbe; exact heo
  · exact ⟨u, k b u hbe q⟩
theorem Un.mono (u : Un fs ex H H1 h h1) (hs : ∀ b ∈ fs, b ∈ fs') (hx : ∀ b ∈ ex, b ∈ ex') : Un fs' ex' H H1 h h1 :=
  ⟨fun b ob q n hb he => u.keep b ob q n (fun z => hb (hs b z)) fun z => he (hx b z), fun _ _ q n _ he => u.any q n fun z => he (hx _ z), fun b ob q n he => u.free b ob q n fun z => he (hx b z), fun b ob q he => u.there b ob q fun z => he (hx b z), u.tups, u.frzs, u.tbls⟩
end
def trk (h : Heap) (H : Hp) : List Addr := (List.range h.objs.size).filter fun a => (H a).isSome
def hidT (h : Heap) (H : Hp) : Heap := PySem.W.hideAll h (trk h H)
theorem hidT_size (h : Heap) (H : Hp) : (hidT h H).objs.size = h.objs.size := PySem.W.hideAll_size _ _
theorem hidT_get {h : Heap} {H : Hp} {b : Addr} {o : Obj} (e : h.get? b = some o) (n : H b = none) : (hidT h H).get? b = some o :=
  PySem.W.hideAll_get _ e fun hm => by
    have q : (H b).isSome = true := (List.mem_filter.mp hm).2
    rw [n] at q; simp at q
theorem of_hidT {h : Heap} {H : Hp} {b : Addr} {o : Obj} (e : (hidT h H).get? b = some o) : h.get? b = some o ∧ H b = none := by
  have e' : h.get? b = some o := PySem.W.of_hideAll (trk h H) e
  refine ⟨e', ?_⟩
  cases q : H b with
  | none => rfl
  | some x =>
    have hm : b ∈ trk h H := List.mem_filter.mpr ⟨List.mem_range.mpr (Heap.lt_size e'), by simp [q]⟩
    have z : (hidT h H).get? b = none := PySem.W.hideAll_none (trk h H) hm
    rw [z] at e; cases e
def allNews (g h : Heap) (L : Addr) : List (Addr × Obj) := (List.range h.objs.size).filterMap fun a => if a = L ∨ (g.get? a).isSome = true then none else (h.get? a).map fun o => (a, o)
def rest (g h : Heap) (L d : Addr) : List (Addr × Obj) := (allNews g h L).filter fun p => decide (p.1 ≠ d)
end L2
namespace L2
open PySem PySem.Spec PyProof.Rows
structure Mod (K : PySem.W.Frag) (mg : Str → Option Value) (base : Heap) : Prop where
  kin : K.In base
  glob : base.Ns mainGlobals mg
  blt : ∃ mb, base.Ns builtinsNs mb ∧ ∀ x : Str, x ≠ "__name__" → mb x = bootBuiltins x
  nolimit : base.NoLimit
structure Cx where
  prog : Program
  w : World
  K : PySem.W.Frag
  mg : Str → Option Value
  base : Heap
  A : Around
  N : List Str
  s₀ : Shared
  H₀ : Hp
  env : Env
  outer : List Env
  stack : List Env
  ex : List Addr
  fn : Str → Bool
  calm : Bool
  pn : List (Addr × Obj)
  xe : Value → Shared → Prop
def frs (l : List Env) : List Addr := l.filterMap (·.frame)
abbrev Cx.fs (X : Cx) : List Addr := frs X.outer
def Vis (sc : Scope) (x : Str) : Prop := sc.names.lookup x = some .local ∨ sc.names.lookup x = some .cell ∨ sc.names.lookup x = some .free
def Loc (sc : Scope) (x : Str) : Prop := sc.names.lookup x = some .local ∨ sc.names.lookup x = some .cell
def Look (env : Env) (h : Heap) (m : Str → Option Value) (x : Str) (u : Value) : Prop :=
  (env.kindOf x = some .local ∧ m x = some u) ∨ ((env.kindOf x = some .cell ∨ env.kindOf x = some .free) ∧ ∃ c, env.cells.lookup x = some c ∧ h.IsCell c (some u))
structure Cx.Ok (X : Cx) : Prop where
  mod : Mod X.K X.mg X.base
  kind : X.env.scope.kind = .function
  glob : X.env.globals = mainGlobals
  blt : X.env.builtins = builtinsNs
  above : X.s₀.heap.objs.size ≤ X.env.locals
  inj : ∀ x y c, X.env.cells.lookup x = some c → X.env.cells.lookup y = some c → x = y
  has : ∀ x, (X.env.kindOf x = some .cell ∨ X.env.kindOf x = some .free) → ∃ c, X.env.cells.lookup x = some c
  cab : ∀ x c, X.fn x = true → X.env.cells.lookup x = some c → X.s₀.heap.objs.size ≤ c
  hd : X.calm = true → X.A.handled = none
  frames : X.A.frames = some X.stack
  stk : X.stack = X.outer ∨ (X.stack = X.env :: X.outer ∧ X.env.frame = some X.env.locals)
  exf : ∀ b ∈ X.ex, b ≠ X.env.locals ∧ ∀ x c, X.env.cells.lookup x = some c → c ≠ b
  bs : ∀ b o, X.base.get? b = some o → X.s₀.heap.get? b = some o ∧ X.H₀ b = none
  bsz : X.base.objs.size ≤ X.s₀.heap.objs.size
  noex : ∀ b o, X.base.get? b = some o → b ∉ X.ex
  exfs : ∀ b ∈ X.ex, b ∉ X.fs
  funs : X.s₀.heap.FunFrames X.base X.outer
  frf : ∀ b ∈ X.fs, X.H₀ b = none
structure Inv (X : Cx) (pins : List (Addr × Obj)) (σ : List (Option V)) (H : Hp) (s : Shared) : Prop where
  ok : X.Ok
  os : s.os = X.s₀.os
  bare : AllBare s.gens
  base : Un X.fs X.ex X.H₀ H X.s₀.heap s.heap
  loc : ∃ m, s.heap.Ns X.env.locals m ∧ ∀ (i : Nat) (x : Str) (v : V), X.N[i]? = some x → σ[i]? = some (some v) → Vis X.env.scope x → ∃ u, RelV v u ∧ Look X.env s.heap m x u
  cell : ∀ x c, X.env.cells.lookup x = some c → ∃ v, s.heap.IsCell c v
  free : H X.env.locals = none
  freeC : ∀ x c, X.env.cells.lookup x = some c → H c = none
  pin : ∀ p ∈ X.pn ++ pins, s.heap.get? p.1 = some p.2 ∧ H p.1 = none ∧ p.1 ≠ X.env.locals ∧ p.1 ∉ X.fs ∧ ∀ v, p.2.data ≠ .cell v
  hok : HOk X.prog X.w H s.heap
  len : σ.length = X.N.length
section
variable {X : Cx} {pins : List (Addr × Obj)} {σ : List (Option V)} {H H' : Hp} {s : Shared} {h' : Heap}
theorem Cx.Ok.nofr (ok : X.Ok) {b : Addr} {o : Obj} (e : X.base.get? b = some o) : b ∉ X.fs := fun hb => by
  have := (ok.funs.mem hb).1
  rw [e] at this; cases this
theorem Inv.bs (I : Inv X pins σ H s) : ∀ b o, X.base.get? b = some o → s.heap.get? b = some o ∧ H b = none := fun b o e =>
  ⟨I.base.keep b o (I.ok.bs b o e).1 (I.ok.bs b o e).2 (I.ok.nofr e) (I.ok.noex b o e), I.base.free b o (I.ok.bs b o e).1 (I.ok.bs b o e).2 (I.ok.noex b o e)⟩
theorem Inv.bk (I : Inv X pins σ H s) : ∀ b o, X.base.get? b = some o → s.heap.get? b = some o := fun b o e => (I.bs b o e).1
theorem Inv.mod (I : Inv X pins σ H s) : Mod X.K X.mg X.base := I.ok.mod
theorem Inv.kIn (I : Inv X pins σ H s) : X.K.In s.heap := I.ok.mod.kin.keeps I.bk
theorem Inv.nolimit (I : Inv X pins σ H s) : s.heap.NoLimit := I.ok.mod.nolimit.keeps I.bk
theorem Inv.fr (I : Inv X pins σ H s) : ∃ m, Fr X.base X.env.locals s.heap m :=
  let ⟨m, hn, _⟩ := I.loc
  ⟨m, hn, I.bk, Nat.le_trans I.ok.bsz I.ok.above⟩
theorem Inv.lt (I : Inv X pins σ H s) : X.env.locals < s.heap.objs.size := let ⟨_, hn, _⟩ := I.loc; hn.lt
theorem Inv.sz (I : Inv X pins σ H s) : X.s₀.heap.objs.size ≤ s.heap.objs.size := Nat.le_trans I.ok.above (Nat.le_of_lt I.lt)
theorem Inv.nofs (I : Inv X pins σ H s) {a : Addr} (h : s.heap.objs.size ≤ a) : a ∉ X.fs := fun hb => by
  obtain ⟨_, o, ho, _⟩ := I.ok.funs.mem hb
  exact absurd (Nat.lt_of_lt_of_le (Heap.lt_size ho) (Nat.le_trans I.sz h)) (Nat.lt_irrefl _)
theorem Inv.cne (I : Inv X pins σ H s) : ∀ x c, X.env.cells.lookup x = some c → c ≠ X.env.locals := fun x c e z => by
  obtain ⟨v, o, ho, hd⟩ := I.cell x c e
  obtain ⟨m, ⟨o', es, ep, ho', hd', _⟩, _⟩ := I.loc
  rw [z, ho'] at ho; cases ho; rw [hd'] at hd; cases hd
theorem Inv.funs (I : Inv X pins σ H s) : s.heap.FunFrames X.base X.outer := by
  have all : ∀ (l : List Env), (∀ b ∈ frs l, b ∈ X.fs) → X.s₀.heap.FunFrames X.base l → s.heap.FunFrames X.base l := by
    intro l
    induction l with
    | nil => intro _ _; trivial
    | cons env r ih =>
      intro hs hl
      obtain ⟨hk, ⟨L, o, hf, hn, ho, hd⟩, hr⟩ := hl
      have hL : L ∈ X.fs := hs L (by unfold frs; rw [List.filterMap_cons, hf]; exact List.mem_cons_self)
      obtain ⟨sl, e⟩ := I.base.slot L o ho (I.ok.frf L hL) hL fun z => I.ok.exfs L z hL
      exact ⟨hk, ⟨L, _, hf, hn, e, hd⟩, ih (fun b hb => hs b (by unfold frs; rw [List.filterMap_cons, hf]; exact List.mem_cons_of_mem _ hb)) hr⟩
  exact all X.outer (fun _ hb => hb) I.ok.funs
theorem Inv.stack (I : Inv X pins σ H s) : s.heap.FunFrames X.base X.stack := by
  rcases I.ok.stk with e | ⟨e, hf⟩
  · rw [e]; exact I.funs
  · rw [e]
    obtain ⟨m, hn, _⟩ := I.loc
    refine .cons (by rw [I.ok.kind]; decide) hf hn ?_ I.funs
    exact Heap.get?_none_of_le (Nat.le_trans I.ok.bsz I.ok.above)
theorem Inv.stkSub (I : Inv X pins σ H s) : ∀ b ∈ frs X.stack, b ∈ X.env.locals :: X.fs := fun b hb => by
  rcases I.ok.stk with e | ⟨e, hf⟩
  · rw [e] at hb; exact List.mem_cons_of_mem _ hb
  · rw [e] at hb
    unfold frs at hb
    rw [List.filterMap_cons, hf] at hb
    exact hb
theorem Inv.stkFree (I : Inv X pins σ H s) : ∀ b ∈ frs X.stack, H b = none := fun b hb => by
  rcases List.mem_cons.mp (I.stkSub b hb) with e | hb
  · rw [e]; exact I.free
  · obtain ⟨_, o, ho, _⟩ := I.ok.funs.mem hb
    exact I.base.free b o ho (I.ok.frf b hb) fun z => I.ok.exfs b z hb
theorem Inv.step {g' : Array GenState} {t' : Nat} {d' : Drawn} {ch : List Addr} (I : Inv X pins σ H s)
    (hch : ∀ b ∈ ch, (b ∈ X.ex ∨ X.s₀.heap.objs.size ≤ b) ∧ b ≠ X.env.locals ∧ (∀ x c, X.env.cells.lookup x = some c → c ≠ b) ∧ ∀ p ∈ X.pn ++ pins, p.1 ≠ b)
    (keep : ∀ b o, b ≠ X.env.locals → b ∉ X.fs → b ∉ ch → s.heap.get? b = some o → H b = none → h'.get? b = some o)
    (slot : ∀ b o, b ≠ X.env.locals → b ∈ X.fs → b ∉ ch → s.heap.get? b = some o → H b = none → ∃ sl, h'.get? b = some { o with slots := sl }) (free : ∀ b o, b ∉ ch → s.heap.get? b = some o → H b = none → H' b = none)
    (there : ∀ b o, b ∉ ch → s.heap.get? b = some o → ∃ o', h'.get? b = some o')
    (tups : ∀ b xs, H b = some (.tup xs) → H' b = some (.tup xs)) (frzs : ∀ b o u, H b = some (.frz o u) → H' b = some (.frz o u)) (tbls : ∀ b ps, H b = some (.tbl ps) → ∃ more, H' b = some (.tbl (ps ++ more)))
    (ns : ∀ m, s.heap.Ns X.env.locals m → h'.Ns X.env.locals m) (hok : HOk X.prog X.w H' h') (hg : AllBare g') :
    Inv X pins σ H' { s with heap := h', gens := g', drawn := d', toks := t' } := by
  have neL : ∀ b o, X.s₀.heap.get? b = some o → b ≠ X.env.locals := fun b o e => Nat.ne_of_lt (Nat.lt_of_lt_of_le (Heap.lt_size e) I.ok.above)
  have neC : ∀ b o, X.s₀.heap.get? b = some o → b ∉ X.ex → b ∉ ch := fun b o e hx hb => by
    rcases (hch b hb).1 with z | z
    · exact hx z
    · exact absurd (Nat.lt_of_lt_of_le (Heap.lt_size e) z) (Nat.lt_irrefl _)
  have cellK : ∀ x c, X.env.cells.lookup x = some c → ∀ v, s.heap.IsCell c v → h'.IsCell c v := fun x c e v ⟨o, ho, hd⟩ => by
    have nch : c ∉ ch := fun z => (hch c z).2.2.1 x c e rfl
    by_cases hc : c ∈ X.fs
    · obtain ⟨sl, q⟩ := slot c o (I.cne x c e) hc nch ho (I.freeC x c e)
      exact ⟨_, q, hd⟩
    · exact ⟨o, keep c o (I.cne x c e) hc nch ho (I.freeC x c e), hd⟩
  refine ⟨I.ok, I.os, hg, ⟨fun b o e n hb hx => ?_, fun b o e n hb hx => ?_, fun b o e n hx => ?_, fun b o e hx => ?_, fun b xs e => tups b xs (I.base.tups b xs e), fun b o xs e => frzs b o xs (I.base.frzs b o xs e), fun b ps e => ?_⟩, ?_, fun x c e => ?_, ?_, fun x c e => ?_, fun p hp => ?_, hok, I.len⟩
  · exact keep b o (neL b o e) hb (neC b o e hx) (I.base.keep b o e n hb hx) (I.base.free b o e n hx)
  · obtain ⟨sl, e1⟩ := I.base.slot b o e n hb hx
    obtain ⟨sl', e2⟩ := slot b _ (neL b o e) hb (neC b o e hx) e1 (I.base.free b o e n hx)
    exact ⟨sl', e2⟩
  · obtain ⟨o', e1⟩ := I.base.there b o e hx
    exact free b o' (neC b o e hx) e1 (I.base.free b o e n hx)
  · obtain ⟨o', e1⟩ := I.base.there b o e hx
    exact there b o' (neC b o e hx) e1
  · obtain ⟨m1, e1⟩ := I.base.tbls b ps e
    obtain ⟨m2, e2⟩ := tbls b _ e1
    exact ⟨m1 ++ m2, by rw [e2, Array.append_assoc]⟩
  · obtain ⟨m, hn, hl⟩ := I.loc
    refine ⟨m, ns m hn, fun i x v e1 e2 e3 => ?_⟩
    obtain ⟨u, r, l⟩ := hl i x v e1 e2 e3
    refine ⟨u, r, ?_⟩
    rcases l with l | ⟨k, c, e, z⟩
    · exact .inl l
    · exact .inr ⟨k, c, e, cellK x c e _ z⟩
  · obtain ⟨v, z⟩ := I.cell x c e
    exact ⟨v, cellK x c e v z⟩
  · obtain ⟨m, ⟨o, _, _, ho, _⟩, _⟩ := I.loc
    exact free _ o (fun z => (hch _ z).2.1 rfl) ho I.free
  · obtain ⟨v, o, ho, hd⟩ := I.cell x c e
    exact free c o (fun z => (hch c z).2.2.1 x c e rfl) ho (I.freeC x c e)
  · obtain ⟨e, n, ne, nf, d⟩ := I.pin p hp
    have nch : p.1 ∉ ch := fun z => (hch p.1 z).2.2.2 p hp rfl
    exact ⟨keep p.1 p.2 ne nf nch e n, free p.1 p.2 nch e n, ne, nf, d⟩
theorem Inv.un {t' : Nat} (I : Inv X pins σ H s) (u : Un X.fs [] H H' s.heap h') (hok : HOk X.prog X.w H' h') : Inv X pins σ H' { s with heap := h', toks := t' } := by
  obtain ⟨m, ⟨o, es, ep, ho, r⟩, _⟩ := id I.loc
  obtain ⟨sl, hL⟩ := u.any ho I.free (by simp)
  exact I.step (g' := s.gens) (d' := s.drawn) (ch := []) (fun _ z => nomatch z) (fun b o _ hb _ e n => u.keep b o e n hb (by simp)) (fun b o _ hb _ e n => u.slot b o e n hb (by simp)) (fun b o _ e n => u.free b o e n (by simp)) (fun b o _ e => u.there b o e (by simp)) u.tups u.frzs u.tbls (fun m' hm => by
    obtain ⟨o', es', ep', ho', r'⟩ := hm
    rw [ho] at ho'; cases ho'
    exact ⟨_, es', ep', hL, r'⟩) hok I.bare
theorem Inv.call {g' : Array GenState} {t' : Nat} {d' : Drawn} {ch : List Addr} (I : Inv X pins σ H s) (u : Un (frs X.stack) ch H H' s.heap h') (hok : HOk X.prog X.w H' h') (hg : AllBare g')
    (hch : ∀ b ∈ ch, (b ∈ X.ex ∨ X.s₀.heap.objs.size ≤ b) ∧ b ≠ X.env.locals ∧ (∀ x c, X.env.cells.lookup x = some c → c ≠ b) ∧ ∀ p ∈ X.pn ++ pins, p.1 ≠ b) :
    Inv X pins σ H' { s with heap := h', gens := g', drawn := d', toks := t' } := by
  obtain ⟨m, ⟨o, es, ep, ho, r⟩, _⟩ := id I.loc
  obtain ⟨sl, hL⟩ := u.any ho I.free fun z => (hch _ z).2.1 rfl
  exact I.step (ch := ch) hch (fun b o hL hb hc e n => u.keep b o e n (fun z => (List.mem_cons.mp (I.stkSub b z)).elim hL hb) hc) (fun b o _ _ hc e n => u.any e n hc) (fun b o hc e n => u.free b o e n hc) (fun b o hc e => u.there b o e hc) u.tups u.frzs u.tbls (fun m' hm => by
    obtain ⟨o', es', ep', ho', r'⟩ := hm
    rw [ho] at ho'; cases ho'
    exact ⟨_, es', ep', hL, r'⟩) hok hg
theorem Inv.turned {t' : Nat} {it : Addr} (I : Inv X pins σ H s) (k : ∀ b o, b ≠ it → s.heap.get? b = some o → h'.get? b = some o) (hn : H it = none) (hL : it ≠ X.env.locals)
    (h1 : it ∈ X.ex ∨ X.s₀.heap.objs.size ≤ it) (h2 : ∀ x c, X.env.cells.lookup x = some c → c ≠ it) (h3 : ∀ p ∈ X.pn ++ pins, p.1 ≠ it) : Inv X pins σ H { s with heap := h', toks := t' } := by
  have nit : ∀ b u, H b = some u → b ≠ it := fun b u e z => by rw [z, hn] at e; cases e
  refine I.step (g' := s.gens) (d' := s.drawn) (ch := [it]) (fun b hb => ?_) (fun b o _ _ hc e _ => k b o (fun z => hc (by simp [z])) e) (fun b o _ _ hc e _ => ⟨o.slots, k b o (fun z => hc (by simp [z])) e⟩) (fun _ _ _ _ n => n)
    (fun b o hc e => ⟨o, k b o (fun z => hc (by simp [z])) e⟩) (fun _ _ e => e) (fun _ _ _ e => e) (fun b ps e => ⟨#[], by rw [e]; simp⟩) (fun m hm => ?_) (fun b u e => ?_) I.bare
  · have e : b = it := by simpa using hb
    subst e
    exact ⟨h1, hL, h2, h3⟩
  · obtain ⟨o, es, ep, ho, r⟩ := hm
    exact ⟨o, es, ep, k _ o (Ne.symm hL) ho, r⟩
  · refine (I.hok b u e).stay (fun c v hc q => k c v ?_ q) (fun _ q => q) fun _ _ q => q
    rcases hc with z | z
    · rw [z]; exact nit b u e
    · exact nit c _ z
theorem Inv.tok (I : Inv X pins σ H s) (t : Nat) : Inv X pins σ H { s with toks := t } := I.un (h' := s.heap) (t' := t) Un.refl I.hok
theorem Inv.kept {t' : Nat} (I : Inv X pins σ H s) (k : ∀ b u, s.heap.get? b = some u → h'.get? b = some u) : Inv X pins σ H { s with heap := h', toks := t' } := I.un (Un.kept k) (I.hok.kept k)
theorem Inv.laid {a : Addr} {o : HO} {t' : Nat} (I : Inv X pins σ H s) (k : ∀ b u, s.heap.get? b = some u → h'.get? b = some u) (hp : s.heap.objs.size ≤ a) (new : ObjOk X.prog X.w (upd H a o) h' a o) :
    Inv X pins σ (upd H a o) { s with heap := h', toks := t' } := I.un (Un.laid k hp (I.hok.fresh hp)) (I.hok.laid k hp new)
theorem Inv.write {x e : Addr} {o : HO} {t' : Nat} (I : Inv X pins σ H s) (mu : Mut (H x)) (he : e = x ∨ H e = some (.own x)) (k : ∀ b u, b ≠ e → s.heap.get? b = some u → h'.get? b = some u) (heo : ∃ u, h'.get? e = some u)
    (new : ObjOk X.prog X.w (upd H x o) h' x o) : Inv X pins σ (upd H x o) { s with heap := h', toks := t' } := I.un (Un.write mu he k heo) (I.hok.write mu he k heo new)
theorem Inv.weak {σ' : List (Option V)} (I : Inv X pins σ H s) (hl : σ'.length = σ.length) (w : ∀ (i : Nat) v, σ'[i]? = some (some v) → σ[i]? = some (some v)) : Inv X pins σ' H s :=
  ⟨I.ok, I.os, I.bare, I.base, let ⟨m, hn, hl'⟩ := I.loc; ⟨m, hn, fun i x v e1 e2 e3 => hl' i x v e1 (w i v e2) e3⟩, I.cell, I.free, I.freeC, I.pin, I.hok, hl.trans I.len⟩
theorem Inv.pins_of {pins' : List (Addr × Obj)} (I : Inv X pins σ H s) (h : ∀ p ∈ pins', s.heap.get? p.1 = some p.2 ∧ H p.1 = none ∧ p.1 ≠ X.env.locals ∧ p.1 ∉ X.fs ∧ ∀ v, p.2.data ≠ .cell v) : Inv X pins' σ H s :=
  ⟨I.ok, I.os, I.bare, I.base, I.loc, I.cell, I.free, I.freeC, fun p hp => (List.mem_append.mp hp).elim (fun z => I.pin p (List.mem_append_left _ z)) (h p), I.hok, I.len⟩
theorem nodup_ix {N : List Str} (hN : N.Nodup) {i j : Nat} {x : Str} (a : N[i]? = some x) (b : N[j]? = some x) : i = j := by
  obtain ⟨h1, e1⟩ := List.getElem?_eq_some_iff.mp a
  obtain ⟨h2, e2⟩ := List.getElem?_eq_some_iff.mp b
  exact (List.getElem_inj hN).mp (e1.trans e2.symm)
theorem store_ok2 {M : Model} {A : Around} {E : Value → Shared → Prop} {i : Nat} {x : Str} {v : V} {u : Value} {Q : Unit → Shared → Prop} (I : Inv X pins σ H s) (hN : X.N.Nodup) (hi : X.N[i]? = some x) (hx : Loc X.env.scope x) (r : RelV v u)
    (h : ∀ s', Inv X pins (σ.set i (some v)) H s' → (∃ a, Heap.SameBut a s.heap s'.heap ∧ (a = X.env.locals ∨ X.env.cells.lookup x = some a)) → Q () s') (hf : X.fn x = true ∨ X.env.scope.names.lookup x = some .local := by first | exact .inl rfl | exact .inr rfl | assumption) : wpAny M A (storeName X.env x u) Q E s := by
  obtain ⟨m, hn, hl⟩ := id I.loc
  have hcls : (X.env.scope.kind == .class || (X.env.scope.kind == .module && X.env.locals != X.env.globals)) = false := by rw [I.ok.kind]; rfl
  have hiσ : i < σ.length := by rw [I.len]; exact (List.getElem?_eq_some_iff.mp hi).1
  have cne := I.cne
  have tracked : ∀ {a : Addr} {h' : Heap}, (∃ o, s.heap.get? a = some o ∧ H a = none) → Heap.SameBut a s.heap h' → HOk X.prog X.w H h' := fun {a h'} ha hs b ob e => by
    obtain ⟨_, _, hfree⟩ := ha
    refine (I.hok b ob e).stay (fun c w' hc q => (hs.2 c ?_).trans q) (fun _ q => q) fun _ _ q => q
    rintro rfl
    rcases hc with rfl | hc
    · rw [hfree] at e; cases e
    · rw [hfree] at hc; cases hc
  rcases hx with hk | hk
  · refine wpAny_storeName_local hk hn (fun h' hn' hs => ?_) hcls
    obtain ⟨oL, _, _, hoL, _⟩ := id hn
    refine h _ ⟨I.ok, I.os, I.bare, ⟨fun b o e n hb hx => ?_, fun b o e n hb hx => ?_, I.base.free, fun b o e hx => ?_, I.base.tups, I.base.frzs, I.base.tbls⟩, ⟨_, hn', fun j y v' e1 e2 e3 => ?_⟩, fun y c e => ?_, I.free, I.freeC, fun p hp => ?_, tracked ⟨oL, hoL, I.free⟩ hs, by simpa using I.len⟩ ⟨_, hs, .inl rfl⟩
    · exact (hs.2 b (Nat.ne_of_lt (Nat.lt_of_lt_of_le (Heap.lt_size e) I.ok.above))).trans (I.base.keep b o e n hb hx)
    · obtain ⟨sl, e1⟩ := I.base.slot b o e n hb hx
      exact ⟨sl, (hs.2 b (Nat.ne_of_lt (Nat.lt_of_lt_of_le (Heap.lt_size e) I.ok.above))).trans e1⟩
    · obtain ⟨o', e1⟩ := I.base.there b o e hx
      exact ⟨o', (hs.2 b (Nat.ne_of_lt (Nat.lt_of_lt_of_le (Heap.lt_size e) I.ok.above))).trans e1⟩
    · by_cases hj : j = i
      · subst hj
        rw [hi] at e1; cases e1
        rw [List.getElem?_set_self hiσ] at e2
        cases e2
        exact ⟨u, r, .inl ⟨hk, by simp⟩⟩
      · rw [List.getElem?_set_ne (Ne.symm hj)] at e2
        obtain ⟨u', r', q⟩ := hl j y v' e1 e2 e3
        refine ⟨u', r', ?_⟩
        rcases q with ⟨k, e⟩ | ⟨k, c, e, z⟩
        · refine .inl ⟨k, ?_⟩
          have : y ≠ x := fun e => hj (nodup_ix hN e1 (e ▸ hi))
          simp [this, e]
        · exact .inr ⟨k, c, e, z.sameBut hs (cne y c e)⟩
    · obtain ⟨w', z⟩ := I.cell y c e
      exact ⟨w', z.sameBut hs (cne y c e)⟩
    · obtain ⟨e, n, ne, nf, d⟩ := I.pin p hp
      exact ⟨(hs.2 p.1 ne).trans e, n, ne, nf, d⟩
  · have hfn : X.fn x = true := by
      rcases hf with z | z
      · exact z
      · rw [z] at hk; cases hk
    obtain ⟨c, hc⟩ := I.ok.has x (.inl hk)
    obtain ⟨w', z⟩ := I.cell x c hc
    refine wpAny_storeName_cell I.ok.kind hk hc z (fun h' hc' hs => ?_)
    obtain ⟨oc, hoc, hocd⟩ := id z
    refine h { s with heap := h' } ⟨I.ok, I.os, I.bare, ⟨fun b o e n hb hx => ?_, fun b o e n hb hx => ?_, I.base.free, fun b o e hx => ?_, I.base.tups, I.base.frzs, I.base.tbls⟩, ⟨m, hn.sameBut hs (Ne.symm (cne x c hc)), fun j y v' e1 e2 e3 => ?_⟩, fun y c' e => ?_, I.free, I.freeC, fun p hp => ?_, tracked ⟨oc, hoc, I.freeC x c hc⟩ hs, by simpa using I.len⟩ ⟨c, hs, .inr hc⟩
    · exact (hs.2 b (Nat.ne_of_lt (Nat.lt_of_lt_of_le (Heap.lt_size e) (I.ok.cab x c hfn hc)))).trans (I.base.keep b o e n hb hx)
    · obtain ⟨sl, e1⟩ := I.base.slot b o e n hb hx
      exact ⟨sl, (hs.2 b (Nat.ne_of_lt (Nat.lt_of_lt_of_le (Heap.lt_size e) (I.ok.cab x c hfn hc)))).trans e1⟩
    · obtain ⟨o', e1⟩ := I.base.there b o e hx
      exact ⟨o', (hs.2 b (Nat.ne_of_lt (Nat.lt_of_lt_of_le (Heap.lt_size e) (I.ok.cab x c hfn hc)))).trans e1⟩
    · by_cases hj : j = i
      · subst hj
        rw [hi] at e1; cases e1
        rw [List.getElem?_set_self hiσ] at e2
        cases e2
        exact ⟨u, r, .inr ⟨.inl hk, c, hc, hc'⟩⟩
      · rw [List.getElem?_set_ne (Ne.symm hj)] at e2
        obtain ⟨u', r', q⟩ := hl j y v' e1 e2 e3
        refine ⟨u', r', ?_⟩
        rcases q with q | ⟨k, c', e, z'⟩
        · exact .inl q
        · refine .inr ⟨k, c', e, z'.sameBut hs ?_⟩
          rintro rfl
          exact hj (nodup_ix hN e1 (I.ok.inj _ _ _ e hc ▸ hi))
    · by_cases hcc : c' = c
      · subst hcc; exact ⟨_, hc'⟩
      · obtain ⟨w2, z2⟩ := I.cell y c' e
        exact ⟨w2, z2.sameBut hs hcc⟩
    · obtain ⟨e, n, ne, nf, d⟩ := I.pin p hp
      refine ⟨(hs.2 p.1 ?_).trans e, n, ne, nf, d⟩
      intro q
      rw [q, hoc] at e
      have q' : oc = p.2 := Option.some.inj e
      exact d w' (by rw [← q']; exact hocd)
theorem store_ok {M : Model} {A : Around} {E : Value → Shared → Prop} {i : Nat} {x : Str} {v : V} {u : Value} {Q : Unit → Shared → Prop} (I : Inv X pins σ H s) (hN : X.N.Nodup) (hi : X.N[i]? = some x) (hx : Loc X.env.scope x) (r : RelV v u)
    (h : ∀ s', Inv X pins (σ.set i (some v)) H s' → Q () s') (hf : X.fn x = true ∨ X.env.scope.names.lookup x = some .local := by first | exact .inl rfl | exact .inr rfl | assumption) : wpAny M A (storeName X.env x u) Q E s :=
  store_ok2 I hN hi hx r (fun s' I' _ => h s' I') hf
theorem Inv.call' {s' : Shared} {ch : List Addr} (I : Inv X pins σ H s) (ho : s'.os = s.os) (u : Un (frs X.stack) ch H H' s.heap s'.heap) (hok : HOk X.prog X.w H' s'.heap) (hg : AllBare s'.gens)
    (hch : ∀ b ∈ ch, (b ∈ X.ex ∨ X.s₀.heap.objs.size ≤ b) ∧ b ≠ X.env.locals ∧ (∀ x c, X.env.cells.lookup x = some c → c ≠ b) ∧ ∀ p ∈ X.pn ++ pins, p.1 ≠ b) : Inv X pins σ H' s' := by
  obtain ⟨h', g', d', t', o'⟩ := s'
  have e : o' = s.os := ho
  subst e
  exact I.call (g' := g') (t' := t') (d' := d') u hok hg hch
end
abbrev XK := Value → Option Addr → Hp → Prop
abbrev St := List (Option V)
abbrev VK := V → Hp → Prop
abbrev TE := St → Hp → VK → Prop
abbrev TT := St → Hp → (Bool → Hp → Prop) → Prop
abbrev TA := St → Hp → (List V → Hp → Prop) → Prop
structure Ends where
  nx : St → Hp → Prop
  rt : VK
  bk : St → Hp → Prop := fun _ _ => False
  ct : St → Hp → Prop := fun _ _ => False
abbrev TS := Ends → St → Hp → Prop
def EP (X : Cx) (pins : List (Addr × Obj)) (σ : St) (Q : VK) (u : Value) (s' : Shared) : Prop := ∃ v H', Inv X pins σ H' s' ∧ RelV v u ∧ Q v H'
def TP (X : Cx) (pins : List (Addr × Obj)) (σ : St) (Q : Bool → Hp → Prop) (b : Bool) (s' : Shared) : Prop := ∃ H', Inv X pins σ H' s' ∧ Q b H'
def AP (X : Cx) (pins : List (Addr × Obj)) (σ : St) (Q : List V → Hp → Prop) (us : List Value) (s' : Shared) : Prop := ∃ vs H', Inv X pins σ H' s' ∧ Vals vs us ∧ Q vs H'
def SP (X : Cx) (pins : List (Addr × Obj)) (D : Ends) (f : Flow) (s' : Shared) : Prop :=
  match f with
  | .next => ∃ σ' H', Inv X pins σ' H' s' ∧ D.nx σ' H'
  | .brk => ∃ σ' H', Inv X pins σ' H' s' ∧ D.bk σ' H'
  | .cont => ∃ σ' H', Inv X pins σ' H' s' ∧ D.ct σ' H'
  | .ret u => ∃ v σ' H', Inv X pins σ' H' s' ∧ RelV v u ∧ D.rt v H'
def PE (X : Cx) (e : Expr) (t : TE) : Prop :=
  ∀ (pins : List (Addr × Obj)) (s : Shared) (σ : St) (H : Hp) (Q : VK), Inv X pins σ H s → t σ H Q → wpAny (model X.prog X.w) X.A (eval e X.env) (EP X pins σ Q) X.xe s
def PT (X : Cx) (e : Expr) (t : TT) : Prop :=
  ∀ (pins : List (Addr × Obj)) (s : Shared) (σ : St) (H : Hp) (Q : Bool → Hp → Prop), Inv X pins σ H s → t σ H Q → wpAny (model X.prog X.w) X.A (isTrue e X.env (eval e X.env)) (TP X pins σ Q) X.xe s
def PW (X : Cx) (e : Expr) (t : TT) : Prop :=
  ∀ (whole : Sem Value) (pins : List (Addr × Obj)) (s : Shared) (σ : St) (H : Hp) (Q : Bool → Hp → Prop), Inv X pins σ H s → t σ H Q → wpAny (model X.prog X.w) X.A (isTrue e X.env whole) (TP X pins σ Q) X.xe s
theorem PW.pt {X : Cx} {e : Expr} {t : TT} (h : PW X e t) : PT X e t := h _
def PA (X : Cx) (es : List Expr) (t : TA) : Prop :=
  ∀ (pos : Pos) (pins : List (Addr × Obj)) (s : Shared) (σ : St) (H : Hp) (Q : List V → Hp → Prop), Inv X pins σ H s → t σ H Q → wpAny (model X.prog X.w) X.A (spliced (backTo pos (starEach es X.env))) (AP X pins σ Q) X.xe s
def PS (X : Cx) (st : Stmt) (t : TS) : Prop :=
  ∀ (pins : List (Addr × Obj)) (s : Shared) (σ : St) (H : Hp) (D : Ends), Inv X pins σ H s → t D σ H → wpAny (model X.prog X.w) X.A (exec st X.env) (SP X pins D) X.xe s
def PSs (X : Cx) (st : List Stmt) (t : TS) : Prop :=
  ∀ (pins : List (Addr × Obj)) (s : Shared) (σ : St) (H : Hp) (D : Ends), Inv X pins σ H s → t D σ H → wpAny (model X.prog X.w) X.A (execs st X.env) (SP X pins D) X.xe s
theorem thn {α : Type} {t : Sem α} {Q Q' : α → Shared → Prop} {M : Model} {A : Around} {E : Value → Shared → Prop} {s : Shared} (h : wpAny M A t Q E s) (hQ : ∀ a s, Q a s → Q' a s) : wpAny M A t Q' E s := wpAny_mono h hQ fun _ _ x => x
end L2
namespace L2
open PySem PySem.Spec PyProof.Rows
section
variable {X : Cx}
theorem bin {a b : Expr} {ta tb : TE} (ha : PE X a ta) (hb : PE X b tb) {pins : List (Addr × Obj)} {s : Shared} {σ : St} {H : Hp} {R : V → V → Hp → Prop} (I : Inv X pins σ H s) (h : ta σ H fun x H1 => tb σ H1 fun y H2 => R x y H2)
    {α : Type} {Q : α → Shared → Prop} {f : Value → Value → Sem α}
    (hf : ∀ v u s2 x y H2, Inv X pins σ H2 s2 → RelV x v → RelV y u → R x y H2 → wpAny (model X.prog X.w) X.A (f v u) Q X.xe s2) :
    wpAny (model X.prog X.w) X.A (eval a X.env) (fun v s₁ => wpAny (model X.prog X.w) X.A (eval b X.env) (fun u s₂ => wpAny (model X.prog X.w) X.A (f v u) Q X.xe s₂) X.xe s₁) X.xe s := by
  refine thn (ha pins s σ H _ I h) fun v s1 ⟨x, H1, I1, r1, q1⟩ => ?_
  refine thn (hb pins s1 σ H1 _ I1 q1) fun u s2 ⟨y, H2, I2, r2, q2⟩ => ?_
  exact hf v u s2 x y H2 I2 r1 r2 q2
def tVar (i : Nat) : TE := fun σ H Q => ∃ v, σ[i]? = some (some v) ∧ Q v H
def tC (v : V) : TE := fun _ H Q => Q v H
theorem pe_var {i : Nat} {x : Str} {pos : Pos} (hN : X.N[i]? = some x) (hv : Vis X.env.scope x) (hd : (x == ("__debug__" : Str)) = false := by decide) (hcd : (x == ("__classdict__" : Str)) = false := by decide) : PE X (.Name x pos) (tVar i) := by
  intro pins s σ H Q I h
  obtain ⟨v, e, h⟩ := h
  obtain ⟨m, hn, hl⟩ := I.loc
  obtain ⟨u, r, l⟩ := hl i x v hN e hv
  have fin : EP X pins σ Q u s := ⟨v, H, I, r, h⟩
  rcases l with ⟨hk, hm⟩ | ⟨hk, c, hc, hcell⟩
  · exact wpAny_Name (wpAny_loadName_local I.ok.kind hk hn hm fin) hd
  · rcases hk with hk | hk
    · exact wpAny_Name (wpAny_loadName_cell I.ok.kind hk hc hcell fin) hd
    · exact wpAny_Name (wpAny_loadName_free I.ok.kind hk hc hcell fin hcd) hd
theorem pe_int {i j pos} : PE X (.Constant (.int i) j pos) (tC (.int i)) := fun _ _ _ H _ I h => wpAny_Constant_int ⟨.int i, H, I.tok _, ⟨_, rfl⟩, h⟩
theorem pe_bl {b j pos} : PE X (.Constant (.bool b) j pos) (tC (.bl b)) := fun _ _ _ H _ I h => Constant_bool ⟨.bl b, H, I, rfl, h⟩
theorem pe_non {j pos} : PE X (.Constant .none j pos) (tC .non) := fun _ _ _ H _ I h => Constant_none ⟨.non, H, I, rfl, h⟩
theorem pe_str {x j pos} : PE X (.Constant (.str x) j pos) (tC (.str x)) := fun _ _ _ H _ I h => Calls.Constant_str ⟨.str x, H, I.tok _, ⟨_, rfl⟩, h⟩
def Gl (X : Cx) (x : Str) : Prop := X.env.kindOf x = some .globalImplicit
theorem ld_glob {E : Value → Shared → Prop} {pins : List (Addr × Obj)} {s : Shared} {σ : St} {H : Hp} {x : Str} {u : Value} {pos : Pos} {Q : Value → Shared → Prop} (I : Inv X pins σ H s) (hg : Gl X x) (hm : X.mg x = some u) (h : Q u s)
    (hd : (x == ("__debug__" : Str)) = false := by decide) : wpAny (model X.prog X.w) X.A (eval (.Name x pos) X.env) Q E s :=
  Calls.Name_function_global I.ok.kind hg (Calls.loadGlobal_global (by rw [I.ok.glob]; exact I.mod.glob.keeps I.bk) hm h) hd
theorem ld_blt {E : Value → Shared → Prop} {pins : List (Addr × Obj)} {s : Shared} {σ : St} {H : Hp} {x : Str} {u : Value} {pos : Pos} {Q : Value → Shared → Prop} (I : Inv X pins σ H s) (hg : Gl X x) (hm : X.mg x = none) (hv : bootBuiltins x = some u) (h : Q u s)
    (hn : x ≠ "__name__" := by decide) (hd : (x == ("__debug__" : Str)) = false := by decide) : wpAny (model X.prog X.w) X.A (eval (.Name x pos) X.env) Q E s := by
  obtain ⟨mb, h1, h2⟩ := I.mod.blt
  exact Calls.Name_function_global I.ok.kind hg (Calls.loadGlobal_builtin (by rw [I.ok.glob]; exact I.mod.glob.keeps I.bk) hm (by rw [I.ok.blt]; exact h1.keeps I.bk) ((h2 x hn).trans hv) h) hd
theorem pe_glob {x : Str} {v : V} {u : Value} {pos : Pos} (hg : Gl X x) (hm : X.mg x = some u) (r : RelV v u) (hd : (x == ("__debug__" : Str)) = false := by decide) : PE X (.Name x pos) (tC v) :=
  fun _ _ _ H _ I h => ld_glob I hg hm ⟨v, H, I, r, h⟩ hd
theorem pe_bltn {x : Str} {v : V} {u : Value} {pos : Pos} (hg : Gl X x) (hm : X.mg x = none) (hv : bootBuiltins x = some u) (r : RelV v u) (hn : x ≠ "__name__" := by decide) (hd : (x == ("__debug__" : Str)) = false := by decide) : PE X (.Name x pos) (tC v) :=
  fun _ _ _ H _ I h => ld_blt I hg hm hv ⟨v, H, I, r, h⟩ hn hd
variable {a b : Expr} {ta tb : TE} {pos : Pos}
def tB (t : TE) : TT := fun σ H Q => t σ H fun x H1 => ∃ c, x = .bl c ∧ Q c H1
theorem pt_val {e : Expr} {t : TE} (h : PE X e t) (he : ∀ whole, isTrue e X.env whole = (do let v ← whole; standAt e.pos; holding [v] (truthy v)) := by intro _; rfl) : PT X e (tB t) := by
  intro pins s σ H Q I hw
  refine isTrue_plain (thn (h pins s σ H _ I hw) fun v s1 ⟨x, H1, I1, r1, q1⟩ => ?_) (he _)
  obtain ⟨d, rfl, q⟩ := q1
  cases r1
  exact wpAny_truthy_bool ⟨H1, I1, q⟩
variable {tA tB' : TT} {rest : List Expr}
def tAnd (t u : TT) : TT := fun σ H Q => t σ H fun c H1 => if c = true then u σ H1 Q else Q false H1
def tOr (t u : TT) : TT := fun σ H Q => t σ H fun c H1 => if c = true then Q true H1 else u σ H1 Q
def tNot (t : TT) : TT := fun σ H Q => t σ H fun c H1 => Q (!c) H1
theorem pw_and1 (ha : PT X a tA) : PW X (.BoolOp .And [a] pos) tA := by
  intro wh pins s σ H Q I h
  refine isTrue_and (thn (ha pins s σ H Q I h) fun c s1 e => ?_)
  cases c with
  | true => exact isTrue_and_nil e
  | false => exact e
theorem pw_or1 (ha : PT X a tA) : PW X (.BoolOp .Or [a] pos) tA := by
  intro wh pins s σ H Q I h
  refine isTrue_or (thn (ha pins s σ H Q I h) fun c s1 e => ?_)
  cases c with
  | false => exact isTrue_or_nil e
  | true => exact e
theorem pw_and (ha : PT X a tA) (hb : PW X (.BoolOp .And (b :: rest) pos) tB') : PW X (.BoolOp .And (a :: b :: rest) pos) (tAnd tA tB') := by
  intro wh pins s σ H Q I h
  refine isTrue_and (thn (ha pins s σ H _ I h) fun c s1 ⟨H1, I1, q1⟩ => ?_)
  cases c with
  | true => exact hb wh pins s1 σ H1 Q I1 q1
  | false => exact ⟨H1, I1, q1⟩
theorem pw_or (ha : PT X a tA) (hb : PW X (.BoolOp .Or (b :: rest) pos) tB') : PW X (.BoolOp .Or (a :: b :: rest) pos) (tOr tA tB') := by
  intro wh pins s σ H Q I h
  refine isTrue_or (thn (ha pins s σ H _ I h) fun c s1 ⟨H1, I1, q1⟩ => ?_)
  cases c with
  | true => exact ⟨H1, I1, q1⟩
  | false => exact hb wh pins s1 σ H1 Q I1 q1
theorem pt_not (ha : PT X a tA) : PT X (.UnaryOp .Not a pos) (tNot tA) := by
  intro pins s σ H Q I h
  exact isTrue_not (ha pins s σ H (fun c H1 => Q (!c) H1) I h)
def tAndV (ta tb : TE) : TE := fun σ H Q => ta σ H fun x H1 => ∃ c, x = .bl c ∧ if c = true then tb σ H1 Q else Q (.bl false) H1
def tOrV (ta tb : TE) : TE := fun σ H Q => ta σ H fun x H1 => ∃ c, x = .bl c ∧ if c = true then Q (.bl true) H1 else tb σ H1 Q
def tNotV (ta : TE) : TE := fun σ H Q => ta σ H fun x H1 => ∃ c, x = .bl c ∧ Q (.bl (!c)) H1
theorem pe_one {op} {t : TE} (h : PE X a t) : PE X (.BoolOp op [a] pos) t := fun pins s σ H Q I hw => BoolOp_one (h pins s σ H Q I hw)
theorem pe_and (ha : PE X a ta) (hb : PE X (.BoolOp .And (b :: rest) pos) tb) : PE X (.BoolOp .And (a :: b :: rest) pos) (tAndV ta tb) := by
  intro pins s σ H Q I h
  refine BoolOp_and (thn (ha pins s σ H _ I h) fun v s1 ⟨x, H1, I1, r1, q1⟩ => ?_)
  obtain ⟨c, rfl, q1⟩ := q1
  cases r1
  refine wpAny_truthy_bool ?_
  cases c with
  | true => exact hb pins s1 σ H1 Q I1 q1
  | false => exact ⟨.bl false, H1, I1, rfl, q1⟩
theorem pe_or (ha : PE X a ta) (hb : PE X (.BoolOp .Or (b :: rest) pos) tb) : PE X (.BoolOp .Or (a :: b :: rest) pos) (tOrV ta tb) := by
  intro pins s σ H Q I h
  refine BoolOp_or (thn (ha pins s σ H _ I h) fun v s1 ⟨x, H1, I1, r1, q1⟩ => ?_)
  obtain ⟨c, rfl, q1⟩ := q1
  cases r1
  refine wpAny_truthy_bool ?_
  cases c with
  | false => exact hb pins s1 σ H1 Q I1 q1
  | true => exact ⟨.bl true, H1, I1, rfl, q1⟩
theorem pe_not (ha : PE X a ta) : PE X (.UnaryOp .Not a pos) (tNotV ta) := by
  intro pins s σ H Q I h
  refine UnaryOp_ (thn (ha pins s σ H _ I h) fun v s1 ⟨x, H1, I1, r1, q1⟩ => ?_)
  obtain ⟨c, rfl, q1⟩ := q1
  cases r1
  exact not_of (wpAny_truthy_bool ⟨.bl (!c), H1, I1, rfl, q1⟩)
end
end L2
namespace L2
open PySem PySem.Spec PyProof.Rows
def SqL (K : PySem.W.Frag) (H : Hp) (a : Addr) (xs : List V) : Prop :=
  Rd H a (.lst xs) ∨
    ∃ (o : Obj) (its : Array Value) (n : Nat), K.lookup a = some o ∧ o.cls = .type "list" ∧ o.dict = none ∧ o.data = .seq its n ∧ its.size ≤ sizeLine ∧ Vals xs its.toList
def SqT (K : PySem.W.Frag) (H : Hp) (a : Addr) (xs : List V) : Prop :=
  Rd H a (.tup xs) ∨
    ∃ (o : Obj) (its : Array Value) (n : Nat), K.lookup a = some o ∧ o.cls = .type "tuple" ∧ o.data = .seq its n ∧ its.size ≤ sizeLine ∧ Vals xs its.toList
def absV : Value → Option V
  | .none => some .non
  | .bool b => some (.bl b)
  | .int i _ => some (.int i)
  | .str x _ => some (.str x)
  | .bytes b _ => some (.byt b)
  | .float b _ => some (.flt b)
  | .ref a => some (.ref a)
  | .type n => some (.ty n)
  | _ => none
theorem RelV.abs {x : V} {u : Value} (r : RelV x u) : absV u = some x := by
  cases x with
  | non => cases r; rfl
  | bl _ => cases r; rfl
  | int _ => obtain ⟨t, rfl⟩ := r; rfl
  | str _ => obtain ⟨t, rfl⟩ := r; rfl
  | byt _ => obtain ⟨t, rfl⟩ := r; rfl
  | flt _ => obtain ⟨t, rfl⟩ := r; rfl
  | ref _ => cases r; rfl
  | ty _ => cases r; rfl
theorem RelV.inj {x y : V} {u : Value} (r : RelV x u) (q : RelV y u) : x = y := Option.some.inj (r.abs.symm.trans q.abs)
theorem Vals.inj : ∀ {xs ys : List V} {us : List Value}, Vals xs us → Vals ys us → xs = ys
  | _, _, _, .nil, .nil => rfl
  | _, _, _, .cons r t, .cons r' t' => by rw [r.inj r', Vals.inj t t']
section
variable {X : Cx} {pins : List (Addr × Obj)} {σ : St} {H : Hp} {s : Shared} {a : Addr} {xs ys : List V}
theorem SqL.of {K : PySem.W.Frag} (h : H a = some (.lst xs)) : SqL K H a xs := .inl (.inl h)
theorem SqT.of {K : PySem.W.Frag} (h : H a = some (.tup xs)) : SqT K H a xs := .inl (.inl h)
theorem Inv.list (I : Inv X pins σ H s) (h : SqL X.K H a xs) : ∃ its : List Value, Vals xs its ∧ PlainL s.heap a its.toArray ∧ xs.length ≤ sizeLine := by
  rcases h with h | ⟨o, its, n, hk, hc, hd, hs, hz, r⟩
  · obtain ⟨z, its, n, r, e⟩ := h.ok I.hok
    exact ⟨its, r, ⟨_, n, e, rfl, rfl, rfl⟩, z⟩
  · refine ⟨its.toList, r, ⟨o, n, I.kIn a o hk, hc, hd, by simpa using hs⟩, ?_⟩
    have e := r.length
    simp only [Array.length_toList] at e
    omega
theorem Inv.tuple (I : Inv X pins σ H s) (h : SqT X.K H a xs) : ∃ its : List Value, Vals xs its ∧ IsTup s.heap a its.toArray ∧ xs.length ≤ sizeLine := by
  rcases h with h | ⟨o, its, n, hk, hc, hs, hz, r⟩
  · obtain ⟨z, its, r, p⟩ := h.ok I.hok
    exact ⟨its, r, p.1, z⟩
  · refine ⟨its.toList, r, ⟨o, I.kIn a o hk, hc, n, by simpa using hs⟩, ?_⟩
    have e := r.length
    simp only [Array.length_toList] at e
    omega
theorem Inv.list_inj (I : Inv X pins σ H s) (h : SqL X.K H a xs) (h' : SqL X.K H a ys) : xs = ys := by
  obtain ⟨its, r, ⟨o, n, e, _, _, d⟩, _⟩ := I.list h
  obtain ⟨its', r', ⟨o', n', e', _, _, d'⟩, _⟩ := I.list h'
  rw [e] at e'; cases e'
  rw [d] at d'
  injection d' with d1 _
  have : its = its' := by simpa using congrArg Array.toList d1
  subst this
  exact r.inj r'
theorem Inv.tuple_inj (I : Inv X pins σ H s) (h : SqT X.K H a xs) (h' : SqT X.K H a ys) : xs = ys := by
  obtain ⟨its, r, ⟨o, e, _, n, d⟩, _⟩ := I.tuple h
  obtain ⟨its', r', ⟨o', e', _, n', d'⟩, _⟩ := I.tuple h'
  rw [e] at e'; cases e'
  rw [d] at d'
  injection d' with d1 _
  have : its = its' := by simpa using congrArg Array.toList d1
  subst this
  exact r.inj r'
end
abbrev Cx.wish (X : Cx) (E : Value → Shared → Prop) : Cx := { X with xe := E }
abbrev Cx.nox (X : Cx) : Cx := X.wish fun _ _ => False
theorem Cx.Ok.wish {X : Cx} (ok : X.Ok) (E : Value → Shared → Prop) : (X.wish E).Ok :=
  ⟨ok.mod, ok.kind, ok.glob, ok.blt, ok.above, ok.inj, ok.has, ok.cab, ok.hd, ok.frames, ok.stk, ok.exf, ok.bs, ok.bsz, ok.noex, ok.exfs, ok.funs, ok.frf⟩
theorem Cx.Ok.unwish {X : Cx} {E : Value → Shared → Prop} (ok : (X.wish E).Ok) : X.Ok :=
  ⟨ok.mod, ok.kind, ok.glob, ok.blt, ok.above, ok.inj, ok.has, ok.cab, ok.hd, ok.frames, ok.stk, ok.exf, ok.bs, ok.bsz, ok.noex, ok.exfs, ok.funs, ok.frf⟩
section
variable {X : Cx} {pins : List (Addr × Obj)} {σ : St} {H : Hp} {s : Shared} {E : Value → Shared → Prop}
theorem Inv.wish (I : Inv X pins σ H s) (E : Value → Shared → Prop) : Inv (X.wish E) pins σ H s := ⟨I.ok.wish E, I.os, I.bare, I.base, I.loc, I.cell, I.free, I.freeC, I.pin, I.hok, I.len⟩
theorem Inv.unwish (I : Inv (X.wish E) pins σ H s) : Inv X pins σ H s := ⟨I.ok.unwish, I.os, I.bare, I.base, I.loc, I.cell, I.free, I.freeC, I.pin, I.hok, I.len⟩
theorem SP.unwish {D : Ends} {f : Flow} {s' : Shared} (h : SP (X.wish E) pins D f s') : SP X pins D f s' := by
  cases f with
  | next => obtain ⟨σ', H', I, q⟩ := h; exact ⟨σ', H', I.unwish, q⟩
  | brk => obtain ⟨σ', H', I, q⟩ := h; exact ⟨σ', H', I.unwish, q⟩
  | cont => obtain ⟨σ', H', I, q⟩ := h; exact ⟨σ', H', I.unwish, q⟩
  | ret u => obtain ⟨v, σ', H', I, r, q⟩ := h; exact ⟨v, σ', H', I.unwish, r, q⟩
theorem PE.nox {e : Expr} {t : TE} (h : PE X.nox e t) : PE X e t := fun pins s σ H Q I hw =>
  wpAny_mono (h pins s σ H Q (I.wish _) hw) (fun _ _ ⟨v, H', I', r, q⟩ => ⟨v, H', I'.unwish, r, q⟩) fun _ _ z => False.elim z
theorem PT.nox {e : Expr} {t : TT} (h : PT X.nox e t) : PT X e t := fun pins s σ H Q I hw =>
  wpAny_mono (h pins s σ H Q (I.wish _) hw) (fun _ _ ⟨H', I', q⟩ => ⟨H', I'.unwish, q⟩) fun _ _ z => False.elim z
theorem PSs.nox {st : List Stmt} {t : TS} (h : PSs X.nox st t) : PSs X st t := fun pins s σ H D I hw =>
  wpAny_mono (h pins s σ H D (I.wish _) hw) (fun _ _ q => q.unwish) fun _ _ z => False.elim z
end
section
variable {X : Cx} {st : Stmt} {rest : List Stmt} {t u : TS} {e : Expr} {te : TE} {pos : Pos}
def tNext : TS := fun D σ H => D.nx σ H
def tSeq (t u : TS) : TS := fun D σ H => t { D with nx := u D } σ H
theorem pss_nil : PSs X [] tNext := fun _ _ σ H _ I h => wpAny_execs_nil ⟨σ, H, I, h⟩
theorem pss_cons (h1 : PS X st t) (h2 : PSs X rest u) : PSs X (st :: rest) (tSeq t u) := by
  intro pins s σ H D I h
  refine wpAny_execs_cons (thn (h1 pins s σ H { D with nx := u D } I h) fun f s1 q => ?_)
  cases f with
  | next =>
    obtain ⟨σ', H', I', q⟩ := q
    exact h2 pins s1 σ' H' D I' q
  | ret v => exact q
  | brk => exact q
  | cont => exact q
theorem Inv.quiet {pins : List (Addr × Obj)} {σ : St} {H : Hp} {s : Shared} (I : Inv X pins σ H s) : interactive X.env = false := by simp [interactive, I.ok.kind]
def tDrop (te : TE) : TS := fun D σ H => te σ H fun _ H1 => D.nx σ H1
theorem ps_expr (he : PE X e te) (hs : swapsWith e none pos.line X.env = pure false := by rfl) : PS X (.Expr e pos) (tDrop te) := by
  intro pins s σ H D I h
  exact wpAny_Expr_any (thn (he pins s σ H _ I h) fun v s1 ⟨x, H1, I1, r1, q1⟩ => ⟨σ, H1, I1, q1⟩) I.quiet hs
def tRet (te : TE) : TS := fun D σ H => te σ H D.rt
theorem ps_ret (he : PE X e te) : PS X (.Return (some e) pos) (tRet te) := by
  intro pins s σ H D I h
  exact wpAny_Return_some (thn (he pins s σ H _ I h) fun v s1 ⟨x, H1, I1, r1, q1⟩ => ⟨x, σ, H1, I1, r1, q1⟩)
def tIfS (c : TT) (t u : TS) : TS := fun D σ H => c σ H fun b H1 => if b = true then t D σ H1 else u D σ H1
theorem ps_if {c : Expr} {a b : List Stmt} {tc : TT} (hc : PT X c tc) (ha : PSs X a t) (hb : PSs X b u) : PS X (.If c a b pos) (tIfS tc t u) := by
  intro pins s σ H D I h
  refine wpAny_If (thn (hc pins s σ H _ I h) fun d s1 ⟨H1, I1, q1⟩ => ?_)
  cases d with
  | true => exact ha pins s1 σ H1 D I1 q1
  | false => exact hb pins s1 σ H1 D I1 q1
def tNever : TS := fun _ _ _ => False
theorem ps_never : PS X st tNever := fun _ _ _ _ _ _ h => h.elim
end
abbrev TG := V → St → Hp → (St → Hp → Prop) → Prop
abbrev TGs := List V → St → Hp → (St → Hp → Prop) → Prop
def PG (X : Cx) (target : Expr) (t : TG) : Prop :=
  ∀ (pins : List (Addr × Obj)) (s : Shared) (σ : St) (H : Hp) (v : V) (u : Value) (Q : St → Hp → Prop), Inv X pins σ H s → RelV v u → t v σ H Q →
    wpAny (model X.prog X.w) X.A (assign target X.env u) (fun _ s' => ∃ σ' H', Inv X pins σ' H' s' ∧ Q σ' H') X.xe s
def PGs (X : Cx) (ts : List Expr) (t : TGs) : Prop :=
  ∀ (pins : List (Addr × Obj)) (s : Shared) (σ : St) (H : Hp) (vs : List V) (us : List Value) (Q : St → Hp → Prop), Inv X pins σ H s → Vals vs us → t vs σ H Q →
    wpAny (model X.prog X.w) X.A (assignInOrder ((assignEach ts X.env).map (·.2)) us) (fun _ s' => ∃ σ' H', Inv X pins σ' H' s' ∧ Q σ' H') X.xe s
abbrev TSet := V → V → V → Hp → (Hp → Prop) → Prop
def PSet (X : Cx) (t : TSet) : Prop :=
  ∀ (pins : List (Addr × Obj)) (s : Shared) (σ : St) (H : Hp) (o i v : V) (ov iv u : Value) (Q : Hp → Prop), Inv X pins σ H s → RelV o ov → RelV i iv → RelV v u → t o i v H Q →
    wpAny (model X.prog X.w) X.A (setItem ov iv u) (fun _ s' => ∃ H', Inv X pins σ H' s' ∧ Q H') X.xe s
section
variable {X : Cx} {pos : Pos}
def gName (i : Nat) : TG := fun v σ H Q => Q (σ.set i (some v)) H
theorem pg_name {i : Nat} {x : Str} (hN : X.N.Nodup) (hi : X.N[i]? = some x) (hx : Loc X.env.scope x) (hf : X.fn x = true ∨ X.env.scope.names.lookup x = some .local := by first | exact .inl rfl | exact .inr rfl | assumption) : PG X (.Name x pos) (gName i) := by
  intro pins s σ H v u Q I r h
  exact wpAny_assign_Name (store_ok I hN hi hx r (fun s' I' => ⟨_, H, I', h⟩) hf)
def gNil : TGs := fun vs σ H Q => vs = [] ∧ Q σ H
def gCons (t : TG) (u : TGs) : TGs := fun vs σ H Q => ∃ v r, vs = v :: r ∧ t v σ H fun σ' H' => u r σ' H' Q
theorem pgs_nil : PGs X [] gNil := by
  intro pins s σ H vs us Q I r h
  obtain ⟨e, h⟩ := h
  subst e
  cases r
  exact assignInOrder_nil ⟨σ, H, I, h⟩
theorem pgs_cons {e : Expr} {es : List Expr} {t : TG} {u : TGs} (h1 : PG X e t) (h2 : PGs X es u)
    (hs : (assignEach (e :: es) X.env).map (·.2) = assign e X.env :: (assignEach es X.env).map (·.2) := by rfl) : PGs X (e :: es) (gCons t u) := by
  intro pins s σ H vs us Q I r h
  obtain ⟨v, vr, e1, h⟩ := h
  subst e1
  cases r with
  | cons r rr =>
    rw [hs]
    refine assignInOrder_cons (thn (h1 pins s σ H _ _ _ I r h) fun _ s1 ⟨σ1, H1, I1, q1⟩ => ?_)
    exact h2 pins s1 σ1 H1 _ _ Q I1 rr q1
def gTup (K : PySem.W.Frag) (n : Nat) (t : TGs) : TG := fun v σ H Q => ∃ a xs, v = .ref a ∧ SqT K H a xs ∧ xs.length = n ∧ t xs σ H Q
theorem pg_tup {es : List Expr} {k : Nat} {t : TGs} {n : Nat} (hc : X.calm = true) (h : PGs X es t)
    (hn : (assignEach es X.env).length = n := by rfl) (hst : (assignEach es X.env).findIdx? (·.1) = none := by rfl) : PG X (.Tuple es k pos) (gTup X.K n t) := by
  intro pins s σ H v u Q I r hw
  obtain ⟨a, xs, e1, hq, hl, hw⟩ := hw
  subst e1
  cases r
  obtain ⟨its, rv, ht, hz⟩ := I.tuple hq
  refine assign_Tuple_tuple (I.ok.hd hc) ht (by simp [hn, ← hl, rv.length]) hst fun h' hx => ?_
  have I1 : Inv X pins σ H { s with heap := h' } := I.kept (t' := s.toks) fun b o e => hx b o (Nat.ne_of_lt (Heap.lt_size e)) e
  exact h pins _ σ H xs _ Q I1 (by simpa using rv) hw
def gSub (to ti : TE) (t : TSet) : TG := fun v σ H Q => to σ H fun o H1 => ti σ H1 fun i H2 => t o i v H2 fun H3 => Q σ H3
theorem pg_sub {o i : Expr} {to ti : TE} {t : TSet} (ho : PE X o to) (hi : PE X i ti) (hs : PSet X t)
    (ha : ∀ v, assign (.Subscript o i pos) X.env v = (do
      let ov ← holding [v] (eval o X.env)
      let iv ← holding [v, ov] (eval i X.env)
      standAt pos
      holding [v, ov, iv] (setItem ov iv v)
      release [v, ov, iv] []) := by intro _; rfl) : PG X (.Subscript o i pos) (gSub to ti t) := by
  intro pins s σ H v u Q I r h
  rw [ha]
  refine wpAny_bind (wpAny_holding (thn (ho pins s σ H _ I h) fun ov s1 ⟨x, H1, I1, r1, q1⟩ => ?_))
  refine wpAny_bind (wpAny_holding (thn (hi pins s1 σ H1 _ I1 q1) fun iv s2 ⟨y, H2, I2, r2, q2⟩ => ?_))
  refine wpAny_bind (wpAny_standAt (wpAny_bind (wpAny_holding (thn (hs pins s2 σ H2 x y v ov iv u _ I2 r1 r2 r q2) fun _ s3 ⟨H3, I3, q3⟩ => ?_))))
  exact wpAny_release ⟨σ, H3, I3, q3⟩
def tAsg (te : TE) (g : TG) : TS := fun D σ H => te σ H fun x H1 => g x σ H1 D.nx
theorem ps_asg {tg e : Expr} {te : TE} {g : TG} (he : PE X e te) (hg : PG X tg g) (hs : swapsWithSole [tg] e pos.line X.env = pure false := by rfl) (hw : swappedStores [tg] e X.env = pure none := by rfl)
    (h1 : (assignEach [tg] X.env).map (·.2) = [assign tg X.env] := by rfl) : PS X (.Assign [tg] e pos) (tAsg te g) := by
  intro pins s σ H D I h
  refine wpAny_Assign_stores (thn (he pins s σ H _ I h) fun v s1 ⟨x, H1, I1, r1, q1⟩ => ?_) hs hw
  rw [h1]
  exact thn (hg pins s1 σ H1 x v _ I1 r1 q1) fun _ s2 q => q
theorem ps_set {i : Nat} {x : Str} {e : Expr} {te : TE} {pos' : Pos} (hN : X.N.Nodup) (hi : X.N[i]? = some x) (hx : Loc X.env.scope x) (he : PE X e te) (hs : swapsWith e (some (.Name x pos')) pos.line X.env = pure false := by rfl) (hf : X.fn x = true ∨ X.env.scope.names.lookup x = some .local := by first | exact .inl rfl | exact .inr rfl | assumption) :
    PS X (.Assign [.Name x pos'] e pos) (tAsg te (gName i)) := by
  intro pins s σ H D I h
  refine wpAny_Assign_Name (thn (he pins s σ H _ I h) fun v s1 ⟨y, H1, I1, r1, q1⟩ => ?_) hs
  exact store_ok I1 hN hi hx r1 (fun s2 I2 => ⟨_, H1, I2, q1⟩) hf
end
section
variable {X : Cx} {pos : Pos}
def tWhile (c : TT) (tb : TS) : TS := fun D σ H => ∃ W : Nat → St → Hp → Prop, (∃ m, W m σ H) ∧ ∀ m σ H, W m σ H →
  c σ H fun b H1 => if b = true then ∃ N : St → Hp → Prop, (∀ σ' H', N σ' H' → ∃ m', m' < m ∧ W m' σ' H') ∧ tb { D with nx := N, ct := N, bk := D.nx } σ H1 else D.nx σ H1
theorem ps_while {c : Expr} {body : List Stmt} {tc : TT} {tb : TS} (hp : PassesOwn (model X.prog X.w) X.A X.env X.xe) (hc : PT X c tc) (hb : PSs X body tb) : PS X (.While c body [] pos) (tWhile tc tb) := by
  intro pins s σ H D I h
  obtain ⟨W, ⟨m0, w0⟩, turn⟩ := h
  refine wpAny_While (codeAny_whileLoop (fun n s' => ∃ σ' H', Inv X pins σ' H' s' ∧ W n σ' H') ?_ m0 ⟨σ, H, I, w0⟩)
  rintro n s1 ⟨σ1, H1, I1, w1⟩
  refine wpAny_passesOwn hp (thn (hc pins s1 σ1 H1 _ I1 (turn n σ1 H1 w1)) fun b s2 ⟨H2, I2, q2⟩ => ?_)
  cases b with
  | true =>
    obtain ⟨N, hN, q2⟩ := q2
    rw [if_pos rfl]
    refine wpAny_passesOwn hp (thn (hb pins s2 σ1 H2 _ I2 q2) fun f s3 q3 => ?_)
    cases f with
    | next =>
      obtain ⟨σ3, H3, I3, n3⟩ := q3
      obtain ⟨m', hm, w3⟩ := hN σ3 H3 n3
      exact ⟨m', hm, σ3, H3, I3, w3⟩
    | cont =>
      obtain ⟨σ3, H3, I3, n3⟩ := q3
      obtain ⟨m', hm, w3⟩ := hN σ3 H3 n3
      exact ⟨m', hm, σ3, H3, I3, w3⟩
    | brk => exact q3
    | ret v => exact q3
  | false =>
    rw [if_neg Bool.false_ne_true]
    exact wpAny_execs_nil ⟨σ1, H2, I2, q2⟩
end
structure It where
  go : Nat → Hp → Prop
  yld : Nat → Hp → V → Hp → Prop
  stop : Nat → Hp → Prop
def FpOk (X : Cx) (pins : List (Addr × Obj)) (H : Hp) (b : Addr) : Prop :=
  H b = none ∧ b ≠ X.env.locals ∧ b ∉ X.fs ∧ (b ∈ X.ex ∨ X.s₀.heap.objs.size ≤ b) ∧ (∀ x c, X.env.cells.lookup x = some c → c ≠ b) ∧ ∀ p ∈ X.pn ++ pins, p.1 ≠ b
theorem Inv.fpOk {X : Cx} {pins : List (Addr × Obj)} {σ : St} {H H' : Hp} {s : Shared} {b : Addr} (I : Inv X pins σ H s) (hb : s.heap.objs.size ≤ b) (hn : H' b = none) : FpOk X pins H' b := by
  refine ⟨hn, Nat.ne_of_gt (Nat.lt_of_lt_of_le I.lt hb), I.nofs hb, .inr (Nat.le_trans I.sz hb), fun x c e z => ?_, fun p hp z => ?_⟩
  · obtain ⟨v, q⟩ := I.cell x c e
    exact absurd (Nat.lt_of_lt_of_le q.lt (by rw [z]; exact hb)) (Nat.lt_irrefl _)
  · exact absurd (Nat.lt_of_lt_of_le (Heap.lt_size (I.pin p hp).1) (by rw [z]; exact hb)) (Nat.lt_irrefl _)
structure Turn (P : Program) (w : World) (K : PySem.W.Frag) (tg : Expr) (J : It) (fp : List Addr) (it : Addr) (tn : Nat → Heap → Prop) : Prop where
  mem : it ∈ fp
  obj : ∀ i h, tn i h → ∀ b ∈ fp, ∃ o, h.get? b = some o ∧ ∀ v, o.data ≠ .cell v
  keep : ∀ i h h', tn i h → (∀ b ∈ fp, ∀ o, h.get? b = some o → h'.get? b = some o) → tn i h'
  item : ∀ (X : Cx), X.prog = P → X.w = w → X.K = K → X.calm = true → ∀ (i : Nat) (pins : List (Addr × Obj)) (s : Shared) (σ : St) (H : Hp) (E : Value → Shared → Prop), Inv X pins σ H s → (∀ b ∈ fp, FpOk X pins H b) → tn i s.heap → J.go i H →
    wpAny (model P w) X.A (pyNext (.ref it)) (fun r s1 => ∃ u, r = some u ∧
      wpAny (model P w) X.A (letOwnedTupleGo tg (.ref it) u) (fun _ s2 => ∃ x H', Inv X pins σ H' s2 ∧ RelV x u ∧ J.yld i H x H' ∧ tn (i + 1) s2.heap ∧ ∀ b ∈ fp, H' b = none) E s1) E s
  done : ∀ (X : Cx), X.prog = P → X.w = w → X.K = K → X.calm = true → ∀ (i : Nat) (pins : List (Addr × Obj)) (s : Shared) (σ : St) (H : Hp) (E : Value → Shared → Prop), Inv X pins σ H s → (∀ b ∈ fp, FpOk X pins H b) → tn i s.heap → J.stop i H →
    wpAny (model P w) X.A (pyNext (.ref it)) (fun r s1 => r = none ∧ Inv X pins σ H s1) E s
  self : ∀ (A : Around) (i : Nat) (s : Shared) (Q : Value → Shared → Prop) (E : Value → Shared → Prop), tn i s.heap → Q (.ref it) s → wpAny (model P w) A (pyIter (.ref it)) Q E s
abbrev TI := St → Hp → (It → Hp → Prop) → Prop
def PIE (X : Cx) (pins : List (Addr × Obj)) (σ : St) (tg : Expr) (R : It → Hp → Prop) (itv : Value) (s2 : Shared) : Prop :=
  ∃ (it : Addr) (fp : List Addr) (tn : Nat → Heap → Prop) (J : It) (H' : Hp), itv = .ref it ∧ Inv X pins σ H' s2 ∧ Turn X.prog X.w X.K tg J fp it tn ∧ tn 0 s2.heap ∧ (∀ b ∈ fp, FpOk X pins H' b) ∧ R J H'
def PI (X : Cx) (tg iter : Expr) (wi : TI) : Prop :=
  ∀ (pins : List (Addr × Obj)) (s : Shared) (σ : St) (H : Hp) (R : It → Hp → Prop), Inv X pins σ H s → wi σ H R →
    wpAny (model X.prog X.w) X.A (eval iter X.env) (fun v s1 => wpAny (model X.prog X.w) X.A (pyIter v) (PIE X pins σ tg R) X.xe s1) X.xe s
theorem go_of {M : Model} {A : Around} {E : Value → Shared → Prop} {s : Shared} {tg : Expr} {it : Addr} {u : Value} {o : Obj} {n : String} {vs : Array Value} {Q : Unit → Shared → Prop} (ho : s.heap.get? it = some o) (hc : o.cls = .type n) (hd : o.data = .fields vs)
    (hn : ["enumerate", "zip", "dict_itemiterator", "dict_reverseitemiterator", "odict_iterator", "itertools.zip_longest", "itertools.pairwise"].contains n = false) (hQ : Q () s) : wpAny M A (letOwnedTupleGo tg (.ref it) u) Q E s := by
  unfold letOwnedTupleGo
  cases tg <;> first
    | exact wpAny_pure hQ
    | (cases u <;> first
        | exact wpAny_pure hQ
        | (refine wpAny_bind (wpAny_load ho ?_)
           rw [hc, hd]
           show wpAny M A (if (["enumerate", "zip", "dict_itemiterator", "dict_reverseitemiterator", "odict_iterator", "itertools.zip_longest", "itertools.pairwise"].contains n && vs[0]? == some (rawInt _)) = true then _ else _) Q E s
           rw [if_neg (by intro h; rw [hn, Bool.false_and] at h; cases h)]
           exact wpAny_pure hQ))
def Itl (K : PySem.W.Frag) (a : Addr) : It :=
  ⟨fun i H => ∃ xs x, SqL K H a xs ∧ xs[i]? = some x, fun i H x H' => H' = H ∧ ∀ xs, SqL K H a xs → xs[i]? = some x, fun i H => ∃ xs, SqL K H a xs ∧ xs.length ≤ i⟩
def Itt (K : PySem.W.Frag) (a : Addr) : It :=
  ⟨fun i H => ∃ xs x, SqT K H a xs ∧ xs[i]? = some x, fun i H x H' => H' = H ∧ ∀ xs, SqT K H a xs → xs[i]? = some x, fun i H => ∃ xs, SqT K H a xs ∧ xs.length ≤ i⟩
def Itr (lo : Int) (n : Nat) : It := ⟨fun i _ => i < n, fun i H x H' => H' = H ∧ x = .int (lo + i), fun i _ => n ≤ i⟩
theorem turn_list {P : Program} {w : World} {K : PySem.W.Frag} {tg : Expr} (a it : Addr) : Turn P w K tg (Itl K a) [it] it (fun i h => h.IsListIter it a i) where
  mem := by simp
  obj := fun i h st b hb => by
    have e : b = it := by simpa using hb
    subst e
    obtain ⟨o, e, c, d⟩ := st
    exact ⟨o, e, fun v z => by rw [d] at z; cases z⟩
  keep := fun i h h' st k => st.at fun o e => k it (by simp) o e
  item := by
    intro X hP hw hK hc i pins s σ H E I hf st hg
    subst hP hw hK
    obtain ⟨xs, x, hq, hx⟩ := hg
    obtain ⟨its, rv, p, hz⟩ := I.list hq
    obtain ⟨u, hu, ru⟩ := rv.get hx
    obtain ⟨f0, f1, f2, f3, f4, f5⟩ := hf it (by simp)
    refine wpAny_pyNext_list_item st p.isList (x := u) (by simpa using hu) fun h' st' sb => ?_
    have I1 : Inv X pins σ H { s with heap := h' } := I.turned (t' := s.toks) (fun b o hb e => (sb.2 b hb).trans e) f0 f1 f3 f4 f5
    obtain ⟨o, e, c, d⟩ := id st'
    exact ⟨u, rfl, go_of (s := { s with heap := h' }) e c d (by decide) ⟨x, H, I1, ru, ⟨rfl, fun ys hy => by rw [I.list_inj hy hq]; exact hx⟩, st', fun b hb => (hf b hb).1⟩⟩
  done := by
    intro X hP hw hK hc i pins s σ H E I hf st hg
    subst hP hw hK
    obtain ⟨xs, hq, hx⟩ := hg
    obtain ⟨its, rv, p, hz⟩ := I.list hq
    obtain ⟨f0, f1, f2, f3, f4, f5⟩ := hf it (by simp)
    have hl := rv.length
    exact wpAny_pyNext_list_end (I.ok.hd hc) st p.isList (by simp; omega) fun h' eb => ⟨rfl, I.turned (t' := s.toks) (fun b o hb e => eb b o hb e) f0 f1 f3 f4 f5⟩
  self := fun _ _ _ _ _ st h => wpAny_pyIter_listiter st h
theorem turn_tuple {P : Program} {w : World} {K : PySem.W.Frag} {tg : Expr} (a it : Addr) : Turn P w K tg (Itt K a) [it] it (fun i h => h.IsTupleIter it a i) where
  mem := by simp
  obj := fun i h st b hb => by
    have e : b = it := by simpa using hb
    subst e
    obtain ⟨o, e, c, d⟩ := st
    exact ⟨o, e, fun v z => by rw [d] at z; cases z⟩
  keep := fun i h h' st k => st.at fun o e => k it (by simp) o e
  item := by
    intro X hP hw hK hc i pins s σ H E I hf st hg
    subst hP hw hK
    obtain ⟨xs, x, hq, hx⟩ := hg
    obtain ⟨its, rv, p, hz⟩ := I.tuple hq
    obtain ⟨u, hu, ru⟩ := rv.get hx
    obtain ⟨f0, f1, f2, f3, f4, f5⟩ := hf it (by simp)
    refine wpAny_pyNext_tuple_item st (show s.heap.IsTuple a its.toArray from p) (x := u) (by simpa using hu) fun h' st' sb => ?_
    have I1 : Inv X pins σ H { s with heap := h' } := I.turned (t' := s.toks) (fun b o hb e => (sb.2 b hb).trans e) f0 f1 f3 f4 f5
    obtain ⟨o, e, c, d⟩ := id st'
    exact ⟨u, rfl, go_of (s := { s with heap := h' }) e c d (by decide) ⟨x, H, I1, ru, ⟨rfl, fun ys hy => by rw [I.tuple_inj hy hq]; exact hx⟩, st', fun b hb => (hf b hb).1⟩⟩
  done := by
    intro X hP hw hK hc i pins s σ H E I hf st hg
    subst hP hw hK
    obtain ⟨xs, hq, hx⟩ := hg
    obtain ⟨its, rv, p, hz⟩ := I.tuple hq
    obtain ⟨f0, f1, f2, f3, f4, f5⟩ := hf it (by simp)
    have hl := rv.length
    exact wpAny_pyNext_tuple_end (I.ok.hd hc) st (show s.heap.IsTuple a its.toArray from p) (by simp; omega) fun h' eb => ⟨rfl, I.turned (t' := s.toks) (fun b o hb e => eb b o hb e) f0 f1 f3 f4 f5⟩
  self := fun _ _ _ _ _ st h => wpAny_pyIter_tupleiter st h
theorem turn_range {P : Program} {w : World} {K : PySem.W.Frag} {tg : Expr} (it : Addr) (lo : Int) (n : Nat) : Turn P w K tg (Itr lo n) [it] it (fun i h => IsRangeIter h it (lo + (i : Nat) * 1) ((n : Int) - (i : Nat)) 1) where
  mem := by simp
  obj := fun i h st b hb => by
    have e : b = it := by simpa using hb
    subst e
    exact ⟨_, st, fun v z => by
      have z' : Data.fields _ = Data.cell v := z
      cases z'⟩
  keep := fun i h h' st k => k it (by simp) _ st
  item := by
    intro X hP hw hK hc i pins s σ H E I hf st hg
    subst hP hw hK
    obtain ⟨f0, f1, f2, f3, f4, f5⟩ := hf it (by simp)
    have W := Walks.range (prog := X.prog) (w := X.w) (I.ok.hd hc) it lo 1 n
    refine W.item i s _ _ hg st fun v h' tk hv st' kk => ?_
    obtain ⟨t, rfl⟩ := hv
    have I1 : Inv X pins σ H { s with heap := h', toks := tk } := I.turned (fun b o hb e => kk b o (by simpa using hb) e) f0 f1 f3 f4 f5
    refine ⟨_, rfl, go_of (s := { s with heap := h', toks := tk }) (n := "range_iterator") st' rfl rfl (by decide) ⟨.int (lo + i), H, I1, ⟨t, ?_⟩, ⟨rfl, rfl⟩, st', fun b hb => (hf b hb).1⟩⟩
    rw [Int.mul_one]
  done := by
    intro X hP hw hK hc i pins s σ H E I hf st hg
    subst hP hw hK
    obtain ⟨f0, f1, f2, f3, f4, f5⟩ := hf it (by simp)
    exact wpAny_pyNext_range_end (I.ok.hd hc) st (by have : n ≤ i := hg; omega) fun h' eb => ⟨rfl, I.turned (t' := s.toks) (fun b o hb e => eb b o hb e) f0 f1 f3 f4 f5⟩
  self := fun _ _ _ _ _ st h => wpAny_pyIter_rangeiter st h
end L2
namespace L2
open PySem PySem.Spec PyProof.Rows
section
variable {X : Cx} {tg : Expr}
theorem range_it {pins : List (Addr × Obj)} {σ : St} {H : Hp} {s : Shared} {R : It → Hp → Prop} {E : Value → Shared → Prop} {lo hi : Int} {t u v : Tok} {tk : Nat} (I : Inv X pins σ H s) (h1 : -(2 ^ 62) ≤ lo) (h2 : lo < 2 ^ 62) (h3 : -(2 ^ 62) ≤ hi) (h4 : hi < 2 ^ 62)
    (q : R (Itr lo (hi - lo).toNat) H) : wpAny (model X.prog X.w) X.A (pyIter (.ref s.heap.objs.size)) (PIE X pins σ tg R) E { s with heap := s.heap.push { cls := .type "range", data := .fields #[.int lo t, .int hi u, .int 1 v] }, toks := tk } := by
  refine wpAny_pyIter_range (IsRange.new ..) (small_one h1 h2 h3 h4) ?_
  have I1 : Inv X pins σ H { s with heap := s.heap.push { cls := .type "range", data := .fields #[.int lo t, .int hi u, .int 1 v] }, toks := tk } := I.kept fun b o e => Heap.get?_push_of_some _ e
  refine ⟨(s.heap.push { cls := .type "range", data := .fields #[.int lo t, .int hi u, .int 1 v] }).objs.size, [(s.heap.push { cls := .type "range", data := .fields #[.int lo t, .int hi u, .int 1 v] }).objs.size], _, _, H, rfl,
    I1.kept (t' := tk) fun b o e => Heap.get?_push_of_some _ e, turn_range _ lo (hi - lo).toNat, ?_, fun b hb => ?_, q⟩
  · have e1 : lo + ((0 : Nat) : Int) * 1 = lo := by simp
    have e2 : (((hi - lo).toNat : Nat) : Int) - ((0 : Nat) : Int) = Builtin.Range.rangeSize lo hi 1 := by rw [rangeSize_one]; split <;> omega
    show IsRangeIter _ _ (lo + ((0 : Nat) : Int) * 1) ((((hi - lo).toNat : Nat) : Int) - ((0 : Nat) : Int)) 1
    rw [e1, e2]
    exact Heap.get?_push_size _ rfl
  · have e : b = (s.heap.push { cls := .type "range", data := .fields #[.int lo t, .int hi u, .int 1 v] }).objs.size := by simpa using hb
    subst e
    exact I1.fpOk (Nat.le_refl _) (I1.hok.fresh (Nat.le_refl _))
def iRng1 (ta : TA) : TI := fun σ H R => ta σ H fun vs H1 => ∃ j : Int, vs = [.int j] ∧ -(2 ^ 62) ≤ j ∧ j < 2 ^ 62 ∧ R (Itr 0 j.toNat) H1
def iRng2 (ta : TA) : TI := fun σ H R => ta σ H fun vs H1 => ∃ i j : Int, vs = [.int i, .int j] ∧ (-(2 ^ 62) ≤ i ∧ i < 2 ^ 62 ∧ -(2 ^ 62) ≤ j ∧ j < 2 ^ 62) ∧ R (Itr i (j - i).toNat) H1
theorem pi_range1 {a : Expr} {ta : TA} {p pos : Pos} (hg : Gl X "range") (hm : X.mg "range" = none) (ha : PA X [a] ta) (hs : starEach [a] X.env = [(false, eval a X.env)] := by rfl) : PI X tg (.Call (.Name "range" p) [a] [] pos) (iRng1 ta) := by
  intro pins s σ H R I h
  refine Call_ (ld_blt I hg hm boot_range (PyProof.Rows.callWith_type1 (thn (ha pos pins s σ H _ I h) fun us s1 ⟨vs, H1, I1, r1, q1⟩ => ?_) hs rfl))
  obtain ⟨j, e, q1, q2, q⟩ := q1
  subst e
  cases r1 with
  | cons r rr =>
    cases rr
    obtain ⟨t, rfl⟩ := r
    exact call_range_1 (range_it I1 (by omega) (by omega) q1 q2 (by simpa using q))
theorem pi_range2 {a b : Expr} {ta : TA} {p pos : Pos} (hg : Gl X "range") (hm : X.mg "range" = none) (ha : PA X [a, b] ta) (hs : starEach [a, b] X.env = [(false, eval a X.env), (false, eval b X.env)] := by rfl) (hs2 : starEach [b] X.env = [(false, eval b X.env)] := by rfl) :
    PI X tg (.Call (.Name "range" p) [a, b] [] pos) (iRng2 ta) := by
  intro pins s σ H R I h
  refine Call_ (ld_blt I hg hm boot_range (PyProof.Rows.callWith_type1 (thn (ha pos pins s σ H _ I h) fun us s1 ⟨vs, H1, I1, r1, q1⟩ => ?_) (by rw [hs, hs2]) (by rw [hs2]; rfl)))
  obtain ⟨i, j, e, ⟨q1, q2, q3, q4⟩, q⟩ := q1
  subst e
  cases r1 with
  | cons r rr =>
    cases rr with
    | cons r' rr =>
      cases rr
      obtain ⟨t, rfl⟩ := r
      obtain ⟨t', rfl⟩ := r'
      exact call_range_2 (range_it I1 q1 q2 q3 q4 q)
def tFor (wi : TI) (g : TG) (tb : TS) : TS := fun D σ H => wi σ H fun J H1 => ∃ W : Nat → Nat → St → Hp → Prop, (∃ m, W 0 m σ H1) ∧ ∀ i m σ H, W i m σ H →
  (J.stop i H ∧ D.nx σ H) ∨ (J.go i H ∧ ∃ N : St → Hp → Prop, (∀ σ' H', N σ' H' → ∃ m', m' < m ∧ W (i + 1) m' σ' H') ∧ ∀ x H', J.yld i H x H' → g x σ H' fun σ2 H2 => tb { D with nx := N, ct := N, bk := D.nx } σ2 H2)
def pinsAt (fp : List Addr) (h : Heap) : List (Addr × Obj) := fp.filterMap fun b => (h.get? b).map fun o => (b, o)
theorem mem_pinsAt {fp : List Addr} {h : Heap} {b : Addr} {o : Obj} (hb : b ∈ fp) (e : h.get? b = some o) : (b, o) ∈ pinsAt fp h := List.mem_filterMap.mpr ⟨b, hb, by rw [e]; rfl⟩
theorem of_pinsAt {fp : List Addr} {h : Heap} {p : Addr × Obj} (hp : p ∈ pinsAt fp h) : p.1 ∈ fp ∧ h.get? p.1 = some p.2 := by
  obtain ⟨b, hb, e⟩ := List.mem_filterMap.mp hp
  cases q : h.get? b with
  | none => rw [q] at e; cases e
  | some o =>
    rw [q] at e
    have e' : (b, o) = p := Option.some.inj e
    subst e'
    exact ⟨hb, q⟩
theorem Inv.pinned {pins : List (Addr × Obj)} {σ : St} {H : Hp} {s : Shared} {fp : List Addr} (I : Inv X pins σ H s) (hf : ∀ b ∈ fp, FpOk X pins H b) (ho : ∀ b ∈ fp, ∃ o, s.heap.get? b = some o ∧ ∀ v, o.data ≠ .cell v) : Inv X (pins ++ pinsAt fp s.heap) σ H s :=
  I.pins_of fun p hp => (List.mem_append.mp hp).elim (fun z => I.pin p (List.mem_append_right _ z)) fun z => by
    obtain ⟨hb, e⟩ := of_pinsAt z
    obtain ⟨f0, f1, f2, _⟩ := hf p.1 hb
    obtain ⟨o, e', d⟩ := ho p.1 hb
    rw [e] at e'; cases e'
    exact ⟨e, f0, f1, f2, d⟩
theorem Inv.unpinned {pins pl : List (Addr × Obj)} {σ : St} {H : Hp} {s : Shared} (I : Inv X (pins ++ pl) σ H s) : Inv X pins σ H s := I.pins_of fun p hp => I.pin p (List.mem_append_right _ (List.mem_append_left _ hp))
theorem ps_for {iter : Expr} {body : List Stmt} {wi : TI} {g : TG} {tb : TS} {pos : Pos} (hp : PassesOwn (model X.prog X.w) X.A X.env X.xe) (hc : X.calm = true) (hi : PI X tg iter wi) (hg : PG X tg g) (hb : PSs X body tb)
    (hs : ∀ x, foldedSetIterable iter X.env x = pure x := by intro _; rfl) : PS X (.For tg iter body [] pos) (tFor wi g tb) := by
  intro pins s σ H D I h
  refine wpAny_For (thn (hi pins s σ H _ I h) fun v s1 h1 => thn h1 fun itv s2 h2 => ?_) hs
  obtain ⟨it, fp, tn, J, H2, e, I2, T, st2, f2, W, ⟨m0, w0⟩, turn⟩ := h2
  subst e
  have stat : ∀ {H' : Hp}, (∀ b ∈ fp, H' b = none) → ∀ b ∈ fp, FpOk X pins H' b := fun hn b hb => ⟨hn b hb, (f2 b hb).2⟩
  refine codeAny_forLoop_any (fun n s' => ∃ i σ' H', Inv X pins σ' H' s' ∧ tn i s'.heap ∧ (∀ b ∈ fp, H' b = none) ∧ W i n σ' H') ?_ m0 ⟨0, σ, H2, I2, st2, fun b hb => (f2 b hb).1, w0⟩
  rintro n s3 ⟨i, σ3, H3, I3, st3, fr3, w3⟩
  rcases turn i n σ3 H3 w3 with ⟨stop, qn⟩ | ⟨go, N, hN, step⟩
  · refine wpAny_passesOwn hp (thn (T.done X rfl rfl rfl hc i pins s3 σ3 H3 X.xe I3 (stat fr3) st3 stop) fun r s4 ⟨hr, I4⟩ => ?_)
    subst hr
    exact wpAny_execs_nil ⟨σ3, H3, I4, qn⟩
  · refine wpAny_passesOwn hp (thn (T.item X rfl rfl rfl hc i pins s3 σ3 H3 X.xe I3 (stat fr3) st3 go) fun r s4 ⟨u, hr, h4⟩ => ?_)
    subst hr
    refine wpAny_passesOwn hp (thn h4 fun _ s5 ⟨x, H5, I5, r5, y5, st5, fr5⟩ => ?_)
    have I5' := I5.pinned (stat fr5) (T.obj _ _ st5)
    refine wpAny_passesOwn hp (thn (hg _ s5 σ3 H5 x u _ I5' r5 (step x H5 y5)) fun _ s6 ⟨σ6, H6, I6, q6⟩ => ?_)
    refine wpAny_passesOwn hp (thn (hb _ s6 σ6 H6 _ I6 q6) fun f s7 q7 => ?_)
    have again : ∀ {σ7 : St} {H7 : Hp}, Inv X (pins ++ pinsAt fp s5.heap) σ7 H7 s7 → N σ7 H7 → ∃ m, m < n ∧ ∃ i σ' H', Inv X pins σ' H' s7 ∧ tn i s7.heap ∧ (∀ b ∈ fp, H' b = none) ∧ W i m σ' H' := fun {σ7 H7} I7 n7 => by
      obtain ⟨m', hm, w7⟩ := hN σ7 H7 n7
      refine ⟨m', hm, i + 1, σ7, H7, I7.unpinned, T.keep _ _ _ st5 fun b hb o e => (I7.pin (b, o) (List.mem_append_right _ (List.mem_append_right _ (mem_pinsAt hb e)))).1, fun b hb => ?_, w7⟩
      obtain ⟨o, e, d⟩ := T.obj _ _ st5 b hb
      exact (I7.pin (b, o) (List.mem_append_right _ (List.mem_append_right _ (mem_pinsAt hb e)))).2.1
    cases f with
    | next => obtain ⟨σ7, H7, I7, n7⟩ := q7; exact again I7 n7
    | cont => obtain ⟨σ7, H7, I7, n7⟩ := q7; exact again I7 n7
    | brk => obtain ⟨σ7, H7, I7, q7⟩ := q7; exact ⟨σ7, H7, I7.unpinned, q7⟩
    | ret v => obtain ⟨x7, σ7, H7, I7, r7, q7⟩ := q7; exact ⟨x7, σ7, H7, I7.unpinned, r7, q7⟩
end
end L2
namespace L2
open PySem PySem.Spec PyProof.Rows
abbrev R2 := V → V → Hp → VK → Prop
def OpR (X : Cx) (f : Value → Value → Sem Value) (r : R2) : Prop :=
  ∀ (pins : List (Addr × Obj)) (s : Shared) (σ : St) (H : Hp) (x y : V) (v u : Value) (Q : VK), Inv X pins σ H s → RelV x v → RelV y u → r x y H Q →
    wpAny (model X.prog X.w) X.A (f v u) (EP X pins σ Q) X.xe s
def CallR (X : Cx) (f : Value) (r : List V → Hp → VK → Prop) : Prop :=
  ∀ (pins : List (Addr × Obj)) (s : Shared) (σ : St) (H : Hp) (xs : List V) (us : List Value) (Q : VK), Inv X pins σ H s → Vals xs us → r xs H Q →
    wpAny (model X.prog X.w) X.A (call f us) (EP X pins σ Q) X.xe s
def tOp (r : R2) (ta tb : TE) : TE := fun σ H Q => ta σ H fun x H1 => tb σ H1 fun y H2 => r x y H2 Q
def rI (C : Int → Int → Prop) (g : Int → Int → V) : R2 := fun x y H Q => ∃ i j, x = .int i ∧ y = .int j ∧ C i j ∧ Q (g i j) H
def rI0 (g : Int → Int → V) : R2 := fun x y H Q => ∃ i j, x = .int i ∧ y = .int j ∧ Q (g i j) H
section
variable {X : Cx} {a b c : Expr} {ta tb tc : TE} {pos : Pos}
theorem binT (ha : PE X a ta) (hb : PE X b tb) {pins : List (Addr × Obj)} {s : Shared} {σ : St} {H : Hp} {R : V → V → Hp → Prop} (I : Inv X pins σ H s)
    (h : ta σ H fun x H1 => tb σ H1 fun y H2 => R x y H2) {Q : Value → Shared → Prop} {f : Value → Value → Sem Value}
    (hf : ∀ v u s2 x y H2, Inv X pins σ H2 s2 → RelV x v → RelV y u → R x y H2 → wpAny (model X.prog X.w) X.A (f v u) Q X.xe s2) :
    wpAny (model X.prog X.w) X.A (eval a X.env) (fun v s₁ => wpAny (model X.prog X.w) X.A (eval b X.env) (fun u s₂ => wpAny (model X.prog X.w) X.A (f v u) Q X.xe s₂) X.xe s₁) X.xe s := by
  refine thn (ha pins s σ H _ I h) fun v s1 ⟨x, H1, I1, r1, q1⟩ => ?_
  refine thn (hb pins s1 σ H1 _ I1 q1) fun u s2 ⟨y, H2, I2, r2, q2⟩ => ?_
  exact hf v u s2 x y H2 I2 r1 r2 q2
theorem pe_op {op : Operator} {r : R2} (ho : OpR X (binaryOp op) r) (ha : PE X a ta) (hb : PE X b tb) : PE X (.BinOp a op b pos) (tOp r ta tb) := by
  intro pins s σ H Q I h
  exact wpAny_BinOp (binT ha hb I h fun v u s2 x y H2 I2 rx ry q => ho pins s2 σ H2 x y v u Q I2 rx ry q)
theorem opI {f : Value → Value → Sem Value} {C : Int → Int → Prop} {g : Int → Int → Int}
    (rule : ∀ (i j : Int) (t u : Tok) (s : Shared) (Q : Value → Shared → Prop) (E : Value → Shared → Prop), C i j → Q (.int (g i j) s.toks) { s with toks := s.toks + 1 } → wpAny (model X.prog X.w) X.A (f (.int i t) (.int j u)) Q E s) :
    OpR X f (rI C fun i j => .int (g i j)) := by
  intro pins s σ H x y v u Q I rx ry h
  obtain ⟨i, j, rfl, rfl, hc, q⟩ := h
  obtain ⟨t, rfl⟩ := rx
  obtain ⟨t', rfl⟩ := ry
  exact rule i j t t' s _ _ hc ⟨.int (g i j), H, I.tok _, ⟨_, rfl⟩, q⟩
theorem opI0 {f : Value → Value → Sem Value} {g : Int → Int → Int}
    (rule : ∀ (i j : Int) (t u : Tok) (s : Shared) (Q : Value → Shared → Prop) (E : Value → Shared → Prop), Q (.int (g i j) s.toks) { s with toks := s.toks + 1 } → wpAny (model X.prog X.w) X.A (f (.int i t) (.int j u)) Q E s) :
    OpR X f (rI0 fun i j => .int (g i j)) := by
  intro pins s σ H x y v u Q I rx ry h
  obtain ⟨i, j, rfl, rfl, q⟩ := h
  obtain ⟨t, rfl⟩ := rx
  obtain ⟨t', rfl⟩ := ry
  exact rule i j t t' s _ _ ⟨.int (g i j), H, I.tok _, ⟨_, rfl⟩, q⟩
theorem opB0 {f : Value → Value → Sem Value} {g : Int → Int → Bool}
    (rule : ∀ (i j : Int) (t u : Tok) (s : Shared) (Q : Value → Shared → Prop) (E : Value → Shared → Prop), Q (.bool (g i j)) s → wpAny (model X.prog X.w) X.A (f (.int i t) (.int j u)) Q E s) :
    OpR X f (rI0 fun i j => .bl (g i j)) := by
  intro pins s σ H x y v u Q I rx ry h
  obtain ⟨i, j, rfl, rfl, q⟩ := h
  obtain ⟨t, rfl⟩ := rx
  obtain ⟨t', rfl⟩ := ry
  exact rule i j t t' s _ _ ⟨.bl (g i j), H, I, rfl, q⟩
def CPow (i j : Int) : Prop := 0 ≤ j ∧ j ≤ 1000000 ∧ i.natAbs < 2 ^ 64
def CMul (i j : Int) : Prop := (-(2 ^ 64) < i ∧ i < 2 ^ 64) ∨ (-(2 ^ 64) < j ∧ j < 2 ^ 64)
theorem CMul.ok {i j : Int} (h : CMul i j) : IntMulOk i j := by
  rcases h with ⟨h1, h2⟩ | ⟨h1, h2⟩
  · exact .of_left (intBits_le_64 h1 h2)
  · exact .of_right (intBits_le_64 h1 h2)
theorem op_add : OpR X (binaryOp .Add) (rI0 fun i j => .int (i + j)) := opI0 fun _ _ _ _ _ _ _ q => add_int q
theorem op_sub : OpR X (binaryOp .Sub) (rI0 fun i j => .int (i - j)) := opI0 fun _ _ _ _ _ _ _ q => sub_int q
theorem op_mul : OpR X (binaryOp .Mult) (rI CMul fun i j => .int (i * j)) := opI fun _ _ _ _ _ _ _ hc q => mul_int q hc.ok
theorem op_mod : OpR X (binaryOp .Mod) (rI (fun _ j => 0 < j) fun i j => .int (i % j)) := opI fun i j _ _ _ _ _ hc q => by
  have h1 : (0 : Int) < j := hc
  exact mod_int' (by omega) (by rw [Int.fmod_eq_emod_of_nonneg i (by omega)]; exact q)
theorem op_shl : OpR X (binaryOp .LShift) (rI CPow fun i j => .int (i * 2 ^ j.toNat)) := opI fun _ _ _ _ _ _ _ hc q => lshift_int_small hc.1 hc.2.1 hc.2.2 q
theorem op_and : OpR X (binaryOp .BitAnd) (rI0 fun i j => .int (Builtin.bitAnd i j)) := opI0 fun _ _ _ _ _ _ _ q => and_int q
theorem op_or : OpR X (binaryOp .BitOr) (rI0 fun i j => .int (Builtin.bitOr i j)) := opI0 fun _ _ _ _ _ _ _ q => or_int q
theorem op_xor : OpR X (binaryOp .BitXor) (rI0 fun i j => .int (Builtin.bitXor i j)) := opI0 fun _ _ _ _ _ _ _ q => xor_int q
end
def scal : V → V → Bool
  | .non, .non => true | .non, .int _ => true | .int _, .non => true | .non, .bl _ => true | .bl _, .non => true | .non, .str _ => true | .str _, .non => true
  | .int _, .int _ => true | .bl _, .bl _ => true | .str _, .str _ => true | .byt _, .byt _ => true
  | .int _, .str _ => true | .str _, .int _ => true | .bl _, .str _ => true | .str _, .bl _ => true
  | _, _ => false
def rEq : R2 := fun x y H Q => scal x y = true ∧ Q (.bl (decide (x = y))) H
def rNe : R2 := fun x y H Q => scal x y = true ∧ Q (.bl (!decide (x = y))) H
theorem dec_int {i j : Int} : decide (V.int i = V.int j) = (i == j) := by
  rw [Bool.eq_iff_iff]
  simp
theorem dec_bl {i j : Bool} : decide (V.bl i = V.bl j) = (i == j) := by
  rw [Bool.eq_iff_iff]
  simp
theorem dec_str {i j : Str} : decide (V.str i = V.str j) = (i == j) := by
  rw [Bool.eq_iff_iff]
  simp
theorem dec_byt {i j : Array UInt8} : decide (V.byt i = V.byt j) = (i.toList == j.toList) := by
  rw [Bool.eq_iff_iff]
  cases i
  cases j
  simp
section
variable {X : Cx} {a b c : Expr} {ta tb tc : TE} {pos : Pos}
theorem fin_bl {pins : List (Addr × Obj)} {σ : St} {H : Hp} {s : Shared} {Q : VK} {k k' : Bool} (I : Inv X pins σ H s) (q : Q (.bl k) H) (e : k = k') : EP X pins σ Q (.bool k') s := by
  subst e
  exact ⟨.bl k, H, I, rfl, q⟩
theorem op_eq : OpR X (compareOp .Eq) rEq := by
  intro pins s σ H x y v u Q I rx ry h
  obtain ⟨hs, q⟩ := h
  cases x with
  | non =>
    cases rx
    cases y with
    | non => cases ry; exact PySem.EqNone.eq_none_none (fin_bl I q (by simp))
    | bl j => cases ry; exact PySem.EqNone.eq_none_bool (fin_bl I q (by simp))
    | int j => obtain ⟨t', rfl⟩ := ry; exact PySem.EqNone.eq_none_int (fin_bl I q (by simp))
    | str j => obtain ⟨t', rfl⟩ := ry; exact PySem.EqNone.eq_none_str (fin_bl I q (by simp))
    | _ => exact absurd (show false = true from hs) Bool.false_ne_true
  | bl i =>
    cases rx
    cases y with
    | non => cases ry; exact PySem.EqNone.eq_bool_none (fin_bl I q (by simp))
    | bl j => cases ry; exact eq_bool (fin_bl I q dec_bl)
    | str j => obtain ⟨t', rfl⟩ := ry; exact PySem.EqMixed.eq_bool_str (fin_bl I q (by simp))
    | _ => exact absurd (show false = true from hs) Bool.false_ne_true
  | int i =>
    obtain ⟨t, rfl⟩ := rx
    cases y with
    | non => cases ry; exact PySem.EqNone.eq_int_none (fin_bl I q (by simp))
    | int j => obtain ⟨t', rfl⟩ := ry; exact eq_int (fin_bl I q dec_int)
    | str j => obtain ⟨t', rfl⟩ := ry; exact PySem.EqMixed.eq_int_str (fin_bl I q (by simp))
    | _ => exact absurd (show false = true from hs) Bool.false_ne_true
  | str i =>
    obtain ⟨t, rfl⟩ := rx
    cases y with
    | non => cases ry; exact PySem.EqNone.eq_str_none (fin_bl I q (by simp))
    | bl j => cases ry; exact PySem.EqMixed.eq_str_bool (fin_bl I q (by simp))
    | int j => obtain ⟨t', rfl⟩ := ry; exact PySem.EqMixed.eq_str_int (fin_bl I q (by simp))
    | str j => obtain ⟨t', rfl⟩ := ry; exact eq_str (fin_bl I q dec_str)
    | _ => exact absurd (show false = true from hs) Bool.false_ne_true
  | byt i =>
    obtain ⟨t, rfl⟩ := rx
    cases y with
    | byt j => obtain ⟨t', rfl⟩ := ry; exact PySem.W.eq_bytes (fin_bl I q dec_byt)
    | _ => exact absurd (show false = true from hs) Bool.false_ne_true
  | _ => cases y <;> exact absurd (show false = true from hs) Bool.false_ne_true
theorem op_ne : OpR X (compareOp .NotEq) rNe := by
  intro pins s σ H x y v u Q I rx ry h
  obtain ⟨hs, q⟩ := h
  cases x with
  | non =>
    cases rx
    cases y with
    | non => cases ry; exact PySem.EqNone.ne_none_none (fin_bl I q (by simp))
    | bl j => cases ry; exact PySem.EqNone.ne_none_bool (fin_bl I q (by simp))
    | int j => obtain ⟨t', rfl⟩ := ry; exact PySem.EqNone.ne_none_int (fin_bl I q (by simp))
    | str j => obtain ⟨t', rfl⟩ := ry; exact PySem.EqNone.ne_none_str (fin_bl I q (by simp))
    | _ => exact absurd (show false = true from hs) Bool.false_ne_true
  | bl i =>
    cases rx
    cases y with
    | non => cases ry; exact PySem.EqNone.ne_bool_none (fin_bl I q (by simp))
    | bl j => cases ry; exact ne_bool (fin_bl I q (congrArg not dec_bl))
    | str j => obtain ⟨t', rfl⟩ := ry; exact PySem.EqMixed.ne_bool_str (fin_bl I q (by simp))
    | _ => exact absurd (show false = true from hs) Bool.false_ne_true
  | int i =>
    obtain ⟨t, rfl⟩ := rx
    cases y with
    | non => cases ry; exact PySem.EqNone.ne_int_none (fin_bl I q (by simp))
    | int j => obtain ⟨t', rfl⟩ := ry; exact ne_int (fin_bl I q (congrArg not dec_int))
    | str j => obtain ⟨t', rfl⟩ := ry; exact PySem.EqMixed.ne_int_str (fin_bl I q (by simp))
    | _ => exact absurd (show false = true from hs) Bool.false_ne_true
  | str i =>
    obtain ⟨t, rfl⟩ := rx
    cases y with
    | non => cases ry; exact PySem.EqNone.ne_str_none (fin_bl I q (by simp))
    | bl j => cases ry; exact PySem.EqMixed.ne_str_bool (fin_bl I q (by simp))
    | int j => obtain ⟨t', rfl⟩ := ry; exact PySem.EqMixed.ne_str_int (fin_bl I q (by simp))
    | str j => obtain ⟨t', rfl⟩ := ry; exact ne_str (fin_bl I q (congrArg not dec_str))
    | _ => exact absurd (show false = true from hs) Bool.false_ne_true
  | byt i =>
    obtain ⟨t, rfl⟩ := rx
    cases y with
    | byt j => obtain ⟨t', rfl⟩ := ry; exact PySem.W.ne_bytes (fin_bl I q (congrArg not dec_byt))
    | _ => exact absurd (show false = true from hs) Bool.false_ne_true
  | _ => cases y <;> exact absurd (show false = true from hs) Bool.false_ne_true
theorem op_lt : OpR X (compareOp .Lt) (rI0 fun i j => .bl (decide (i < j))) := opB0 fun _ _ _ _ _ _ _ q => lt_int q
theorem op_le : OpR X (compareOp .LtE) (rI0 fun i j => .bl (decide (i ≤ j))) := opB0 fun _ _ _ _ _ _ _ q => le_int q
theorem op_gt : OpR X (compareOp .Gt) (rI0 fun i j => .bl (decide (j < i))) := opB0 fun _ _ _ _ _ _ _ q => gt_int q
theorem op_ge : OpR X (compareOp .GtE) (rI0 fun i j => .bl (decide (j ≤ i))) := opB0 fun _ _ _ _ _ _ _ q => ge_int q
theorem op_isN : OpR X (compareOp .Is) (fun x y H Q => y = .non ∧ Q (.bl (decide (x = .non))) H) := by
  intro pins s σ H x y v u Q I rx ry h
  obtain ⟨rfl, q⟩ := h
  cases ry
  refine is_none_gen (fin_bl I q ?_)
  cases x <;> first
    | (cases rx; rfl)
    | (obtain ⟨t, rfl⟩ := rx; rfl)
theorem op_notN : OpR X (compareOp .IsNot) (fun x y H Q => y = .non ∧ Q (.bl (!decide (x = .non))) H) := by
  intro pins s σ H x y v u Q I rx ry h
  obtain ⟨rfl, q⟩ := h
  cases ry
  refine isnot_none_gen (fin_bl I q ?_)
  cases x <;> first
    | (cases rx; rfl)
    | (obtain ⟨t, rfl⟩ := rx; rfl)
theorem OpR.or {f : Value → Value → Sem Value} {r r' : R2} (h : OpR X f r) (h' : OpR X f r') : OpR X f (fun x y H Q => r x y H Q ∨ r' x y H Q) := by
  intro pins s σ H x y v u Q I rx ry q
  rcases q with q | q
  · exact h pins s σ H x y v u Q I rx ry q
  · exact h' pins s σ H x y v u Q I rx ry q
theorem nomark (b : Expr) {op : CmpOp} (h : op ≠ .In := by decide) (h2 : op ≠ .NotIn := by decide) : behindInMarks op b = false := by
  have e1 : (op == CmpOp.In) = false := by cases op <;> first | rfl | exact absurd rfl h
  have e2 : (op == CmpOp.NotIn) = false := by cases op <;> first | rfl | exact absurd rfl h2
  cases b <;> simp [behindInMarks, e1, e2]
theorem pe_cmpR {op : CmpOp} {r : R2} (ho : OpR X (compareOp op) r) (ha : PE X a ta) (hb : PE X b tb) (hm : behindInMarks op b = false) : PE X (.Compare a [op] [b] pos) (tOp r ta tb) := by
  intro pins s σ H Q I h
  exact wpAny_Compare1 (binT ha hb I h fun v u s2 x y H2 I2 rx ry q => ho pins s2 σ H2 x y v u Q I2 rx ry q) hm
def tTest (t : TE) : TT := fun σ H Q => t σ H fun x H' => ∃ k, x = .bl k ∧ Q k H'
theorem pt_cmpR {op : CmpOp} {r : R2} (ho : OpR X (compareOp op) r) (ha : PE X a ta) (hb : PE X b tb) (hm : behindInMarks op b = false) : PT X (.Compare a [op] [b] pos) (tTest (tOp r ta tb)) := by
  intro pins s σ H Q I h
  refine wpAny_isTrue_Compare1 (thn (ha pins s σ H _ I h) fun v s1 ⟨x, H1, I1, r1, q1⟩ => thn (hb pins s1 σ H1 _ I1 q1) fun u s2 ⟨y, H2, I2, r2, q2⟩ =>
    thn (ho pins s2 σ H2 x y v u _ I2 r1 r2 q2) fun c s3 ⟨z, H3, I3, r3, k, e, q3⟩ => ?_) hm
  subst e
  cases r3
  exact wpAny_truthy_bool ⟨H3, I3, q3⟩
def tChain (r r' : R2) (ta tb tc : TE) : TE := fun σ H Q => ta σ H fun x H1 => tb σ H1 fun y H2 => r x y H2 fun z H3 => ∃ k, z = .bl k ∧
  (if k = true then tc σ H3 fun w' H4 => r' y w' H4 Q else Q (.bl false) H3)
theorem pe_chain {op op' : CmpOp} {r r' : R2} (ho : OpR X (compareOp op) r) (ho' : OpR X (compareOp op') r') (ha : PE X a ta) (hb : PE X b tb) (hc : PE X c tc)
    (hm : lastMarks [op, op'] [b, c] = false := by with_unfolding_all rfl) : PE X (.Compare a [op, op'] [b, c] pos) (tChain r r' ta tb tc) := by
  intro pins s σ H Q I h
  refine Compare_chain (thn (ha pins s σ H _ I h) fun v s1 ⟨x, H1, I1, r1, q1⟩ => chain_link (thn (hb pins s1 σ H1 _ I1 q1) fun u s2 ⟨y, H2, I2, r2, q2⟩ =>
    thn (ho pins s2 σ H2 x y v u _ I2 r1 r2 q2) fun d s3 ⟨z, H3, I3, r3, k, e, q3⟩ => ?_)) hm
  subst e
  cases r3
  refine wpAny_truthy_bool ?_
  cases k with
  | false => exact ite_ff ⟨.bl false, H3, I3, rfl, q3⟩
  | true => exact ite_tt (chain_last (thn (hc pins s3 σ H3 _ I3 q3) fun w' s4 ⟨z', H4, I4, r4, q4⟩ => ho' pins s4 σ H4 y z' u w' Q I4 r2 r4 q4))
theorem pt_chain {op op' : CmpOp} {r r' : R2} (ho : OpR X (compareOp op) r) (ho' : OpR X (compareOp op') r') (ha : PE X a ta) (hb : PE X b tb) (hc : PE X c tc)
    (hm : lastMarks [op, op'] [b, c] = false := by with_unfolding_all rfl) : PT X (.Compare a [op, op'] [b, c] pos) (tTest (tChain r r' ta tb tc)) := by
  intro pins s σ H Q I h
  refine isTrue_chain (thn (ha pins s σ H _ I h) fun v s1 ⟨x, H1, I1, r1, q1⟩ => test_link (thn (hb pins s1 σ H1 _ I1 q1) fun u s2 ⟨y, H2, I2, r2, q2⟩ =>
    thn (ho pins s2 σ H2 x y v u _ I2 r1 r2 q2) fun d s3 ⟨z, H3, I3, r3, k, e, q3⟩ => ?_)) hm
  subst e
  cases r3
  refine wpAny_truthy_bool ?_
  cases k with
  | false =>
    obtain ⟨k', e', q'⟩ := q3
    cases e'
    exact ite_ff ⟨H3, I3, q'⟩
  | true =>
    refine ite_tt (test_last (thn (hc pins s3 σ H3 _ I3 q3) fun w' s4 ⟨z', H4, I4, r4, q4⟩ => thn (ho' pins s4 σ H4 y z' u w' _ I4 r2 r4 q4) fun d' s5 ⟨z2, H5, I5, r5, k2, e2, q5⟩ => ?_))
    subst e2
    cases r5
    exact wpAny_truthy_bool ⟨H5, I5, q5⟩
theorem line63 : (sizeLine : Nat) < 2 ^ 63 := by rw [sizeLine_eq]; decide
theorem op_add_str : OpR X (binaryOp .Add) (fun x y H Q => ∃ i j, x = .str i ∧ y = .str j ∧ i.length + j.length ≤ sizeLine ∧ Q (.str (i ++ j)) H) := by
  intro pins s σ H x y v u Q I rx ry h
  obtain ⟨i, j, rfl, rfl, hz, q⟩ := h
  obtain ⟨t, rfl⟩ := rx
  obtain ⟨t', rfl⟩ := ry
  exact add_str (fun t' tk => ⟨.str (i ++ j), H, I.tok _, ⟨_, rfl⟩, q⟩) hz
theorem vals1 {x : V} {us : List Value} (r : Vals [x] us) : ∃ u, us = [u] ∧ RelV x u := by
  cases r with
  | cons r1 r2 => cases r2; exact ⟨_, rfl, r1⟩
theorem vals2 {x y : V} {us : List Value} (r : Vals [x, y] us) : ∃ u w', us = [u, w'] ∧ RelV x u ∧ RelV y w' := by
  cases r with
  | cons r1 r2 =>
    cases r2 with
    | cons r3 r4 => cases r4; exact ⟨_, _, rfl, r1, r3⟩
theorem call_abs : CallR X (.builtin "abs") (fun xs H Q => ∃ i, xs = [.int i] ∧ Q (.int (if i < 0 then -i else i)) H) := by
  intro pins s σ H xs us Q I r h
  obtain ⟨i, rfl, q⟩ := h
  obtain ⟨u, rfl, t, rfl⟩ := vals1 r
  exact call_abs_int fun u tk => ⟨.int (if i < 0 then -i else i), H, I.tok _, ⟨_, rfl⟩, q⟩
theorem call_max2 (hc : X.calm = true) : CallR X (.builtin "max") (fun xs H Q => ∃ i j, xs = [.int i, .int j] ∧ Q (.int (if j > i then j else i)) H) := by
  intro pins s σ H xs us Q I r h
  obtain ⟨i, j, rfl, q⟩ := h
  obtain ⟨u, w', rfl, ⟨t, rfl⟩, ⟨t', rfl⟩⟩ := vals2 r
  refine max_two_ints (I.ok.hd hc) fun h' tk k => ⟨_, H, I.kept k, ?_, q⟩
  by_cases hj : j > i
  · rw [if_pos hj, if_pos hj]; exact ⟨_, rfl⟩
  · rw [if_neg hj, if_neg hj]; exact ⟨_, rfl⟩
theorem call_min2 (hc : X.calm = true) : CallR X (.builtin "min") (fun xs H Q => ∃ i j, xs = [.int i, .int j] ∧ Q (.int (if j < i then j else i)) H) := by
  intro pins s σ H xs us Q I r h
  obtain ⟨i, j, rfl, q⟩ := h
  obtain ⟨u, w', rfl, ⟨t, rfl⟩, ⟨t', rfl⟩⟩ := vals2 r
  refine min_two_ints (I.ok.hd hc) fun h' tk k => ⟨_, H, I.kept k, ?_, q⟩
  by_cases hj : j < i
  · rw [if_pos hj, if_pos hj]; exact ⟨_, rfl⟩
  · rw [if_neg hj, if_neg hj]; exact ⟨_, rfl⟩
theorem call_int1 : CallR X (.type "int") (fun xs H Q => (∃ i, xs = [.int i] ∧ Q (.int i) H) ∨ ∃ k, xs = [.bl k] ∧ Q (.int (if k then 1 else 0)) H) := by
  intro pins s σ H xs us Q I r h
  rcases h with ⟨i, rfl, q⟩ | ⟨k, rfl, q⟩
  · obtain ⟨u, rfl, t, rfl⟩ := vals1 r
    exact call_int_int ⟨.int i, H, I, ⟨_, rfl⟩, q⟩
  · obtain ⟨u, rfl, r1⟩ := vals1 r
    cases r1
    exact call_int_bool ⟨.int (if k then 1 else 0), H, I.tok _, ⟨_, rfl⟩, q⟩
end
end L2
namespace L2
open PySem PySem.Spec PyProof.Rows
structure ObjM (h : Heap) (x dx C : Addr) (mA : Str → Option Value) : Prop where
  obj : h.get? x = some (PySem.W.instObj C dx)
  ns : h.Ns1 dx mA
  ne : dx ≠ x
theorem lookIn_ns {h : Heap} {dx : Addr} {mA : Str → Option Value} (n : h.Ns1 dx mA) : ∃ od, h.get? dx = some od ∧ ∀ name, PySem.W.lookIn name od = some (mA name) := by
  obtain ⟨o, es, ep, ho, hd, hk, _, hm⟩ := n
  refine ⟨o, ho, fun name => ?_⟩
  have e := hm name
  unfold nsFind findBy at e
  rw [← Array.find?_toList] at e
  unfold PySem.W.lookIn
  rw [hd]
  dsimp only
  split
  · rename_i y q
    rw [q] at e
    exact congrArg some e
  · rename_i q
    rw [q] at e
    have a : es.toList.any (·.refKey) = false := by
      rw [List.any_eq_false]
      intro y hy
      obtain ⟨z, t, hkey⟩ := hk y (Array.mem_toList_iff.mp hy)
      simp [DictEntry.refKey, hkey]
    have a' : ¬ es.toList.any (·.refKey) = true := by rw [a]; exact Bool.false_ne_true
    rw [if_neg a']
    exact congrArg some e
theorem ObjM.look {h : Heap} {x dx C : Addr} {mA : Str → Option Value} (I : ObjM h x dx C mA) : ∃ od, PySem.W.InstAt h x (PySem.W.instObj C dx) C (some od) ∧ ∀ name, PySem.W.lookIn name od = some (mA name) :=
  let ⟨od, ho, hl⟩ := lookIn_ns I.ns
  ⟨od, ⟨I.obj, rfl, rfl, ho⟩, hl⟩
section
variable {prog : Program} {w : World} {A : Around} {E : Value → Shared → Prop} {s : Shared} {K : PySem.W.Frag} {x dx C f : Addr} {mA : Str → Option Value} {name : Str} {v : Value}
end
theorem RelO.some_of {v : V} {o : Option Value} (r : RelO (some v) o) : ∃ u, o = some u ∧ RelV v u := by
  cases o with
  | none => exact (show False from r).elim
  | some u => exact ⟨u, rfl, r⟩
theorem RelO.none_of {o : Option Value} (r : RelO none o) : o = none := by
  cases o with
  | none => rfl
  | some u => exact (show False from r).elim
section
variable {P : Program} {w : World} {H H' : Hp} {h h' : Heap} {a C dx : Addr} {fs fs' : List (Str × V)}
theorem ins_get (hok : HOk P w H h) (e : H a = some (.ins C dx fs)) : ∃ mA, ObjM h a dx C mA ∧ (∀ f, RelO (fs.lookup f) (mA f)) ∧ PySem.Within mA (fs.map (·.1)) ∧ fs.length ≤ 1000 ∧ H dx = some (.own a) := by
  obtain ⟨d, z, ne, ob, mA, n, r, q⟩ := (show ObjOk P w H h a (.ins C dx fs) from hok a _ e)
  exact ⟨mA, ⟨ob, n, ne⟩, r, q, z, d⟩
end
structure Cls (K : PySem.W.Frag) (C : Addr) : Prop where
  pg : PySem.W.plainGet K C Str.empty = true
  hd : PySem.W.hasDictIn K C = true
  po : PySem.W.plainOver K C = true
  sa : PySem.W.findIn K (.ref C) "__setattr__" = some (some (.builtin "object.__setattr__"))
theorem Cls.get {K : PySem.W.Frag} {C : Addr} (c : Cls K C) (f : Str) : PySem.W.plainGet K C f = true := c.pg
def NoAttr (K : PySem.W.Frag) (C : Addr) (f : Str) : Prop := PySem.W.findIn K (.ref C) f = some none
structure Con (K : PySem.W.Frag) (C : Addr) (f : Str) (v : V) (u : Value) : Prop where
  at_ : PySem.W.findIn K (.ref C) f = some (some u)
  rel : RelV v u
  get : PySem.W.specialIn K u "__get__" = some none
  cp : PySem.W.copiedNames.contains f = false
structure Meth (K : PySem.W.Frag) (C : Addr) (m : Str) (f : Addr) : Prop where
  at_ : PySem.W.findIn K (.ref C) m = some (some (.ref f))
  fn : PySem.W.isFn K (.ref f) = true
  kp : PySem.W.keepIn K (.ref f) = true
section
variable {X : Cx} {pins : List (Addr × Obj)} {σ : St} {H : Hp} {s : Shared} {a C dx : Addr} {fs : List (Str × V)} {f : Str} {v : V} {A : Around} {E : Value → Shared → Prop}
theorem Inv.made (I : Inv X pins σ H s) : Inv X pins σ (upd (upd H s.heap.objs.size (.own (s.heap.objs.size + 1))) (s.heap.objs.size + 1) (.ins C s.heap.objs.size []))
    { s with heap := (s.heap.push PySem.W.emptyDict).push (PySem.W.instObj C s.heap.objs.size) } := by
  have e1 : (s.heap.push PySem.W.emptyDict).get? s.heap.objs.size = some PySem.W.emptyDict := Heap.get?_push_size s.heap rfl
  have e2 : ((s.heap.push PySem.W.emptyDict).push (PySem.W.instObj C s.heap.objs.size)).get? (s.heap.objs.size + 1) = some (PySem.W.instObj C s.heap.objs.size) := by
    have := Heap.get?_push_size (s.heap.push PySem.W.emptyDict) (o := PySem.W.instObj C s.heap.objs.size) rfl
    rwa [Heap.size_push] at this
  have e3 : (s.heap.push PySem.W.emptyDict).Ns s.heap.objs.size (fun _ => none) := ⟨PySem.W.emptyDict, #[], _, e1, rfl, (fun e he => absurd he (by simp)), fun _ => rfl⟩
  have I1 := I.laid (a := s.heap.objs.size) (o := .own (s.heap.objs.size + 1)) (h' := s.heap.push PySem.W.emptyDict) (t' := s.toks) (fun b u q => Heap.get?_push_of_some _ q) (Nat.le_refl _) ⟨_, e1⟩
  refine I1.laid (a := s.heap.objs.size + 1) (o := .ins C s.heap.objs.size []) (t' := s.toks) (fun b u q => Heap.get?_push_of_some _ q) (Nat.le_of_eq (Heap.size_push _ _)) ?_
  have ne : s.heap.objs.size ≠ s.heap.objs.size + 1 := Nat.ne_of_lt (Nat.lt_succ_self _)
  refine ⟨by rw [upd_ne ne, upd_same], Nat.zero_le _, ne, e2, fun _ => none, (Heap.Ns1.of_empty e3).at fun o q => Heap.get?_push_of_some _ q, fun _ => True.intro, fun y hy => absurd rfl hy⟩
end
section
variable {X : Cx} {o e value : Expr} {f : Str} {pos pos' tpos : Pos} {ta tv : TE}
end
section
variable {X : Cx} {pins : List (Addr × Obj)} {σ : St} {H : Hp} {s : Shared} {A : Around} {E : Value → Shared → Prop} {Q : Value → Shared → Prop} {c : Value} {b : Bool}
inductive TyOf (K : PySem.W.Frag) (H : Hp) : V → Value → Prop where
  | non : TyOf K H .non (.type "NoneType")
  | bl (x : Bool) : TyOf K H (.bl x) (.type "bool")
  | int (i : Int) : TyOf K H (.int i) (.type "int")
  | str (x : Str) : TyOf K H (.str x) (.type "str")
  | flt (x : UInt64) : TyOf K H (.flt x) (.type "float")
  | lst {a : Addr} {xs : List V} (e : H a = some (.lst xs)) : TyOf K H (.ref a) (.type "list")
  | frz {a : Addr} {o : Obj} {xs : List V} (e : H a = some (.frz o (.lst xs))) : TyOf K H (.ref a) (.type "list")
  | tup {a : Addr} {xs : List V} (e : H a = some (.tup xs)) : TyOf K H (.ref a) (.type "tuple")
  | dK {a : Addr} {kvs : List (Key × V)} (e : H a = some (.dK kvs)) : TyOf K H (.ref a) (.type "dict")
  | dT {a : Addr} {kvs : List (List Key × V)} (e : H a = some (.dT kvs)) : TyOf K H (.ref a) (.type "dict")
  | ins {a C dx : Addr} {fs : List (Str × V)} (e : H a = some (.ins C dx fs)) (cl : Cls K C) (ha : PySem.W.findIn K (.ref C) "__class__" = some (some (.builtin "object.__class__")))
      (hn : PySem.W.specialIn K (.builtin "object.__class__") "__get__" = some (some (.builtin "getset_descriptor.__get__"))) (htk : PySem.W.takesIn K (.builtin "object.__class__") = some true)
      (hm : PySem.W.mroIn K C (.type "object") = some true) : TyOf K H (.ref a) (.ref C)
theorem isinst_ok {x : V} {u t : Value} (I : Inv X pins σ H s) (rx : RelV x u) (ty : TyOf X.K H x t) (e : PySem.W.kitOne X.K t c = some b) (h : ∀ tk, Q (.bool b) { s with toks := tk }) :
    wpAny (model X.prog X.w) A (call (.builtin "isinstance") [u, c]) Q E s := by
  cases ty with
  | non => cases (show u = Value.none from rx); exact PySem.W.kia_one PySem.W.kitx_none I.kIn True.intro e (fun z => nomatch z) h
  | bl y => cases (show u = Value.bool y from rx); exact PySem.W.kia_one PySem.W.kitx_bool I.kIn True.intro e (fun z => nomatch z) h
  | int i => obtain ⟨t, q⟩ := (show ∃ t, u = Value.int i t from rx); cases q; exact PySem.W.kia_one PySem.W.kitx_int I.kIn True.intro e (fun z => nomatch z) h
  | str y => obtain ⟨t, q⟩ := (show ∃ t, u = Value.str y t from rx); cases q; exact PySem.W.kia_one PySem.W.kitx_str I.kIn True.intro e (fun z => nomatch z) h
  | flt y => obtain ⟨t, q⟩ := (show ∃ t, u = Value.float y t from rx); cases q; exact PySem.W.kia_one PySem.W.kitx_float I.kIn True.intro e (fun z => nomatch z) h
  | @lst a xs ea =>
    cases (show u = Value.ref a from rx)
    obtain ⟨_, _, n, _, h1⟩ := (show ObjOk X.prog X.w H s.heap a (.lst xs) from I.hok a _ ea)
    exact PySem.W.kia_one PySem.W.kitx_list I.kIn ⟨_, h1, rfl⟩ e (fun z => nomatch z) h
  | @frz a ob xs ea =>
    cases (show u = Value.ref a from rx)
    obtain ⟨_, _, _, n, _, h1⟩ := (show ObjOk X.prog X.w H s.heap a (.frz ob (.lst xs)) from I.hok a _ ea)
    exact PySem.W.kia_one PySem.W.kitx_list I.kIn ⟨_, h1, rfl⟩ e (fun z => nomatch z) h
  | @tup a xs ea =>
    cases (show u = Value.ref a from rx)
    obtain ⟨_, _, _, p⟩ := (show ObjOk X.prog X.w H s.heap a (.tup xs) from I.hok a _ ea)
    obtain ⟨o, h1, h2, _⟩ := p.1
    exact PySem.W.kia_one PySem.W.kitx_tuple I.kIn ⟨o, h1, h2⟩ e (fun z => nomatch z) h
  | @dK a kvs ea =>
    cases (show u = Value.ref a from rx)
    obtain ⟨_, _, vs, _, p⟩ := (show ObjOk X.prog X.w H s.heap a (.dK kvs) from I.hok a _ ea)
    obtain ⟨o, es, ep, h1, h2, _⟩ := p
    exact PySem.W.kia_one PySem.W.kitx_dict I.kIn ⟨o, h1, h2.1⟩ e (fun z => nomatch z) h
  | @dT a kvs ea =>
    cases (show u = Value.ref a from rx)
    obtain ⟨_, _, xs, _, o, es, ep, h1, h2, _⟩ := (show ObjOk X.prog X.w H s.heap a (.dT kvs) from I.hok a _ ea)
    exact PySem.W.kia_one PySem.W.kitx_dict I.kIn ⟨o, h1, h2.1⟩ e (fun z => nomatch z) h
  | @ins a C dx fs ea cl ha hn htk hm =>
    cases (show u = Value.ref a from rx)
    obtain ⟨mA, O, _⟩ := ins_get I.hok ea
    obtain ⟨od, J, _⟩ := O.look
    exact PySem.W.kia_one (PySem.W.kitx_own (cl.get _) cl.hd ha hn htk hm) I.kIn J e (fun z => nomatch z) h
end
end L2
namespace L2
open PySem PySem.Spec PyProof.Rows
structure Room (k : Nat) (A : Around) : Prop where
  hd : A.handled = none
  dp : A.depth + 3 * k + 5 < recursionLimit
  un : A.units + 16 * k + 200 < cLine
theorem Room.mono {j k : Nat} {A : Around} (r : Room k A) (h : j ≤ k) : Room j A := ⟨r.hd, by have := r.dp; omega, by have := r.un; omega⟩
theorem Room.deeper {k : Nat} {A : Around} (r : Room (k + 1) A) (env : Env) : Room k (A.deeper env) :=
  ⟨r.hd, by have := r.dp; show A.depth + 1 + 3 * k + 5 < _; omega, by have := r.un; show A.units + 3 + 16 * k + 200 < _; omega⟩
theorem Room.in1 {k : Nat} {A : Around} (r : Room (k + 1) A) : Room k A.in1 :=
  ⟨r.hd, by have := r.dp; show A.depth + 3 * k + 5 < _; omega, by have := r.un; show A.units + 1 + 16 * k + 200 < _; omega⟩
theorem make_depth {A : Around} {C : Addr} {us : List Value} {kw : List (Str × Value)} : (A.under (.builtin "type.__call__" ⟨.ref C :: us, kw⟩)).depth = A.depth + 1 := by
  first | rfl | simp [Around.under, Code.weight, Code.isCreation, Code.isGuard, Code.isCaller, Code.frames, Code.isFrame, guardIds]
theorem make_units {A : Around} {C : Addr} {us : List Value} {kw : List (Str × Value)} : (A.under (.builtin "type.__call__" ⟨.ref C :: us, kw⟩)).units = A.units + 1 := by
  first | rfl | simp [Around.under, Code.cUnits, Code.frames, Code.isFrame]
theorem Room.make {k : Nat} {A : Around} (r : Room (k + 1) A) (C : Addr) (us : List Value) (kw : List (Str × Value)) : Room k (A.under (.builtin "type.__call__" ⟨.ref C :: us, kw⟩)) :=
  ⟨r.hd, by have := r.dp; rw [make_depth]; omega, by have := r.un; rw [make_units]; omega⟩
theorem Room.depth {k : Nat} {A : Around} (r : Room k A) : A.depth < recursionLimit := by have := r.dp; omega
theorem Room.units {k : Nat} {A : Around} (r : Room k A) : A.units + 64 < cLine := by have := r.un; omega
def tNil : TA := fun _ H Q => Q [] H
def tCons (ta : TE) (tr : TA) : TA := fun σ H Q => ta σ H fun x H1 => tr σ H1 fun xs H2 => Q (x :: xs) H2
section
variable {X : Cx} {e : Expr} {es : List Expr} {te : TE} {t : TA} {pos : Pos}
theorem pa_nil : PA X [] tNil := fun _ _ _ _ H Q I h => Calls.spliced_nil ⟨[], H, I, .nil, h⟩
theorem pa_cons (ha : PE X e te) (hr : PA X es t) (hs : starEach (e :: es) X.env = (false, eval e X.env) :: starEach es X.env := by rfl) : PA X (e :: es) (tCons te t) := by
  intro pos pins s σ H Q I h
  rw [hs]
  show wpAny _ _ (spliced ((false, eval e X.env) :: backTo pos (starEach es X.env))) _ _ s
  refine Calls.spliced_cons (thn (ha pins s σ H _ I h) fun u s1 ⟨x, H1, I1, r1, q1⟩ => ?_)
  exact thn (hr pos pins s1 σ H1 _ I1 q1) fun us s2 ⟨xs, H2, I2, r2, q2⟩ => ⟨x :: xs, H2, I2, .cons r1 r2, q2⟩
def tTup (t : TA) : TE := fun σ H Q => t σ H fun xs H1 => xs.length ≤ sizeLine ∧ ∀ p, H1 p = none → Q (.ref p) (upd H1 p (.tup xs))
def tLst (t : TA) : TE := fun σ H Q => t σ H fun xs H1 => xs.length ≤ sizeLine ∧ ∀ p, H1 p = none → Q (.ref p) (upd H1 p (.lst xs))
theorem pe_tup {x1} (h : PA X es t) : PE X (.Tuple es x1 pos) (tTup t) := by
  intro pins s σ H Q I hq
  refine wpAny_Tuple_spliced (thn (h pos pins s σ H _ I hq) fun us s1 ⟨xs, H1, I1, r, z, q⟩ => ⟨by rw [← r.length]; exact z, ?_⟩)
  have hf : H1 s1.heap.objs.size = none := I1.hok.fresh (Nat.le_refl _)
  refine ⟨.ref s1.heap.objs.size, upd H1 s1.heap.objs.size (.tup xs), I1.laid (t' := s1.toks) (fun b u e => Heap.get?_push_of_some _ e) (Nat.le_refl _) ?_, rfl, q _ hf⟩
  exact ⟨z, us, r, ⟨_, Heap.get?_push_size _ rfl, rfl, _, rfl⟩, _, Heap.get?_push_size _ rfl, rfl⟩
theorem pe_lst (h : PA X es t) : PE X (.List es pos) (tLst t) := by
  intro pins s σ H Q I hq
  refine wpAny_List_spliced (thn (h pos pins s σ H _ I hq) fun us s1 ⟨xs, H1, I1, r, z, q⟩ => ⟨by rw [← r.length]; exact z, ?_⟩)
  have hf : H1 s1.heap.objs.size = none := I1.hok.fresh (Nat.le_refl _)
  refine ⟨.ref s1.heap.objs.size, upd H1 s1.heap.objs.size (.lst xs), I1.laid (t' := s1.toks) (fun b u e => Heap.get?_push_of_some _ e) (Nat.le_refl _) ?_, rfl, q _ hf⟩
  exact ⟨z, us, 0, r, Heap.get?_push_size _ rfl⟩
end
abbrev Sp := List V → Hp → VK → XK → Prop
abbrev CXT := List Env → Hp → Shared → XK → Value → Shared → Prop
structure Env0 (P : Program) (w : World) (K : PySem.W.Frag) (mg : Str → Option Value) (base : Heap) (A : Around) (outer : List Env) (s : Shared) (H : Hp) : Prop where
  frames : A.frames = some outer
  mod : Mod K mg base
  bs : ∀ b o, base.get? b = some o → s.heap.get? b = some o ∧ H b = none
  bsz : base.objs.size ≤ s.heap.objs.size
  funs : s.heap.FunFrames base outer
  frf : ∀ b ∈ frs outer, H b = none
  hok : HOk P w H s.heap
  bare : AllBare s.gens
def CE (outer : List Env) (P : Program) (w : World) (H : Hp) (s : Shared) (Q : VK) (u : Value) (s' : Shared) : Prop :=
  ∃ v H', s'.os = s.os ∧ AllBare s'.gens ∧ Un (frs outer) [] H H' s.heap s'.heap ∧ HOk P w H' s'.heap ∧ RelV v u ∧ Q v H'
def CR (CX : CXT) (outer : List Env) (P : Program) (w : World) (H : Hp) (s : Shared) (Q : VK) (E : XK) (r : Result) (s' : Shared) : Prop :=
  match r with
  | .ok (.ret u) => CE outer P w H s Q u s'
  | .ok _ => False
  | .error e => CX outer H s E e s'
structure FnOk (P : Program) (w : World) (K : PySem.W.Frag) (mg : Str → Option Value) (base : Heap) (CX : CXT) (k : Nat) (f : Addr) (fd : FuncData) (ps : List Str) (sp : Sp) : Prop where
  len : ∀ vs H Q E, sp vs H Q E → vs.length = ps.length
  run : ∀ (A : Around) (outer : List Env) (s : Shared) (H : Hp) (args : Args) (us : List Value) (vs : List V) (Q : VK) (E : XK), Room k A → Env0 P w K mg base A outer s H → BindsTo s fd args (ps.zip us) → Vals vs us → sp vs H Q E →
    codeAny (model P w) A (.call (.ref f) args) (CR CX outer P w H s Q E) s
theorem FnOk.mono {P : Program} {w : World} {K : PySem.W.Frag} {mg : Str → Option Value} {base : Heap} {CX : CXT} {j k : Nat} {f : Addr} {fd : FuncData} {ps : List Str} {sp : Sp} (F : FnOk P w K mg base CX j f fd ps sp) (h : j ≤ k) :
    FnOk P w K mg base CX k f fd ps sp := ⟨F.len, fun A outer s H args us vs Q E hr => F.run A outer s H args us vs Q E (hr.mono h)⟩
theorem FnOk.imp {P : Program} {w : World} {K : PySem.W.Frag} {mg : Str → Option Value} {base : Heap} {CX : CXT} {k : Nat} {f : Addr} {fd : FuncData} {ps : List Str} {sp sp' : Sp} (F : FnOk P w K mg base CX k f fd ps sp)
    (h : ∀ vs H Q E, sp' vs H Q E → sp vs H Q E) : FnOk P w K mg base CX k f fd ps sp' :=
  ⟨fun vs H Q E q => F.len vs H Q E (h _ _ _ _ q), fun A outer s H args us vs Q E hr he hb hv hs => F.run A outer s H args us vs Q E hr he hb hv (h _ _ _ _ hs)⟩
theorem Env0.make {P : Program} {w : World} {K : PySem.W.Frag} {mg : Str → Option Value} {base : Heap} {A : Around} {outer : List Env} {s : Shared} {H : Hp} (e : Env0 P w K mg base A outer s H) (C : Addr) (us : List Value) (kw : List (Str × Value)) :
    Env0 P w K mg base (A.under (.builtin "type.__call__" ⟨.ref C :: us, kw⟩)) outer s H := ⟨by first | exact e.frames | (simpa [Around.under, Code.envs, Code.isFrame, pushEnvs] using e.frames), e.mod, e.bs, e.bsz, e.funs, e.frf, e.hok, e.bare⟩
theorem Env0.in1 {P : Program} {w : World} {K : PySem.W.Frag} {mg : Str → Option Value} {base : Heap} {A : Around} {outer : List Env} {s : Shared} {H : Hp} (e : Env0 P w K mg base A outer s H) :
    Env0 P w K mg base A.in1 outer s H := ⟨e.frames, e.mod, e.bs, e.bsz, e.funs, e.frf, e.hok, e.bare⟩
section
variable {X : Cx} {pins : List (Addr × Obj)} {σ : St} {H : Hp} {s s' : Shared}
theorem Inv.env0 (I : Inv X pins σ H s) : Env0 X.prog X.w X.K X.mg X.base X.A X.stack s H :=
  ⟨I.ok.frames, I.ok.mod, I.bs, Nat.le_trans I.ok.bsz I.sz, I.stack, I.stkFree, I.hok, I.bare⟩
theorem Inv.after {Q : VK} {u : Value} (I : Inv X pins σ H s) (h : CE X.stack X.prog X.w H s Q u s') : EP X pins σ Q u s' := by
  obtain ⟨v, H', os, bare, un, hok, r, q⟩ := h
  obtain ⟨hh, g, d, t, os'⟩ := s'
  obtain rfl : os' = s.os := os
  exact ⟨v, H', I.call (h' := hh) (g' := g) (d' := d) (t' := t) (ch := []) un hok bare (fun b z => absurd z (by simp)), r, q⟩
end
def tCall (sp : Sp) (dvs : List V) (E : XK) (t : TA) : TE := fun σ H Q => t σ H fun vs H1 => sp (vs ++ dvs) H1 Q E
def Binds (K : PySem.W.Frag) (fd : FuncData) (ps : List Str) (ds : List Value) : Prop :=
  ∀ (s : Shared) (us : List Value), K.In s.heap → (us ++ ds).length = ps.length → BindsTo s fd ⟨us, []⟩ (ps.zip (us ++ ds))
theorem Binds.all {K : PySem.W.Frag} {fd : FuncData} {ps : List Str} (h : ∀ us : List Value, us.length = ps.length → bindArgs fd ⟨us, []⟩ = pure (ps.zip us)) : Binds K fd ps [] := fun s us _ hl => by
  rw [List.append_nil] at hl ⊢
  exact .of_eq (h us hl)
def Passes (CX : CXT) (X : Cx) (E : XK) : Prop := ∀ (pins : List (Addr × Obj)) (σ : St) (H : Hp) (s : Shared) (e : Value) (s' : Shared), Inv X pins σ H s → CX X.stack H s E e s' → X.xe e s'
section
variable {X : Cx} {CX : CXT} {k : Nat} {f C : Addr} {fd : FuncData} {ps : List Str} {sp : Sp} {dvs : List V} {ds : List Value} {E : XK} {x m : Str} {p pos apos : Pos} {e o : Expr} {es : List Expr} {ta : TE} {t : TA}
theorem run_fn {pins : List (Addr × Obj)} {σ : St} {H : Hp} {s : Shared} {Q : VK} {us : List Value} {vs : List V} (F : FnOk X.prog X.w X.K X.mg X.base CX k f fd ps sp) (hr : Room k X.A) (hb : Binds X.K fd ps ds) (hd : Vals dvs ds) (hx : Passes CX X E)
    (I : Inv X pins σ H s) (r : Vals vs us) (h : sp (vs ++ dvs) H Q E) : wpAny (model X.prog X.w) X.A (call (.ref f) us) (EP X pins σ Q) X.xe s := by
  have r2 : Vals (vs ++ dvs) (us ++ ds) := r.append hd
  have hl : (us ++ ds).length = ps.length := by rw [← r2.length]; exact F.len _ _ _ _ h
  refine wpAny_call (codeAny_mono (F.run X.A X.stack s H ⟨us, []⟩ (us ++ ds) (vs ++ dvs) Q E hr I.env0 (hb s us I.kIn hl) r2 h) fun r s' hq => ?_)
  cases r with
  | error e => exact hx pins σ H s e s' I hq
  | ok fl =>
    cases fl with
    | ret u => exact I.after hq
    | next => exact False.elim hq
    | brk => exact False.elim hq
    | cont => exact False.elim hq
theorem pe_call (F : FnOk X.prog X.w X.K X.mg X.base CX k f fd ps sp) (hr : Room k X.A) (hg : Gl X x) (hm : X.mg x = some (.ref f)) (hk : PySem.W.keepIn X.K (.ref f) = true) (hb : Binds X.K fd ps ds) (hd : Vals dvs ds) (hx : Passes CX X E)
    (ha : PA X (e :: es) t) (hdb : (x == ("__debug__" : Str)) = false := by decide) (he : starEach (e :: es) X.env = (false, eval e X.env) :: starEach es X.env := by rfl) (hpl : (backTo pos (starEach es X.env)).any (·.1) = false := by rfl) :
    PE X (.Call (.Name x p) (e :: es) [] pos) (tCall sp dvs E t) := by
  intro pins s σ H Q I h
  refine wpAny_Call_Name_kw (ld_glob I hg hm ?_ hdb)
  refine PySem.W.callWith_K (h₀ := X.base) I.ok.mod.kin hk (thn (ha pos pins s σ H _ I h) fun us s1 ⟨vs, H1, I1, r, q⟩ => ⟨I1.kIn, ?_⟩) he hpl
  exact run_fn F hr hb hd hx I1 r q
structure Mk (K : PySem.W.Frag) (C f : Addr) : Prop where
  makes : PySem.W.makesIn K C = true
  init : PySem.W.findIn K (.ref C) "__init__" = some (some (.ref f))
  fn : PySem.W.isFn K (.ref f) = true
  kp : PySem.W.keepIn K (.ref C) = true
end
section
variable {X : Cx} {CX : CXT} {k : Nat} {f C : Addr} {fd : FuncData} {ps ks : List Str} {sp : Sp} {E : XK} {x m : Str} {p pos apos kpos : Pos} {e o : Expr} {es : List Expr} {kws : List Keyword} {te ta : TE} {t tk : TA} {nm : Option Str}
structure KBinds (K : PySem.W.Frag) (fd : FuncData) (ps ks : List Str) (g : List Value → List Value → List Value) (gV : List V → List V → List V) : Prop where
  to : ∀ (s : Shared) (us ws : List Value), K.In s.heap → (g us ws).length = ps.length → BindsTo s fd ⟨us, ks.zip ws⟩ (ps.zip (g us ws))
  rel : ∀ {vs : List V} {us : List Value} {zs : List V} {ws : List Value}, Vals vs us → Vals zs ws → Vals (gV vs zs) (g us ws)
variable {g : List Value → List Value → List Value} {gV : List V → List V → List V}
end
structure FnScope (N P : List Str) (sc : Scope) : Prop where
  kind : sc.kind = .function
  co : sc.isCoroutine = false
  gen : sc.isGenerator = false
  nd : N.Nodup
  pre : N.take P.length = P
  par : ∀ x ∈ P, sc.names.lookup x = some .local ∨ sc.names.lookup x = some .cell
  nofree : ∀ y ∈ sc.names, y.2 ≠ .free
theorem bindL_out {kindOf : Str → Option NameKind} {x : Str} : ∀ {binds : List (Str × Value)} {m : Str → Option Value}, (∀ v, (x, v) ∉ binds) → bindL kindOf binds m x = m x
  | [], _, _ => rfl
  | (n, v) :: r, m, h => by
    unfold bindL
    rw [bindL_out fun w hw => h w (List.mem_cons_of_mem _ hw)]
    split
    · have : x ≠ n := by rintro rfl; exact h v List.mem_cons_self
      simp [this]
    · rfl
theorem bindC_out {kindOf : Str → Option NameKind} {x : Str} : ∀ {binds : List (Str × Value)} {m : Str → Option Value}, (∀ v, (x, v) ∉ binds) → bindC kindOf binds m x = m x
  | [], _, _ => rfl
  | (n, v) :: r, m, h => by
    unfold bindC
    rw [bindC_out fun w hw => h w (List.mem_cons_of_mem _ hw)]
    split
    · rfl
    · have : x ≠ n := by rintro rfl; exact h v List.mem_cons_self
      simp [this]
theorem bindL_get {kindOf : Str → Option NameKind} {x : Str} {v : Value} : ∀ {P : List Str} {vs : List Value} {i : Nat} {m : Str → Option Value}, P.Nodup → P[i]? = some x → vs[i]? = some v → kindOf x = some .local →
    bindL kindOf (P.zip vs) m x = some v
  | [], _, _, _, _, h, _, _ => by simp at h
  | _ :: _, [], _, _, _, _, h, _ => by simp at h
  | p :: P, w :: vs, 0, m, nd, h1, h2, hk => by
    simp at h1 h2; subst h1; subst h2
    show bindL kindOf ((p, w) :: P.zip vs) m p = _
    unfold bindL
    rw [bindL_out fun v hv => (List.nodup_cons.mp nd).1 (List.of_mem_zip hv).1, if_pos hk]
    simp
  | p :: P, w :: vs, i + 1, m, nd, h1, h2, hk => by
    show bindL kindOf ((p, w) :: P.zip vs) m x = _
    unfold bindL
    exact bindL_get (i := i) (List.nodup_cons.mp nd).2 (by simpa using h1) (by simpa using h2) hk
theorem bindC_get {kindOf : Str → Option NameKind} {x : Str} {v : Value} : ∀ {P : List Str} {vs : List Value} {i : Nat} {m : Str → Option Value}, P.Nodup → P[i]? = some x → vs[i]? = some v → kindOf x ≠ some .local →
    bindC kindOf (P.zip vs) m x = some v
  | [], _, _, _, _, h, _, _ => by simp at h
  | _ :: _, [], _, _, _, _, h, _ => by simp at h
  | p :: P, w :: vs, 0, m, nd, h1, h2, hk => by
    simp at h1 h2; subst h1; subst h2
    show bindC kindOf ((p, w) :: P.zip vs) m p = _
    unfold bindC
    rw [bindC_out fun v hv => (List.nodup_cons.mp nd).1 (List.of_mem_zip hv).1, if_neg hk]
    simp
  | p :: P, w :: vs, i + 1, m, nd, h1, h2, hk => by
    show bindC kindOf ((p, w) :: P.zip vs) m x = _
    unfold bindC
    exact bindC_get (i := i) (List.nodup_cons.mp nd).2 (by simpa using h1) (by simpa using h2) hk
def start (N : List Str) (vs : List V) : St := vs.map some ++ List.replicate (N.length - vs.length) none
def cxOf (CX : CXT) (P : Program) (w : World) (K : PySem.W.Frag) (mg : Str → Option Value) (base : Heap) (N : List Str) (qual : Str) (scope : Scope) (f : Addr) (cd : Value) (A : Around) (outer : List Env) (s : Shared) (H : Hp) (E : XK) : Cx where
  prog := P
  w := w
  K := K
  mg := mg
  base := base
  A := A.deeper (envOfC qual scope s.heap.objs.size f cd)
  N := N
  s₀ := s
  H₀ := H
  env := envOfC qual scope s.heap.objs.size f cd
  outer := outer
  stack := envOfC qual scope s.heap.objs.size f cd :: outer
  ex := []
  calm := true
  fn := fun _ => true
  pn := []
  xe := fun e s' => wpAny (model P w) (A.deeper (envOfC qual scope s.heap.objs.size f cd)) (leaving (envOfC qual scope s.heap.objs.size f cd) e) (fun _ s'' => CX outer H s E e s'') (fun e' s'' => CX outer H s E e' s'') s'
theorem cell_has {sc : Scope} {n : Nat} {x : Str} (h : sc.names.lookup x = some .cell) : ∃ c, (cellsFrom n sc.names []).lookup x = some c := by
  have q := PySem.W.cellsFrom_some sc.names n [] (.inl h)
  exact Option.isSome_iff_exists.mp q
theorem inv_start {CX : CXT} {P : Program} {w : World} {K : PySem.W.Frag} {mg : Str → Option Value} {base : Heap} {N ps : List Str} {qual : Str} {scope : Scope} {f : Addr} {cd : Value} {A : Around} {outer : List Env} {s s1 : Shared} {H : Hp} {E : XK} {us : List Value} {vs : List V}
    (S : FnScope N ps scope) (hd : A.handled = none) (e0 : Env0 P w K mg base A outer s H) (hl : vs.length = ps.length) (r : Vals vs us)
    (x : InCallC s s.heap.objs.size (bindL (envOfC qual scope s.heap.objs.size f cd).kindOf (ps.zip us) fun _ => none) (cellsFrom (s.heap.objs.size + 1) scope.names []) (bindC (envOfC qual scope s.heap.objs.size f cd).kindOf (ps.zip us) fun _ => none) s1) :
    Inv (cxOf CX P w K mg base N qual scope f cd A outer s H E) [] (start N vs) H s1 := by
  have hpl : ps.length ≤ N.length := by have := congrArg List.length S.pre; rw [List.length_take] at this; omega
  obtain ⟨h1, tk, rfl, hk⟩ := x.done
  have noA : ∀ b : Addr, b ∉ (cxOf CX P w K mg base N qual scope f cd A outer s H E).ex := fun b z => absurd (show b ∈ ([] : List Addr) from z) (by simp)
  refine ⟨⟨e0.mod, S.kind, rfl, rfl, Nat.le_refl _, fun y z c h1 h2 => ?_, fun y hy => ?_, fun y c _ h => ?_, fun _ => hd, Around.frames_deeper e0.frames, .inr ⟨rfl, rfl⟩, fun b z => absurd z (noA b), e0.bs, e0.bsz, fun b _ _ => noA b, fun b z => absurd z (noA b), e0.funs, e0.frf⟩,
    rfl, e0.bare, Un.kept hk, ⟨_, x.toInCall.ns, fun i y v h1 h2 h3 => ?_⟩, fun y c h => ⟨_, x.cell y c h⟩, e0.hok.fresh (Nat.le_refl _), fun y c h => ?_, fun p hp => absurd (show p ∈ ([] : List (Addr × Obj)) from hp) (by simp), e0.hok.kept hk, ?_⟩
  · exact name_of_addr x.apart (PySem.mem_of_lookup h1) (PySem.mem_of_lookup h2)
  · have hy : scope.names.lookup y = some .cell ∨ scope.names.lookup y = some .free := hy
    rcases hy with hy | hy
    · exact cell_has hy
    · exact absurd rfl (S.nofree _ (PySem.mem_of_lookup hy))
  · exact Nat.le_of_lt (x.above y c (PySem.mem_of_lookup h))
  · have hi : i < vs.length := by
      unfold start at h2
      by_cases hi : i < vs.length
      · exact hi
      · rw [List.getElem?_append_right (by simpa using hi)] at h2
        rw [List.getElem?_replicate] at h2
        split at h2 <;> cases h2
    have ha : vs[i]? = some v := by
      unfold start at h2
      rw [List.getElem?_append_left (by simpa using hi), List.getElem?_map] at h2
      cases e : vs[i]? with
      | none => rw [e] at h2; cases h2
      | some a => rw [e] at h2; cases h2; rfl
    obtain ⟨u, hu, rv⟩ := r.get ha
    have hp : ps[i]? = some y := by
      rw [← S.pre, List.getElem?_take_of_lt (by omega)]; exact h1
    have ndP : ps.Nodup := by rw [← S.pre]; exact S.nd.sublist (List.take_sublist _ _)
    refine ⟨u, rv, ?_⟩
    rcases S.par y (List.mem_of_getElem? hp) with k | k
    · exact .inl ⟨k, bindL_get ndP hp hu k⟩
    · obtain ⟨c, e⟩ := cell_has (n := s.heap.objs.size + 1) k
      refine .inr ⟨.inl k, c, e, ?_⟩
      have q := x.cell y c e
      rw [bindC_get ndP hp hu (by show scope.names.lookup y ≠ _; rw [k]; decide)] at q
      exact q
  · exact e0.hok.fresh (Nat.le_of_lt (x.above y c (PySem.mem_of_lookup h)))
  · unfold start
    show _ = N.length
    rw [List.length_append, List.length_map, List.length_replicate]
    omega
theorem fn_of {CX : CXT} {P : Program} {w : World} {K : PySem.W.Frag} {mg : Str → Option Value} {base : Heap} {k : Nat} {f : Addr} {name qual : Str} {params : Arguments} {body : List Stmt} {scope : Scope} {dV kV doc pm cdv ct oc : Value} {an od : Option Addr}
    {osl : Array (Option Value)} {N ps : List Str} {sp : Sp} (lk : K.lookup f = some ⟨oc, od, .func (PySem.W.fnOf name qual params body scope dV kV doc pm an cdv ct), osl⟩) (hcd : PySem.W.codeIn K cdv qual = true) (S : FnScope N ps scope)
    (len : ∀ vs H Q E, sp vs H Q E → vs.length = ps.length)
    (hbody : ∀ (A : Around) (outer : List Env) (s : Shared) (H : Hp) (vs : List V) (Q : VK) (E : XK), Room k (A.deeper (envOfC qual scope s.heap.objs.size f cdv)) → sp vs H Q E →
      ∃ t, PSs (cxOf CX P w K mg base N qual scope f cdv A outer s H E) body t ∧ t { nx := fun _ H' => Q .non H', rt := Q } (start N vs) H) :
    FnOk P w K mg base CX (k + 1) f (PySem.W.fnOf name qual params body scope dV kV doc pm an cdv ct) ps sp := by
  refine ⟨len, fun A outer s H args us vs Q E hr e0 hb r hsp => ?_⟩
  have hl := len _ _ _ _ hsp
  have KX : K.In s.heap := e0.mod.kin.keeps fun b o e => (e0.bs b o e).1
  have lim : s.heap.NoLimit := e0.mod.nolimit.keeps fun b o e => (e0.bs b o e).1
  have hkind : ∀ y ∈ ps.zip us, scope.names.lookup y.1 = some .local ∨ (scope.names.lookup y.1 = some .cell ∧ ((cellsFrom (s.heap.objs.size + 1) scope.names []).lookup y.1).isSome = true) := fun ⟨n, v⟩ hy => by
    rcases S.par n (List.of_mem_zip hy).1 with q | q
    · exact .inl q
    · exact .inr ⟨q, PySem.W.cellsFrom_some _ _ _ (.inl q)⟩
  refine codeAny_call_function hr.depth (KX _ _ lk) rfl S.co S.gen rfl (PySem.W.codeRec_of KX hcd) (hb _ _ _ _ ?_)
  refine wpAny_newFunctionEnv_cells S.kind hkind fun env he s1 x => ?_
  subst he
  refine ⟨lim.keeps x.toInCall.keep, codeAny_func ?_⟩
  obtain ⟨t, ht, hq⟩ := hbody A outer s H vs Q E (hr.deeper _) hsp
  have I : Inv (cxOf CX P w K mg base N qual scope f cdv A outer s H E) [] (start N vs) H s1 := inv_start S hr.hd e0 hl r x
  refine wpAny_mono (ht [] s1 (start N vs) H _ I hq) (fun fl s' hs => ?_) fun e s' hs => hs
  have fin : ∀ {σ' : St} {H' : Hp} {v : V} {u : Value}, Inv (cxOf CX P w K mg base N qual scope f cdv A outer s H E) [] σ' H' s' → RelV v u → Q v H' → CE outer P w H s Q u s' :=
    fun {σ' H' v u} J rv q => ⟨v, H', J.os, J.bare, J.base, J.hok, rv, q⟩
  cases fl with
  | ret u =>
    obtain ⟨v, σ', H', J, rv, q⟩ := hs
    exact fin J rv q
  | next =>
    obtain ⟨σ', H', J, q⟩ := hs
    exact fin (v := V.non) (u := Value.none) J rfl q
  | brk =>
    obtain ⟨_, _, _, q⟩ := hs
    exact False.elim q
  | cont =>
    obtain ⟨_, _, _, q⟩ := hs
    exact False.elim q
end L2
namespace L2
open PySem PySem.Spec PyProof.Rows
section
variable {X : Cx} {x : Str} {p pos : Pos} {e : Expr} {es : List Expr} {t : TA} {id T : String} {r : List V → Hp → VK → Prop}
def tCB (r : List V → Hp → VK → Prop) (t : TA) : TE := fun σ H Q => t σ H fun vs H1 => r vs H1 Q
theorem pe_callB (hc : CallR X (.builtin id) r) (hg : Gl X x) (hm : X.mg x = none) (hv : bootBuiltins x = some (.builtin id)) (ha : PA X (e :: es) t) (hn : x ≠ "__name__" := by decide) (hdb : (x == ("__debug__" : Str)) = false := by decide)
    (he : starEach (e :: es) X.env = (false, eval e X.env) :: starEach es X.env := by rfl) (hpl : (backTo pos (starEach es X.env)).any (·.1) = false := by rfl) : PE X (.Call (.Name x p) (e :: es) [] pos) (tCB r t) := by
  intro pins s σ H Q I h
  refine wpAny_Call_Name_kw (ld_blt I hg hm hv ?_ hn hdb)
  exact PyProof.Rows.callWith_builtin1 (thn (ha pos pins s σ H _ I h) fun us s1 ⟨vs, H1, I1, r1, q1⟩ => hc pins s1 σ H1 vs us Q I1 r1 q1) he hpl
theorem pe_callTy (hc : CallR X (.type T) r) (hg : Gl X x) (hm : X.mg x = none) (hv : bootBuiltins x = some (.type T)) (ha : PA X (e :: es) t) (hn : x ≠ "__name__" := by decide) (hdb : (x == ("__debug__" : Str)) = false := by decide)
    (he : starEach (e :: es) X.env = (false, eval e X.env) :: starEach es X.env := by rfl) (hpl : (backTo pos (starEach es X.env)).any (·.1) = false := by rfl) : PE X (.Call (.Name x p) (e :: es) [] pos) (tCB r t) := by
  intro pins s σ H Q I h
  refine wpAny_Call_Name_kw (ld_blt I hg hm hv ?_ hn hdb)
  exact PyProof.Rows.callWith_type1 (thn (ha pos pins s σ H _ I h) fun us s1 ⟨vs, H1, I1, r1, q1⟩ => hc pins s1 σ H1 vs us Q I1 r1 q1) he hpl
end
end L2
namespace HT
open PySem PyProof.Rows
section
open PySem.SeqAt
open PySem.AutoSeq1 (wpAny_loadPart')
open PySem.MeetsSeq PySem.MeetsSeq2 PySem.MeetsSeq3
end
section
variable {prog : Program} {w : World} {A : Around} {E : Value → Shared → Prop} {s : Shared}
theorem cat_tup {t b : Addr} {vs ws : List Value} {Q : Value → Shared → Prop} (ht : IsTup s.heap t vs.toArray) (hb : IsTup s.heap b ws.toArray) (hv : vs ≠ [])
    (h1 : ws = [] → Q (.ref t) s) (h2 : ws ≠ [] → Q (.ref s.heap.objs.size) { s with heap := s.heap.push { cls := .type "tuple", data := .seq (vs ++ ws).toArray } })
    (hsz : vs.length + ws.length ≤ sizeLine) : wpAny (model prog w) A (binaryOp .Add (.ref t) (.ref b)) Q E s := by
  obtain ⟨⟨cls, dd, data, sl⟩, ho, hc, n, hd⟩ := id ht
  obtain ⟨⟨cls2, dd2, data2, sl2⟩, ho2, hc2, n2, hd2⟩ := id hb
  simp only at hc hd hc2 hd2
  subst hc hd hc2 hd2
  have e : vs.toArray ++ ws.toArray = (vs ++ ws).toArray := by simp
  by_cases hw : ws = []
  · exact concat_meets ⟨_, ho, rfl⟩ ⟨_, ho2, rfl⟩ noFill_tuple_add seq_tuple_add PySem.F.slot_tuple_add PySem.F.entry_tuple_add (PySem.F.args_tuple_add_2 _ _)
      (tuple_addW1 t b vs.toArray ws.toArray n n2 dd dd2 sl sl2 (by simpa using hv) (by simp [hw])) ⟨ho, ho2, h1 hw⟩
  · refine concat_meets ⟨_, ho, rfl⟩ ⟨_, ho2, rfl⟩ noFill_tuple_add seq_tuple_add PySem.F.slot_tuple_add PySem.F.entry_tuple_add (PySem.F.args_tuple_add_2 _ _)
      (tuple_addW2 t b vs.toArray ws.toArray n n2 dd dd2 sl sl2 (by simpa using hv) (by simpa using hw) (by rw [List.size_toArray, List.size_toArray]; exact hsz)) ⟨ho, ho2, ?_⟩
    rw [e]
    exact h2 hw
def sIx (n d : Nat) : Option Int → Nat
  | none => d
  | some v => if v < 0 then (v + (n : Int)).toNat else min v.toNat n
theorem sIx_none (n d : Nat) : sIx n d none = d := rfl
theorem sIx_nat (n d k : Nat) : sIx n d (some (k : Int)) = min k n := by
  show (if (k : Int) < 0 then ((k : Int) + (n : Int)).toNat else min (k : Int).toNat n) = min k n
  rw [if_neg (by omega), Int.toNat_natCast]
theorem sIx_le (n d : Nat) (hd : d ≤ n) (o : Option Int) : sIx n d o ≤ n := by
  cases o with
  | none => exact hd
  | some v =>
    show (if v < 0 then (v + (n : Int)).toNat else min v.toNat n) ≤ n
    by_cases hv : v < 0
    · rw [if_pos hv]; omega
    · rw [if_neg hv]; exact Nat.min_le_right _ _
theorem clip_eq (v : Int) (n d : Nat) : (if v < 0 then max (v + (n : Int)) 0 else min v (n : Int)) = ((sIx n d (some v) : Nat) : Int) := by
  show (if v < 0 then max (v + (n : Int)) 0 else min v (n : Int)) = (((if v < 0 then (v + (n : Int)).toNat else min v.toNat n) : Nat) : Int)
  by_cases hv : v < 0
  · simp only [if_pos hv]; omega
  · simp only [if_neg hv]; omega
theorem adjust_gen (lo hi : Option Int) (n : Nat) : Builtin.Slice.sliceAdjust lo hi 1 (n : Int) = (((sIx n 0 lo : Nat) : Int), ((sIx n n hi : Nat) : Int)) := by
  have h1 : ¬ ((1 : Int) < 0) := by omega
  unfold Builtin.Slice.sliceAdjust
  simp only [h1, if_false]
  refine Prod.ext ?_ ?_
  · cases lo with
    | none => rfl
    | some v => exact clip_eq v n 0
  · cases hi with
    | none => rfl
    | some v => exact clip_eq v n n
theorem places_gen (i j : Nat) : Builtin.Slice.slicePlaces (i : Int) (j : Int) 1 = j - i := by
  unfold Builtin.Slice.slicePlaces
  have h1 : (1 : Int) > 0 := by omega
  simp only [h1, if_true, Int.ediv_one]
  split <;> omega
theorem slicePart_ {v : Value} {o : Option Int} {Q : Option Int → Shared → Prop} (p : IsPart v o) (h : Q o s) : wpAny (model prog w) A (Builtin.Slice.slicePartIndex v) Q E s := by
  cases p with
  | none => exact slicePart_none h
  | int i t => exact slicePart_int h
theorem sliceApplied_gen {sl : Addr} {vl vu : Value} {lo hi : Option Int} {n : Nat} {Q : Int × Int × Nat → Shared → Prop} (hs : s.heap.IsSliceOf sl vl vu .none) (pl : IsPart vl lo) (pu : IsPart vu hi)
    (h : Q (((sIx n 0 lo : Nat) : Int), 1, sIx n n hi - sIx n 0 lo) s) : wpAny (model prog w) A (Builtin.Slice.sliceApplied (.ref sl) (pure (n : Int))) Q E s := by
  obtain ⟨os, hos, hcs, hds⟩ := id hs
  unfold Builtin.Slice.sliceApplied Builtin.Slice.sliceFields
  refine wpAny_bind (wpAny_bind (wpAny_field hos hds (x := vl) rfl (wpAny_bind (wpAny_field hos hds (x := vu) rfl (wpAny_bind (wpAny_field hos hds (x := .none) rfl (wpAny_pure ?_)))))))
  refine wpAny_bind (slicePart_none ?_)
  show wpAny _ _ (if ((1 : Int) == 0) = true then _ else _) _ _ s
  rw [if_neg (by decide)]
  refine wpAny_bind (slicePart_ pl (wpAny_bind (slicePart_ pu (wpAny_bind (wpAny_pure ?_)))))
  show wpAny _ _ (match Builtin.Slice.sliceAdjust lo hi 1 (n : Int) with | (lo, hi) => pure (lo, (1 : Int), Builtin.Slice.slicePlaces lo hi 1)) _ _ s
  rw [adjust_gen lo hi n]
  show wpAny _ _ (pure (((sIx n 0 lo : Nat) : Int), (1 : Int), Builtin.Slice.slicePlaces ((sIx n 0 lo : Nat) : Int) ((sIx n n hi : Nat) : Int) 1)) _ _ s
  rw [places_gen]
  exact wpAny_pure h
theorem pick_gen (xs : Array Value) (i k : Nat) : ((List.range k).filterMap fun (m : Nat) => xs[((i : Int) + (m : Int) * 1).toNat]?).toArray = ((xs.toList.drop i).take k).toArray := by
  have e : (fun (m : Nat) => xs[((i : Int) + (m : Int) * 1).toNat]?) = fun m => xs[i + m]? := by
    funext m
    have : ((i : Int) + (m : Int) * 1).toNat = i + m := by omega
    rw [this]
  rw [e]
  have := pick_run xs i k
  rw [List.filterMap_map] at this
  have e2 : ((fun x => xs[x]?) ∘ fun x => i + x) = fun m => xs[i + m]? := rfl
  rw [e2] at this
  rw [this]
theorem getItem_tuple_cut {t sl : Addr} {items : Array Value} {vl vu : Value} {lo hi : Option Int} {Q : Value → Shared → Prop} (ht : IsTup s.heap t items) (hs : s.heap.IsSliceOf sl vl vu .none) (pl : IsPart vl lo) (pu : IsPart vu hi)
    (hw : ¬ (sIx items.size 0 lo = 0 ∧ sIx items.size items.size hi = items.size))
    (h : Q (.ref s.heap.objs.size) { s with heap := s.heap.push { cls := .type "tuple", data := .seq ((items.toList.drop (sIx items.size 0 lo)).take (sIx items.size items.size hi - sIx items.size 0 lo)).toArray } })
    (hsz : items.size ≤ sizeLine) : wpAny (model prog w) A (getItem (.ref t) (.ref sl)) Q E s := by
  have htake : sizeOk (.seq ((items.toList.drop (sIx items.size 0 lo)).take (sIx items.size items.size hi - sIx items.size 0 lo)).toArray) := by
    show ((items.toList.drop (sIx items.size 0 lo)).take (sIx items.size items.size hi - sIx items.size 0 lo)).toArray.size ≤ sizeLine
    rw [List.size_toArray, List.length_take, List.length_drop, Array.length_toList]
    omega
  have hj : sIx items.size items.size hi ≤ items.size := sIx_le _ _ (Nat.le_refl _) hi
  obtain ⟨os, hos, hcs, hds⟩ := id hs
  have hTs : s.TypeIs (.ref sl) "slice" := ⟨os, hos, hcs⟩
  unfold getItem
  try with_reducible refine wpAny_holding ?_
  first | refine wpAny_bind (wpAny_pure ?_) | skip
  refine wpAny_bind (wpAny_sequenceKey ht.typeIs (by decide) ?_)
  refine wpAny_bind (wpAny_callSpecial?_slot (name := Str.ofString "__getitem__") ht.typeIs PyProof.Rows.slot_tuple_getitem
    (wpAny_call_entry PyProof.Rows.slot_tuple_getitem ht.typeIs entry_tuple_getitem ?_ (args_tuple_getitem _ _)))
  show wpAny _ _ (Builtin.Tuple.tupleItemsOf (.ref t) >>= _) _ _ s
  refine wpAny_bind (tupleItemsOf_ ht ?_)
  refine wpAny_bind (wpAny_typeOf hTs ?_)
  rw [if_pos (by decide)]
  refine wpAny_bind (sliceApplied_gen hs pl pu ?_)
  have hno : ¬ ((((sIx items.size 0 lo : Nat) : Int) == 0 && (1 : Int) == 1 && (sIx items.size items.size hi - sIx items.size 0 lo) == items.size) = true) := by
    intro q
    rw [Bool.and_eq_true, Bool.and_eq_true] at q
    have q1 : ((sIx items.size 0 lo : Nat) : Int) = 0 := eq_of_beq q.1.1
    have q2 : sIx items.size items.size hi - sIx items.size 0 lo = items.size := eq_of_beq q.2
    exact hw ⟨by omega, by omega⟩
  show wpAny _ _ (if (((sIx items.size 0 lo : Nat) : Int) == 0 && (1 : Int) == 1 && (sIx items.size items.size hi - sIx items.size 0 lo) == items.size) = true then _ else _) _ _ s
  rw [if_neg hno, pick_gen]
  first
    | exact wpAny_bind (m := Builtin.Tuple.tupleExact _) (wpAny_newObj_type (wpAny_pure ⟨_, rfl, wpAny_pure h⟩) htake)
    | exact wpAny_bind (m := Builtin.Tuple.tupleExact _) (wpAny_newObj_type (wpAny_bind (wpAny_pure (wpAny_pure ⟨_, rfl, wpAny_pure h⟩))) htake)
    | exact wpAny_bind (wpAny_bind (m := Builtin.Tuple.tupleExact _) (wpAny_newObj_type (wpAny_pure (wpAny_pure ⟨_, rfl, wpAny_pure h⟩)) htake))
    | exact wpAny_bind (wpAny_bind (m := Builtin.Tuple.tupleExact _) (wpAny_newObj_type (wpAny_pure ⟨_, rfl, wpAny_pure h⟩) htake))
end
end HT
namespace L2
open PySem PySem.Spec PyProof.Rows
abbrev TO := St → Hp → (Option Int → Hp → Prop) → Prop
def PO (X : Cx) (e : Option Expr) (t : TO) : Prop :=
  ∀ (pins : List (Addr × Obj)) (s : Shared) (σ : St) (H : Hp) (Q : Option Int → Hp → Prop), Inv X pins σ H s → t σ H Q →
    wpAny (model X.prog X.w) X.A (evalPart e X.env) (fun u s' => ∃ o H', Inv X pins σ H' s' ∧ IsPart u o ∧ Q o H') X.xe s
def tNoPart : TO := fun _ H Q => Q none H
def tPart (t : TE) : TO := fun σ H Q => t σ H fun x H1 => ∃ i, x = .int i ∧ Q (some i) H1
theorem intsAre_of {ns : List Int} : ∀ {us : List Value}, Vals (ns.map V.int) us → IntsAre us ns := by
  induction ns with
  | nil => intro us r; rw [List.map_nil] at r; cases r; exact .nil
  | cons n ns ih =>
    intro us r
    rw [List.map_cons] at r
    cases r with
    | cons r1 r2 =>
      obtain ⟨t, e⟩ := r1
      subst e
      exact .cons n t (ih r2)
section
variable {X : Cx} {e : Expr} {te : TE} {lo hi : Option Expr} {tl th : TO} {pos p2 : Pos}
theorem po_none : PO X none tNoPart := by
  intro pins s σ H Q I h
  rw [evalPart_none]
  exact wpAny_pure ⟨none, H, I, .none, h⟩
theorem po_some (h : PE X e te) : PO X (some e) (tPart te) := by
  intro pins s σ H Q I hw
  rw [evalPart_some]
  refine thn (h pins s σ H _ I hw) fun u s1 ⟨x, H1, I1, r1, q1⟩ => ?_
  obtain ⟨i, rfl, q⟩ := q1
  obtain ⟨t, rfl⟩ := r1
  exact ⟨some i, H1, I1, .int i t, q⟩
def SlR (X : Cx) (r : V → Option Int → Option Int → Hp → VK → Prop) : Prop :=
  ∀ (pins : List (Addr × Obj)) (s : Shared) (σ : St) (H : Hp) (x : V) (v vl vu : Value) (lo hi : Option Int) (sl : Addr) (Q : VK), Inv X pins σ H s → RelV x v → s.heap.IsSliceOf sl vl vu .none → IsPart vl lo → IsPart vu hi → r x lo hi H Q →
    ∃ T id, typeLookup (.type T) "__getitem__" = pure (some (.builtin id)) ∧ s.TypeIs v T ∧ wpAny (model X.prog X.w) X.A (getItem v (.ref sl)) (EP X pins σ Q) X.xe s
theorem SlR.or {r r' : V → Option Int → Option Int → Hp → VK → Prop} (h : SlR X r) (h' : SlR X r') : SlR X (fun x lo hi H Q => r x lo hi H Q ∨ r' x lo hi H Q) := by
  intro pins s σ H x v vl vu lo hi sl Q I rx hs pl pu q
  rcases q with q | q
  · exact h pins s σ H x v vl vu lo hi sl Q I rx hs pl pu q
  · exact h' pins s σ H x v vl vu lo hi sl Q I rx hs pl pu q
def tSl (r : V → Option Int → Option Int → Hp → VK → Prop) (te : TE) (tl th : TO) : TE := fun σ H Q => te σ H fun x H1 => tl σ H1 fun l H2 => th σ H2 fun u H3 => r x l u H3 Q
theorem pe_slice {r : V → Option Int → Option Int → Hp → VK → Prop} (hr : SlR X r) (he : PE X e te) (hl : PO X lo tl) (hu : PO X hi th) : PE X (.Subscript e (.Slice lo hi none p2) pos) (tSl r te tl th) := by
  intro pins s σ H Q I h
  refine Subscript_ (thn (he pins s σ H _ I h) fun v s1 ⟨x, H1, I1, r1, q1⟩ => ?_)
  refine wpAny_Slice (thn (hl pins s1 σ H1 _ I1 q1) fun vl s2 ⟨l, H2, I2, pl, q2⟩ => thn (hu pins s2 σ H2 _ I2 q2) fun vu s3 ⟨u, H3, I3, pu, q3⟩ => ?_)
  rw [evalPart_none]
  refine wpAny_pure ?_
  have I4 : Inv X pins σ H3 { s3 with heap := s3.heap.push { cls := .type "slice", data := .fields #[vl, vu, .none] } } := I3.kept (t' := s3.toks) fun b ob q => Heap.get?_push_of_some _ q
  obtain ⟨T, id, hT, ht, hg⟩ := hr pins { s3 with heap := s3.heap.push { cls := .type "slice", data := .fields #[vl, vu, .none] } } σ H3 x v vl vu l u s3.heap.objs.size Q I4 r1 (Heap.IsSliceOf.new ..) pl pu q3
  show wpAny (model X.prog X.w) X.A (subscriptTail e (.Slice lo hi none p2) v (.ref s3.heap.objs.size)) (EP X pins σ Q) X.xe { s3 with heap := s3.heap.push { cls := .type "slice", data := .fields #[vl, vu, .none] } }
  exact tail_any (ops := [.ref s3.heap.objs.size, v]) ht hT hg (by with_unfolding_all rfl)
def cutV (xs : List V) (lo hi : Option Int) : List V := (xs.drop (HT.sIx xs.length 0 lo)).take (HT.sIx xs.length xs.length hi - HT.sIx xs.length 0 lo)
theorem cutV_length (xs : List V) (lo hi : Option Int) : (cutV xs lo hi).length ≤ xs.length := by
  unfold cutV
  rw [List.length_take, List.length_drop]
  omega
def rSlT (K : PySem.W.Frag) : V → Option Int → Option Int → Hp → VK → Prop := fun x lo hi H Q => ∃ a xs, x = .ref a ∧ SqT K H a xs ∧
  ¬ (HT.sIx xs.length 0 lo = 0 ∧ HT.sIx xs.length xs.length hi = xs.length) ∧ ∀ p, H p = none → Q (.ref p) (upd H p (.tup (cutV xs lo hi)))
theorem sl_tup : SlR X (rSlT X.K) := by
  intro pins s σ H x v vl vu lo hi sl Q I rx hs pl pu h
  obtain ⟨a, xs, rfl, hx, hw, q⟩ := h
  cases rx
  obtain ⟨its, r, ht, hz⟩ := I.tuple hx
  have hlen : its.toArray.size = xs.length := by rw [List.size_toArray]; exact r.length.symm
  refine ⟨"tuple", _, PyProof.Rows.slot_tuple_getitem.lookup, ht.typeIs, ?_⟩
  refine HT.getItem_tuple_cut ht hs pl pu (by rw [hlen]; exact hw) ?_ (by rw [hlen]; exact hz)
  rw [hlen]
  refine ⟨.ref s.heap.objs.size, _, I.laid (t' := s.toks) (o := .tup (cutV xs lo hi)) (fun b ob q => Heap.get?_push_of_some _ q) (Nat.le_refl _) ?_, rfl, q _ (I.hok.fresh (Nat.le_refl _))⟩
  exact ⟨Nat.le_trans (cutV_length xs lo hi) hz, _, (r.drop (HT.sIx xs.length 0 lo)).take (HT.sIx xs.length xs.length hi - HT.sIx xs.length 0 lo), IsTup.new _ _, _, Heap.get?_push_size _ rfl, rfl⟩
def rCatT (K : PySem.W.Frag) : R2 := fun x y H Q => ∃ a b xs ys, x = .ref a ∧ y = .ref b ∧ SqT K H a xs ∧ SqT K H b ys ∧ xs ≠ [] ∧ xs.length + ys.length ≤ sizeLine ∧
  (ys = [] → Q (.ref a) H) ∧ (ys ≠ [] → ∀ p, H p = none → Q (.ref p) (upd H p (.tup (xs ++ ys))))
theorem Vals.nil_iff {xs : List V} {us : List Value} (r : Vals xs us) : us = [] ↔ xs = [] := by
  cases r with
  | nil => simp
  | cons _ _ => simp
theorem op_catT : OpR X (binaryOp .Add) (rCatT X.K) := by
  intro pins s σ H x y v u Q I rx ry h
  obtain ⟨a, b, xs, ys, rfl, rfl, ha, hb, hx, hz, q1, q2⟩ := h
  cases rx
  cases ry
  obtain ⟨its, r1, p1, _⟩ := I.tuple ha
  obtain ⟨its2, r2, p2, _⟩ := I.tuple hb
  refine HT.cat_tup p1 p2 (fun z => hx (r1.nil_iff.mp z)) (fun z => ⟨.ref a, H, I, rfl, q1 (r2.nil_iff.mp z)⟩) (fun z => ?_) (by rw [← r1.length, ← r2.length]; exact hz)
  refine ⟨.ref s.heap.objs.size, _, I.laid (t' := s.toks) (o := .tup (xs ++ ys)) (fun b ob q => Heap.get?_push_of_some _ q) (Nat.le_refl _) ?_, rfl, q2 (fun w => z (r2.nil_iff.mpr w)) _ (I.hok.fresh (Nat.le_refl _))⟩
  exact ⟨by rw [List.length_append]; exact hz, _, r1.append r2, IsTup.new _ _, _, Heap.get?_push_size _ rfl, rfl⟩
end
end L2
namespace L2
open PySem PySem.Spec PyProof.Rows
def ixN (n : Nat) (i : Int) : Option Nat := if 0 ≤ i then (if i < n then some i.toNat else none) else if -(n : Int) ≤ i then some (i + n).toNat else none
def atI {α : Type} (xs : List α) (i : Int) : Option α := (ixN xs.length i).bind fun j => xs[j]?
theorem ixN_seq {n : Nat} {i : Int} {j : Nat} (h : ixN n i = some j) : seqIndex? i n = some j ∧ j < n ∧ -(n : Int) ≤ i ∧ i < n := by
  unfold ixN at h
  by_cases h0 : 0 ≤ i
  · rw [if_pos h0] at h
    by_cases h1 : i < n
    · rw [if_pos h1] at h
      have e : i.toNat = j := Option.some.inj h
      exact ⟨by rw [seqIndex_of h0 h1, e], by omega, by omega, h1⟩
    · rw [if_neg h1] at h; cases h
  · rw [if_neg h0] at h
    by_cases h1 : -(n : Int) ≤ i
    · rw [if_pos h1] at h
      have e : (i + n).toNat = j := Option.some.inj h
      exact ⟨by rw [seqIndex_neg (by omega) h1, e], by omega, h1, by omega⟩
    · rw [if_neg h1] at h; cases h
theorem atI_get {α : Type} {xs : List α} {i : Int} {v : α} (h : atI xs i = some v) : ∃ j, seqIndex? i xs.length = some j ∧ xs[j]? = some v ∧ j < xs.length ∧ -(xs.length : Int) ≤ i ∧ i < xs.length := by
  unfold atI at h
  cases e : ixN xs.length i with
  | none => rw [e] at h; cases h
  | some j =>
    rw [e] at h
    obtain ⟨h1, h2, h3, h4⟩ := ixN_seq e
    exact ⟨j, h1, h, h2, h3, h4⟩
theorem atI_nat {α : Type} {xs : List α} {j : Nat} {v : α} (h : xs[j]? = some v) : atI xs (j : Int) = some v := by
  have hj : j < xs.length := (List.getElem?_eq_some_iff.mp h).1
  have e : ixN xs.length (j : Int) = some j := by
    unfold ixN
    rw [if_pos (by omega), if_pos (by omega)]; simp
  unfold atI; rw [e]; exact h
def PlainIx (b : Expr) : Prop := ∀ o i, subscripted b false o i = operate [o, i] (getItem o i)
def IxR (X : Cx) (r : R2) : Prop :=
  ∀ (value slice : Expr) (pins : List (Addr × Obj)) (s : Shared) (σ : St) (H : Hp) (x y : V) (v u : Value) (Q : VK), Inv X pins σ H s → RelV x v → RelV y u → r x y H Q →
    subscripted slice false v u = operate [v, u] (getItem v u) → wpAny (model X.prog X.w) X.A (subscriptTail value slice v u) (EP X pins σ Q) X.xe s
def MtR (X : Cx) (id : String) (r : V → List V → Hp → VK → Prop) : Prop :=
  ∀ (pins : List (Addr × Obj)) (s : Shared) (σ : St) (H : Hp) (x : V) (xs : List V) (v : Value) (us : List Value) (Q : VK), Inv X pins σ H s → RelV x v → Vals xs us → r x xs H Q →
    wpAny (model X.prog X.w) X.A (call (.builtin id) (v :: us)) (EP X pins σ Q) X.xe s
section
variable {X : Cx} {a b : Expr} {ta tb : TE} {pos : Pos}
theorem IxR.or {r r' : R2} (h : IxR X r) (h' : IxR X r') : IxR X (fun x y H Q => r x y H Q ∨ r' x y H Q) := by
  intro value slice pins s σ H x y v u Q I rx ry q hs
  rcases q with q | q
  · exact h value slice pins s σ H x y v u Q I rx ry q hs
  · exact h' value slice pins s σ H x y v u Q I rx ry q hs
theorem MtR.or {id : String} {r r' : V → List V → Hp → VK → Prop} (h : MtR X id r) (h' : MtR X id r') : MtR X id (fun x xs H Q => r x xs H Q ∨ r' x xs H Q) := by
  intro pins s σ H x xs v us Q I rx rs q
  rcases q with q | q
  · exact h pins s σ H x xs v us Q I rx rs q
  · exact h' pins s σ H x xs v us Q I rx rs q
theorem pe_ix {r : R2} (hr : IxR X r) (ha : PE X a ta) (hb : PE X b tb) (hs : PlainIx b) : PE X (.Subscript a b pos) (tOp r ta tb) := by
  intro pins s σ H Q I h
  exact Subscript_ (binT ha hb I h fun v u s2 x y H2 I2 rx ry q => hr a b pins s2 σ H2 x y v u Q I2 rx ry q (hs _ _))
def rIxL (K : PySem.W.Frag) : R2 := fun x y H Q => ∃ p xs i v, x = .ref p ∧ y = .int i ∧ SqL K H p xs ∧ atI xs i = some v ∧ Q v H
def rIxT (K : PySem.W.Frag) : R2 := fun x y H Q => ∃ p xs i v, x = .ref p ∧ y = .int i ∧ SqT K H p xs ∧ atI xs i = some v ∧ Q v H
def rIxS : R2 := fun x y H Q => ∃ z i c, x = .str z ∧ y = .int i ∧ z.length ≤ sizeLine ∧ atI z.cps.toList i = some c ∧ Q (.str ⟨#[c]⟩) H
theorem ix_list : IxR X (rIxL X.K) := by
  intro value slice pins s σ H x y v u Q I rx ry h hs
  obtain ⟨p, xs, i, z, rfl, rfl, hq, he, q⟩ := h
  cases rx
  obtain ⟨t, rfl⟩ := ry
  obtain ⟨its, r, pl, hz⟩ := I.list hq
  obtain ⟨j, h1, h2, h3, h4, h5⟩ := atI_get he
  obtain ⟨w, ew, rw'⟩ := r.get h2
  have hl := r.length
  have hn := line63
  have fin : EP X pins σ Q w s := ⟨z, H, I, rw', q⟩
  by_cases h0 : 0 ≤ i
  · have hj : i.toNat = j := by
      rw [seqIndex_of h0 h5] at h1
      exact Option.some.inj h1
    exact item_listR pl.isList h0 (by omega) (by rw [hj]; simpa using ew) fin hs
  · have hj : (i + (its.toArray.size : Int)).toNat = j := by
      rw [seqIndex_neg (by omega) h4] at h1
      rw [List.size_toArray, ← hl]
      exact Option.some.inj h1
    exact subscriptTail_builtinR (x := w) pl.isList.typeIs slot_list_getitem.lookup
      (wpAny_getItem_list_neg (Q := fun r s' => r = w ∧ EP X pins σ Q r s') pl.isList (by omega) (by rw [List.size_toArray] <;> omega) (by omega) (by rw [hj]; simpa using ew) ⟨rfl, fin⟩) hs
theorem ix_tup : IxR X (rIxT X.K) := by
  intro value slice pins s σ H x y v u Q I rx ry h hs
  obtain ⟨p, xs, i, z, rfl, rfl, hq, he, q⟩ := h
  cases rx
  obtain ⟨t, rfl⟩ := ry
  obtain ⟨its, r, pl, hz⟩ := I.tuple hq
  obtain ⟨j, h1, h2, h3, h4, h5⟩ := atI_get he
  obtain ⟨w, ew, rw'⟩ := r.get h2
  have hl := r.length
  have hn := line63
  have fin : EP X pins σ Q w s := ⟨z, H, I, rw', q⟩
  exact subscriptTail_builtinR (x := w) pl.typeIs slot_tuple_getitem.lookup
    (getItem_tuple (j := j) (Q := fun r s' => r = w ∧ EP X pins σ Q r s') pl (by omega) (by omega) (by rw [List.size_toArray, ← hl]; exact h1) (by simpa using ew) ⟨rfl, fin⟩) hs
theorem ix_str : IxR X rIxS := by
  intro value slice pins s σ H x y v u Q I rx ry h hs
  obtain ⟨z, i, c, rfl, rfl, hz, he, q⟩ := h
  obtain ⟨t, rfl⟩ := rx
  obtain ⟨t', rfl⟩ := ry
  obtain ⟨j, h1, h2, h3, h4, h5⟩ := atI_get he
  have hl : z.cps.toList.length = z.length := by simp [Str.length]
  rw [hl] at h1 h4 h5
  have hn := line63
  exact tail_any (typeIs_str s z t) slot_str_getitem.lookup (getItem_str (c := c) (by
    have e1 : decide (i < -(2 ^ 63 : Int)) = false := decide_eq_false (by omega)
    have e2 : decide (i ≥ 2 ^ 63) = false := decide_eq_false (by omega)
    rw [e1, e2, Bool.or_false]) (by rw [h1]; simpa using h2) ⟨.str ⟨#[c]⟩, H, I.tok _, ⟨_, rfl⟩, q⟩) hs
theorem mapSeq_set (its : List Value) (n j : Nat) (u : Value) : Obj.mapSeq (·.setIfInBounds j u) { cls := .type "list", data := .seq its.toArray n } = { cls := .type "list", data := .seq (its.set j u).toArray n } := by
  simp [Obj.mapSeq]
theorem Inv.lst {pins : List (Addr × Obj)} {σ : St} {H : Hp} {s : Shared} {p : Addr} {xs : List V} (I : Inv X pins σ H s) (h : H p = some (.lst xs)) :
    ∃ (its : List Value) (n : Nat), Vals xs its ∧ s.heap.get? p = some { cls := .type "list", data := .seq its.toArray n } ∧ xs.length ≤ sizeLine := by
  obtain ⟨z, its, n, r, e⟩ := I.hok p _ h
  exact ⟨its, n, r, e, z⟩
theorem Inv.lstUpd {pins : List (Addr × Obj)} {σ : St} {H : Hp} {s : Shared} {p : Addr} {xs ys : List V} {its its' : List Value} {n n' : Nat} {f : Obj → Obj} (I : Inv X pins σ H s) (h : H p = some (.lst xs))
    (ho : s.heap.get? p = some { cls := .type "list", data := .seq its.toArray n }) (hf : f { cls := .type "list", data := .seq its.toArray n } = { cls := .type "list", data := .seq its'.toArray n' }) (r : Vals ys its') (hz : ys.length ≤ sizeLine) (t : Nat) :
    Inv X pins σ (upd H p (.lst ys)) { s with heap := s.heap.update p f, toks := t } := by
  have e : (s.heap.update p f).get? p = some { cls := .type "list", data := .seq its'.toArray n' } := by
    rw [Heap.get?_update_self f ho (by rw [hf] <;> rfl), hf]
  refine I.write (x := p) (e := p) (by rw [h]; trivial) (.inl rfl) (fun b u hb q => (Heap.get?_update_other _ _ (Ne.symm hb)).trans q) ⟨_, e⟩ ?_
  exact ⟨hz, its', n', r, e⟩
def rSetL : V → V → V → Hp → (Hp → Prop) → Prop := fun o i v H Q => ∃ p xs k j, o = .ref p ∧ i = .int k ∧ H p = some (.lst xs) ∧ ixN xs.length k = some j ∧ Q (upd H p (.lst (xs.set j v)))
theorem set_list : PSet X rSetL := by
  intro pins s σ H o i v ov iv u Q I ro ri rv h
  obtain ⟨p, xs, k, j, rfl, rfl, hp, hj, q⟩ := h
  cases ro
  obtain ⟨t, rfl⟩ := ri
  obtain ⟨its, n, r, ho, hz⟩ := I.lst hp
  obtain ⟨h1, h2, h3, h4⟩ := ixN_seq hj
  have hl := r.length
  have hn := line63
  have I' : Inv X pins σ (upd H p (.lst (xs.set j v))) { s with heap := s.heap.update p (Obj.mapSeq (·.setIfInBounds j u)) } :=
    I.lstUpd hp ho (mapSeq_set its n j u) (r.set rv j) (by rw [List.length_set]; exact hz) s.toks
  by_cases h0 : 0 ≤ k
  · have hk : k.toNat = j := by
      rw [seqIndex_of h0 h4] at h1
      exact Option.some.inj h1
    exact PySem.W.ki_setAt ho h0 (by omega) (by rw [List.size_toArray, ← hl]; exact h4) (by rw [hk]; exact ⟨_, I', q⟩)
  · have hk : (k + (its.toArray.size : Int)).toNat = j := by
      rw [seqIndex_neg (by omega) h3] at h1
      rw [List.size_toArray, ← hl]
      exact Option.some.inj h1
    exact PySem.W.ki_setBack ho (by omega) (by rw [List.size_toArray, ← hl]; exact h3) (by omega) (by rw [hk]; exact ⟨_, I', q⟩)
theorem slice_bounds (lo hi : Option Int) (n : Nat) : (sliceBounds lo hi none n).1 = ((HT.sIx n 0 lo : Nat) : Int) ∧ (sliceBounds lo hi none n).2.1 = ((HT.sIx n n hi : Nat) : Int) ∧ (sliceBounds lo hi none n).2.2 = 1 := by
  refine ⟨?_, ?_, rfl⟩
  · cases lo with
    | none => simp [sliceBounds, HT.sIx]
    | some i =>
      simp only [sliceBounds, HT.sIx, Option.getD_none, show (1 : Int) > 0 by decide, if_true]
      by_cases h : i < 0
      · simp only [h, if_true] <;> omega
      · simp only [h, if_false] <;> omega
  · cases hi with
    | none => simp [sliceBounds, HT.sIx]
    | some i =>
      simp only [sliceBounds, HT.sIx, Option.getD_none, show (1 : Int) > 0 by decide, if_true]
      by_cases h : i < 0
      · simp only [h, if_true] <;> omega
      · simp only [h, if_false] <;> omega
theorem slicePick_cut (its : List Value) (lo hi : Option Int) : slicePick its.toArray lo hi none = ((its.drop (HT.sIx its.length 0 lo)).take (HT.sIx its.length its.length hi - HT.sIx its.length 0 lo)).toArray := by
  obtain ⟨h1, h2, h3⟩ := slice_bounds lo hi its.toArray.size
  unfold slicePick
  rw [h1, h2, h3]
  simp only [sliceRange_one, pick_run, List.size_toArray] <;> rfl
def rSlL (K : PySem.W.Frag) : V → Option Int → Option Int → Hp → VK → Prop := fun x lo hi H Q => ∃ a xs, x = .ref a ∧ SqL K H a xs ∧ ∀ p, H p = none → Q (.ref p) (upd H p (.lst (cutV xs lo hi)))
theorem sl_list : SlR X (rSlL X.K) := by
  intro pins s σ H x v vl vu lo hi sl Q I rx hs pl pu h
  obtain ⟨a, xs, rfl, hx, q⟩ := h
  cases rx
  obtain ⟨its, r, ht, hz⟩ := I.list hx
  have hlen := r.length
  refine ⟨"list", _, slot_list_getitem.lookup, ht.isList.typeIs, ?_⟩
  refine wpAny_getItem_list_slice ht.isList hs pl pu .none (by simp) ?_ (by rw [List.size_toArray] <;> omega)
  rw [slicePick_cut, ← hlen]
  refine ⟨.ref s.heap.objs.size, _, I.laid (t' := s.toks) (o := .lst (cutV xs lo hi)) (fun b ob q => Heap.get?_push_of_some _ q) (Nat.le_refl _) ?_, rfl, q _ (I.hok.fresh (Nat.le_refl _))⟩
  exact ⟨Nat.le_trans (cutV_length xs lo hi) hz, _, 0, (r.drop (HT.sIx xs.length 0 lo)).take (HT.sIx xs.length xs.length hi - HT.sIx xs.length 0 lo), Heap.get?_push_size _ rfl⟩
def flatV : V → Bool
  | .non => true
  | .bl _ => true
  | .int _ => true
  | .str _ => true
  | _ => false
def eqV : V → V → Bool
  | .non, .non => true
  | .bl a, .bl b => a == b
  | .bl a, .int b => (if a then 1 else 0) == b
  | .int a, .bl b => a == (if b then 1 else 0)
  | .int a, .int b => a == b
  | .str a, .str b => a == b
  | _, _ => false
theorem eqAt_V {A : Around} {s : Shared} {y x : V} {u v : Value} (ry : RelV y u) (rx : RelV x v) (fy : flatV y = true) (fx : flatV x = true) : SeqAt.EqAt A s u v (eqV y x) := by
  cases y with
  | non =>
    cases ry
    cases x with
    | non => cases rx; exact SeqAt.EqAt.same _
    | bl b => cases rx; exact SeqAt.EqAt.none_bool b
    | int b => obtain ⟨t, rfl⟩ := rx; exact SeqAt.EqAt.none_int b t
    | str b => obtain ⟨t, rfl⟩ := rx; exact SeqAt.EqAt.none_str b t
    | _ => exact absurd (show false = true from fx) Bool.false_ne_true
  | bl a =>
    cases ry
    cases x with
    | non => cases rx; exact SeqAt.EqAt.bool_none a
    | bl b => cases rx; exact SeqAt.EqAt.bool_bool a b
    | int b => obtain ⟨t, rfl⟩ := rx; exact SeqAt.EqAt.bool_int a b t
    | str b => obtain ⟨t, rfl⟩ := rx; exact SeqAt.EqAt.bool_str a b t
    | _ => exact absurd (show false = true from fx) Bool.false_ne_true
  | int a =>
    obtain ⟨t', rfl⟩ := ry
    cases x with
    | non => cases rx; exact SeqAt.EqAt.int_none a t'
    | bl b => cases rx; exact SeqAt.EqAt.int_bool a t' b
    | int b => obtain ⟨t, rfl⟩ := rx; exact SeqAt.EqAt.int_int a t' b t
    | str b => obtain ⟨t, rfl⟩ := rx; exact SeqAt.EqAt.int_str a t' b t
    | _ => exact absurd (show false = true from fx) Bool.false_ne_true
  | str a =>
    obtain ⟨t', rfl⟩ := ry
    cases x with
    | non => cases rx; exact SeqAt.EqAt.str_none a t'
    | bl b => cases rx; exact SeqAt.EqAt.str_bool a t' b
    | int b => obtain ⟨t, rfl⟩ := rx; exact SeqAt.EqAt.str_int a t' b t
    | str b => obtain ⟨t, rfl⟩ := rx; exact SeqAt.EqAt.str_str a t' b t
    | _ => exact absurd (show false = true from fx) Bool.false_ne_true
  | _ => exact absurd (show false = true from fy) Bool.false_ne_true
def eqU (x : V) (u : Value) : Bool := match u with
  | .none => eqV .non x
  | .bool b => eqV (.bl b) x
  | .int i _ => eqV (.int i) x
  | .str z _ => eqV (.str z) x
  | _ => false
theorem eqU_of {x y : V} {u : Value} (r : RelV y u) (f : flatV y = true) : eqU x u = eqV y x := by
  cases y with
  | non => cases r; rfl
  | bl b => cases r; rfl
  | int i => obtain ⟨t, rfl⟩ := r; rfl
  | str z => obtain ⟨t, rfl⟩ := r; rfl
  | _ => exact absurd (show false = true from f) Bool.false_ne_true
theorem any_eqU {x : V} : ∀ {xs : List V} {us : List Value}, Vals xs us → xs.all flatV = true → us.any (eqU x) = xs.any fun y => eqV y x
  | _, _, .nil, _ => rfl
  | y :: xs, u :: us, .cons r t, f => by
    rw [List.all_cons, Bool.and_eq_true] at f
    rw [List.any_cons, List.any_cons, eqU_of r f.1, any_eqU t f.2]
theorem mem_eqAt {A : Around} {s : Shared} {x : V} {v : Value} (rx : RelV x v) (fx : flatV x = true) : ∀ {xs : List V} {us : List Value}, Vals xs us → xs.all flatV = true → ∀ u ∈ us, SeqAt.EqAt A s u v (eqU x u)
  | _, _, .nil, _ => fun u hu => by cases hu
  | y :: xs, u :: us, .cons r t, f => fun u' hu => by
    rw [List.all_cons, Bool.and_eq_true] at f
    rcases List.mem_cons.mp hu with rfl | hu
    · rw [eqU_of r f.1]; exact eqAt_V r rx f.1 fx
    · exact mem_eqAt rx fx t f.2 u' hu
def inV (x : V) (xs : List V) : Bool := xs.any fun y => eqV y x
def rIn (K : PySem.W.Frag) (neg : Bool) : R2 := fun x y H Q => ∃ p xs, y = .ref p ∧ (SqL K H p xs ∨ SqT K H p xs) ∧ flatV x = true ∧ xs.all flatV = true ∧ Q (.bl (if neg then !inV x xs else inV x xs)) H
theorem op_in_seq : OpR X (compareOp .In) (rIn X.K false) := by
  intro pins s σ H x y v u Q I rx ry h
  obtain ⟨p, xs, rfl, hq, fx, fs, q⟩ := h
  cases ry
  rcases hq with hq | hq
  · obtain ⟨its, r, pl, hz⟩ := I.list hq
    refine SeqAt.in_listAt (eqU x) pl.isList (fun w hw => mem_eqAt rx fx r fs w (by simpa using hw)) ⟨.bl _, H, I, rfl, ?_⟩
    rw [show its.toArray.any (eqU x) = its.any (eqU x) by simp, any_eqU r fs]
    exact q
  · obtain ⟨its, r, pl, hz⟩ := I.tuple hq
    refine SeqAt.in_tupleAt (eqU x) pl (fun w hw => mem_eqAt rx fx r fs w (by simpa using hw)) ⟨.bl _, H, I, rfl, ?_⟩
    rw [show its.toArray.any (eqU x) = its.any (eqU x) by simp, any_eqU r fs]
    exact q
theorem op_notIn_seq : OpR X (compareOp .NotIn) (rIn X.K true) := by
  intro pins s σ H x y v u Q I rx ry h
  obtain ⟨p, xs, rfl, hq, fx, fs, q⟩ := h
  cases ry
  rcases hq with hq | hq
  · obtain ⟨its, r, pl, hz⟩ := I.list hq
    refine SeqAt.notIn_listAt (eqU x) pl.isList (fun w hw => mem_eqAt rx fx r fs w (by simpa using hw)) ⟨.bl _, H, I, rfl, ?_⟩
    rw [show its.toArray.any (eqU x) = its.any (eqU x) by simp, any_eqU r fs]
    exact q
  · obtain ⟨its, r, pl, hz⟩ := I.tuple hq
    refine SeqAt.notIn_tupleAt (eqU x) pl (fun w hw => mem_eqAt rx fx r fs w (by simpa using hw)) ⟨.bl _, H, I, rfl, ?_⟩
    rw [show its.toArray.any (eqU x) = its.any (eqU x) by simp, any_eqU r fs]
    exact q
theorem call_len_seq : CallR X (.builtin "len") (fun xs H Q => ∃ p ys, xs = [.ref p] ∧ (SqL X.K H p ys ∨ SqT X.K H p ys) ∧ Q (.int ys.length) H) := by
  intro pins s σ H xs us Q I r h
  obtain ⟨p, ys, rfl, hq, q⟩ := h
  obtain ⟨u, rfl, rx⟩ := vals1 r
  cases rx
  have hn := line63
  rcases hq with hq | hq
  · obtain ⟨its, r', pl, hz⟩ := I.list hq
    have hlen := r'.length
    exact Calls.call_len_list pl.isList (by simp only [List.size_toArray] <;> omega) ⟨.int ys.length, H, I.tok _, ⟨s.toks + 1, by rw [List.size_toArray, hlen]⟩, q⟩
  · obtain ⟨its, r', pl, hz⟩ := I.tuple hq
    have hlen := r'.length
    exact len_tuple pl (by simp only [List.size_toArray] <;> omega) ⟨.int ys.length, H, I.tok _, ⟨s.toks + 1, by rw [List.size_toArray, hlen]⟩, q⟩
theorem call_len_str : CallR X (.builtin "len") (fun xs H Q => ∃ z, xs = [.str z] ∧ z.length ≤ sizeLine ∧ Q (.int z.length) H) := by
  intro pins s σ H xs us Q I r h
  obtain ⟨z, rfl, hz, q⟩ := h
  obtain ⟨u, rfl, t, rfl⟩ := vals1 r
  have hn := line63
  exact len_str (by omega) ⟨.int z.length, H, I.tok _, ⟨_, rfl⟩, q⟩
theorem CallR.or {f : Value} {r r' : List V → Hp → VK → Prop} (h : CallR X f r) (h' : CallR X f r') : CallR X f (fun xs H Q => r xs H Q ∨ r' xs H Q) := by
  intro pins s σ H xs us Q I rs q
  rcases q with q | q
  · exact h pins s σ H xs us Q I rs q
  · exact h' pins s σ H xs us Q I rs q
theorem call_list_of : CallR X (.type "list") (fun xs H Q => ∃ p ys, xs = [.ref p] ∧ (SqL X.K H p ys ∨ SqT X.K H p ys) ∧ ∀ l, H l = none → Q (.ref l) (upd H l (.lst ys))) := by
  intro pins s σ H xs us Q I r h
  obtain ⟨p, ys, rfl, hq, q⟩ := h
  obtain ⟨u, rfl, rx⟩ := vals1 r
  cases rx
  have fin : ∀ (its : List Value), Vals ys its → ys.length ≤ sizeLine → ∀ (h' : Heap) (c' : Nat), (∀ b o', s.heap.get? b = some o' → h'.get? b = some o') →
      h'.get? s.heap.objs.size = some { cls := .type "list", dict := none, data := .seq its.toArray c', slots := #[] } → EP X pins σ Q (.ref s.heap.objs.size) { s with heap := h' } := fun its r' hz h' c' kp e =>
    ⟨.ref s.heap.objs.size, _, I.laid (t' := s.toks) kp (Nat.le_refl _) (show ObjOk X.prog X.w _ h' _ (.lst ys) from ⟨hz, its, c', r', e⟩), rfl, q _ (I.hok.fresh (Nat.le_refl _))⟩
  rcases hq with hq | hq
  · obtain ⟨its, r', pl, hz⟩ := I.list hq
    have hlen := r'.length
    obtain ⟨o, ho, hc, n, hd⟩ := pl.isList
    exact call_list_seq p (.inl rfl) ho hc hd (fun h' c' kp e => fin its r' hz h' c' kp e) (by simp only [List.size_toArray] <;> omega)
  · obtain ⟨its, r', pl, hz⟩ := I.tuple hq
    have hlen := r'.length
    obtain ⟨o, ho, hc, n, hd⟩ := pl
    exact call_list_seq p (.inr rfl) ho hc hd (fun h' c' kp e => fin its r' hz h' c' kp e) (by simp only [List.size_toArray] <;> omega)
theorem call_tuple_of : CallR X (.type "tuple") (fun xs H Q => ∃ p ys, xs = [.ref p] ∧ ((SqL X.K H p ys ∧ ∀ l, H l = none → Q (.ref l) (upd H l (.tup ys))) ∨ (SqT X.K H p ys ∧ Q (.ref p) H))) := by
  intro pins s σ H xs us Q I r h
  obtain ⟨p, ys, rfl, h⟩ := h
  obtain ⟨u, rfl, rx⟩ := vals1 r
  cases rx
  rcases h with ⟨hq, q⟩ | ⟨hq, q⟩
  · obtain ⟨its, r', pl, hz⟩ := I.list hq
    have hlen := r'.length
    refine call_tuple_list pl.isList (fun h' kp => ?_) (by simp only [List.size_toArray] <;> omega)
    have I1 : Inv X pins σ H { s with heap := h' } := I.kept (t' := s.toks) kp
    have I2 : Inv X pins σ (upd H h'.objs.size (.tup ys)) { s with heap := h'.push { cls := .type "tuple", data := .seq its.toArray } } :=
      I1.laid (t' := s.toks) (fun b o e => Heap.get?_push_of_some _ e) (Nat.le_refl _) (show ObjOk X.prog X.w _ _ _ (.tup ys) from ⟨hz, its, r', IsTup.new _ _, _, Heap.get?_push_size _ rfl, rfl⟩)
    exact ⟨.ref h'.objs.size, _, I2, rfl, q _ (I1.hok.fresh (Nat.le_refl _))⟩
  · obtain ⟨its, r', pl, hz⟩ := I.tuple hq
    exact call_tuple_same pl ⟨.ref p, H, I, rfl, q⟩
def tyV (K : PySem.W.Frag) (T : String) (x : V) (H : Hp) : Prop := match x with
  | .str _ => T = "str"
  | .int _ => T = "int"
  | .ref p => (T = "list" ∧ ∃ xs, SqL K H p xs) ∨ (T = "tuple" ∧ ∃ o, K.lookup p = some o ∧ o.cls = .type "tuple" ∧ o.dict = none) ∨
      (T = "dict" ∧ ((∃ kvs, H p = some (.dK kvs)) ∨ ∃ kvs, H p = some (.dT kvs))) ∨ (T = "set" ∧ ∃ S n, H p = some (.set S n))
  | _ => False
theorem tyV_is {pins : List (Addr × Obj)} {σ : St} {H : Hp} {s : Shared} {T : String} {x : V} {v : Value} (I : Inv X pins σ H s) (r : RelV x v) (ty : tyV X.K T x H) :
    s.TypeIs v T ∧ ∀ a, v = .ref a → ∃ ob, s.heap.get? a = some ob ∧ ob.dict = none := by
  cases x with
  | str z =>
    obtain ⟨t, rfl⟩ := r
    cases (show T = "str" from ty)
    exact ⟨typeIs_str s z t, fun _ e => nomatch e⟩
  | int i =>
    obtain ⟨t, rfl⟩ := r
    cases (show T = "int" from ty)
    exact ⟨typeIs_int s i t, fun _ e => nomatch e⟩
  | ref p =>
    cases r
    rcases ty with ⟨rfl, xs, hq⟩ | ⟨rfl, o, hk, hc, hd⟩ | ⟨rfl, hk⟩ | ⟨rfl, S, n, hk⟩
    · obtain ⟨its, _, pl, _⟩ := I.list hq
      refine ⟨pl.isList.typeIs, fun a e => ?_⟩
      cases e
      obtain ⟨o, n, e, c, hd, _⟩ := pl
      exact ⟨o, e, hd⟩
    · refine ⟨⟨o, I.kIn p o hk, hc⟩, fun a e => ?_⟩
      cases e
      exact ⟨o, I.kIn _ o hk, hd⟩
    · have z : ∃ o, s.heap.get? p = some o ∧ o.ExactDict := by
        rcases hk with ⟨kvs, hk⟩ | ⟨kvs, hk⟩
        · obtain ⟨_, _, _, _, o, _, _, e, ex, _⟩ := I.hok p _ hk
          exact ⟨o, e, ex⟩
        · obtain ⟨_, _, _, _, o, _, _, e, ex, _⟩ := I.hok p _ hk
          exact ⟨o, e, ex⟩
      obtain ⟨o, e, ex⟩ := z
      refine ⟨⟨o, e, ex.1⟩, fun a e2 => ?_⟩
      cases e2
      exact ⟨o, e, ex.2.1⟩
    · obtain ⟨o, _, _, _, e, ex, _⟩ := I.hok p _ hk
      refine ⟨⟨o, e, ex.1⟩, fun a e2 => ?_⟩
      cases e2
      exact ⟨o, e, ex.2.1⟩
  | _ => exact False.elim ty
def tBM0 (K : PySem.W.Frag) (T : String) (r : V → List V → Hp → VK → Prop) (to : TE) : TE := fun σ H Q => to σ H fun x H1 => tyV K T x H1 ∧ r x [] H1 Q
def tBM (K : PySem.W.Frag) (T : String) (r : V → List V → Hp → VK → Prop) (to : TE) (t : TA) : TE := fun σ H Q => to σ H fun x H1 => tyV K T x H1 ∧ t σ H1 fun xs H2 => r x xs H2 Q
variable {o e : Expr} {es : List Expr} {to : TE} {t : TA} {name : Str} {apos cpos : Pos} {T id : String} {r : V → List V → Hp → VK → Prop}
theorem pe_bm0 (pa : PlainAttrs T) (slot : Slot T name id) (hty : typeOf (.builtin id) = pure (.type "method_descriptor")) (hm : MtR X id r) (ho : PE X o to)
    (hbase : attributeBase o name X.env (eval o X.env) = eval o X.env := by rfl) (hline : (apos.endLine == cpos.line) = true := by rfl) : PE X (.Call (.Attribute o name apos) [] [] cpos) (tBM0 X.K T r to) := by
  intro pins s σ H Q I h
  refine wpAny_Call_method0_late hbase hline (thn (ho pins s σ H _ I h) fun v s1 ⟨x, H1, I1, r1, ty, q1⟩ => ?_)
  obtain ⟨h1, h2⟩ := tyV_is I1 r1 ty
  exact ⟨T, id, pa, slot, hty, h1, h2, Calls.callWith_builtin rfl (PySem.evalArgs_none (hm pins s1 σ H1 x [] v [] Q I1 r1 .nil q1))⟩
theorem pe_bm (pa : PlainAttrs T) (slot : Slot T name id) (hty : typeOf (.builtin id) = pure (.type "method_descriptor")) (hm : MtR X id r) (ho : PE X o to) (ha : PA X (e :: es) t)
    (hbase : attributeBase o name X.env (eval o X.env) = eval o X.env := by rfl)
    (hfew : ((backTo cpos (starEach (e :: es) X.env)).all (fun x => !x.1) && (backToKw cpos (keywordEach [] X.env)).all (fun x => x.1.isSome)
      && decide ((e :: es).length + ([] : List Keyword).length + (if ([] : List Keyword).isEmpty then 0 else 1) < 30)) = true := by rfl)
    (hline : (apos.endLine == cpos.line) = true := by rfl) (hs : starEach (e :: es) X.env = (false, eval e X.env) :: starEach es X.env := by rfl) (hplain : (backTo cpos (starEach es X.env)).any (·.1) = false := by rfl) :
    PE X (.Call (.Attribute o name apos) (e :: es) [] cpos) (tBM X.K T r to t) := by
  intro pins s σ H Q I h
  refine wpAny_Call_method_late hbase hfew hline rfl (thn (ho pins s σ H _ I h) fun v s1 ⟨x, H1, I1, r1, ty, q1⟩ => ?_)
  obtain ⟨h1, h2⟩ := tyV_is I1 r1 ty
  refine ⟨T, id, pa, slot, hty, h1, h2, ?_⟩
  have hA := ha cpos pins s1 σ H1 _ I1 q1
  rw [hs] at hA ⊢
  refine Calls.callWith_builtin (by show (false || (backTo cpos (starEach es X.env)).any (·.1)) = false; rw [hplain] <;> rfl) (Calls.evalArgs_plain ?_)
  exact thn hA fun us s2 ⟨vs, H2, I2, r2, q2⟩ => hm pins s2 σ H2 x vs v us Q I2 r1 r2 q2
/- xs.append(e), list.index on a module's tuple .. are MtR facts of 06m -/
end
end L2
namespace L2
open PySem PySem.Spec PyProof.Rows
def MtM (X : Cx) (id : String) (r : V → List V → Hp → VK → Prop) : Prop :=
  ∀ (pins : List (Addr × Obj)) (s : Shared) (σ : St) (H : Hp) (x : V) (xs : List V) (v : Value) (us : List Value) (Q : VK), Inv X pins σ H s → RelV x v → Vals xs us → r x xs H Q →
    wpAny (model X.prog X.w) X.A (call (.builtin id) (v :: us)) (EP X pins σ Q) X.xe s
theorem Vals.one : ∀ {x : V} {us : List Value}, Vals [x] us → ∃ u, us = [u] ∧ RelV x u
  | _, _, .cons r .nil => ⟨_, rfl, r⟩
theorem Vals.two : ∀ {x y : V} {us : List Value}, Vals [x, y] us → ∃ u v, us = [u, v] ∧ RelV x u ∧ RelV y v
  | _, _, _, .cons r (.cons q .nil) => ⟨_, _, rfl, r, q⟩
theorem Vals.zero : ∀ {us : List Value}, Vals [] us → us = []
  | _, .nil => rfl
theorem Vals.eraseIdx : ∀ {xs : List V} {us : List Value} (i : Nat), Vals xs us → Vals (xs.eraseIdx i) (us.eraseIdx i)
  | _, _, _, .nil => .nil
  | _, _, 0, .cons _ t => t
  | _, _, i + 1, .cons r t => .cons r (Vals.eraseIdx i t)
theorem Vals.reverse {xs : List V} {us : List Value} (h : Vals xs us) : Vals xs.reverse us.reverse := by
  induction h with
  | nil => exact .nil
  | cons r t ih => rw [List.reverse_cons, List.reverse_cons]; exact Vals.append ih (.cons r .nil)
theorem Vals.rep {xs : List V} {us : List Value} (h : Vals xs us) : ∀ k : Nat, Vals (List.replicate k xs).flatten (List.replicate k us).flatten
  | 0 => .nil
  | k + 1 => by
    rw [List.replicate_succ, List.replicate_succ, List.flatten_cons, List.flatten_cons]
    exact Vals.append h (Vals.rep h k)
theorem len_erase {α : Type} : ∀ (l : List α) (i : Nat), (l.eraseIdx i).length ≤ l.length
  | [], _ => Nat.le_refl _
  | _ :: _, 0 => Nat.le_succ _
  | _ :: r, i + 1 => Nat.succ_le_succ (len_erase r i)
theorem foldl_rep (its : List Value) : ∀ (k : Nat) (acc : List Value),
    List.foldl (fun x1 x2 => x1 ++ x2) acc.toArray (List.replicate k its.toArray) = (acc ++ (List.replicate k its).flatten).toArray
  | 0, acc => by simp
  | k + 1, acc => by
    have e : acc.toArray ++ its.toArray = (acc ++ its).toArray := by simp
    have e2 : (acc ++ its) ++ (List.replicate k its).flatten = acc ++ (List.replicate (k + 1) its).flatten := by
      rw [List.replicate_succ, List.flatten_cons, List.append_assoc]
    rw [← e2, ← foldl_rep its k (acc ++ its), ← e, List.replicate_succ, List.foldl_cons]
section
variable {X : Cx} {pins : List (Addr × Obj)} {σ : St} {H : Hp} {s : Shared} {l b : Addr} {xs ys zs : List V}
theorem Inv.lset {its its' : List Value} {n : Nat} {f : Array Value → Array Value} {t' : Nat} (I : Inv X pins σ H s) (hH : H l = some (.lst xs))
    (e : s.heap.get? l = some { cls := .type "list", data := .seq its.toArray n }) (hf : f its.toArray = its'.toArray) (hv : Vals ys its') (hz : ys.length ≤ sizeLine) :
    Inv X pins σ (upd H l (.lst ys)) { s with heap := s.heap.update l (Obj.mapSeq f), toks := t' } := by
  have q := PySem.IsL.update e f
  rw [hf] at q
  refine I.write (x := l) (e := l) (by rw [hH]; exact trivial) (.inl rfl) (fun b' u hb hu => (Heap.get?_update_other s.heap (Obj.mapSeq f) (Ne.symm hb)).trans hu) ⟨_, q⟩ ?_
  exact ⟨hz, its', _, hv, q⟩
theorem Inv.lnew {its : List Value} {t' : Nat} (I : Inv X pins σ H s) (hv : Vals ys its) (hz : ys.length ≤ sizeLine) :
    Inv X pins σ (upd H s.heap.objs.size (.lst ys)) { s with heap := s.heap.push { cls := .type "list", data := .seq its.toArray }, toks := t' } :=
  I.laid (fun _ _ q => Heap.get?_push_of_some _ q) (Nat.le_refl _) ⟨hz, its, 0, hv, Heap.get?_push_size _ rfl⟩
theorem Inv.fresh (I : Inv X pins σ H s) : H s.heap.objs.size = none := I.hok.fresh (Nat.le_refl _)
theorem Inv.lstM (I : Inv X pins σ H s) (hH : H l = some (.lst xs)) : xs.length ≤ sizeLine ∧ ∃ (its : List Value) (n : Nat), Vals xs its ∧ xs.length = its.length ∧ s.heap.get? l = some { cls := .type "list", data := .seq its.toArray n } := by
  obtain ⟨z, its, n, r, e⟩ := I.hok l _ hH
  exact ⟨z, its, n, r, r.length, e⟩
theorem notLongL {n : Nat} (h : n ≤ sizeLine) : Builtin.List.listTooLong n = false := by
  unfold Builtin.List.listTooLong
  exact decide_eq_false (by omega)
end
section
variable {X : Cx}
def rAppend : V → List V → Hp → VK → Prop := fun x vs H Q => ∃ l xs y, x = .ref l ∧ vs = [y] ∧ H l = some (.lst xs) ∧ xs.length < sizeLine ∧ Q .non (upd H l (.lst (xs ++ [y])))
theorem mt_append : MtM X "list.append" rAppend := by
  intro pins s σ H x vs v us Q I rx rv h
  obtain ⟨l, xs, y, rfl, rfl, hH, hz, q⟩ := h
  cases rx
  obtain ⟨u, rfl, ru⟩ := rv.one
  obtain ⟨z, its, n, r, hl, e⟩ := I.lstM hH
  refine call_meets F.slot_list_append ⟨_, e, rfl⟩ F.entry_list_append (F.args_list_append_2 _ _) (PySem.list_append l its.toArray n u (by rw [List.size_toArray]; omega)) ⟨e, ?_⟩
  refine ⟨.non, _, I.lset (its' := its ++ [u]) hH e (by simp) (r.append (.cons ru .nil)) ?_, rfl, q⟩
  rw [List.length_append, List.length_singleton]
  omega
def rPopAt : V → List V → Hp → VK → Prop := fun x vs H Q => ∃ l xs i k y, x = .ref l ∧ vs = [.int i] ∧ H l = some (.lst xs) ∧ -(2 ^ 63) ≤ i ∧ i < 2 ^ 63 ∧ seqIndex? i xs.length = some k ∧ xs[k]? = some y ∧ Q y (upd H l (.lst (xs.eraseIdx k)))
theorem mt_popAt : MtM X "list.pop" rPopAt := by
  intro pins s σ H x vs v us Q I rx rv h
  obtain ⟨l, xs, i, k, y, rfl, rfl, hH, h1, h2, hk, hy, q⟩ := h
  cases rx
  obtain ⟨u, rfl, ru⟩ := rv.one
  obtain ⟨t, rfl⟩ := ru
  obtain ⟨z, its, n, r, hl, e⟩ := I.lstM hH
  obtain ⟨w, hw, rw'⟩ := r.get hy
  refine call_meets F.slot_list_pop ⟨_, e, rfl⟩ F.entry_list_pop (F.args_list_pop_2 _ _)
    (MeetsSeq.list_pop_at l its.toArray n i t k w (fitsIndex_both h1 h2) (by rw [List.size_toArray, ← hl]; exact hk) (by rw [← Array.getElem?_toList]; exact hw) (by rw [List.size_toArray]; omega)) ⟨e, ?_⟩
  refine ⟨y, _, I.lset (its' := its.eraseIdx k) hH e ?_ (r.eraseIdx k) ?_, rw', q⟩
  · show its.toArray.eraseIdxIfInBounds k = (its.eraseIdx k).toArray
    rw [List.eraseIdxIfInBounds_toArray]
  · have := len_erase xs k
    omega
def rReverse : V → List V → Hp → VK → Prop := fun x vs H Q => ∃ l xs, x = .ref l ∧ vs = [] ∧ H l = some (.lst xs) ∧ Q .non (upd H l (.lst xs.reverse))
theorem mt_reverse : MtM X "list.reverse" rReverse := by
  intro pins s σ H x vs v us Q I rx rv h
  obtain ⟨l, xs, rfl, rfl, hH, q⟩ := h
  cases rx
  have hus := rv.zero
  subst hus
  obtain ⟨z, its, n, r, hl, e⟩ := I.lstM hH
  refine call_meets F.slot_list_reverse ⟨_, e, rfl⟩ F.entry_list_reverse (F.args_list_reverse_1 _) (AutoSeq1.list_reverse_list_0 l its.toArray n (by rw [List.size_toArray]; omega)) ⟨e, ?_⟩
  refine ⟨.non, _, I.lset (its' := its.reverse) hH e (by simp) r.reverse ?_, rfl, q⟩
  rw [List.length_reverse]
  omega
def rCat : R2 := fun x y H Q => ∃ l b xs zs, x = .ref l ∧ y = .ref b ∧ H l = some (.lst xs) ∧ H b = some (.lst zs) ∧ xs.length + zs.length ≤ sizeLine ∧ ∀ p, H p = none → Q (.ref p) (upd H p (.lst (xs ++ zs)))
theorem op_cat : OpR X (binaryOp .Add) rCat := by
  intro pins s σ H x y v u Q I rx ry h
  obtain ⟨l, b, xs, zs, rfl, rfl, hH, hB, hz, q⟩ := h
  cases rx
  cases ry
  obtain ⟨z, its, n, r, hl, e⟩ := I.lstM hH
  obtain ⟨z2, its2, n2, r2, hl2, e2⟩ := I.lstM hB
  refine PySem.P.add_list e e2 ?_ (by rw [List.size_toArray, List.size_toArray]; omega)
  have ea : its.toArray ++ its2.toArray = (its ++ its2).toArray := by simp
  rw [ea]
  exact ⟨.ref _, _, I.lnew (t' := s.toks) (r.append r2) (by rw [List.length_append]; omega), rfl, q _ I.fresh⟩
def rRep : R2 := fun x y H Q => ∃ l k xs, x = .ref l ∧ y = .int k ∧ H l = some (.lst xs) ∧ -(2 ^ 63) ≤ k ∧ k < 2 ^ 63 ∧ xs.length * k.toNat ≤ sizeLine ∧
  ∀ p, H p = none → Q (.ref p) (upd H p (.lst (List.replicate k.toNat xs).flatten))
theorem len_rep {α : Type} (xs : List α) (k : Nat) : (List.replicate k xs).flatten.length = k * xs.length := by
  induction k with
  | zero => simp
  | succ k ih => rw [List.replicate_succ, List.flatten_cons, List.length_append, ih, Nat.succ_mul, Nat.add_comm]
theorem op_rep : OpR X (binaryOp .Mult) rRep := by
  intro pins s σ H x y v u Q I rx ry h
  obtain ⟨l, k, xs, rfl, rfl, hH, h1, h2, hz, q⟩ := h
  cases rx
  obtain ⟨t, rfl⟩ := ry
  obtain ⟨z, its, n, r, hl, e⟩ := I.lstM hH
  have hlen : its.toArray.size * k.toNat ≤ sizeLine := by rw [List.size_toArray, ← hl]; exact hz
  have hcap : ¬ its.toArray.size * k.toNat > (2 ^ 63 - 1) / 8 := by
    have : (sizeLine : Nat) ≤ (2 ^ 63 - 1) / 8 := by decide
    omega
  have hfit : ¬ (!Builtin.List.listFitsIndex k) = true := by
    rw [fitsIndex_both h1 h2]
    exact Bool.false_ne_true
  have hlong : ¬ Builtin.List.listTooLong (its.toArray.size * k.toNat) = true := by
    rw [notLongL hlen]
    exact Bool.false_ne_true
  have hnew : List.foldl (fun x1 x2 => x1 ++ x2) #[] (List.replicate (if its.toArray.isEmpty = true then 0 else k.toNat) its.toArray) = (List.replicate k.toNat its).flatten.toArray := by
    have f0 : ∀ m : Nat, List.foldl (fun x1 x2 => x1 ++ x2) #[] (List.replicate m its.toArray) = (List.replicate m its).flatten.toArray := fun m => by
      have := foldl_rep its m []
      rw [List.nil_append] at this
      exact this
    rw [f0]
    cases its with
    | nil => simp
    | cons a r' => rw [if_neg (by simp)]
  refine wpAny_binaryOp_repeat_ref (T := "list") (U := "int") (by decide) ⟨_, e, rfl⟩ (fun s' => typeIs_int s' k t) noFill_list_mul F.fills_int_mul F.slot_int_rmul repeat_list F.slot_int_index.lookup
    (call_meets F.slot_int_rmul (typeIs_int s k t) F.entry_int_rmul (F.args_int_rmul_2 _ _) (int___rmul___int_list k t l its.toArray n)
      ⟨e, rfl, ⟨_, e, rfl⟩, call_meets F.slot_list_mul ⟨_, e, rfl⟩ F.entry_list_mul (F.args_list_mul_2 _ _) (AutoListH.list___mul___list_int_3 l its.toArray n k t hfit hcap hlong) ⟨e, ?_⟩⟩)
  rw [hnew]
  exact ⟨.ref _, _, I.lnew (t' := s.toks) (r.rep k.toNat) (by rw [len_rep, Nat.mul_comm]; exact hz), rfl, q _ I.fresh⟩
end
section
variable {prog : Program} {w : World} {A : Around} {E : Value → Shared → Prop} {s : Shared}
set_option maxRecDepth 100000 in
end
section
variable {X : Cx}
end
end L2
namespace L2
open PySem PySem.Spec PyProof.Rows
section
variable {κ : Type} [DecidableEq κ]
def valV (kvs : List (κ × V)) (k : κ) : Option V := (kvs.find? fun kv => decide (kv.1 = k)).map (·.2)
def putK (kvs : List (κ × V)) (k : κ) (v : V) : List (κ × V) :=
  if (kvs.any fun kv => decide (kv.1 = k)) = true then kvs.map (fun kv => if kv.1 = k then (kv.1, v) else kv) else kvs ++ [(k, v)]
def dropK (kvs : List (κ × V)) (k : κ) : List (κ × V) := kvs.filter fun kv => decide (kv.1 ≠ k)
theorem valV_pos {p : κ × V} {r : List (κ × V)} {k : κ} (e : p.1 = k) : valV (p :: r) k = some p.2 := by simp [valV, List.find?_cons, e]
theorem valV_neg {p : κ × V} {r : List (κ × V)} {k : κ} (e : ¬ p.1 = k) : valV (p :: r) k = valV r k := by simp [valV, List.find?_cons, e]
theorem valV_any (k : κ) : ∀ kvs : List (κ × V), (kvs.any fun kv => decide (kv.1 = k)) = (valV kvs k).isSome
  | [] => rfl
  | p :: r => by
    rw [List.any_cons]
    by_cases e : p.1 = k
    · simp only [valV_pos e, decide_eq_true e, Bool.true_or, Option.isSome_some]
    · rw [valV_neg e, decide_eq_false e, Bool.false_or]; exact valV_any k r
theorem length_putK (kvs : List (κ × V)) (k : κ) (v : V) : (putK kvs k v).length ≤ kvs.length + 1 := by
  unfold putK
  split
  · rw [List.length_map]; omega
  · rw [List.length_append, List.length_cons, List.length_nil]; omega
theorem RelO.isSome_eq {o : Option V} {u : Option Value} (r : RelO o u) : o.isSome = u.isSome := by
  cases o with
  | none => cases u with
    | none => rfl
    | some _ => exact (show False from r).elim
  | some _ => cases u with
    | none => exact (show False from r).elim
    | some _ => rfl
theorem RelO.getD {o : Option V} {u : Option Value} {d : V} {d' : Value} (r : RelO o u) (rd : RelV d d') : RelV (o.getD d) (u.getD d') := by
  cases o with
  | none => cases u with
    | none => exact rd
    | some _ => exact (show False from r).elim
  | some _ => cases u with
    | none => exact (show False from r).elim
    | some _ => exact r
theorem KV.val {kvs : List (κ × V)} {vs : List (κ × Value)} (r : KV kvs vs) (k : κ) : RelO (valV kvs k) (valueAt vs k) := by
  unfold KV at r
  induction r with
  | nil => exact True.intro
  | @cons p q ps qs h t ih =>
    obtain ⟨h1, h2⟩ := h
    by_cases e : p.1 = k
    · have e' : q.1 = k := h1.symm.trans e
      have b : valueAt (q :: qs) k = some q.2 := by simp [valueAt, List.find?_cons, e']
      rw [valV_pos e, b]; exact h2
    · have e' : ¬ q.1 = k := fun z => e (h1.trans z)
      have b : valueAt (q :: qs) k = valueAt qs k := by simp [valueAt, List.find?_cons, e']
      rw [valV_neg e, b]; exact ih
theorem KV.any {kvs : List (κ × V)} {vs : List (κ × Value)} (r : KV kvs vs) (k : κ) : (kvs.any fun kv => decide (kv.1 = k)) = vs.any fun kv => decide (kv.1 = k) := by
  unfold KV at r
  induction r with
  | nil => rfl
  | cons h t ih => rw [List.any_cons, List.any_cons, ih, h.1]
theorem KV.repl {kvs : List (κ × V)} {vs : List (κ × Value)} (r : KV kvs vs) (k : κ) {y : V} {u : Value} (ry : RelV y u) :
    KV (kvs.map fun kv => if kv.1 = k then (kv.1, y) else kv) (vs.map fun kv => if kv.1 = k then (kv.1, u) else kv) := by
  unfold KV at r ⊢
  induction r with
  | nil => exact .nil
  | @cons p q ps qs h t ih =>
    rw [List.map_cons, List.map_cons]
    refine .cons ?_ ih
    obtain ⟨h1, h2⟩ := h
    by_cases e : p.1 = k
    · rw [if_pos e, if_pos (h1.symm.trans e)]; exact ⟨h1, ry⟩
    · rw [if_neg e, if_neg (fun z => e (h1.trans z))]; exact ⟨h1, h2⟩
theorem KV.put {kvs : List (κ × V)} {vs : List (κ × Value)} (r : KV kvs vs) (k : κ) {y : V} {u : Value} (ry : RelV y u) : KV (putK kvs k y) (stored vs k u) := by
  unfold putK stored
  rw [r.any k]
  by_cases e : (vs.any fun kv => decide (kv.1 = k)) = true
  · rw [if_pos e, if_pos e]; exact r.repl k ry
  · rw [if_neg e, if_neg e]; exact Paired.snoc r ⟨rfl, ry⟩
theorem KV.drop {kvs : List (κ × V)} {vs : List (κ × Value)} (r : KV kvs vs) (k : κ) : KV (dropK kvs k) (without vs k) := by
  unfold KV at r ⊢
  unfold dropK without
  induction r with
  | nil => exact .nil
  | @cons p q ps qs h t ih =>
    obtain ⟨h1, h2⟩ := h
    rw [List.filter_cons, List.filter_cons]
    by_cases e : p.1 = k
    · have a : ¬ decide (p.1 ≠ k) = true := by simp [e]
      have b : ¬ decide (q.1 ≠ k) = true := by simp [h1.symm.trans e]
      rw [if_neg a, if_neg b]; exact ih
    · have e' : ¬ q.1 = k := fun z => e (h1.trans z)
      have a : decide (p.1 ≠ k) = true := by simp [e]
      have b : decide (q.1 ≠ k) = true := by simp [e']
      rw [if_pos a, if_pos b]; exact .cons ⟨h1, h2⟩ ih
theorem KV.keys {kvs : List (κ × V)} {vs : List (κ × Value)} (r : KV kvs vs) : kvs.map (·.1) = vs.map (·.1) := by
  unfold KV at r
  induction r with
  | nil => rfl
  | cons h t ih => rw [List.map_cons, List.map_cons, ih, h.1]
theorem KV.length {kvs : List (κ × V)} {vs : List (κ × Value)} (r : KV kvs vs) : kvs.length = vs.length := Paired.length r
end
theorem kV_is {P : Program} {w : World} {k : Key} {u : Value} (r : RelV (kV k) u) : (mixKind P w).is k u = true := by
  cases k with
  | inl i => obtain ⟨t, e⟩ := (show ∃ t, u = Value.int i t from r); subst e; exact mixKind_int P w i t
  | inr x => obtain ⟨t, e⟩ := (show ∃ t, u = Value.str x t from r); subst e; exact mixKind_str P w x t
theorem items_are {P : Program} {w : World} : ∀ {ks : List Key} {us : List Value}, Vals (ks.map kV) us → ItemsAre (mixKind P w) ks us
  | [], _, r => by rw [List.map_nil] at r; cases r; exact .nil
  | k :: ks, _, r => by
    rw [List.map_cons] at r
    cases r with
    | cons h t => exact .cons (kV_is h) (items_are t)
abbrev KT (H : Hp) : List (List Key × V) → List (List Key × Addr × Value) → Prop := Paired fun p q => p.1 = q.1 ∧ H q.2.1 = some (.tup (p.1.map kV)) ∧ RelV p.2 q.2.2
theorem KT.val {H : Hp} {kvs : List (List Key × V)} {xs : List (List Key × Addr × Value)} (r : KT H kvs xs) (k : List Key) : RelO (valV kvs k) ((atKey xs k).map (·.2)) := by
  induction r with
  | nil => exact True.intro
  | @cons p q ps qs h t ih =>
    obtain ⟨h1, _, h2⟩ := h
    by_cases e : p.1 = k
    · have e' : q.1 = k := h1.symm.trans e
      have b : atKey (q :: qs) k = some q.2 := by simp [atKey, List.find?_cons, e']
      rw [valV_pos e, b]; exact h2
    · have e' : ¬ q.1 = k := fun z => e (h1.trans z)
      have b : atKey (q :: qs) k = atKey qs k := by simp [atKey, List.find?_cons, e']
      rw [valV_neg e, b]; exact ih
theorem KT.repl {H : Hp} {kvs : List (List Key × V)} {xs : List (List Key × Addr × Value)} (r : KT H kvs xs) (k : List Key) {y : V} {u : Value} (ry : RelV y u) :
    KT H (kvs.map fun kv => if kv.1 = k then (kv.1, y) else kv) (xs.map (putAt k u)) := by
  induction r with
  | nil => exact .nil
  | @cons p q ps qs h t ih =>
    rw [List.map_cons, List.map_cons]
    refine .cons ?_ ih
    obtain ⟨h1, h2, h3⟩ := h
    unfold putAt
    by_cases e : p.1 = k
    · rw [if_pos e, if_pos (h1.symm.trans e)]; exact ⟨h1, h2, ry⟩
    · rw [if_neg e, if_neg (fun z => e (h1.trans z))]; exact ⟨h1, h2, h3⟩
theorem KT.put {H : Hp} {kvs : List (List Key × V)} {xs : List (List Key × Addr × Value)} (r : KT H kvs xs) (k : List Key) {b : Addr} {y : V} {u : Value} (hb : H b = some (.tup (k.map kV))) (ry : RelV y u) :
    KT H (putK kvs k y) (storedH xs k b u) := by
  have e : (kvs.any fun kv => decide (kv.1 = k)) = (atKey xs k).isSome := by
    rw [valV_any, (r.val k).isSome_eq, Option.isSome_map]
  unfold putK storedH
  rw [e]
  by_cases q : (atKey xs k).isSome = true
  · rw [if_pos q, if_pos q]; exact r.repl k ry
  · rw [if_neg q, if_neg q]; exact Paired.snoc r ⟨rfl, hb, ry⟩
theorem KT.keeps {H H' : Hp} {kvs : List (List Key × V)} {xs : List (List Key × Addr × Value)} (r : KT H kvs xs) (ht : ∀ b ys, H b = some (.tup ys) → H' b = some (.tup ys)) : KT H' kvs xs :=
  Paired.mapP r fun _ _ z => ⟨z.1, ht _ _ z.2.1, z.2.2⟩
section
variable {P : Program} {w : World} {H : Hp} {h : Heap} {a : Addr}
theorem rd_of {u : HO} (ok : HOk P w H h) (e : Rd H a u) : ObjOk P w H h a u := e.ok ok
theorem dk_rd {kvs : List (Key × V)} (ok : HOk P w H h) (e : Rd H a (.dK kvs)) : kvs.length ≤ sizeLine ∧ (a == sysModules) = false ∧ ∃ vs, KV kvs vs ∧ h.DictOf (mixKind P w) a vs :=
  show ObjOk P w H h a (.dK kvs) from rd_of ok e
theorem dk_of {kvs : List (Key × V)} (ok : HOk P w H h) (e : H a = some (.dK kvs)) : kvs.length ≤ sizeLine ∧ (a == sysModules) = false ∧ ∃ vs, KV kvs vs ∧ h.DictOf (mixKind P w) a vs := dk_rd ok (.inl e)
theorem key_of {ks : List Key} (ok : HOk P w H h) (e : H a = some (.tup (ks.map kV))) : (tupleKind (mixKind P w)).is h ks a := by
  obtain ⟨_, its, r, ⟨o, h1, h2, n, h3⟩, _⟩ := (show ObjOk P w H h a (.tup (ks.map kV)) from ok a _ e)
  exact ⟨o, its.toArray, n, h1, h2, h3, by simpa using items_are r⟩
theorem dt_rd {kvs : List (List Key × V)} (ok : HOk P w H h) (e : Rd H a (.dT kvs)) : kvs.length ≤ sizeLine ∧ (a == sysModules) = false ∧
    ∃ xs, KT H kvs xs ∧ h.DictOfH (tupleKind (mixKind P w)) a xs := by
  obtain ⟨z, y, xs, r, o, es, ep, h1, h2, h3, h4, h5⟩ := (show ObjOk P w H h a (.dT kvs) from rd_of ok e)
  refine ⟨z, y, xs, r, o, es, ep, h1, h2, h3, h4, fun x hx => ?_, h5⟩
  have all : ∀ {l : List (List Key × V)} {m : List (List Key × Addr × Value)}, KT H l m → ∀ x ∈ m, (tupleKind (mixKind P w)).is h x.1 x.2.1 := by
    intro l m q
    induction q with
    | nil => intro x hx; exact nomatch hx
    | @cons p q ps qs hq t ih =>
      intro x hx
      rcases List.mem_cons.mp hx with e | hx
      · subst e
        exact key_of ok (by rw [← hq.1]; exact hq.2.1)
      · exact ih x hx
  exact all r x hx
theorem dt_of {kvs : List (List Key × V)} (ok : HOk P w H h) (e : H a = some (.dT kvs)) : kvs.length ≤ sizeLine ∧ (a == sysModules) = false ∧
    ∃ xs, KT H kvs xs ∧ h.DictOfH (tupleKind (mixKind P w)) a xs := dt_rd ok (.inl e)
end
def DGet (H : Hp) (a : Addr) (y : V) (r : Option V) : Prop :=
  (∃ kvs k, Rd H a (.dK kvs) ∧ y = kV k ∧ r = valV kvs k) ∨ ∃ kvs k b, Rd H a (.dT kvs) ∧ y = .ref b ∧ H b = some (.tup (k.map kV)) ∧ r = valV kvs k
def DPut (H : Hp) (a : Addr) (y v : V) (H' : Hp) : Prop :=
  (∃ kvs k, H a = some (.dK kvs) ∧ y = kV k ∧ kvs.length < sizeLine ∧ H' = upd H a (.dK (putK kvs k v))) ∨
  ∃ kvs k b, H a = some (.dT kvs) ∧ y = .ref b ∧ H b = some (.tup (k.map kV)) ∧ kvs.length < sizeLine ∧ H' = upd H a (.dT (putK kvs k v))
theorem DGet.k {H : Hp} {a : Addr} {kvs : List (Key × V)} {k : Key} (e : H a = some (.dK kvs)) : DGet H a (kV k) (valV kvs k) := .inl ⟨kvs, k, .inl e, rfl, rfl⟩
theorem DGet.t {H : Hp} {a b : Addr} {kvs : List (List Key × V)} {k : List Key} (e : H a = some (.dT kvs)) (eb : H b = some (.tup (k.map kV))) : DGet H a (.ref b) (valV kvs k) := .inr ⟨kvs, k, b, .inl e, rfl, eb, rfl⟩
theorem DPut.k {H : Hp} {a : Addr} {kvs : List (Key × V)} {k : Key} {v : V} (e : H a = some (.dK kvs)) (hl : kvs.length < sizeLine) : DPut H a (kV k) v (upd H a (.dK (putK kvs k v))) := .inl ⟨kvs, k, e, rfl, hl, rfl⟩
theorem DPut.t {H : Hp} {a b : Addr} {kvs : List (List Key × V)} {k : List Key} {v : V} (e : H a = some (.dT kvs)) (eb : H b = some (.tup (k.map kV))) (hl : kvs.length < sizeLine) :
    DPut H a (.ref b) v (upd H a (.dT (putK kvs k v))) := .inr ⟨kvs, k, b, e, rfl, eb, hl, rfl⟩
section
variable {X : Cx} {pins : List (Addr × Obj)} {σ : St} {H : Hp} {s : Shared} {a : Addr} {y v : V} {u r : Value} {o : Option V} {A : Around} {E : Value → Shared → Prop}
theorem Inv.big (I : Inv X pins σ H s) : sysModules < s.heap.objs.size := by
  have h : mainGlobals < s.heap.objs.size := (I.mod.glob.keeps I.bk).lt
  exact Nat.lt_trans (by decide) h
theorem d_getItem {Q : Value → Shared → Prop} (hu : A.units + 1 < cLine) (I : Inv X pins σ H s) (g : DGet H a y (some v)) (ry : RelV y u) (h : ∀ w' s', Inv X pins σ H s' → RelV v w' → Q w' s') :
    wpAny (model X.prog X.w) A (getItem (.ref a) u) Q E s := by
  rcases g with ⟨kvs, k, e, ey, l⟩ | ⟨kvs, k, b, e, ey, eb, l⟩
  · subst ey
    obtain ⟨z, hd, vs, rel, dd⟩ := dk_rd I.hok e
    obtain ⟨w', hw, rw'⟩ := RelO.some_of (v := v) (o := valueAt vs k) (by rw [l]; exact rel.val k)
    exact wpAny_getItem_of (kV_is ry) dd.mapOf hw (h w' _ (I.tok _) rw')
  · subst ey
    cases (show u = Value.ref b from ry)
    obtain ⟨z, hd, xs, rel, dd⟩ := dt_rd I.hok e
    obtain ⟨w', hw, rw'⟩ := RelO.some_of (v := v) (o := (atKey xs k).map (·.2)) (by rw [l]; exact rel.val k)
    obtain ⟨p, hp, hp2⟩ := Option.map_eq_some_iff.mp hw
    refine wpAny_getItem_heap (tupleKind_room_in1 hu) (key_of I.hok eb) dd hp ?_
    rw [hp2]
    exact h w' _ (I.tok _) rw'
theorem d_in {Q : Value → Shared → Prop} (hu : A.units + 1 < cLine) (I : Inv X pins σ H s) (g : DGet H a y o) (ry : RelV y u) (h : ∀ s', Inv X pins σ H s' → Q (.bool o.isSome) s') :
    wpAny (model X.prog X.w) A (compareOp .In u (.ref a)) Q E s := by
  rcases g with ⟨kvs, k, e, ey, l⟩ | ⟨kvs, k, b, e, ey, eb, l⟩
  · subst ey
    obtain ⟨z, hd, vs, rel, dd⟩ := dk_rd I.hok e
    refine wpAny_in_of (kV_is ry) hd dd.mapOf ?_
    rw [← (rel.val k).isSome_eq, ← l]
    exact h _ (I.tok _)
  · subst ey
    cases (show u = Value.ref b from ry)
    obtain ⟨z, hd, xs, rel, dd⟩ := dt_rd I.hok e
    refine wpAny_in_heap (tupleKind_room_in1 hu) (key_of I.hok eb) hd dd ?_
    have q := (rel.val k).isSome_eq
    rw [Option.isSome_map] at q
    rw [← q, ← l]
    exact h _ (I.tok _)
theorem d_notIn {Q : Value → Shared → Prop} (hu : A.units + 1 < cLine) (I : Inv X pins σ H s) (g : DGet H a y o) (ry : RelV y u) (h : ∀ s', Inv X pins σ H s' → Q (.bool (!o.isSome)) s') :
    wpAny (model X.prog X.w) A (compareOp .NotIn u (.ref a)) Q E s := by
  rcases g with ⟨kvs, k, e, ey, l⟩ | ⟨kvs, k, b, e, ey, eb, l⟩
  · subst ey
    obtain ⟨z, hd, vs, rel, dd⟩ := dk_rd I.hok e
    refine wpAny_notIn_of (kV_is ry) hd dd.mapOf ?_
    rw [← (rel.val k).isSome_eq, ← l]
    exact h _ (I.tok _)
  · subst ey
    cases (show u = Value.ref b from ry)
    obtain ⟨z, hd, xs, rel, dd⟩ := dt_rd I.hok e
    refine wpAny_notIn_heap (tupleKind_room_in1 hu) (key_of I.hok eb) hd dd ?_
    have q := (rel.val k).isSome_eq
    rw [Option.isSome_map] at q
    rw [← q, ← l]
    exact h _ (I.tok _)
theorem d_write {h' : Heap} {t' : Nat} {ob : HO} (I : Inv X pins σ H s) (mu : Mut (H a)) (hs : Heap.SameBut a s.heap h') (he : ∃ q, h'.get? a = some q) (new : ObjOk X.prog X.w (upd H a ob) h' a ob) :
    Inv X pins σ (upd H a ob) { s with heap := h', toks := t' } :=
  I.write (x := a) (e := a) mu (.inl rfl) (fun b q hb z => (hs.2 b hb).trans z) he new
theorem dk_new {P : Program} {w : World} {H' : Hp} {h' : Heap} {kvs : List (Key × V)} {vs : List (Key × Value)} (z : kvs.length ≤ sizeLine) (hd : (a == sysModules) = false) (rel : KV kvs vs) (dd : h'.DictOf (mixKind P w) a vs) :
    ObjOk P w H' h' a (.dK kvs) := ⟨z, hd, vs, rel, dd⟩
theorem d_setItem {H' : Hp} {Q : Unit → Shared → Prop} (hu : A.units + 1 < cLine) (I : Inv X pins σ H s) (g : DPut H a y v H') (ry : RelV y u) (rv : RelV v r) (h : ∀ s', Inv X pins σ H' s' → Q () s') :
    wpAny (model X.prog X.w) A (setItem (.ref a) u r) Q E s := by
  rcases g with ⟨kvs, k, e, ey, l, eH⟩ | ⟨kvs, k, b, e, ey, eb, l, eH⟩
  · subst ey eH
    obtain ⟨z, hd, vs, rel, dd⟩ := dk_of I.hok e
    have hz : vs.length ≤ sizeLine := by rw [← rel.length]; exact z
    have hl : (putK kvs k v).length ≤ sizeLine := by have := length_putK kvs k v; omega
    refine wpAny_setItem_pairs (hsz := hz) (kV_is ry) dd fun h' dd' hs => h _ ?_
    have he : ∃ q, h'.get? a = some q := let ⟨q, _, _, hq, _⟩ := dd'; ⟨q, hq⟩
    exact d_write I (by rw [e]; exact True.intro) hs he (dk_new hl hd (rel.put k rv) dd')
  · subst ey eH
    cases (show u = Value.ref b from ry)
    obtain ⟨z, hd, xs, rel, dd⟩ := dt_of I.hok e
    have hz : xs.length ≤ sizeLine := by rw [← Paired.length rel]; exact z
    have hl : (putK kvs k v).length ≤ sizeLine := by have := length_putK kvs k v; omega
    refine wpAny_setItem_heap (hsz := hz) (tupleKind_room_in1 hu) (key_of I.hok eb) dd fun h' dd' hs => h _ ?_
    obtain ⟨q, es, ep, hq, h2, h3, h4, _, h5⟩ := dd'
    refine d_write I (by rw [e]; exact True.intro) hs ⟨q, hq⟩ ⟨hl, hd, _, (rel.put k eb rv).keeps fun c ys ec => ?_, q, es, ep, hq, h2, h3, h4, h5⟩
    rw [upd_ne (ne_of ec e (fun z => nomatch z))]
    exact ec
end
section
variable {X : Cx} {pins : List (Addr × Obj)} {σ : St} {H : Hp} {s : Shared} {a : Addr} {kvs : List (Key × V)} {k : Key} {u : Value} {A : Around} {E : Value → Shared → Prop}
theorem d_len {Q : Value → Shared → Prop} (I : Inv X pins σ H s) (e : Rd H a (.dK kvs)) (h : ∀ t s', Inv X pins σ H s' → Q (.int kvs.length t) s') : wpAny (model X.prog X.w) A (call (.builtin "len") [.ref a]) Q E s := by
  obtain ⟨z, hd, vs, rel, dd⟩ := dk_rd I.hok e
  refine call_len_dict hd dd (by rw [← rel.length]; rw [sizeLine_eq] at z; omega) ?_
  rw [← rel.length]
  exact h _ _ (I.tok _)
end
theorem dict_typeIs {X : Cx} {pins : List (Addr × Obj)} {σ : St} {H : Hp} {s : Shared} {a : Addr} {y : V} {o : Option V} (I : Inv X pins σ H s) (g : DGet H a y o) : s.TypeIs (.ref a) "dict" := by
  rcases g with ⟨kvs, k, e, _, _⟩ | ⟨kvs, k, b, e, _, _, _⟩
  · obtain ⟨_, _, vs, _, dd⟩ := dk_rd I.hok e
    exact dd.typeIs
  · obtain ⟨_, _, xs, _, dd⟩ := dt_rd I.hok e
    exact dd.typeIs
section
variable {X : Cx} {o i e value : Expr} {pos pos' tpos : Pos} {td ty tv : TE}
end
section
variable {X : Cx} {pos : Pos}
end
def tPairs : List (TE × TE) → St → Hp → (List (V × V) → Hp → Prop) → Prop
  | [], _, H, Q => Q [] H
  | (tk, tv) :: r, σ, H, Q => tk σ H fun x H1 => tv σ H1 fun y H2 => tPairs r σ H2 fun ps H3 => Q ((x, y) :: ps) H3
abbrev VV : List (V × V) → List (Value × Value) → Prop := Paired fun p q => RelV p.1 q.1 ∧ RelV p.2 q.2
def PPs (X : Cx) (pos : Pos) (keys : List (Option Expr)) (values : List Expr) (trs : List (TE × TE)) : Prop :=
  ∀ (pins : List (Addr × Obj)) (s : Shared) (σ : St) (H : Hp) (Q : List (V × V) → Hp → Prop), Inv X pins σ H s → tPairs trs σ H Q →
    wpAny (model X.prog X.w) X.A (evalPairs (pairTrees keys values X.env pos)) (fun vs s' => ∃ ps H', Inv X pins σ H' s' ∧ VV ps vs ∧ Q ps H') X.xe s
theorem pps_nil {X : Cx} {pos : Pos} : PPs X pos [] [] [] := fun pins s σ H Q I h => pairTrees_nil_walk ⟨[], H, I, .nil, h⟩
theorem pps_cons {X : Cx} {pos : Pos} {k v : Expr} {ks : List (Option Expr)} {vs : List Expr} {tk tv : TE} {trs : List (TE × TE)} (hk : PE X k tk) (hv : PE X v tv) (hr : PPs X pos ks vs trs) :
    PPs X pos (some k :: ks) (v :: vs) ((tk, tv) :: trs) := fun pins s σ H Q I h =>
  pairTrees_cons_walk (thn (hk pins s σ H _ I h) fun u s1 ⟨x, H1, I1, rx, q1⟩ => thn (hv pins s1 σ H1 _ I1 q1) fun w2 s2 ⟨y, H2, I2, ry, q2⟩ =>
    thn (hr pins s2 σ H2 _ I2 q2) fun ws s3 ⟨ps, H3, I3, rel, q3⟩ => ⟨(x, y) :: ps, H3, I3, .cons ⟨rx, ry⟩ rel, q3⟩)
structure M1 (X : Cx) (o : Expr) (m : Str) (apos : Pos) (e : Expr) (cpos : Pos) : Prop where
  base : attributeBase o m X.env (eval o X.env) = eval o X.env
  few : ((backTo cpos (starEach [e] X.env)).all (fun x => !x.1) && (backToKw cpos (keywordEach [] X.env)).all (fun x => x.1.isSome)
    && decide (([e] : List Expr).length + ([] : List Keyword).length + (if ([] : List Keyword).isEmpty then 0 else 1) < 30)) = true
  line : (apos.endLine == cpos.line) = true
  trees : backTo cpos (starEach [e] X.env) = [(false, eval e X.env)]
structure M2 (X : Cx) (o : Expr) (m : Str) (apos : Pos) (e f : Expr) (cpos : Pos) : Prop where
  base : attributeBase o m X.env (eval o X.env) = eval o X.env
  few : ((backTo cpos (starEach [e, f] X.env)).all (fun x => !x.1) && (backToKw cpos (keywordEach [] X.env)).all (fun x => x.1.isSome)
    && decide (([e, f] : List Expr).length + ([] : List Keyword).length + (if ([] : List Keyword).isEmpty then 0 else 1) < 30)) = true
  line : (apos.endLine == cpos.line) = true
  trees : backTo cpos (starEach [e, f] X.env) = [(false, eval e X.env), (false, eval f X.env)]
section
variable {X : Cx} {pins : List (Addr × Obj)} {σ : St} {H : Hp} {s : Shared} {a : Addr} {y d : V} {u r : Value} {o : Option V} {A : Around} {E : Value → Shared → Prop}
end
section
variable {X : Cx} {o e f : Expr} {apos cpos : Pos} {td ty tx : TE}
end
section
variable {X : Cx} {pins : List (Addr × Obj)} {σ : St} {H : Hp} {s : Shared} {a : Addr} {kvs : List (Key × V)} {A : Around} {E : Value → Shared → Prop}
theorem d_copyOf {Q : Value → Shared → Prop} (I : Inv X pins σ H s) (e : Rd H a (.dK kvs)) (h : ∀ p s', H p = none → Inv X pins σ (upd H p (.dK kvs)) s' → Q (.ref p) s') : wpAny (model X.prog X.w) A (call (.type "dict") [.ref a]) Q E s := by
  obtain ⟨z, hd, vs, rel, dd⟩ := dk_rd I.hok e
  refine kt_call_dict hd dd (by rw [← rel.length]; exact z) fun h' dd' hs => ?_
  refine h _ _ (I.hok.fresh (Nat.le_refl _)) (I.laid (a := s.heap.objs.size) (o := .dK kvs) (t' := s.toks) (fun b q hq => ?_) (Nat.le_refl _) (dk_new z (beq_eq_false_iff_ne.mpr (Ne.symm (Nat.ne_of_lt I.big))) rel dd'))
  exact (hs.2 b (Nat.ne_of_lt (Heap.lt_size hq))).trans (Heap.get?_push_of_some _ hq)
end
section
variable {X : Cx} {pins : List (Addr × Obj)} {σ : St} {H : Hp} {s : Shared} {a : Addr} {y : V} {u : Value} {A : Around} {E : Value → Shared → Prop}
end
end L2
namespace Att
open PySem PySem.W PySem.Calls PyProof.Rows
theorem ints_of_wellAll {P : Params} {h : Heap} : ∀ (ns : List Int) (vs : List Value), WellAll P h vs (ns.map WData.int) → IntsAre vs ns := by
  intro ns
  induction ns with
  | nil =>
    intro vs w
    rw [List.map_nil] at w
    cases w
    exact .nil
  | cons n ns ih =>
    intro vs w
    rw [List.map_cons] at w
    cases w with
    | cons a b =>
      cases a
      exact .cons _ _ (ih _ b)
theorem script_of {l : OpenLaw} {n : Nat} (hn : l.most = some n) {P : Params} {h : Heap} {args : List WData} {vals : List Value}
    (hpre : l.row.toRowW.claim.pre args = true) (hwl : WellAll P h vals args) :
    ∃ a vs ns, vals = [Value.ref a] ∧ args = [WData.list (ns.map WData.int)] ∧ h.get? a = some { cls := .type "list", data := .seq vs.toArray } ∧ IntsAre vs ns ∧ ns.length ≤ n := by
  have hsh : WShape.hasAll [] args [.list .int] = true := (pre_splitW hpre).1
  have hc : l.pre.holds [] { args := args } = true := (pre_splitW hpre).2
  obtain ⟨d, r, rfl, h1, h2⟩ := hasAllW_cons hsh
  obtain rfl := hasAllW_nil h2
  obtain ⟨xs, rfl, h3⟩ := hasW_list h1
  obtain ⟨ns, rfl⟩ := items_int h3
  have hlen : ns.length ≤ n := by
    unfold OpenLaw.pre at hc
    have h4 : (WTm.not (.lt (.lit (.int (n : Int))) (.len (.arg 0)))).holds [] { args := [.list (ns.map .int)] } = true := by
      have h4 := (holds_andW hc).1
      rw [hn] at h4
      exact h4
    have h5 := condW_of h4 (w_not (w_lt w_lit (w_len_list (w_arg rfl))))
    rw [List.length_map] at h5
    refine Nat.le_of_not_lt fun q => ?_
    have q' : (n : Int) < ((ns.length : Nat) : Int) := by omega
    first
      | (rw [decide_eq_true q'] at h5; exact absurd h5 (by decide))
      | (simp at h5; omega)
  cases hwl with
  | cons w1 w2 =>
    cases w2
    cases w1 with
    | list ho hall => exact ⟨_, _, ns, rfl, rfl, ho, ints_of_wellAll ns _ hall, hlen⟩
theorem post_true (l : OpenLaw) (args : List WData) : l.row.toRowW.claim.post args (.bool true) args = true :=
  postW_of (r := l.row.toRowW) (X := (true == true))
    (show WShape.has [] (.bool true) .bool = true by first | rfl | decide | simp [WShape.has, WShape.arms, WShape.armsAll])
    (show (WTm.eq .res (.lit (.bool true))).value [] { args := args, res := some (.bool true), after := args } = some (.bool (true == true)) from w_eq_bool (w_res rfl) w_lit) rfl
theorem attach_call {l : OpenLaw} {n : Nat} {q : Program} {loose : List Str} {XP : (Str → Option Value) → Heap → Prop} {YP : World → Heap → Prop} {d : DefRec}
    (hn : l.most = some n) (hdf : d.params.defaults = [])
    (call : ∀ (w : World) (s₀ s₁ : Shared) (mg mb : Str → Option Value) (fa : Addr) (o : Obj) (pm cd doc : Value) (a : Addr) (vs : List Value) (ns : List Int),
      Ground q loose [] XP w s₀ mg mb s₁.heap → YP w s₁.heap →
      s₁.heap.get? fa = some o → o.data = .func (docDef d.name d.params d.body d.scope pm cd doc) → s₁.heap.CodeRec cd d.name → mg d.name = some (.ref fa) →
      s₁.heap.get? a = some { cls := .type "list", data := .seq vs.toArray } → IntsAre vs ns → ns.length ≤ n → s₁.gens = #[] →
      codeAny (model l.prog w) callerA (.call (.ref fa) ⟨[.ref a], []⟩) (fun r s' => r = .ok (.ret (.bool true)) ∧ OldK s₁.heap s'.heap ∧ s'.os = s₁.os ∧ AllBare s'.gens) s₁) :
    WalkO q loose XP YP l.row.toRowW d [] (fun f vs => PySem.call f vs) := by
  intro w s₀ s₁ mg mb G Y fa o pm cd doc dV kV ho hd hcd hD hmg hg args vals as hpre hlay hrd hwl hlo
  obtain rfl : dV = .none := Dflts.none hD hdf
  obtain rfl : kV = .none := Dflts.noKw hD
  obtain ⟨a, vs, ns, rfl, rfl, hobj, hints, hlen⟩ := script_of hn hpre hwl
  refine enter_call (codeAny_mono (call w s₀ s₁ mg mb fa o pm cd doc a vs ns G Y ho (fd_plain hd) hcd hmg hobj hints hlen hg) fun r s' hq => ?_)
  obtain ⟨rfl, h2, h3, h4⟩ := hq
  exact ⟨.inl ⟨.bool true, .bool true, [], rfl, fun _ => rfl, .bool true, post_true l _, fun _ => ⟨List.Pairwise.nil, fun _ hm => (nomatch hm)⟩⟩, h2, h3, h4⟩
section
variable {prog : Program} {w : World} {A : Around} {E : Value → Shared → Prop} {s : Shared} {K : Frag}
def ledger (h : Heap) (L d : Addr) : List (Addr × Obj) := (List.range h.objs.size).filterMap fun a => if a = L ∨ a = d then none else (h.get? a).map fun o => (a, o)
end
end Att
namespace L2
open PySem PySem.Spec PyProof.Rows
theorem vals_ints : ∀ {vs : List Value} {ns : List Int}, IntsAre vs ns → Vals (ns.map V.int) vs
  | _, _, .nil => .nil
  | _, _, .cons n t h => .cons ⟨t, rfl⟩ (vals_ints h)
def Only (H : Hp) : Prop := ∀ b, H b = none ∨ ∃ o xs, H b = some (.frz o (.lst xs))
theorem law_call {P : Program} {w : World} {K : PySem.W.Frag} {mg mb : Str → Option Value} {CX : CXT} {k : Nat} {fa a : Addr} {fd : FuncData} {x : Str} {sp : Sp} {s₁ : Shared} {vs : List Value} {ns : List Int}
    (KX : K.In s₁.heap) (hns : s₁.heap.Ns mainGlobals mg) (hb : s₁.heap.Ns builtinsNs mb) (hbb : ∀ x : Str, x ≠ "__name__" → mb x = bootBuiltins x) (hlim : s₁.heap.NoLimit) (hg : s₁.gens = #[])
    (ha : s₁.heap.get? a = some { cls := .type "list", data := .seq vs.toArray }) (hi : IntsAre vs ns) (hl : ns.length ≤ sizeLine) (hr : Room k callerA)
    (F : ∀ base : Heap, K.In base → base.Ns mainGlobals mg → FnOk P w K mg base CX k fa fd [x] sp) (hbind : ∀ (s : Shared) (u : Value), BindsTo s fd ⟨[u], []⟩ [(x, u)])
    (hsp : ∀ H : Hp, Only H → SqL K H a (ns.map V.int) → sp [.ref a] H (fun v _ => v = .bl true) fun _ _ _ => False)
    (hCX : ∀ H e s', CX [] H s₁ (fun _ _ _ => False) e s' → False) :
    codeAny (model P w) callerA (.call (.ref fa) ⟨[.ref a], []⟩) (fun r s' => r = .ok (.ret (.bool true)) ∧ OldK s₁.heap s'.heap ∧ s'.os = s₁.os ∧ AllBare s'.gens) s₁ := by
  have rv := vals_ints hi
  have lenV := hi.length
  have core : ∀ H : Hp, Only H → SqL K H a (ns.map V.int) → HOk P w H s₁.heap → (∀ b, H b ≠ none → b = a) → (H a ≠ none → K.lookup a = none) →
      codeAny (model P w) callerA (.call (.ref fa) ⟨[.ref a], []⟩) (fun r s' => r = .ok (.ret (.bool true)) ∧ OldK s₁.heap s'.heap ∧ s'.os = s₁.os ∧ AllBare s'.gens) s₁ := by
    intro H hO hS hok hA hK
    have base_of : ∀ {b : Addr} {o : Obj}, s₁.heap.get? b = some o → H b = none → (hidT s₁.heap H).get? b = some o := fun e n => hidT_get e n
    have noA : ∀ {b : Addr} {o : Obj} {es : Array DictEntry} {ep : Nat}, s₁.heap.get? b = some o → o.data = .dict es ep → H b = none := fun {b o es ep} e d => by
      cases q : H b with
      | none => rfl
      | some u =>
        have e' : b = a := hA b (by rw [q]; simp)
        subst e'
        rw [ha] at e; cases e
        have d' : Data.seq vs.toArray _ = Data.dict es ep := d
        cases d'
    have nsK : ∀ {b : Addr} {m : Str → Option Value}, s₁.heap.Ns b m → (hidT s₁.heap H).Ns b m := fun {b m} ⟨o, es, ep, e, d, r⟩ => ⟨o, es, ep, base_of e (noA e d), d, r⟩
    have hKb : K.In (hidT s₁.heap H) := fun b o e => base_of (KX b o e) (by
      cases q : H b with
      | none => rfl
      | some u =>
        have e' : b = a := hA b (by rw [q]; simp)
        subst e'
        rw [hK (by rw [q]; simp)] at e; cases e)
    have hM : Mod K mg (hidT s₁.heap H) := ⟨hKb, nsK hns, ⟨mb, nsK hb, hbb⟩, let ⟨mc, h1, h2⟩ := hlim; ⟨mc, nsK h1, h2⟩⟩
    have e0 : Env0 P w K mg (hidT s₁.heap H) callerA [] s₁ H := ⟨rfl, hM, fun b o e => of_hidT e, Nat.le_of_eq (hidT_size _ _), trivial, fun b hb => absurd (show b ∈ ([] : List Addr) from hb) (by simp), hok, .of_eq hg⟩
    refine codeAny_mono ((F _ hKb (nsK hns)).run callerA [] s₁ H ⟨[.ref a], []⟩ [.ref a] [.ref a] _ _ hr e0 (hbind s₁ (.ref a)) (.cons rfl .nil) (hsp H hO hS)) fun r s' h => ?_
    cases r with
    | error e => exact (hCX H e s' h).elim
    | ok fl =>
      cases fl with
      | next => exact False.elim h
      | brk => exact False.elim h
      | cont => exact False.elim h
      | ret u =>
        obtain ⟨v, H', os, bare, un, hok', r', q⟩ := h
        have q' : v = .bl true := q
        subst q'
        obtain rfl : u = Value.bool true := r'
        refine ⟨rfl, OldK.of_keep fun b o e => ?_, os, bare⟩
        cases q : H b with
        | none => exact un.keep b o e q (by intro z; exact absurd (show b ∈ ([] : List Addr) from z) (by simp)) (by simp)
        | some u =>
          rcases hO b with z | ⟨ob, xs, z⟩
          · rw [q] at z; cases z
          · have z2 := un.frzs b ob _ z
            obtain ⟨e1, _⟩ := hok b _ z
            obtain ⟨e2, _⟩ := hok' b _ z2
            rw [e] at e1; cases e1
            exact e2
  cases hk : K.lookup a with
  | some o =>
    have e := KX a o hk
    rw [ha] at e
    cases e
    refine core (fun _ => none) (fun _ => .inl rfl) (.inr ⟨_, vs.toArray, _, hk, rfl, rfl, rfl, by rw [List.size_toArray, lenV]; exact hl, by simpa using rv⟩) (fun b u z => by have z' : (none : Option HO) = some u := z; cases z') (fun b z => absurd rfl z) fun z => absurd rfl z
  | none =>
    refine core (fun b => if b = a then some (.frz { cls := .type "list", data := .seq vs.toArray } (.lst (ns.map V.int))) else none) (fun b => ?_) (.inl (.inr ⟨{ cls := .type "list", data := .seq vs.toArray }, if_pos rfl⟩)) (fun b u z => ?_) (fun b z => ?_) fun _ => hk
    · by_cases hb : b = a
      · exact .inr ⟨_, _, if_pos hb⟩
      · exact .inl (if_neg hb)
    · by_cases hb : b = a
      · have z' := (if_pos hb).symm.trans z
        cases z'
        subst hb
        exact ⟨ha, by rw [List.length_map]; exact hl, vs, _, rv, ha⟩
      · have z' := (if_neg hb).symm.trans z
        cases z'
    · by_cases hb : b = a
      · exact hb
      · exact absurd (if_neg hb) z
end L2
namespace L2
open PySem PySem.Spec PyProof.Rows
abbrev KOf {K : PySem.W.Frag} {h : Heap} (_ : K.In h) : PySem.W.Frag := K
theorem walk_of {l : PySem.W.OpenLaw} {n k : Nat} {q : Program} {loose : List Str} {XP : (Str → Option Value) → Heap → Prop} {YP : World → Heap → Prop} {d : DefRec} {K : Params → PySem.W.Frag} {CX : World → CXT} {sp : World → Sp} {x : Str}
    (hn : l.most = some n) (hn2 : n ≤ sizeLine) (hdf : d.params.defaults = []) (hr : Room k callerA)
    (hY : ∀ (w : World) (h : Heap), YP w h → (K w.params).In h)
    (F : ∀ (w : World) (mg : Str → Option Value) (fa : Addr) (h : Heap), (K w.params).In h → h.Ns mainGlobals mg → mg d.name = some (.ref fa) →
      ∃ fd : FuncData, (∀ (s : Shared) (u : Value), BindsTo s fd ⟨[u], []⟩ [(x, u)]) ∧
        ∀ base : Heap, (K w.params).In base → base.Ns mainGlobals mg → FnOk l.prog w (K w.params) mg base (CX w) k fa fd [x] (sp w))
    (hsp : ∀ (w : World) (H : Hp) (a : Addr) (ns : List Int), ns.length ≤ n → Only H → SqL (K w.params) H a (ns.map V.int) → sp w [.ref a] H (fun v _ => v = .bl true) fun _ _ _ => False)
    (hCX : ∀ (w : World) (H : Hp) (s : Shared) (e : Value) (s' : Shared), CX w [] H s (fun _ _ _ => False) e s' → False) :
    PySem.W.WalkO q loose XP YP l.row.toRowW d [] (fun f vs => PySem.call f vs) := by
  refine Att.attach_call hn hdf fun w s₀ s₁ mg mb fa o pm cd doc a vs ns G Y ho hd hcd hmg hobj hints hlen hg => ?_
  have KX := hY w _ Y
  obtain ⟨fd, hb, hF⟩ := F w mg fa _ KX G.T.g hmg
  exact law_call KX G.T.g G.T.b G.T.builtins G.T.nolimit hg hobj hints (Nat.le_trans hlen hn2) hr hF hb (fun H hO hS => hsp w H a ns hlen hO hS) fun H e s' => hCX w H s₁ e s'
end L2
/- THE LAST THEOREM (shape; LID, My.* are yours):
   My.Adr: a structure of the addresses that your layer names (classes, functions); My.Txt K t: a structure (Prop) of the equations over K;
   My.txt_mk : {K} {implicit addresses ..} (e1 : nsIn K mainGlobals "law" = some (some (.ref f))) (e2 : K.lookup f = some ⟨oc, od, .func (fnOf "law" "law" params body scope dV kV doc pm an cdv ct), sl⟩) (e3 : codeIn K cdv "law" = true) .. : ∃ t, My.Txt K t
set_option maxRecDepth 100000 in
set_option maxHeartbeats 0 in
theorem PySem.Challenge.cw_LID_holds : PySem.Challenge.rw_LID.Holds := by
  w_on; o_law; k_head; (case hw => w_witness2)
  k_fill
  refine L2.walk_of (l := PySem.Challenge.rw_LID) (n := 63) (k := 40) (x := "script") (CX := fun w => ..) (sp := fun _ => My.sp_law) rfl (by decide) rfl ⟨rfl, by decide, by decide⟩ (fun w h Y => PySem.W.kIn_of Y) ?F ?S ?C
  case F =>
    intro w mg fa h KX G hmg
    have T : ∃ t, My.Txt (L2.KOf KX) t := by
      dsimp only [L2.KOf]                          -- K must stand as «<heap const> w.params» for k_is
      refine' My.txt_mk ?e1 ?e2 ?e3 ..
      (case e1 => PySem.W.k_is)                    -- in the order: a name -> its address -> its object -> its parts
      (case e2 => PySem.W.k_is)
      ..
    obtain ⟨t, T⟩ := T
    have e0 := hmg.symm.trans (PySem.W.mg_of KX G T.law)
    cases e0                                       -- fa is the law's own address
    exact ⟨_, fun s u => .of_eq rfl, fun base kb nb => My.law_fn T kb nb⟩     -- if «.of_eq rfl» comes too early: refine' ⟨_, ?b, fun base kb nb => My.law_fn T kb nb⟩; exact fun s u => .of_eq rfl
  case S => exact fun w H a ns hl hO hS => ..
  case C => exact ..
(the tactic k_is has no namespace: write k_is) -/
namespace L2
open PySem PySem.Spec PyProof.Rows
def defArgs (s : Stmt) : Arguments := match s with
  | .FunctionDef _ a _ _ _ _ _ _ _ _ => a
  | _ => { posonlyargs := [], args := [], vararg := none, kwonlyargs := [], kw_defaults := [], kwarg := none, defaults := [] }
def defBody (s : Stmt) : List Stmt := match s with
  | .FunctionDef _ _ b _ _ _ _ _ _ _ => b
  | _ => []
def defScope (s : Stmt) : Scope := match s with
  | .FunctionDef _ _ _ _ _ _ sc _ _ _ => sc
  | _ => { kind := .function, names := [], isGenerator := false, isCoroutine := false }
abbrev CX0 : CXT := fun _ _ _ _ _ _ => False
abbrev E0 : XK := fun _ _ _ => False
theorem pass0 {X : Cx} : Passes CX0 X E0 := fun _ _ _ _ _ _ _ h => h.elim
structure Fun (K : PySem.W.Frag) (x qual : Str) (st : Stmt) (f : Addr) (fd : FuncData) : Prop where
  ex : ∃ (oc : Value) (od : Option Addr) (kV doc pm : Value) (an : Option Addr) (cdv ct : Value) (osl : Array (Option Value)),
    fd = PySem.W.fnOf x qual (defArgs st) (defBody st) (defScope st) .none kV doc pm an cdv ct ∧ K.lookup f = some ⟨oc, od, .func fd, osl⟩ ∧ PySem.W.codeIn K cdv qual = true
  kp : PySem.W.keepIn K (.ref f) = true
section
variable {P : Program} {w : World} {K : PySem.W.Frag} {mg : Str → Option Value} {base : Heap}
theorem Fun.ok {x qual : Str} {st : Stmt} {f : Addr} {fd : FuncData} {N ps : List Str} {k : Nat} {sp : Sp} (F : Fun K x qual st f fd) (S : FnScope N ps (defScope st)) (len : ∀ vs H Q E, sp vs H Q E → vs.length = ps.length)
    (hbody : ∀ (cdv : Value) (A : Around) (outer : List Env) (s : Shared) (H : Hp) (vs : List V) (Q : VK) (E : XK), Room k (A.deeper (envOfC qual (defScope st) s.heap.objs.size f cdv)) → sp vs H Q E →
      ∃ t, PSs (cxOf CX0 P w K mg base N qual (defScope st) f cdv A outer s H E).nox (defBody st) t ∧ t { nx := fun _ H' => Q .non H', rt := Q } (start N vs) H) : FnOk P w K mg base CX0 (k + 1) f fd ps sp := by
  obtain ⟨oc, od, kV, doc, pm, an, cdv, ct, osl, rfl, lk, hcd⟩ := F.ex
  refine fn_of lk hcd S len fun A outer s H vs Q E hr hsp => ?_
  obtain ⟨t, h, q⟩ := hbody cdv A outer s H vs Q E hr hsp
  exact ⟨t, h.nox, q⟩
theorem Fun.binds {x qual : Str} {st : Stmt} {f : Addr} {fd : FuncData} {ps : List Str} (F : Fun K x qual st f fd)
    (h : ∀ (kV doc pm : Value) (an : Option Addr) (cdv ct : Value) (us : List Value), us.length = ps.length → bindArgs (PySem.W.fnOf x qual (defArgs st) (defBody st) (defScope st) .none kV doc pm an cdv ct) ⟨us, []⟩ = pure (ps.zip us)) : Binds K fd ps [] := by
  obtain ⟨oc, od, kV, doc, pm, an, cdv, ct, osl, rfl, lk, hcd⟩ := F.ex
  exact .all (h kV doc pm an cdv ct)
theorem fun_mk {x qual : Str} {st : Stmt} {f : Addr} {oc : Value} {od an : Option Addr} {osl : Array (Option Value)} {kV doc pm cdv ct : Value} (l : K.lookup f = some ⟨oc, od, .func (PySem.W.fnOf x qual (defArgs st) (defBody st) (defScope st) .none kV doc pm an cdv ct), osl⟩)
    (c : PySem.W.codeIn K cdv qual = true) (k : PySem.W.keepIn K (.ref f) = true) : Fun K x qual st f (PySem.W.fnOf x qual (defArgs st) (defBody st) (defScope st) .none kV doc pm an cdv ct) := ⟨⟨oc, od, kV, doc, pm, an, cdv, ct, osl, rfl, l, c⟩, k⟩
end
section
variable {X : Cx}
theorem pv (i : Nat) {x : Str} {pos : Pos} (hN : X.N[i]? = some x := by rfl) (hv : Vis X.env.scope x := by first | exact Or.inl rfl | exact Or.inr (Or.inl rfl) | exact Or.inr (Or.inr rfl)) (hd : (x == ("__debug__" : Str)) = false := by decide)
    (hcd : (x == ("__classdict__" : Str)) = false := by decide) : PE X (.Name x pos) (tVar i) := pe_var hN hv hd hcd
end
def Same (H H' : Hp) : Prop := ∀ b o, H b = some o → H' b = some o
theorem Same.refl (H : Hp) : Same H H := fun _ _ h => h
theorem Same.trans {H H1 H2 : Hp} (a : Same H H1) (b : Same H1 H2) : Same H H2 := fun c o h => b c o (a c o h)
theorem Same.free {H H' : Hp} (e : Same H H') {l : Addr} (h : H' l = Option.none) : H l = Option.none := by
  cases q : H l with
  | none => rfl
  | some o =>
    rw [e l o q] at h
    cases h
theorem Same.seq {K : PySem.W.Frag} {H H' : Hp} {a : Addr} {xs : List V} (e : Same H H') (h : SqL K H a xs) : SqL K H' a xs := by
  rcases h with (h | ⟨o, h⟩) | h
  · exact .inl (.inl (e _ _ h))
  · exact .inl (.inr ⟨o, e _ _ h⟩)
  · exact .inr h
end L2
namespace L2
open PySem PySem.Spec PyProof.Rows
section
variable {X : Cx}
theorem call_lenD : CallR X (.builtin "len") (fun xs H Q => ∃ a kvs, xs = [V.ref a] ∧ H a = some (.dK kvs) ∧ Q (.int kvs.length) H) := by
  intro pins s σ H xs us Q I r h
  obtain ⟨a, kvs, rfl, ha, q⟩ := h
  obtain ⟨u, rfl, ru⟩ := vals1 r
  cases ru
  exact d_len I (.inl ha) fun t s' I' => ⟨.int kvs.length, H, I', ⟨t, rfl⟩, q⟩
end
section
variable {κ : Type} [DecidableEq κ]
theorem nd_snoc : ∀ {l : List κ} {k : κ}, l.Nodup → ¬ k ∈ l → (l ++ [k]).Nodup
  | [], k, _, _ => by simp
  | a :: r, k, h, hk => by
    obtain ⟨h1, h2⟩ := List.nodup_cons.mp h
    show (a :: (r ++ [k])).Nodup
    refine List.nodup_cons.mpr ⟨fun m => ?_, nd_snoc h2 fun m => hk (List.mem_cons.mpr (Or.inr m))⟩
    rcases List.mem_append.mp m with q | q
    · exact h1 q
    · exact hk (List.mem_cons.mpr (Or.inl (List.mem_singleton.mp q).symm))
end
end L2
namespace L2
open PySem PySem.Spec PyProof.Rows
section
variable {X : Cx}
def CDivB (i j : Int) : Prop := 0 < j ∧ j < 2 ^ 256
theorem log2_small {j : Int} (h : CDivB i j) : j.natAbs.log2 < 9000 := by
  have h1 : (0 : Int) < j := h.1
  have h2 : j < 2 ^ 256 := h.2
  have h0 : j.natAbs ≠ 0 := by omega
  have : j.natAbs < 2 ^ 256 := by omega
  have := (Nat.log2_lt h0).mpr this
  omega
theorem op_fdivB : OpR X (binaryOp .FloorDiv) (rI CDivB fun i j => .int (i / j)) := opI fun i j _ _ _ _ _ hc q => by
  have h1 : (0 : Int) < j := hc.1
  exact floordiv_int (by omega) (by rw [Int.fdiv_eq_ediv_of_nonneg i (by omega)]; exact q) (.inl (PyProof.noPylong_of_log2 (log2_small hc)))
theorem call_isinst : CallR X (.builtin "isinstance") (fun xs H Q => ∃ x c t b, xs = [x, .ty c] ∧ TyOf X.K H x t ∧ PySem.W.kitOne X.K t (.type c) = some b ∧ Q (.bl b) H) := by
  intro pins s σ H xs us Q I r h
  obtain ⟨x, c, t, b, rfl, ty, e, q⟩ := h
  obtain ⟨u, w', rfl, ru, rw'⟩ := vals2 r
  cases rw'
  exact isinst_ok I ru ty e fun tk => ⟨.bl b, H, I.tok tk, rfl, q⟩
end
mutual
inductive Dp (K : PySem.W.Frag) (H : Hp) : V → PyData → Prop
  | non : Dp K H .non .none
  | bl (b : Bool) : Dp K H (.bl b) (.bool b)
  | int (i : Int) : Dp K H (.int i) (.int i)
  | str (x : Str) : Dp K H (.str x) (.str x)
  | lst {a : Addr} {xs : List V} {ds : List PyData} : SqL K H a xs → DpAll K H xs ds → Dp K H (.ref a) (.list ds)
  | tup {a : Addr} {xs : List V} {ds : List PyData} : SqT K H a xs → DpAll K H xs ds → Dp K H (.ref a) (.tuple ds)
inductive DpAll (K : PySem.W.Frag) (H : Hp) : List V → List PyData → Prop
  | nil : DpAll K H [] []
  | cons {x : V} {xs : List V} {d : PyData} {ds : List PyData} : Dp K H x d → DpAll K H xs ds → DpAll K H (x :: xs) (d :: ds)
end
section
variable {X : Cx} {pins : List (Addr × Obj)} {σ : St} {H : Hp} {s : Shared}
mutual
theorem Dp.reads (I : Inv X pins σ H s) : ∀ {x : V} {d : PyData} {u : Value}, Dp X.K H x d → RelV x u → ∃ as, Reads s.heap u d as
  | _, _, _, .non, r => by cases r; exact ⟨_, .none⟩
  | _, _, _, .bl b, r => by cases r; exact ⟨_, .bool b⟩
  | _, _, _, .int i, r => by obtain ⟨t, rfl⟩ := r; exact ⟨_, .int i t⟩
  | _, _, _, .str x, r => by obtain ⟨t, rfl⟩ := r; exact ⟨_, .str x t⟩
  | _, _, _, .lst hq ha, r => by
    cases r
    obtain ⟨its, rv, pl, hz⟩ := I.list hq
    obtain ⟨as, rs⟩ := DpAll.reads I ha rv
    obtain ⟨o, ho, hc, n, hd⟩ := pl.isList
    exact ⟨_, .list ho hc hd (by simpa using rs)⟩
  | _, _, _, .tup hq ha, r => by
    cases r
    obtain ⟨its, rv, pl, hz⟩ := I.tuple hq
    obtain ⟨as, rs⟩ := DpAll.reads I ha rv
    obtain ⟨o, ho, hc, n, hd⟩ := pl
    exact ⟨_, .tuple ho hc hd (by simpa using rs)⟩
theorem DpAll.reads (I : Inv X pins σ H s) : ∀ {xs : List V} {ds : List PyData} {us : List Value}, DpAll X.K H xs ds → Vals xs us → ∃ as, ReadsAll s.heap us ds as
  | _, _, _, .nil, r => by cases r; exact ⟨_, .nil⟩
  | _, _, _, .cons h t, r => by
    cases r with
    | cons r1 r2 =>
      obtain ⟨as, a⟩ := Dp.reads I h r1
      obtain ⟨bs, b⟩ := DpAll.reads I t r2
      exact ⟨_, .cons a b⟩
end
end
theorem DpAll.ints {K : PySem.W.Frag} {H : Hp} : ∀ ns : List Int, DpAll K H (ns.map V.int) (ns.map PyData.int)
  | [] => .nil
  | n :: r => .cons (.int n) (DpAll.ints r)
section
variable {X : Cx}
theorem op_eqD (hu : X.A.units + 64 < cLine) : OpR X (compareOp .Eq) (fun x y H Q => ∃ d e, Dp X.K H x d ∧ Dp X.K H y e ∧ SeqAt.shaped d = true ∧ SeqAt.shaped e = true ∧ Q (.bl (PyData.eqv d e)) H) := by
  intro pins s σ H x y v u Q I rx ry h
  obtain ⟨d, e, hd, he, sd, se, q⟩ := h
  obtain ⟨as, ra⟩ := hd.reads I rx
  obtain ⟨bs, rb⟩ := he.reads I ry
  exact SeqAt.compareEq_shaped ra rb sd se hu (fin_bl I q rfl)
theorem op_neD (hu : X.A.units + 64 < cLine) : OpR X (compareOp .NotEq) (fun x y H Q => ∃ d e, Dp X.K H x d ∧ Dp X.K H y e ∧ SeqAt.shaped d = true ∧ SeqAt.shaped e = true ∧ Q (.bl (!PyData.eqv d e)) H) := by
  intro pins s σ H x y v u Q I rx ry h
  obtain ⟨d, e, hd, he, sd, se, q⟩ := h
  obtain ⟨as, ra⟩ := hd.reads I rx
  obtain ⟨bs, rb⟩ := he.reads I ry
  exact SeqAt.compareNe_shaped ra rb sd se hu (fin_bl I q rfl)
end
end L2
namespace L2
end L2
namespace L2
open PySem PySem.Spec PyProof.Rows
def clOf (cells : List (Str × Addr)) : List (Str × NameKind) → List (Str × Addr) → List (Str × Addr)
  | [], acc => acc
  | (n, k) :: r, acc => if k = .free then (match cells.lookup n with | some a => clOf cells r ((n, a) :: acc) | none => clOf cells r acc) else clOf cells r acc
theorem clOf_spec (cells : List (Str × Addr)) : ∀ (names : List (Str × NameKind)) (acc : List (Str × Addr)) (x : Str) (c : Addr), (clOf cells names acc).lookup x = some c → acc.lookup x = some c ∨ cells.lookup x = some c
  | [], acc, x, c, h => .inl h
  | (n, k) :: r, acc, x, c, h => by
    unfold clOf at h
    by_cases hk : k = .free
    · rw [if_pos hk] at h
      cases hc : cells.lookup n with
      | none => rw [hc] at h; exact clOf_spec cells r acc x c h
      | some a =>
        rw [hc] at h
        rcases clOf_spec cells r _ x c h with q | q
        · by_cases hx : x = n
          · subst hx
            simp at q
            subst q
            exact .inr hc
          · have hb : (x == n) = false := beq_eq_false_iff_ne.mpr hx
            simp only [List.lookup_cons, hb] at q
            exact .inl q
        · exact .inr q
    · rw [if_neg hk] at h
      exact clOf_spec cells r acc x c h
theorem clOf_keep (cells : List (Str × Addr)) : ∀ (names : List (Str × NameKind)) (acc : List (Str × Addr)) (x : Str) (c : Addr), cells.lookup x = some c → acc.lookup x = some c → (clOf cells names acc).lookup x = some c
  | [], acc, x, c, _, h => h
  | (n, k) :: r, acc, x, c, h, ha => by
    unfold clOf
    by_cases hk : k = .free
    · rw [if_pos hk]
      cases hc : cells.lookup n with
      | none => exact clOf_keep cells r acc x c h ha
      | some a =>
        refine clOf_keep cells r _ x c h ?_
        by_cases hx : x = n
        · subst hx
          rw [h] at hc; cases hc
          simp
        · have hb : (x == n) = false := beq_eq_false_iff_ne.mpr hx
          simp only [List.lookup_cons, hb]
          exact ha
    · rw [if_neg hk]
      exact clOf_keep cells r acc x c h ha
theorem clOf_has (cells : List (Str × Addr)) : ∀ (names : List (Str × NameKind)) (acc : List (Str × Addr)) (x : Str) (c : Addr), (x, NameKind.free) ∈ names → cells.lookup x = some c → (clOf cells names acc).lookup x = some c
  | [], acc, x, c, h, _ => by cases h
  | (n, k) :: r, acc, x, c, h, ha => by
    unfold clOf
    rcases List.mem_cons.mp h with e | h
    · cases e
      rw [if_pos rfl, ha]
      exact clOf_keep cells r _ _ c ha (by simp)
    · by_cases hk : k = .free
      · rw [if_pos hk]
        cases hc : cells.lookup n with
        | none => exact clOf_has cells r acc x c h ha
        | some a => exact clOf_has cells r _ x c h ha
      · rw [if_neg hk]
        exact clOf_has cells r acc x c h ha
theorem closure_walk {env : Env} (f : Str × NameKind → List (Str × Addr) → Sem (ForInStep (List (Str × Addr))))
    (hf : ∀ n k r, f (n, k) r = if (k == NameKind.free) = true then (cellOf env n >>= fun a => pure (ForInStep.yield ((n, a) :: r))) else pure (ForInStep.yield r)) :
    ∀ (names : List (Str × NameKind)) (acc : List (Str × Addr)), (∀ y ∈ names, y.2 = .free → ∃ c, env.cells.lookup y.1 = some c) → (forIn names acc f : Sem (List (Str × Addr))) = pure (clOf env.cells names acc)
  | [], acc, _ => by rw [List.forIn_nil]; rfl
  | (n, k) :: r, acc, h => by
    rw [List.forIn_cons, hf]
    have hr : ∀ y ∈ r, y.2 = .free → ∃ c, env.cells.lookup y.1 = some c := fun y hy => h y (List.mem_cons_of_mem _ hy)
    by_cases hk : k = .free
    · subst hk
      obtain ⟨c, hc⟩ := h (n, .free) List.mem_cons_self rfl
      have hc' : env.cells.lookup n = some c := hc
      have e : cellOf env n = pure c := by unfold cellOf; rw [hc']
      rw [if_pos (by decide), e, pure_bind, pure_bind]
      show forIn r ((n, c) :: acc) f = _
      rw [closure_walk f hf r _ hr]
      simp only [clOf, if_pos, hc']
    · have hb : (k == NameKind.free) = false := by simpa using hk
      rw [hb, if_neg Bool.false_ne_true, pure_bind]
      show forIn r acc f = _
      rw [closure_walk f hf r _ hr]
      simp only [clOf, if_neg hk]
theorem closure_is {scope : Scope} {env : Env} (h : ∀ y ∈ scope.names, y.2 = .free → ∃ c, env.cells.lookup y.1 = some c) : closureFor scope env = pure (clOf env.cells scope.names []) := by
  unfold closureFor
  simp only [bind_pure]
  exact closure_walk _ (fun n k r => by
    by_cases hk : (k == NameKind.free) = true
    · simp only [hk, if_true]
    · simp only [hk, if_false]) scope.names [] h
def compOk (osc scope : Scope) (N own : List Str) (fr : List Nat) : Bool :=
  decide (scope.kind = .function) && scope.names.all (fun y => decide (y.2 ≠ .cell)) && scope.names.all (fun y => decide (y.2 = .local → scope.names.lookup y.1 = some .local)) &&
  scope.names.all (fun y => decide (y.2 = .free → osc.names.lookup y.1 = some .cell ∨ osc.names.lookup y.1 = some .free)) &&
  fr.all (fun i => match N[i]? with | some x => decide ((x, NameKind.free) ∈ scope.names ∧ scope.names.lookup x = some .free ∧ (osc.names.lookup x = some .cell ∨ osc.names.lookup x = some .free)) | none => false)
structure CompOk (osc scope : Scope) (N : List Str) (fr : List Nat) : Prop where
  kind : scope.kind = .function
  nocell : ∀ y ∈ scope.names, y.2 ≠ .cell
  names : ∀ y ∈ scope.names, y.2 = .local → scope.names.lookup y.1 = some .local
  has : ∀ y ∈ scope.names, y.2 = .free → osc.names.lookup y.1 = some .cell ∨ osc.names.lookup y.1 = some .free
  frees : ∀ i ∈ fr, ∃ x, N[i]? = some x ∧ (x, NameKind.free) ∈ scope.names ∧ scope.names.lookup x = some .free ∧ (osc.names.lookup x = some .cell ∨ osc.names.lookup x = some .free)
theorem compOk_of {osc scope : Scope} {N own : List Str} {fr : List Nat} (h : compOk osc scope N own fr = true) : CompOk osc scope N fr := by
  unfold compOk at h
  simp only [Bool.and_eq_true, List.all_eq_true, decide_eq_true_eq] at h
  obtain ⟨⟨⟨⟨h1, h2⟩, h3⟩, h4⟩, h5⟩ := h
  refine ⟨h1, h2, h3, h4, fun i hi => ?_⟩
  have q := h5 i hi
  cases e : N[i]? with
  | none => rw [e] at q; simp at q
  | some x => rw [e] at q; simp only [decide_eq_true_eq] at q; exact ⟨x, rfl, q⟩
def sC (own : List Str) (fr : List Nat) (σ : St) : St := own.map (fun _ => none) ++ fr.map (fun i => σ.getD i none)
def nC (own : List Str) (fr : List Nat) (N : List Str) : List Str := own ++ fr.map (fun i => N.getD i Str.empty)
def cxC (X : Cx) (scope : Scope) (own : List Str) (fr : List Nat) (C : Addr) (fp : List Addr) (s₃ : Shared) (H₃ : Hp) : Cx :=
  { X with N := nC own fr X.N, s₀ := s₃, H₀ := H₃, env := compEnvC scope (clOf X.env.cells scope.names []) C X.env, outer := X.stack, ex := fp, fn := fun _ => false, xe := fun _ _ => False }
def Keep (σ σ' : St) : Prop := σ.length = σ'.length ∧ ∀ (i : Nat) (v : V), σ[i]? = some (some v) → σ'[i]? = some (some v)
def tAll : TT := fun _ H Q => Q true H
def PTs (X : Cx) (ifs : List Expr) (t : TT) : Prop := (ifs = [] ∧ t = tAll) ∨ ∃ c, ifs = [c] ∧ PT X c t
section
variable {prog : Program} {w : World} {A : Around} {R : Result → Shared → Prop} {s : Shared}
theorem compLoop_any {elt target iter : Expr} {ifs : List Expr} {scope : Scope} {pos : Pos} {it acc : Value} {env : Env} (I : Nat → Shared → Prop)
    (turn : ∀ n s, I n s → wpAny (model prog w) A (pyNext it) (fun r s₁ => match r with
      | none => R (.ok .next) s₁
      | some v => wpAny (model prog w) A (letOwnedTupleGo target it v) (fun _ s₁' => wpAny (model prog w) A (assign target env v) (fun _ s₂ =>
          wpAny (model prog w) A (forIn ifs true fun c r => if r = true then do let ok ← isTrue c env (eval c env); pure (ForInStep.yield ok) else pure (ForInStep.yield r)) (fun ok s₃ =>
            if ok = true then wpAny (model prog w) A (eval elt env) (fun x s₄ =>
              wpAny (model prog w) A (call (.builtin "list.append") [acc, x]) (fun _ s₅ => ∃ m, m < n ∧ I m s₅) (fun _ _ => False) s₄) (fun _ _ => False) s₃
            else ∃ m, m < n ∧ I m s₃) (fun _ _ => False) s₂) (fun _ _ => False) s₁') (fun _ _ => False) s₁) (fun _ _ => False) s)
    (n : Nat) (h : I n s) :
    codeAny (model prog w) A (.compLoop (.ListComp elt [⟨target, iter, ifs, 0⟩] scope pos) 0 it acc env) R s := by
  refine codeAny_loop rfl I (fun n s hI => ?_) n h
  show wpAny _ A ((compTurn (.ListComp elt [⟨target, iter, ifs, 0⟩] scope pos) 0 it acc env).onRaise (fun x => do noteFrame x env; theTreesLotGoes x)) _ _ s
  refine wpAny_noted ?_
  rw [compTurn_list]
  refine wpAny_bind (wpAny_standAt (wpAny_bind (wpAny_mono (turn n s hI) (fun r s₁ h₁ => ?_) fun _ _ h' => h'.elim)))
  cases r with
  | none => exact wpAny_pure h₁
  | some v =>
    refine wpAny_bind (wpAny_mono h₁ (fun _ s₁' h₁' => ?_) fun _ _ h' => h'.elim)
    refine wpAny_bind (wpAny_mono h₁' (fun _ s₂ h₂ => wpAny_bind (wpAny_mono h₂ (fun ok s₃ h₃ => ?_) fun _ _ h' => h'.elim)) fun _ _ h' => h'.elim)
    cases ok with
    | false => exact wpAny_pure ⟨rfl, h₃⟩
    | true =>
      exact wpAny_bind (wpAny_bind (wpAny_mono h₃ (fun x s₄ h₄ => wpAny_bind (wpAny_mono h₄ (fun _ s₅ h₅ => wpAny_pure (wpAny_pure ⟨rfl, h₅⟩)) fun _ _ h' => h'.elim)) fun _ _ h' => h'.elim))
end
theorem all_go {σ : St} {H : Hp} {Q : Bool → Hp → Prop} (h : Q true H) : tAll σ H Q := h
section
variable {X : Cx} {pins : List (Addr × Obj)} {σ : St} {H1 : Hp} {s2 : Shared} {tg elt iter : Expr} {ifs : List Expr} {scope : Scope} {pos : Pos} {own : List Str} {fr : List Nat} {g : TG} {tt : TT} {te : TE}
theorem relabel_free {scope : Scope} {env : Env} {x : Str} : ∀ {names : List (Str × NameKind)}, names.lookup x = some .free →
    (names.map fun (n, k) => if (k == NameKind.free && env.scope.kind == .function && env.kindOf n == some .cell) then (n, NameKind.cell) else (n, k)).lookup x = some .cell ∨
    (names.map fun (n, k) => if (k == NameKind.free && env.scope.kind == .function && env.kindOf n == some .cell) then (n, NameKind.cell) else (n, k)).lookup x = some .free
  | [], h => by simp at h
  | (n, k) :: r, h => by
    have ih := @relabel_free scope env x r
    show List.lookup x ((if (k == NameKind.free && env.scope.kind == .function && env.kindOf n == some .cell) = true then (n, NameKind.cell) else (n, k)) :: _) = _ ∨ List.lookup x ((if (k == NameKind.free && env.scope.kind == .function && env.kindOf n == some .cell) = true then (n, NameKind.cell) else (n, k)) :: _) = _
    cases hx : x == n with
    | true =>
      simp only [List.lookup_cons, hx] at h
      cases h
      by_cases hc : (NameKind.free == NameKind.free && env.scope.kind == .function && env.kindOf n == some .cell) = true
      · rw [if_pos hc]; simp only [List.lookup_cons, hx]; exact .inl trivial
      · rw [if_neg hc]; simp only [List.lookup_cons, hx]; exact .inr trivial
    | false =>
      simp only [List.lookup_cons, hx] at h
      by_cases hc : (k == NameKind.free && env.scope.kind == .function && env.kindOf n == some .cell) = true
      · rw [if_pos hc]; simp only [List.lookup_cons, hx]; exact ih h
      · rw [if_neg hc]; simp only [List.lookup_cons, hx]; exact ih h
theorem relabel_kind {scope : Scope} {env : Env} (hn : ∀ y ∈ scope.names, y.2 ≠ .cell) {x : Str} : ∀ {names : List (Str × NameKind)}, (∀ y ∈ names, y.2 ≠ .cell) →
    ((names.map fun (n, k) => if (k == NameKind.free && env.scope.kind == .function && env.kindOf n == some .cell) then (n, NameKind.cell) else (n, k)).lookup x = some .cell ∨
    (names.map fun (n, k) => if (k == NameKind.free && env.scope.kind == .function && env.kindOf n == some .cell) then (n, NameKind.cell) else (n, k)).lookup x = some .free) → (x, NameKind.free) ∈ names
  | [], _, h => by simp at h
  | (n, k) :: r, hnc, h => by
    have ih := @relabel_kind scope env hn x r (fun y hy => hnc y (List.mem_cons_of_mem _ hy))
    have hk : k ≠ .cell := hnc (n, k) List.mem_cons_self
    simp only [List.map_cons] at h
    cases hx : x == n with
    | true =>
      have e : x = n := eq_of_beq hx
      subst e
      by_cases hc : (k == NameKind.free && env.scope.kind == .function && env.kindOf x == some .cell) = true
      · have : k = .free := by
          simp only [Bool.and_eq_true, beq_iff_eq] at hc
          exact hc.1.1
        subst this
        exact List.mem_cons_self
      · rw [if_neg hc] at h
        simp at h
        rcases h with h | h
        · exact absurd h hk
        · subst h; exact List.mem_cons_self
    | false =>
      by_cases hc : (k == NameKind.free && env.scope.kind == .function && env.kindOf n == some .cell) = true
      · rw [if_pos hc] at h
        simp only [List.lookup_cons, hx] at h
        exact List.mem_cons_of_mem _ (ih h)
      · rw [if_neg hc] at h
        simp only [List.lookup_cons, hx] at h
        exact List.mem_cons_of_mem _ (ih h)
theorem comp_start {C : Addr} {fp : List Addr} {s3 : Shared} {H3 : Hp} {h4 : Heap} {tk : Nat} {m : Str → Option Value} (ok : CompOk X.env.scope scope X.N fr) (I3 : Inv X pins σ H3 s3) (hC : C = s3.heap.objs.size) (hf : ∀ b ∈ fp, FpOk X pins H3 b) (hfo : ∀ b ∈ fp, ∃ o, s3.heap.get? b = some o)
    (ns : h4.Ns C m) (kp : ∀ b o, s3.heap.get? b = some o → h4.get? b = some o) :
    Inv (cxC X scope own fr C fp s3 H3) pins (sC own fr σ) H3 { s3 with heap := h4, toks := tk } := by
  have cellsub : ∀ x c, (clOf X.env.cells scope.names []).lookup x = some c → X.env.cells.lookup x = some c := fun x c h => (clOf_spec _ _ _ _ _ h).elim (fun z => by simp at z) id
  have cellt : ∀ x c, X.env.cells.lookup x = some c → c < s3.heap.objs.size := fun x c e => let ⟨v, q⟩ := I3.cell x c e; q.lt
  have fplt : ∀ b ∈ fp, b < s3.heap.objs.size := fun b hb => let ⟨o, e⟩ := hfo b hb; Heap.lt_size e
  have kindOf_of : ∀ x, (X.env.scope.names.lookup x = some .cell ∨ X.env.scope.names.lookup x = some .free) → ∃ c, X.env.cells.lookup x = some c := fun x h => I3.ok.has x h
  refine ⟨⟨I3.ok.mod, ok.kind, I3.ok.glob, I3.ok.blt, Nat.le_of_eq hC.symm, fun x y c h1 h2 => I3.ok.inj x y c (cellsub x c h1) (cellsub y c h2), fun x hx => ?_, fun x c z => ?_, I3.ok.hd, I3.ok.frames, .inl rfl, fun b hb => ⟨?_, fun x c e => ?_⟩, fun b o e => I3.bs b o e, Nat.le_trans I3.ok.bsz I3.sz, fun b o e hb => ?_, fun b hb hz => ?_, I3.stack, fun b hb => I3.stkFree b hb⟩,
    rfl, I3.bare, Un.kept kp, ⟨m, ns, fun i x v e1 e2 e3 => ?_⟩, fun x c e => ?_, ?_, fun x c e => I3.freeC x c (cellsub x c e), fun p hp => ?_, I3.hok.kept kp, ?_⟩
  · -- has
    have hm : (x, NameKind.free) ∈ scope.names := relabel_kind (scope := scope) (env := X.env) ok.nocell ok.nocell hx
    obtain ⟨c, hc⟩ := kindOf_of x (ok.has _ hm rfl)
    exact ⟨c, clOf_has _ _ _ _ _ hm hc⟩
  · exact absurd z Bool.false_ne_true
  · exact Nat.ne_of_lt (by rw [hC]; exact fplt b hb)
  · exact (hf b hb).2.2.2.2.1 x c (cellsub x c e)
  · rcases (hf b hb).2.2.2.1 with z | z
    · exact I3.ok.noex b o e z
    · exact absurd (Nat.lt_of_lt_of_le (Heap.lt_size e) (Nat.le_trans I3.ok.bsz z)) (Nat.lt_irrefl _)
  · rcases List.mem_cons.mp (I3.stkSub b hz) with z | z
    · exact (hf b hb).2.1 z
    · exact (hf b hb).2.2.1 z
  · -- a free name's value
    have e2' : (own.map (fun _ => (none : Option V)) ++ fr.map (fun i => σ.getD i none))[i]? = some (some v) := e2
    have e1' : (own ++ fr.map (fun i => X.N.getD i Str.empty))[i]? = some x := e1
    by_cases hi : i < own.length
    · rw [List.getElem?_append_left (by simpa using hi), List.getElem?_map] at e2'
      cases q : own[i]? with
      | none => rw [q] at e2'; cases e2'
      | some z => rw [q] at e2'; cases e2'
    · rw [List.getElem?_append_right (by simpa using hi)] at e2'
      rw [List.getElem?_append_right (by simpa using hi)] at e1'
      simp only [List.length_map] at e2'
      rw [List.getElem?_map] at e1' e2'
      cases q : fr[i - own.length]? with
      | none => rw [q] at e2'; cases e2'
      | some j =>
        rw [q] at e1' e2'
        obtain ⟨y, hy, hm, hl, ho⟩ := ok.frees j (List.mem_of_getElem? q)
        have ex : x = y := by
          have : X.N.getD j Str.empty = y := by rw [List.getD_eq_getElem?_getD, hy]; rfl
          simp only [Option.map_some, this, Option.some.injEq] at e1'
          exact e1'.symm
        subst ex
        have ev : σ[j]? = some (some v) := by
          simp only [Option.map_some, Option.some.injEq] at e2'
          rw [List.getD_eq_getElem?_getD] at e2'
          cases z : σ[j]? with
          | none => rw [z] at e2'; cases e2'
          | some o => rw [z] at e2'; cases e2'; rfl
        obtain ⟨m0, hn0, hl0⟩ := I3.loc
        obtain ⟨u, ru, lk⟩ := hl0 j x v hy ev (.inr ho)
        refine ⟨u, ru, .inr ⟨relabel_free (scope := scope) hl, ?_⟩⟩
        rcases lk with ⟨k1, _⟩ | ⟨_, c, hc, z⟩
        · have k1' : X.env.scope.names.lookup x = some .local := k1
          rw [k1'] at ho
          rcases ho with z | z <;> cases z
        · exact ⟨c, clOf_has _ _ _ _ _ hm hc, z.keeps kp⟩
  · obtain ⟨v, z⟩ := I3.cell x c (cellsub x c e)
    exact ⟨v, z.keeps kp⟩
  · show H3 C = none
    exact I3.hok.fresh (Nat.le_of_eq hC.symm)
  · obtain ⟨e, n, ne, nf, d⟩ := I3.pin p hp
    refine ⟨kp _ _ e, n, Nat.ne_of_lt (by rw [hC]; exact Heap.lt_size e), fun z => ?_, d⟩
    rcases List.mem_cons.mp (I3.stkSub p.1 z) with z | z
    · exact ne z
    · exact nf z
  · show (own.map (fun _ => (none : Option V)) ++ fr.map (fun i => σ.getD i none)).length = (own ++ fr.map (fun i => X.N.getD i Str.empty)).length
    simp
end
end L2
namespace L2
open PySem PySem.Spec PyProof.Rows
section
variable {X : Cx}
theorem call_minL (hc : X.calm = true) : CallR X (.builtin "min") (fun xs H Q => ∃ (p : Addr) (ns : List Int), xs = [.ref p] ∧ SqL X.K H p (ns.map V.int) ∧ 0 < ns.length ∧ ∀ M, M ∈ ns → (∀ a ∈ ns, M ≤ a) → Q (.int M) H) := by
  intro pins s σ H xs us Q I r h
  obtain ⟨p, ns, rfl, hq, hne, q⟩ := h
  obtain ⟨u, rfl, ru⟩ := vals1 r
  cases ru
  obtain ⟨its, rv, pl, hz⟩ := I.list hq
  have hi : IntsAre its ns := intsAre_of rv
  obtain ⟨xs, e⟩ := hi.allInts.items
  have hns : ns = xs.toList.map (·.1) := by rw [← hi.numsOf, ← nums_intItems, ← e]
  have hsz : 0 < xs.size := by
    have h3 := hne; rw [hns, List.length_map, Array.length_toList] at h3; exact h3
  have hl := pl.isList
  rw [e] at hl
  refine min_intList (I.ok.hd hc) hl hsz fun v h' tk hv hk => ?_
  obtain ⟨t, rfl⟩ := intItems_at hv
  obtain ⟨h1, h2⟩ := argBest_lt (numAt xs) (xs.size - 1)
  refine ⟨.int _, H, I.kept hk, ⟨t, rfl⟩, q _ ?_ fun a ha => ?_⟩
  · rw [hns, numAt_eq]; exact getD_mem (by rw [List.length_map, Array.length_toList]; omega)
  · rw [hns] at ha
    obtain ⟨j, hj, rfl⟩ := mem_getD ha
    rw [List.length_map, Array.length_toList] at hj
    rw [← numAt_eq]; exact h2 j (by omega)
theorem call_maxL (hc : X.calm = true) : CallR X (.builtin "max") (fun xs H Q => ∃ (p : Addr) (ns : List Int), xs = [.ref p] ∧ SqL X.K H p (ns.map V.int) ∧ 0 < ns.length ∧ ∀ M, M ∈ ns → (∀ a ∈ ns, a ≤ M) → Q (.int M) H) := by
  intro pins s σ H xs us Q I r h
  obtain ⟨p, ns, rfl, hq, hne, q⟩ := h
  obtain ⟨u, rfl, ru⟩ := vals1 r
  cases ru
  obtain ⟨its, rv, pl, hz⟩ := I.list hq
  have hi : IntsAre its ns := intsAre_of rv
  obtain ⟨xs, e⟩ := hi.allInts.items
  have hns : ns = xs.toList.map (·.1) := by rw [← hi.numsOf, ← nums_intItems, ← e]
  have hsz : 0 < xs.size := by
    have h3 := hne; rw [hns, List.length_map, Array.length_toList] at h3; exact h3
  have hl := pl.isList
  rw [e] at hl
  refine max_intList (I.ok.hd hc) hl hsz fun v h' tk hv hk => ?_
  obtain ⟨t, rfl⟩ := intItems_at hv
  obtain ⟨h1, h2⟩ := argBest_gt (numAt xs) (xs.size - 1)
  refine ⟨.int _, H, I.kept hk, ⟨t, rfl⟩, q _ ?_ fun a ha => ?_⟩
  · rw [hns, numAt_eq]; exact getD_mem (by rw [List.length_map, Array.length_toList]; omega)
  · rw [hns] at ha
    obtain ⟨j, hj, rfl⟩ := mem_getD ha
    rw [List.length_map, Array.length_toList] at hj
    rw [← numAt_eq]; exact h2 j (by omega)
end
section
variable {X : Cx}
end
end L2
namespace L2
open PySem PySem.Spec PyProof.Rows
section
variable {X : Cx}
end
end L2
namespace L2
open PySem PySem.Spec PyProof.Rows
section
variable {X : Cx}
theorem mulOk_small {z : Str} {i : Int} (hz : z.length ≤ 16) (h0 : -1000 ≤ i) (h1 : i ≤ 1000) : MulOk z i := by
  refine ⟨?_, fun h2 _ => ?_, fun h2 _ => ?_⟩
  · rw [decide_eq_false (by omega), decide_eq_false (by omega)]; rfl
  · have hi : 1 ≤ i := by omega
    have : (16 : Int) ≤ (2 ^ 63 - 1) / i := by
      rw [Int.le_ediv_iff_mul_le (by omega)]
      omega
    omega
  · have : z.length * i.toNat ≤ 16 * 1000 := Nat.mul_le_mul hz (by omega)
    have h3 : z.length * i.toNat < 2 ^ 20 := by omega
    generalize z.length * i.toNat = n at h3
    revert n
    intro n hn
    have hs : sizeLine = 16777216 := by decide
    show decide (n > sizeLine) = false
    rw [hs]
    exact decide_eq_false (by omega)
theorem op_mulS : OpR X (binaryOp .Mult) (fun x y H Q => ∃ z i, x = .str z ∧ y = .int i ∧ z.length ≤ 16 ∧ -1000 ≤ i ∧ i ≤ 1000 ∧ Q (.str (Txt.mul z i)) H) := by
  intro pins s σ H x y v u Q I rx ry h
  obtain ⟨z, i, rfl, rfl, hz, h0, h1, q⟩ := h
  obtain ⟨t, rfl⟩ := rx
  obtain ⟨t', rfl⟩ := ry
  exact SB.mul (mulOk_small hz h0 h1) (fun t' k => ⟨.str (Txt.mul z i), H, I.tok _, ⟨_, rfl⟩, q⟩)
theorem op_eqNil (hu : X.A.units < cLine) : OpR X (compareOp .Eq) (fun x y H Q => ∃ a b xs, x = .ref a ∧ y = .ref b ∧ SqL X.K H a xs ∧ SqL X.K H b [] ∧ Q (.bl xs.isEmpty) H) := by
  intro pins s σ H x y v u Q I rx ry h
  obtain ⟨a, b, xs, rfl, rfl, ha, hb, q⟩ := h
  cases rx
  cases ry
  obtain ⟨its, rv, pl, hz⟩ := I.list ha
  obtain ⟨jts, rw', pl', _⟩ := I.list hb
  have hj : jts = [] := List.eq_nil_of_length_eq_zero rw'.length.symm
  subst hj
  cases xs with
  | nil =>
    have hi : its = [] := List.eq_nil_of_length_eq_zero rv.length.symm
    subst hi
    exact SeqAt.eq_listAt (e := fun _ => true) pl.isList pl'.isList rfl hu (fun j h1 _ => absurd h1 (Nat.not_lt_zero j)) (fin_bl I q rfl)
  | cons x r =>
    have hl : its.length = r.length + 1 := by rw [← rv.length]; rfl
    exact SeqAt.eq_list_lengthsAt pl.isList pl'.isList (by simp; intro e; rw [e] at hl; simp at hl) hu (fin_bl I q rfl)
theorem op_neNil (hu : X.A.units < cLine) : OpR X (compareOp .NotEq) (fun x y H Q => ∃ a b xs, x = .ref a ∧ y = .ref b ∧ SqL X.K H a xs ∧ SqL X.K H b [] ∧ Q (.bl (!xs.isEmpty)) H) := by
  intro pins s σ H x y v u Q I rx ry h
  obtain ⟨a, b, xs, rfl, rfl, ha, hb, q⟩ := h
  cases rx
  cases ry
  obtain ⟨its, rv, pl, hz⟩ := I.list ha
  obtain ⟨jts, rw', pl', _⟩ := I.list hb
  have hj : jts = [] := List.eq_nil_of_length_eq_zero rw'.length.symm
  subst hj
  cases xs with
  | nil =>
    have hi : its = [] := List.eq_nil_of_length_eq_zero rv.length.symm
    subst hi
    exact SeqAt.RcNeAt.lists (e := fun _ => true) pl.isList pl'.isList rfl hu (fun j h1 _ => absurd h1 (Nat.not_lt_zero j)) X.prog X.w _ _ (fin_bl I q rfl)
  | cons x r =>
    have hl : its.length = r.length + 1 := by rw [← rv.length]; rfl
    exact SeqAt.RcNeAt.lists_lengths pl.isList pl'.isList (by simp; intro e; rw [e] at hl; simp at hl) hu X.prog X.w _ _ (fin_bl I q rfl)
end
end L2
namespace L2
open PySem PySem.Spec PyProof.Rows
end L2
namespace L2
open PySem PySem.Spec PyProof.Rows
open AutoSeq1 (wpAny_loadPart')
open MeetsSeq MeetsSeq2 MeetsSeq3 SeqRoads2
def AliP (P : Program) (w : World) (A : Around) (s : Shared) (y x : Value) : Prop := ∀ (E : Value → Shared → Prop) (Q : Bool → Shared → Prop), Q true s → wpAny (model P w) A (eqBool y x) Q E s
def RcP (P : Program) (w : World) (A : Around) (s : Shared) (y x : Value) : Prop := ∀ (E Q : Value → Shared → Prop), Q (.bool true) s → wpAny (model P w) A (richCompare .Eq y x) Q E s
def RnP (P : Program) (w : World) (A : Around) (s : Shared) (y x : Value) : Prop := ∀ (E Q : Value → Shared → Prop), Q (.bool false) s → wpAny (model P w) A (richCompare .NotEq y x) Q E s
section
variable {P : Program} {w : World} {A : Around} {s : Shared} {a b : Addr} {xs ys : Array Value}
theorem AliP.of_at {y x : Value} (h : SeqAt.EqAt A s y x true) : AliP P w A s y x := fun E Q q => h P w E Q q
theorem AliP.refs (h : RcP P w A s (.ref a) (.ref b)) : AliP P w A s (.ref a) (.ref b) := by
  intro E Q q
  by_cases e : a = b
  · subst e; exact SeqAt.EqAt.same _ P w E Q q
  · unfold eqBool
    refine wpAny_holding (wpAny_ite_split (fun z => absurd (by injection (eq_of_beq z)) e) fun _ => ?_)
    exact wpAny_bind (h E _ (wpAny_truthy_bool q))
theorem rc_tup (ha : s.heap.IsTuple a xs) (hb : s.heap.IsTuple b ys) (hz : xs.size = ys.size) (hu : A.units < cLine) (he : ∀ p ∈ xs.toList.zip ys.toList, AliP P w A.in1 s p.1 p.2) : RcP P w A s (.ref a) (.ref b) := by
  intro E Q q
  obtain ⟨⟨c1, d1, t1, l1⟩, o1, k1, n1, e1⟩ := id ha
  obtain ⟨⟨c2, d2, t2, l2⟩, o2, k2, n2, e2⟩ := id hb
  dsimp only at k1 e1 k2 e2
  subst k1 e1 k2 e2
  refine wpAny_richCompare_same_room (op := .Eq) ⟨_, o1, rfl⟩ ⟨_, o2, rfl⟩ F.slot_tuple_eq (wpAny_call_entry F.slot_tuple_eq ⟨_, o1, rfl⟩ F.entry_tuple_eq ?_ (F.args_tuple_eq_2 _ _)) hu
  obtain ⟨h0, g0, dd, tk, os⟩ := s
  have f2 := AutoSeq1.sub_tuple_tuple
  wp_walk using wpAny_loadPart' o1, wpAny_loadPart' o2, wpAny_forIn_list _ (fun rest r s' => r.1 = none ∧ s' = ⟨h0, g0, dd, tk, os⟩ ∧ ∀ p ∈ rest, AliP P w A.in1 ⟨h0, g0, dd, tk, os⟩ p.1 p.2) _
  case turn =>
    rintro ⟨y, x⟩ rest r s' ⟨z1, rfl, m⟩
    refine wpAny_bind (m (y, x) List.mem_cons_self _ _ ?_)
    wp_walk
    exact ⟨rfl, rfl, fun p hp => m p (List.mem_cons_of_mem _ hp)⟩
  case fin =>
    rintro ⟨r1, r2⟩ s' ⟨z1, rfl, -⟩
    dsimp only at z1
    subst z1
    wp_walk
    have tc : Builtin.Tuple.tupleCompareSizes .Eq xs.size ys.size = .bool true := by simp [Builtin.Tuple.tupleCompareSizes, hz]
    rw [tc]
    exact ⟨_, rfl, (fun z => nomatch z), q⟩
  case h => exact ⟨rfl, rfl, he⟩
theorem eq_turns {n1 n2 : Nat} {d1 d2 : Option Addr} {l1 l2 : Array (Option Value)} (hz : xs.size = ys.size) {R : Result → Shared → Prop}
    (o1 : s.heap.get? a = some { cls := .type "list", dict := d1, data := .seq xs n1, slots := l1 }) (o2 : s.heap.get? b = some { cls := .type "list", dict := d2, data := .seq ys n2, slots := l2 })
    (he : ∀ j (h1 : j < xs.size) (h2 : j < ys.size), AliP P w A.in1 s xs[j] ys[j]) (q : R (.ok (.ret (.bool true))) s) : ∀ k i : Nat, xs.size - i = k →
    wpAny (model P w) A.in1 (Builtin.«list.__eq__.loop» ⟨[.ref a, .ref b, rawInt i, rawInt 2], []⟩) (fun fin s' => match fin with | .done f => R (.ok f) s' | .again c' => c'.quiet = true ∧ codeAny (model P w) A c' R s') (fun e s' => R (.error e) s') s := by
  obtain ⟨h0, g0, dd, tk, os⟩ := s
  intro k
  induction k with
  | zero =>
    intro i hk
    wp_walk using wpAny_loadPart' o1, wpAny_loadPart' o2
    rw [show xs[((i : Nat) : Int).toNat]? = none by simp; omega, show ys[((i : Nat) : Int).toNat]? = none by simp; omega]
    wp_walk using wpAny_loadPart' o1, wpAny_loadPart' o2
    show R (.ok (.ret (.bool (xs.size == ys.size)))) _
    simpa [hz] using q
  | succ k ih =>
    intro i hk
    have h1 : i < xs.size := by omega
    have h2 : i < ys.size := by omega
    wp_walk using wpAny_loadPart' o1, wpAny_loadPart' o2
    rw [show xs[((i : Nat) : Int).toNat]? = some xs[i] by simp [h1], show ys[((i : Nat) : Int).toNat]? = some ys[i] by simp [h2]]
    refine wpAny_bind (he i h1 h2 _ _ ?_)
    wp_walk
    rw [show ((i : Int) + 1) = ((i + 1 : Nat) : Int) by push_cast; rfl]
    refine ⟨plainId_quiet plain_eq_loop _, codeAny_builtin entry_eq_loop ?_⟩
    rw [Around.under_plainId plain_eq_loop _]
    exact ih (i + 1) (by omega)
theorem rc_lst (ha : s.heap.IsList a xs) (hb : s.heap.IsList b ys) (hz : xs.size = ys.size) (hu : A.units < cLine) (he : ∀ j (h1 : j < xs.size) (h2 : j < ys.size), AliP P w A.in1 s xs[j] ys[j]) : RcP P w A s (.ref a) (.ref b) := by
  intro E Q q
  obtain ⟨⟨c1, d1, t1, l1⟩, o1, k1, n1, e1⟩ := id ha
  obtain ⟨⟨c2, d2, t2, l2⟩, o2, k2, n2, e2⟩ := id hb
  dsimp only at k1 e1 k2 e2
  subst k1 e1 k2 e2
  have t1 : s.TypeIs (.ref a) "list" := ⟨_, o1, rfl⟩
  refine wpAny_richCompare_same_room (op := .Eq) t1 ⟨_, o2, rfl⟩ F.slot_list_eq (wpAny_call (codeAny_call_builtin F.slot_list_eq.plain F.entry_list_eq (F.slot_list_eq.check _ _ _ _ _ _ _ _ t1 (F.args_list_eq_2 _ _) ?_))) hu
  obtain ⟨h0, g0, dd, tk, os⟩ := s
  have f3 := AutoSeq1.sub_list_list
  have nz : ¬ (xs.size != ys.size) = true := by simp [hz]
  wp_walk using wpAny_loadPart' o1, wpAny_loadPart' o2
  refine ⟨plainId_quiet plain_eq_loop _, codeAny_builtin entry_eq_loop ?_⟩
  rw [Around.under_plainId plain_eq_loop _]
  exact eq_turns (R := wants (fun v s' => v ≠ .notImplemented ∧ Q v s') E) hz o1 o2 he (show Value.bool true ≠ .notImplemented ∧ Q (.bool true) _ from ⟨(fun z => nomatch z), q⟩) _ 0 rfl
theorem nrc_tup (ha : s.heap.IsTuple a xs) (hb : s.heap.IsTuple b ys) (hz : xs.size = ys.size) (hu : A.units < cLine) (he : ∀ p ∈ xs.toList.zip ys.toList, AliP P w A.in1 s p.1 p.2) : RnP P w A s (.ref a) (.ref b) := by
  intro E Q q
  obtain ⟨⟨c1, d1, t1, l1⟩, o1, k1, n1, e1⟩ := id ha
  obtain ⟨⟨c2, d2, t2, l2⟩, o2, k2, n2, e2⟩ := id hb
  dsimp only at k1 e1 k2 e2
  subst k1 e1 k2 e2
  refine wpAny_richCompare_same_room (op := .NotEq) ⟨_, o1, rfl⟩ ⟨_, o2, rfl⟩ F.slot_tuple_ne (wpAny_call_entry F.slot_tuple_ne ⟨_, o1, rfl⟩ F.entry_tuple_ne ?_ (F.args_tuple_ne_2 _ _)) hu
  obtain ⟨h0, g0, dd, tk, os⟩ := s
  have f2 := AutoSeq1.sub_tuple_tuple
  wp_walk using wpAny_loadPart' o1, wpAny_loadPart' o2, wpAny_forIn_list _ (fun rest r s' => r.1 = none ∧ s' = ⟨h0, g0, dd, tk, os⟩ ∧ ∀ p ∈ rest, AliP P w A.in1 ⟨h0, g0, dd, tk, os⟩ p.1 p.2) _
  case turn =>
    rintro ⟨y, x⟩ rest r s' ⟨z1, rfl, m⟩
    refine wpAny_bind (m (y, x) List.mem_cons_self _ _ ?_)
    wp_walk
    exact ⟨rfl, rfl, fun p hp => m p (List.mem_cons_of_mem _ hp)⟩
  case fin =>
    rintro ⟨r1, r2⟩ s' ⟨z1, rfl, -⟩
    dsimp only at z1
    subst z1
    wp_walk
    have tc : Builtin.Tuple.tupleCompareSizes .NotEq xs.size ys.size = .bool false := by simp [Builtin.Tuple.tupleCompareSizes, hz]
    rw [tc]
    exact ⟨_, rfl, (fun z => nomatch z), q⟩
  case h => exact ⟨rfl, rfl, he⟩
theorem ne_turns {n1 n2 : Nat} {d1 d2 : Option Addr} {l1 l2 : Array (Option Value)} (hz : xs.size = ys.size) {R : Result → Shared → Prop}
    (o1 : s.heap.get? a = some { cls := .type "list", dict := d1, data := .seq xs n1, slots := l1 }) (o2 : s.heap.get? b = some { cls := .type "list", dict := d2, data := .seq ys n2, slots := l2 })
    (he : ∀ j (h1 : j < xs.size) (h2 : j < ys.size), AliP P w A.in1 s xs[j] ys[j]) (q : R (.ok (.ret (.bool false))) s) : ∀ k i : Nat, xs.size - i = k →
    wpAny (model P w) A.in1 (Builtin.«list.__eq__.loop» ⟨[.ref a, .ref b, rawInt i, rawInt 3], []⟩) (fun fin s' => match fin with | .done f => R (.ok f) s' | .again c' => c'.quiet = true ∧ codeAny (model P w) A c' R s') (fun e s' => R (.error e) s') s := by
  obtain ⟨h0, g0, dd, tk, os⟩ := s
  intro k
  induction k with
  | zero =>
    intro i hk
    wp_walk using wpAny_loadPart' o1, wpAny_loadPart' o2
    rw [show xs[((i : Nat) : Int).toNat]? = none by simp; omega, show ys[((i : Nat) : Int).toNat]? = none by simp; omega]
    wp_walk using wpAny_loadPart' o1, wpAny_loadPart' o2
    show R (.ok (.ret (.bool (xs.size != ys.size)))) _
    simpa [hz] using q
  | succ k ih =>
    intro i hk
    have h1 : i < xs.size := by omega
    have h2 : i < ys.size := by omega
    wp_walk using wpAny_loadPart' o1, wpAny_loadPart' o2
    rw [show xs[((i : Nat) : Int).toNat]? = some xs[i] by simp [h1], show ys[((i : Nat) : Int).toNat]? = some ys[i] by simp [h2]]
    refine wpAny_bind (he i h1 h2 _ _ ?_)
    wp_walk
    rw [show ((i : Int) + 1) = ((i + 1 : Nat) : Int) by push_cast; rfl]
    refine ⟨plainId_quiet plain_eq_loop _, codeAny_builtin entry_eq_loop ?_⟩
    rw [Around.under_plainId plain_eq_loop _]
    exact ih (i + 1) (by omega)
theorem nrc_lst (ha : s.heap.IsList a xs) (hb : s.heap.IsList b ys) (hz : xs.size = ys.size) (hu : A.units < cLine) (he : ∀ j (h1 : j < xs.size) (h2 : j < ys.size), AliP P w A.in1 s xs[j] ys[j]) : RnP P w A s (.ref a) (.ref b) := by
  intro E Q q
  obtain ⟨⟨c1, d1, t1, l1⟩, o1, k1, n1, e1⟩ := id ha
  obtain ⟨⟨c2, d2, t2, l2⟩, o2, k2, n2, e2⟩ := id hb
  dsimp only at k1 e1 k2 e2
  subst k1 e1 k2 e2
  have t1 : s.TypeIs (.ref a) "list" := ⟨_, o1, rfl⟩
  refine wpAny_richCompare_same_room (op := .NotEq) t1 ⟨_, o2, rfl⟩ F.slot_list_ne (wpAny_call (codeAny_call_builtin F.slot_list_ne.plain F.entry_list_ne (F.slot_list_ne.check _ _ _ _ _ _ _ _ t1 (F.args_list_ne_2 _ _) ?_))) hu
  obtain ⟨h0, g0, dd, tk, os⟩ := s
  have f3 := AutoSeq1.sub_list_list
  have nz : ¬ (xs.size != ys.size) = true := by simp [hz]
  wp_walk using wpAny_loadPart' o1, wpAny_loadPart' o2
  refine ⟨plainId_quiet plain_eq_loop _, codeAny_builtin entry_eq_loop ?_⟩
  rw [Around.under_plainId plain_eq_loop _]
  exact ne_turns (R := wants (fun v s' => v ≠ .notImplemented ∧ Q v s') E) hz o1 o2 he (show Value.bool false ≠ .notImplemented ∧ Q (.bool false) _ from ⟨(fun z => nomatch z), q⟩) _ 0 rfl
theorem pairs_alike {K : Type} [DecidableEq K] {knd : KeyKind P w K} {nm : String} {ka kb : List (K × Value)} {E : Value → Shared → Prop} {Q : Bool → Shared → Prop} (na : (a == sysModules) = false) (nb : (b == sysModules) = false)
    (da : s.heap.DictOf knd a ka) (db : s.heap.DictOf knd b kb) (hz : ka.length = kb.length) (he : ∀ p ∈ ka, ∃ y, valueAt kb p.1 = some y ∧ AliP P w A s p.2 y) (q : Q true s) :
    wpAny (model P w) A (Builtin.Dict.samePairs nm a b) Q E s := by
  obtain ⟨oa, ea, pa, o1, _, t1, k1, v1, _⟩ := da
  obtain ⟨ob, eb, pb, o2, _, t2, k2, v2, _⟩ := db
  have za : ka.length = ea.size := v1.length.symm.trans Array.length_toList
  have zb : kb.length = eb.size := v2.length.symm.trans Array.length_toList
  have fd : ∀ k, findBy knd.is eb k = valueAt kb k := by
    intro k
    rw [← v2.find k]
    clear zb v2 k2 t2 o2
    obtain ⟨l⟩ := eb
    simp [findBy]
  have zz : ea.size = eb.size := by omega
  unfold Builtin.Dict.samePairs Builtin.Dict.showsAll
  rw [na, nb]
  refine wpAny_bind (wpAny_pure (wpAny_bind (wpAny_pure (wpAny_bind (wpAny_dictEntries o1 t1 ?_)))))
  dsimp only
  refine wpAny_bind (wpAny_dictEntries o2 t2 ?_)
  rw [if_neg (by simp [zz])]
  refine wpAny_bind (wpAny_dictEpoch o1 t1 (wpAny_bind ?_))
  rw [Std.Legacy.Range.forIn_eq_forIn_range']
  simp only [Std.Legacy.Range.size, Nat.sub_zero, Nat.add_sub_cancel, Nat.div_one]
  refine wpAny_forIn_list _ (fun rest r s' => s' = s ∧ r = (none, ()) ∧ ∀ i ∈ rest, i < ea.size) _ ?_ ?_ _ _ ⟨rfl, rfl, fun i hi => by simpa using hi⟩
  · rintro i rest r s' ⟨rfl, rfl, m⟩
    have lt : i < ea.size := m i List.mem_cons_self
    have lt' : i < ka.length := by omega
    refine wpAny_bind (wpAny_dictEntries o1 t1 ?_)
    rw [Array.getElem?_eq_getElem lt]
    obtain ⟨key, val⟩ := v1.get? (i := i) (e := ea[i]) (k := ka[i].1) (v := ka[i].2) (by rw [Array.getElem?_toList]; exact Array.getElem?_eq_getElem lt) (List.getElem?_eq_getElem lt')
    obtain ⟨k', i', hh⟩ := k1 ea[i] (Array.getElem_mem lt)
    obtain rfl : k' = ka[i].1 := knd.inj _ _ _ i' key
    obtain ⟨y, fy, al⟩ := he ka[i] (List.getElem_mem lt')
    show wpAny _ _ (holding [ea[i].key, ea[i].val] _ >>= _) _ _ _
    rw [hh]
    refine wpAny_bind (wpAny_holding (wpAny_bind (wpAny_dictFind_of key o2 t2 k2 ?_)))
    have fy' := fy
    rw [← fd, findBy_of_findIdx?] at fy'
    cases hj : eb.findIdx? fun e => knd.is ka[i].1 e.key with
    | none => rw [hj] at fy'; cases fy'
    | some j =>
      rw [hj] at fy'
      obtain ⟨jl, _, _⟩ := Array.findIdx?_eq_some_iff_getElem.mp hj
      refine wpAny_bind (wpAny_dictEntries o2 t2 ?_)
      rw [Array.getElem?_eq_getElem jl]
      have ey : eb[j].val = y := by simpa [Array.getElem?_eq_getElem jl] using fy'
      rw [← ey, ← val] at al
      refine wpAny_holding (al _ _ ?_)
      show wpAny _ _ (if (!true) = true then _ else _) _ _ _
      rw [if_neg (show ¬ (!true) = true from Bool.false_ne_true)]
      refine wpAny_bind (wpAny_dictEpoch o1 t1 ?_)
      rw [if_neg (by simp)]
      exact wpAny_pure ⟨rfl, rfl, fun z hz => m z (List.mem_cons_of_mem _ hz)⟩
  · rintro r s' ⟨rfl, rfl, -⟩
    exact wpAny_pure q
theorem rc_dic {K : Type} [DecidableEq K] {knd : KeyKind P w K} {ka kb : List (K × Value)} (na : (a == sysModules) = false) (nb : (b == sysModules) = false)
    (da : s.heap.DictOf knd a ka) (db : s.heap.DictOf knd b kb) (hu : A.units < cLine) (hz : ka.length = kb.length) (he : ∀ p ∈ ka, ∃ y, valueAt kb p.1 = some y ∧ AliP P w A.in1 s p.2 y) : RcP P w A s (.ref a) (.ref b) := by
  intro E Q q
  refine wpAny_richCompare_same_room (op := .Eq) da.typeIs db.typeIs PySem.F.slot_dict_eq (wpAny_call_entry PySem.F.slot_dict_eq da.typeIs PySem.F.entry_dict_eq ?_ (PySem.F.args_dict_eq_2 _ _)) hu
  show wpAny _ _ (Builtin.Dict.dictSlotArgs "__eq__" ⟨[.ref a, .ref b], []⟩ >>= _) _ _ s
  refine wpAny_bind ?_
  unfold Builtin.Dict.dictSlotArgs
  refine wpAny_bind (wpAny_notOrdered_dict da.typeIs (wpAny_pure (wpAny_bind (wpAny_isInstance (T := "dict") db.typeIs PySem.F.sub_dict_dict ?_))))
  rw [if_neg (by decide)]
  refine wpAny_bind (wpAny_pure (wpAny_bind (wpAny_pure (wpAny_bind (pairs_alike na nb da db hz he ?_)))))
  exact wpAny_pure ⟨_, rfl, (fun z => nomatch z), q⟩
theorem nrc_dic {K : Type} [DecidableEq K] {knd : KeyKind P w K} {ka kb : List (K × Value)} (na : (a == sysModules) = false) (nb : (b == sysModules) = false)
    (da : s.heap.DictOf knd a ka) (db : s.heap.DictOf knd b kb) (hu : A.units < cLine) (hz : ka.length = kb.length) (he : ∀ p ∈ ka, ∃ y, valueAt kb p.1 = some y ∧ AliP P w A.in1 s p.2 y) : RnP P w A s (.ref a) (.ref b) := by
  intro E Q q
  refine wpAny_richCompare_same_room (op := .NotEq) da.typeIs db.typeIs PySem.F.slot_dict_ne (wpAny_call_entry PySem.F.slot_dict_ne da.typeIs PySem.F.entry_dict_ne ?_ (PySem.F.args_dict_ne_2 _ _)) hu
  show wpAny _ _ (Builtin.Dict.dictSlotArgs "__ne__" ⟨[.ref a, .ref b], []⟩ >>= _) _ _ s
  refine wpAny_bind ?_
  unfold Builtin.Dict.dictSlotArgs
  refine wpAny_bind (wpAny_notOrdered_dict da.typeIs (wpAny_pure (wpAny_bind (wpAny_isInstance (T := "dict") db.typeIs PySem.F.sub_dict_dict ?_))))
  rw [if_neg (by decide)]
  refine wpAny_bind (wpAny_pure (wpAny_bind (wpAny_pure (wpAny_bind (pairs_alike na nb da db hz he ?_)))))
  exact wpAny_pure ⟨_, rfl, (fun z => nomatch z), q⟩
end
section
variable {X : Cx}
theorem op_catS : OpR X (binaryOp .Add) (fun x y H Q => ∃ a b xs ys, x = .ref a ∧ y = .ref b ∧ SqL X.K H a xs ∧ SqL X.K H b ys ∧ xs.length + ys.length ≤ sizeLine ∧ ∀ p, H p = none → Q (.ref p) (upd H p (.lst (xs ++ ys)))) := by
  intro pins s σ H x y v u Q I rx ry h
  obtain ⟨a, b, xs, ys, rfl, rfl, g1, g2, sz, q⟩ := h
  obtain rfl : v = Value.ref a := rx
  obtain rfl : u = Value.ref b := ry
  obtain ⟨i1, r1, ⟨⟨c1, d1, t1, l1⟩, n1, o1, k1, z1, e1⟩, m1⟩ := I.list g1
  obtain ⟨i2, r2, ⟨⟨c2, d2, t2, l2⟩, n2, o2, k2, z2, e2⟩, m2⟩ := I.list g2
  dsimp only at k1 z1 e1 k2 z2 e2
  subst k1 z1 e1 k2 z2 e2
  have zs : i1.toArray.size + i2.toArray.size ≤ sizeLine := by rw [List.size_toArray, List.size_toArray, ← r1.length, ← r2.length]; exact sz
  refine concat_meets ⟨_, o1, rfl⟩ ⟨_, o2, rfl⟩ noFill_list_add seq_list_add PySem.F.slot_list_add PySem.F.entry_list_add (PySem.F.args_list_add_2 _ _) (list_addW a b _ _ n1 n2 none none l1 l2 zs) ⟨o1, o2, ?_⟩
  rw [show i1.toArray ++ i2.toArray = (i1 ++ i2).toArray by simp]
  exact ⟨.ref _, _, I.lnew (t' := s.toks) (r1.append r2) (by rw [List.length_append]; exact sz), rfl, q _ I.fresh⟩
end
end L2
namespace L2
open PySem PySem.Spec PyProof.Rows
theorem noFill_tuple_mul : fillsNumberSlot (.type "tuple") "mul" = pure false :=
  PySem.fillsNumberSlot_seq (id := "tuple.__mul__") (r := some (.builtin "tuple.__rmul__")) PySem.F.slot_tuple_mul.lookup (by decide +kernel) PySem.F.slot_tuple_rmul.lookup (by decide +kernel)
theorem repeat_tuple : seqRepeat? (.type "tuple") = pure (some (.builtin "tuple.__mul__")) := by
  unfold seqRepeat?
  rw [PySem.seqSlot_of (T := "tuple") (name := "__mul__") (id := "tuple.__mul__") PySem.F.slot_tuple_mul.lookup (by decide +kernel), PySem.seqSlot_of (T := "tuple") (name := "__rmul__") (id := "tuple.__rmul__") PySem.F.slot_tuple_rmul.lookup (by decide +kernel)]
  rfl
theorem int_rmul_tup (a : Int) (t : Tok) (l : Addr) (items : Array Value) (n : Nat) (dd : Option Addr) (sl : Array (Option Value)) :
    Meets (Builtin.«int.__rmul__» ⟨[.int a t, .ref l], []⟩) (fun _ R s => s.heap.get? l = some { cls := .type "tuple", dict := dd, data := .seq items n, slots := sl } ∧ R (.ok (.ret Value.notImplemented)) s) :=
  .of_wp fun prog w A R s h => by obtain ⟨hp, g, d, tk, os⟩ := s; obtain ⟨hl, h⟩ := h; wp_walk; exact ⟨_, rfl, h⟩
theorem tup_mul1 (l : Addr) (items : Array Value) (n : Nat) (dd : Option Addr) (sl : Array (Option Value)) (u : Tok) :
    Meets (Builtin.«tuple.__mul__» ⟨[.ref l, .int 1 u], []⟩) (fun _ R s => s.heap.get? l = some { cls := .type "tuple", dict := dd, data := .seq items n, slots := sl } ∧ R (.ok (.ret (Value.ref l))) s) :=
  .of_wp fun prog w A R s h => by
    obtain ⟨hp, g, d, tk, os⟩ := s; obtain ⟨hl, h⟩ := h
    have f1 := PySem.AutoSeq1.idx_int
    have c : (items.isEmpty || (1 : Int) == 1) = true := by simp
    wp_walk using PySem.AutoSeq1.wpAny_loadPart' hl; exact ⟨_, rfl, h⟩
theorem tup_mul2 (l : Addr) (items : Array Value) (n : Nat) (dd : Option Addr) (sl : Array (Option Value)) (k : Int) (u : Tok) (h2 : 2 ≤ k) (h0 : items.size ≠ 0) (hz : items.size * k.toNat ≤ 1000000) :
    Meets (Builtin.«tuple.__mul__» ⟨[.ref l, .int k u], []⟩) (fun _ R s => s.heap.get? l = some { cls := .type "tuple", dict := dd, data := .seq items n, slots := sl } ∧
      R (.ok (.ret (Value.ref s.heap.objs.size))) { s with heap := s.heap.push { cls := Value.type "tuple", data := Data.seq (List.foldl (fun x1 x2 => x1 ++ x2) #[] (List.replicate k.toNat items)) }, toks := s.toks }) :=
  .of_wp fun prog w A R s h => by
    obtain ⟨hp, g, d, tk, os⟩ := s; obtain ⟨hl, h⟩ := h
    have f1 := PySem.AutoSeq1.idx_int
    have hk : k ≤ 1000000 := by
      have : 1 * k.toNat ≤ items.size * k.toNat := Nat.mul_le_mul_right _ (by omega)
      omega
    have zz : (items.size : Int) * k ≤ 1000000 := by
      have e : (items.size : Int) * k = ((items.size * k.toNat : Nat) : Int) := by rw [Int.natCast_mul, Int.toNat_of_nonneg (by omega)]
      rw [e]; omega
    have c0 : ¬ (decide (k < -(2 ^ 63)) || decide (k ≥ 2 ^ 63)) = true := by simp; omega
    have c1 : ¬ (items.isEmpty || k == 1) = true := by
      simp
      exact ⟨fun z => h0 (by rw [z]; rfl), by omega⟩
    have c2 : ¬ (decide (k ≤ 0) || items.isEmpty) = true := by
      simp
      exact ⟨by omega, fun z => h0 (by rw [z]; rfl)⟩
    have c3 : ¬ ((items.size : Int) * k > (2 ^ 63 - 1) / 8) := by omega
    have c4 : ¬ (Builtin.Tuple.tupleTooMany ((items.size : Int) * k) = true) := by
      unfold Builtin.Tuple.tupleTooMany
      have hs : sizeLine = 16777216 := by decide
      rw [hs]; simp; omega
    have hsz : (List.foldl (fun x1 x2 => x1 ++ x2) #[] (List.replicate k.toNat items)).size ≤ sizeLine := by
      have hs : sizeLine = 16777216 := by decide
      rw [PySem.AutoListH.size_joined, hs, Nat.mul_comm]
      simp; omega
    wp_walk using PySem.AutoSeq1.wpAny_loadPart' hl
    refine wpAny_ite_false (decide_eq_false c0) ?_
    wp_walk using PySem.AutoSeq1.wpAny_loadPart' hl
    refine wpAny_ite_false (decide_eq_false c3) ?_
    wp_walk using PySem.AutoSeq1.wpAny_loadPart' hl
    exact ⟨_, rfl, h⟩
section
variable {X : Cx}
theorem op_mulT : OpR X (binaryOp .Mult) (fun x y H Q => ∃ a k xs, x = .ref a ∧ y = .int k ∧ SqT X.K H a xs ∧ xs ≠ [] ∧ 1 ≤ k ∧ xs.length * k.toNat ≤ 1000000 ∧ (k = 1 → Q (.ref a) H) ∧
    (k ≠ 1 → ∀ p, H p = none → Q (.ref p) (upd H p (.tup (List.replicate k.toNat xs).flatten)))) := by
  intro pins s σ H x y v u Q I rx ry h
  obtain ⟨a, k, xs, rfl, rfl, ha, h0, h1, hz, q1, q2⟩ := h
  obtain rfl : v = Value.ref a := rx
  obtain ⟨tk, rfl⟩ := ry
  obtain ⟨its, r, p1, _⟩ := I.tuple ha
  obtain ⟨⟨cls, dd, data, sl⟩, ho, hc, n, hd⟩ := id p1
  simp only at hc hd
  subst hc hd
  have hl : its.toArray.size = xs.length := by rw [List.size_toArray, ← r.length]
  refine wpAny_binaryOp_repeat_ref (T := "tuple") (U := "int") (by decide) ⟨_, ho, rfl⟩ (fun s' => typeIs_int s' k tk) noFill_tuple_mul PySem.F.fills_int_mul PySem.F.slot_int_rmul repeat_tuple PySem.F.slot_int_index.lookup
    (call_meets PySem.F.slot_int_rmul (typeIs_int s k tk) PySem.F.entry_int_rmul (PySem.F.args_int_rmul_2 _ _) (int_rmul_tup k tk a its.toArray n dd sl) ⟨ho, rfl, ⟨_, ho, rfl⟩, ?_⟩)
  by_cases e1 : k = 1
  · subst e1
    exact call_meets PySem.F.slot_tuple_mul ⟨_, ho, rfl⟩ PySem.F.entry_tuple_mul (PySem.F.args_tuple_mul_2 _ _) (tup_mul1 a its.toArray n dd sl tk) ⟨ho, .ref a, H, I, rfl, q1 rfl⟩
  · refine call_meets PySem.F.slot_tuple_mul ⟨_, ho, rfl⟩ PySem.F.entry_tuple_mul (PySem.F.args_tuple_mul_2 _ _) (tup_mul2 a its.toArray n dd sl k tk (by omega) (by rw [hl]; exact fun z => h0 (List.length_eq_zero_iff.mp z)) (by rw [hl]; exact hz)) ⟨ho, ?_⟩
    have f0 : List.foldl (fun x1 x2 => x1 ++ x2) #[] (List.replicate k.toNat its.toArray) = (List.replicate k.toNat its).flatten.toArray := by
      have := foldl_rep its k.toNat []
      rw [List.nil_append] at this
      exact this
    rw [f0]
    refine ⟨.ref s.heap.objs.size, _, I.laid (t' := s.toks) (o := .tup (List.replicate k.toNat xs).flatten) (fun b ob q => Heap.get?_push_of_some _ q) (Nat.le_refl _) ?_, rfl, q2 e1 _ (I.hok.fresh (Nat.le_refl _))⟩
    refine ⟨?_, _, r.rep k.toNat, IsTup.new _ _, _, Heap.get?_push_size _ rfl, rfl⟩
    have hs : sizeLine = 16777216 := by decide
    rw [len_rep, hs, Nat.mul_comm]
    omega
end
end L2
namespace L2
open PySem PySem.Spec PyProof.Rows
section
variable {X : Cx} {pins : List (Addr × Obj)} {σ : St} {H : Hp} {s : Shared}
theorem mut_no {H : Hp} {a b : Addr} {u v : HO} (e : H a = some u) (mu : Mut (some u)) (q : H b = some v) (nv : ¬ Mut (some v)) : b ≠ a := by
  intro z; subst z; rw [e] at q; cases q; exact nv mu
theorem Inv.freeze (I : Inv X pins σ H s) {a : Addr} {u : HO} {o : Obj} (e : H a = some u) (mu : Mut (some u)) (ho : s.heap.get? a = some o) : Inv X pins σ (upd H a (.frz o u)) s := by
  have nn : ∀ b, H b = none → b ≠ a := fun b n z => by subst z; rw [e] at n; cases n
  refine I.step (h' := s.heap) (g' := s.gens) (t' := s.toks) (d' := s.drawn) (ch := []) (fun _ z => nomatch z) (fun b o _ _ _ q _ => q) (fun b o _ _ _ q _ => ⟨o.slots, q⟩) (fun b o _ _ n => by rw [upd_ne (nn b n)]; exact n) (fun b o _ q => ⟨o, q⟩)
    (fun b xs q => by rw [upd_ne (mut_no e mu q fun z => z)]; exact q) (fun b o u q => by rw [upd_ne (mut_no e mu q fun z => z)]; exact q) (fun b ps q => ⟨#[], by rw [upd_ne (mut_no e mu q fun z => z), q]; simp⟩) (fun m h => h) (fun b v q => ?_) I.bare
  have st : ∀ {c : Addr} {y : HO}, ObjOk X.prog X.w H s.heap c y → ObjOk X.prog X.w (upd H a (.frz o u)) s.heap c y := fun x =>
    x.stay (fun c v _ q => q) (fun c q => by rw [upd_ne (mut_no e mu q fun z => z)]; exact q) fun c xs q => by rw [upd_ne (mut_no e mu q fun z => z)]; exact q
  by_cases hb : b = a
  · subst hb; rw [upd_same] at q; cases q
    exact ⟨ho, st (I.hok b u e)⟩
  · rw [upd_ne hb] at q
    exact st (I.hok b v q)
def Thw (X : Cx) (H H' : Hp) : Prop := H' = H ∨ ∃ a o u, H a = some (.frz o u) ∧ Mut (some u) ∧ (∀ o' u', X.H₀ a ≠ some (.frz o' u')) ∧ H' = upd H a u
theorem Inv.thaw (I : Inv X pins σ H s) {H' : Hp} (t : Thw X H H') : Inv X pins σ H' s := by
  rcases t with rfl | ⟨a, o, u, e, mu, nf, rfl⟩
  · exact I
  have ne : ∀ {b : Addr} {y : HO}, H b = some y → y ≠ .frz o u → b ≠ a := fun {b y} q n z => by subst z; rw [e] at q; cases q; exact n rfl
  have nn : ∀ b, H b = none → b ≠ a := fun b n z => by subst z; rw [e] at n; cases n
  have st : ∀ {c : Addr} {y : HO}, ObjOk X.prog X.w H s.heap c y → ObjOk X.prog X.w (upd H a u) s.heap c y := fun x =>
    x.stay (fun c v _ q => q) (fun c q => by rw [upd_ne (ne q (fun z => by cases z))]; exact q) fun c xs q => by rw [upd_ne (ne q (fun z => by cases z))]; exact q
  refine ⟨I.ok, I.os, I.bare, ⟨I.base.keep, I.base.slot, fun b ob q n hx => ?_, I.base.there, fun b xs q => ?_, fun b o' u' q => ?_, fun b ps q => ?_⟩, I.loc, I.cell, ?_, fun x c q => ?_, fun p hp => ?_, fun b v q => ?_, I.len⟩
  · have := I.base.free b ob q n hx
    rw [upd_ne (nn b this)]; exact this
  · have := I.base.tups b xs q
    rw [upd_ne (ne this (fun z => by cases z))]; exact this
  · rw [upd_ne (fun z => by subst z; exact nf o' u' q)]
    exact I.base.frzs b o' u' q
  · obtain ⟨m, h⟩ := I.base.tbls b ps q
    exact ⟨m, by rw [upd_ne (ne h (fun z => by cases z))]; exact h⟩
  · rw [upd_ne (nn _ I.free)]; exact I.free
  · rw [upd_ne (nn _ (I.freeC x c q))]; exact I.freeC x c q
  · obtain ⟨h1, h2, h3⟩ := I.pin p hp
    exact ⟨h1, by rw [upd_ne (nn _ h2)]; exact h2, h3⟩
  · by_cases hb : b = a
    · subst hb; rw [upd_same] at q; cases q
      exact st (I.hok b _ e).2
    · rw [upd_ne hb] at q
      exact st (I.hok b v q)
theorem Inv.nofrz (I : Inv X pins σ H s) {a : Addr} {u : HO} (e : H a = some u) (mu : Mut (some u)) : ∀ o' u', X.H₀ a ≠ some (.frz o' u') := fun o' u' z => by
  have := I.base.frzs a o' u' z
  rw [e] at this
  cases this
  exact mu
def thwD (X : Cx) (D : Ends) : Ends where
  nx := fun σ H => ∃ H', Thw X H H' ∧ D.nx σ H'
  rt := fun v H => ∃ H', Thw X H H' ∧ D.rt v H'
  bk := fun σ H => ∃ H', Thw X H H' ∧ D.bk σ H'
  ct := fun σ H => ∃ H', Thw X H H' ∧ D.ct σ H'
theorem PS.thaw {st : Stmt} {t : TS} (h : PS X st t) : PS X st (fun D σ H => t (thwD X D) σ H) := by
  intro pins s σ H D I q
  refine thn (h pins s σ H _ I q) fun f s' hf => ?_
  cases f with
  | next => obtain ⟨σ', H', I', H2, t2, d⟩ := hf; exact ⟨σ', H2, I'.thaw t2, d⟩
  | brk => obtain ⟨σ', H', I', H2, t2, d⟩ := hf; exact ⟨σ', H2, I'.thaw t2, d⟩
  | cont => obtain ⟨σ', H', I', H2, t2, d⟩ := hf; exact ⟨σ', H2, I'.thaw t2, d⟩
  | ret u => obtain ⟨v, σ', H', I', r, H2, t2, d⟩ := hf; exact ⟨v, σ', H2, I'.thaw t2, r, d⟩
theorem PE.thaw {e : Expr} {t : TE} (h : PE X e t) : PE X e (fun σ H Q => t σ H fun v H' => ∃ H2, Thw X H' H2 ∧ Q v H2) := by
  intro pins s σ H Q I q
  refine thn (h pins s σ H _ I q) fun u s' ⟨v, H', I', r, H2, t2, d⟩ => ⟨v, H2, I'.thaw t2, r, d⟩
def Itd (a : Addr) (o : Obj) : It where
  go := fun i H => ∃ kvs, H a = some (.frz o (.dK kvs)) ∧ i < kvs.length
  yld := fun i H x H' => H' = H ∧ ∀ kvs, H a = some (.frz o (.dK kvs)) → ∃ k v, kvs[i]? = some (k, v) ∧ x = kV k
  stop := fun i H => ∃ kvs, H a = some (.frz o (.dK kvs)) ∧ kvs.length ≤ i
theorem dk_at {P : Program} {w : World} {h : Heap} {a : Addr} {o : Obj} {kvs : List (Key × V)} {es : Array DictEntry} {ep : Nat} (ok : HOk P w H h) (e : H a = some (.frz o (.dK kvs))) (hd : o.data = .dict es ep) :
    ∃ vs, KV kvs vs ∧ h.DictAt (mixKind P w) a vs ep ∧ vs.length = es.size := by
  obtain ⟨ho, z, _, vs, rel, o', es', ep', ho', r1, r2, r3⟩ := ok a _ e
  rw [ho] at ho'; cases ho'
  rw [hd] at r2
  injection r2 with e1 e2
  subst e1 e2
  exact ⟨vs, rel, ⟨o, es, ho, r1, hd, r3⟩, by rw [← r3.2.1.length]; simp⟩
theorem kv_len {kvs : List (Key × V)} {vs : List (Key × Value)} (r : KV kvs vs) : kvs.length = vs.length := by
  induction r with
  | nil => rfl
  | cons _ _ ih => rw [List.length_cons, List.length_cons, ih]
theorem kv_get {kvs : List (Key × V)} {vs : List (Key × Value)} (r : KV kvs vs) : ∀ {i : Nat} {k : Key} {v : V}, kvs[i]? = some (k, v) → ∃ u, vs[i]? = some (k, u) ∧ RelV v u := by
  induction r with
  | nil => intro i k v h; cases h
  | @cons p p' _ _ q _ ih =>
    intro i k v h
    cases i with
    | zero =>
      cases h
      obtain ⟨k2, x2⟩ := p'
      have e1 : k = k2 := q.1
      subst e1
      exact ⟨x2, rfl, q.2⟩
    | succ i => exact ih (i := i) h
theorem key_rel {P : Program} {w : World} {k : Key} {u : Value} (h : (mixKind P w).is k u = true) : RelV (kV k) u := by
  rcases keyIs_shape h with ⟨i, t, rfl, rfl⟩ | ⟨x, t, rfl, rfl⟩
  · exact ⟨t, rfl⟩
  · exact ⟨t, rfl⟩
theorem wpAny_pyIter_keyiter {P : Program} {w : World} {A : Around} {E : Value → Shared → Prop} {s : Shared} {it d : Addr} {i n ep : Nat} {Q : Value → Shared → Prop} (hit : s.heap.IsKeyIter it d i n ep) (h : Q (.ref it) s) :
    wpAny (model P w) A (pyIter (.ref it)) Q E s := by
  refine wpAny_pyIter_slot hit.typeIs PySem.F.slot_dict_keyiterator_iter (wpAny_call_entry PySem.F.slot_dict_keyiterator_iter hit.typeIs PySem.F.entry_dict_keyiterator_iter ?_ (PySem.F.args_dict_keyiterator_iter_1 _))
  show wpAny _ _ (ret (.ref it)) _ _ s
  exact wpAny_pure ⟨_, rfl, "dict_keyiterator", _, hit.typeIs, PySem.F.slot_dict_keyiterator_next.lookup, h⟩
theorem turn_dict {P : Program} {w : World} {K : PySem.W.Frag} {tg : Expr} (a it : Addr) (o : Obj) (es : Array DictEntry) (ep : Nat) (hd : o.data = .dict es ep) : Turn P w K tg (Itd a o) [it] it (fun i h => h.IsKeyIter it a i es.size ep) where
  mem := by simp
  obj := fun i h st b hb => by
    have e : b = it := by simpa using hb
    subst e
    obtain ⟨o, e, c, d⟩ := st
    exact ⟨o, e, fun v z => by rw [d] at z; cases z⟩
  keep := fun i h h' st k => by
    obtain ⟨o, e, c, d⟩ := st
    exact ⟨o, k it (by simp) o e, c, d⟩
  item := by
    intro X hP hw hK hc i pins s σ H E I hf st hg
    subst hP hw hK
    obtain ⟨kvs, hq, hx⟩ := hg
    obtain ⟨vs, rel, da, hl⟩ := dk_at I.hok hq hd
    obtain ⟨⟨k, v⟩, hk⟩ : ∃ p, kvs[i]? = some p := ⟨_, List.getElem?_eq_getElem hx⟩
    obtain ⟨u, hu, ru⟩ := kv_get rel hk
    obtain ⟨f0, f1, f2, f3, f4, f5⟩ := hf it (by simp)
    rw [← hl] at st
    refine wpAny_pyNext_dict_item st da hu fun key h' hkey st' sb => ?_
    have I1 : Inv X pins σ H { s with heap := h' } := I.turned (t' := s.toks) (fun b o hb e => (sb.2 b hb).trans e) f0 f1 f3 f4 f5
    rw [hl] at st'
    obtain ⟨o', e, c, d⟩ := id st'
    exact ⟨key, rfl, go_of (s := { s with heap := h' }) e c d (by decide) ⟨kV k, H, I1, key_rel hkey, ⟨rfl, fun kvs' e' => by rw [hq] at e'; cases e'; exact ⟨k, v, hk, rfl⟩⟩, st', fun b hb => (hf b hb).1⟩⟩
  done := by
    intro X hP hw hK hc i pins s σ H E I hf st hg
    subst hP hw hK
    obtain ⟨kvs, hq, hx⟩ := hg
    obtain ⟨vs, rel, da, hl⟩ := dk_at I.hok hq hd
    obtain ⟨f0, f1, f2, f3, f4, f5⟩ := hf it (by simp)
    rw [kv_len rel] at hx
    rw [← hl] at st
    exact wpAny_pyNext_dict_end (I.ok.hd hc) st da (List.getElem?_eq_none_iff.mpr hx) fun h' eb => ⟨rfl, I.turned (t' := s.toks) (fun b o hb e => eb b o hb e) f0 f1 f3 f4 f5⟩
  self := fun _ _ _ _ _ st h => wpAny_pyIter_keyiter st h
theorem pi_dict1 {tg : Expr} {R : It → Hp → Prop} {E : Value → Shared → Prop} {a : Addr} {kvs : List (Key × V)} (I : Inv X pins σ H s) (e : H a = some (.dK kvs)) (q : ∀ o, (∀ o' u', X.H₀ a ≠ some (.frz o' u')) → R (Itd a o) (upd H a (.frz o (.dK kvs)))) :
    wpAny (model X.prog X.w) X.A (pyIter (.ref a)) (PIE X pins σ tg R) E s := by
  obtain ⟨z, hm, vs, rel, o, es, ep, ho, r1, r2, r3⟩ := I.hok a _ e
  have I1 := I.freeze e trivial ho
  have nf := I.nofrz e trivial
  refine wpAny_pyIter_dict hm (⟨o, es, ho, r1, r2, r3⟩ : s.heap.DictAt (mixKind X.prog X.w) a vs ep) ?_
  refine ⟨s.heap.objs.size, [s.heap.objs.size], _, _, upd H a (.frz o (.dK kvs)), rfl, I1.kept (t' := s.toks) fun b o e => Heap.get?_push_of_some _ e, turn_dict a _ o es ep r2, ?_, fun b hb => ?_, q o nf⟩
  · have hl : es.size = vs.length := by rw [← r3.2.1.length]; simp
    rw [hl]
    exact ⟨_, Heap.get?_push_size _ rfl, rfl, rfl⟩
  · have e : b = s.heap.objs.size := by simpa using hb
    subst e
    exact I1.fpOk (Nat.le_refl _) (I1.hok.fresh (Nat.le_refl _))
end
end L2
namespace L2
open PySem PySem.Spec PyProof.Rows
section
variable {prog : Program} {w : World} {A : Around} {E : Value → Shared → Prop} {s : Shared} {a₀ : Array Keyed}
end
section
variable {X : Cx}
end
end L2
namespace L2
open PySem PySem.Spec PyProof.Rows
structure Mrk (t t' : SetTable) : Prop where
  led : t'.led = t.led
  plain : t.plain = false → t'.plain = false
theorem Mrk.refl (t : SetTable) : Mrk t t := ⟨rfl, id⟩
theorem Mrk.trans {a b c : SetTable} (x : Mrk a b) (y : Mrk b c) : Mrk a c := ⟨y.led.trans x.led, fun h => y.plain (x.plain h)⟩
theorem Mrk.standIn (t : SetTable) (n : Nat) : Mrk t (t.standIn n) := ⟨rfl, fun _ => rfl⟩
theorem Mrk.orStandIn (t : SetTable) (n : Nat) : Mrk t (t.orStandIn n) := by
  unfold SetTable.orStandIn
  split
  · exact .refl t
  · exact .standIn t n
theorem Mrk.lay (t : SetTable) (es : Array (Int × Value)) (k : Int) (x : Value) : Mrk t (layNew t es k x).2.1 := by
  unfold layNew
  split
  · exact Mrk.trans (b := (t.put _).1) ⟨rfl, id⟩ (.orStandIn _ _)
  · exact .standIn t _
def txt : Value → Str
  | .str x _ => x
  | _ => ⟨#[]⟩
def met1 (zs : List Str) (x : Str) : List Str := if x ∈ zs then zs else zs ++ [x]
def met (f : Nat → Str) : Nat → List Str
  | 0 => []
  | i + 1 => met1 (met f i) (f i)
section
variable {prog : Program} {w : World} {A : Around} {E : Value → Shared → Prop} {s : Shared}
def WSet (prog : Program) (w : World) (o : Obj) (zs : List Str) : Prop :=
  o.ExactSet ∧ ∃ es ep t, o.data = .set es ep t ∧ ElemsOf (strKind prog w) es.toList ∧ (es.toList.map fun e => txt e.2).Perm zs ∧ es.size < scanBound ∧ t.fits es.size = true
    ∧ t.led = (!w.params.followText "set-order") ∧ (zs ≠ [] → t.plain = false)
theorem WSet.fresh : WSet prog w { cls := .type "set", dict := none, data := .set #[] 0 (.fresh 0 0 (!w.params.followText "set-order")) } [] :=
  ⟨⟨rfl, rfl, rfl⟩, #[], 0, _, rfl, fun e he => by simp at he, by simp, by decide, by rfl, rfl, fun h => absurd rfl h⟩
theorem isT {k : Str} {v : Value} : (strKind prog w).is k v = true ↔ ∃ t, v = .str k t := by
  constructor
  · exact fun h => Value.isStrOf_shape h
  · rintro ⟨t, rfl⟩
    exact strKind_is prog w k t
theorem WSet.mem {es : Array (Int × Value)} {zs : List Str} (he : ElemsOf (strKind prog w) es.toList) (hp : (es.toList.map fun e => txt e.2).Perm zs) (k : Str) :
    k ∈ zs ↔ ∃ e ∈ es.toList, (strKind prog w).is k e.2 = true := by
  rw [← hp.mem_iff, List.mem_map]
  constructor
  · rintro ⟨e, hm, q⟩
    refine ⟨e, hm, isT.mpr ?_⟩
    obtain ⟨⟨k', hk, _⟩, _⟩ := he e hm
    obtain ⟨t, ht⟩ := isT.mp hk
    rw [ht] at q ⊢
    exact ⟨t, by rw [← q]; rfl⟩
  · rintro ⟨e, hm, q⟩
    obtain ⟨t, ht⟩ := isT.mp q
    exact ⟨e, hm, by rw [ht]; rfl⟩
end
end L2
namespace L2
open PySem PySem.Spec PyProof.Rows
section
variable {prog : Program} {w : World} {A : Around} {E : Value → Shared → Prop} {s : Shared}
end
end L2
namespace L2
open PySem PySem.Spec PyProof.Rows
section
variable {prog : Program} {w : World} {A : Around} {E : Value → Shared → Prop} {s : Shared}
def SIt (h : Heap) (it S : Addr) (first : Value) (i n ep : Nat) : Prop :=
  ∃ o, h.get? it = some o ∧ o.cls = .type "set_iterator" ∧ o.data = .fields #[first, .int i 0, .ref S, .int n 0, .int ep 0]
theorem SIt.typeIs {it S : Addr} {first : Value} {i n ep : Nat} (x : SIt s.heap it S first i n ep) : s.TypeIs (.ref it) "set_iterator" := let ⟨o, ho, hc, _⟩ := x; ⟨o, ho, hc⟩
end
end L2
namespace L2
open PySem PySem.Spec PyProof.Rows
section
variable {prog : Program} {w : World} {A : Around} {E : Value → Shared → Prop} {s : Shared}
theorem SIt.at {h h' : Heap} {it S : Addr} {first : Value} {i n ep : Nat} (x : SIt h it S first i n ep) (e : ∀ o, h.get? it = some o → h'.get? it = some o) : SIt h' it S first i n ep :=
  let ⟨o, ho, r⟩ := x; ⟨o, e _ ho, r⟩
end
end L2
namespace L2
open PySem PySem.Spec PyProof.Rows
section
variable {prog : Program} {w : World} {A : Around} {E : Value → Shared → Prop} {s : Shared}
end
end L2
namespace L2
open PySem PySem.Spec PyProof.Rows
theorem few {zs : List Str} (nd : zs.Nodup) : ∀ (N : List Str), (∀ z ∈ zs, z ∈ N) → zs.length ≤ N.length := by
  induction zs with
  | nil => intro N _; exact Nat.zero_le _
  | cons z zs ih =>
    intro N h
    rw [List.nodup_cons] at nd
    have hz := h z List.mem_cons_self
    have hp := List.perm_cons_erase hz
    have := ih nd.2 (N.erase z) fun y hy => by
      have := hp.mem_iff.mp (h y (List.mem_cons_of_mem _ hy))
      rcases List.mem_cons.mp this with e | e
      · exact absurd (e ▸ hy) nd.1
      · exact e
    have hl := hp.length_eq
    simp only [List.length_cons] at hl ⊢
    omega
def Call2 (X : Cx) (f g : Value) (r : V → Hp → VK → Prop) : Prop :=
  ∀ (pins : List (Addr × Obj)) (s : Shared) (σ : St) (H : Hp) (x : V) (u : Value) (Q : VK), Inv X pins σ H s → RelV x u → r x H Q →
    wpAny (model X.prog X.w) X.A (call g [u]) (fun v s1 => wpAny (model X.prog X.w) X.A (call f [v]) (EP X pins σ Q) X.xe s1) X.xe s
section
variable {X : Cx}
theorem pe_call2 {x y : Str} {id T : String} {r : V → Hp → VK → Prop} {e : Expr} {t : TE} {p p' pos pos' : Pos} (hc : Call2 X (.builtin id) (.type T) r)
    (hg : Gl X x) (hm : X.mg x = none) (hv : bootBuiltins x = some (.builtin id)) (hg' : Gl X y) (hm' : X.mg y = none) (hv' : bootBuiltins y = some (.type T)) (ha : PE X e t)
    (hn : x ≠ "__name__") (hdb : (x == ("__debug__" : Str)) = false) (hn' : y ≠ "__name__") (hdb' : (y == ("__debug__" : Str)) = false)
    (he : starEach [e] X.env = (false, eval e X.env) :: starEach [] X.env) :
    PE X (.Call (.Name x p) [.Call (.Name y p') [e] [] pos'] [] pos) (fun σ H Q => t σ H fun v H1 => r v H1 Q) := by
  intro pins s σ H Q I h
  refine wpAny_Call_Name_kw (ld_blt I hg hm hv ?_ hn hdb)
  refine PyProof.Rows.callWith_builtin1 ?_ rfl rfl
  show wpAny _ _ (spliced ((false, eval (.Call (.Name y p') [e] [] pos') X.env) :: backTo pos (starEach [] X.env))) _ _ s
  refine Calls.spliced_cons ?_
  refine wpAny_Call_Name_kw (ld_blt I hg' hm' hv' ?_ hn' hdb')
  refine PyProof.Rows.callWith_type1 ?_ he rfl
  rw [he]
  show wpAny _ _ (spliced ((false, eval e X.env) :: backTo pos' (starEach [] X.env))) _ _ s
  refine Calls.spliced_cons (thn (ha pins s σ H _ I h) fun u s1 ⟨v, H1, I1, r1, q1⟩ => ?_)
  refine Calls.spliced_nil ?_
  exact thn (hc pins s1 σ H1 v u Q I1 r1 q1) fun u2 s2 q2 => Calls.spliced_nil q2
theorem firstMet_all {f : Nat → Int} : ∀ (n : Nat), (firstMet f n).length = n ↔ ∀ i j, i < j → j < n → f i ≠ f j
  | 0 => ⟨fun _ i j _ h => absurd h (by omega), fun _ => rfl⟩
  | n + 1 => by
    have ih := firstMet_all (f := f) n
    have hle := firstMet_length_le f n
    have hany := firstMet_any f n (f n)
    rw [firstMet_succ, step_length]
    by_cases h : (firstMet f n).any (· == f n) = true
    · rw [if_pos h]
      refine ⟨fun e => by omega, fun e => ?_⟩
      rw [hany, List.any_map, List.any_eq_true] at h
      obtain ⟨i, hi, hq⟩ := h
      exact absurd (by simpa using hq) (e i n (List.mem_range.mp hi) (by omega))
    · rw [if_neg h]
      refine ⟨fun e i j hij hj => ?_, fun e => ?_⟩
      · by_cases z : j = n
        · subst z
          intro q
          apply h
          rw [hany, List.any_map, List.any_eq_true]
          exact ⟨i, List.mem_range.mpr hij, by simpa using q⟩
        · exact ih.mp (by omega) i j hij (by omega)
      · rw [ih.mpr fun i j hij hj => e i j hij (by omega)]
theorem call_lset (hcalm : X.calm = true) : Call2 X (.builtin "len") (.type "set") (fun x H Q => ∃ (a : Addr) (ns : List Int), x = .ref a ∧ SqL X.K H a (ns.map V.int) ∧ ns.length + 1 < scanBound ∧
    ∀ k : Nat, (k = ns.length ↔ ns.Nodup) → k ≤ ns.length → Q (.int k) H) := by
  intro pins s σ H x u Q I rx h
  obtain ⟨a, ns, rfl, ha, hlen, q⟩ := h
  cases rx
  obtain ⟨its, rv, p, hz⟩ := I.list ha
  have hh := I.ok.hd hcalm
  have hI := intsAre_of rv
  have hil : its.length = ns.length := by rw [← rv.length, List.length_map]
  have hsz : its.toArray.size = ns.length := by simp [hil]
  have hsb : scanBound = 4096 := rfl
  refine PySem.call_set_list (ns := ns) hh p.isList (by simpa using hI) (by rw [hsz]; exact hlen) fun h1 tk1 hS hk => ?_
  rw [hsz] at hS
  have I1 : Inv X pins σ H { s with heap := h1, toks := tk1 } := I.kept fun b u e => hk b u (Heap.lt_size e) e
  obtain ⟨o, es, ep, t, ho, hex, hd, hel, hmem, hb, hf, hn⟩ := hS
  refine call_len_set (s := { s with heap := h1, toks := tk1 }) ho hex hd hf (by omega) ?_
  refine ⟨.int es.size, H, I1.tok _, ⟨_, rfl⟩, ?_⟩
  refine q es.size ?_ (by rw [hn]; exact firstMet_length_le _ _)
  rw [hn, firstMet_all, List.Nodup, List.pairwise_iff_getElem]
  constructor
  · intro e i j hi hj hij
    have := e i j hij hj
    simpa [List.getD, hi, hj] using this
  · intro e i j hij hj
    have := e i j (by omega) hj hij
    simpa [List.getD, hj, show i < ns.length by omega] using this
end
end L2
namespace L2
open PySem PySem.Spec PyProof.Rows
theorem sub_attr : isSubtype (.type "AttributeError") (.type "AttributeError") = pure true := by rw [isSubtype_type]; kernel_rfl
section
variable {prog : Program} {w : World} {A : Around} {E : Value → Shared → Prop} {h : Heap} {g : Array GenState} {d : Drawn} {t : Nat} {os : OsState} {a : Addr} {its : Array Value} {n : Nat}
end
end L2
namespace L2
open PySem PySem.Spec PyProof.Rows
theorem entry_dict_update_loop : entryFor table "dict.update.loop" = some Builtin.«dict.update.loop» := entryFor_of_tree (by kernel_rfl)
theorem plain_dict_update_loop : plainId "dict.update.loop" = true := by decide +kernel
section
variable {prog : Program} {w : World} {A : Around} {E : Value → Shared → Prop} {s : Shared} {K : Type} [DecidableEq K] {knd : KeyKind prog w K}
def stTo (ks : Nat → K) (vs : Nat → Value) : Nat → List (K × Value)
  | 0 => []
  | i + 1 => stored (stTo ks vs i) (ks i) (vs i)
theorem stored_len1 (kvs : List (K × Value)) (k : K) (v : Value) : (stored kvs k v).length ≤ kvs.length + 1 := by
  unfold stored
  split <;> simp
theorem stTo_len (ks : Nat → K) (vs : Nat → Value) : ∀ i, (stTo ks vs i).length ≤ i
  | 0 => Nat.le_refl _
  | i + 1 => Nat.le_trans (stored_len1 _ _ _) (Nat.succ_le_succ (stTo_len ks vs i))
theorem dict_loop {R : Result → Shared → Prop} {I : Addr} {fp wr : List Addr} {G : Array GenState → Array GenState → Prop} {n : Nat} {P : Nat → Value → Prop} {St : Nat → Shared → Prop}
    (W : WalksS prog w A.in1 I fp wr G n P St) (D : Addr) (hDf : D ∉ fp) (ks : Nat → K) (vs : Nat → Value) (hb : n ≤ sizeLine) :
    ∀ (k i : Nat) (s : Shared), n - i = k → i ≤ n → St i s → s.heap.DictOf knd D (stTo ks vs i) →
      (∀ j v, P j v → ∃ q uk np oq, v = .ref q ∧ q ≠ D ∧ q ∉ wr ∧ s.heap.get? q = some oq ∧ oq.cls = .type "tuple" ∧ oq.data = .seq #[uk, vs j] np ∧ knd.is (ks j) uk = true) →
      (∀ s', Moved (D :: wr) G s s' → s'.heap.DictOf knd D (stTo ks vs n) → R (.ok (.ret .none)) s') →
      codeAny (model prog w) A (.builtin "dict.update.loop" ⟨[.ref D, .ref I, rawInt (i : Nat), .none], []⟩) R s := by
  have hDw : D ∉ wr := fun h => hDf (W.sub _ h)
  have hsub : ∀ b ∈ wr, b ∈ D :: wr := fun b hb => List.mem_cons_of_mem _ hb
  intro k
  induction k with
  | zero =>
    intro i s hk hi hst hd ht hR
    have hin : i = n := by omega
    subst hin
    refine codeAny_builtin entry_dict_update_loop ?_
    rw [Around.under_plainId plain_dict_update_loop _]
    show wpAny _ A.in1 (pyNext (.ref I) >>= _) _ _ s
    refine wpAny_bind (W.done s _ _ hst fun s' hm => ?_)
    refine wpAny_bind (m := Builtin.Dict.addKeywords D []) (wpAny_pure ?_)
    refine wpAny_pure (hR s' (hm.mono hsub) ?_)
    obtain ⟨o, es, ep, ho, r⟩ := hd
    exact ⟨o, es, ep, hm.heap D _ hDw ho, r⟩
  | succ k ih =>
    intro i s hk hi hst hd ht hR
    have hlt : i < n := by omega
    refine codeAny_builtin entry_dict_update_loop ?_
    rw [Around.under_plainId plain_dict_update_loop _]
    show wpAny _ A.in1 (pyNext (.ref I) >>= _) _ _ s
    refine wpAny_bind (W.item i s _ _ hlt hst fun v s' hP hst' hm => ?_)
    obtain ⟨q, uk, np, oq, rfl, hqD, hqw, hq, hqc, hqd, hkey⟩ := ht i v hP
    have hq' := hm.heap q _ hqw hq
    have hd' : s'.heap.DictOf knd D (stTo ks vs i) := by
      obtain ⟨o, es, ep, ho, r⟩ := hd
      exact ⟨o, es, ep, hm.heap D _ hDw ho, r⟩
    have hT : s'.TypeIs (.ref q) "tuple" := ⟨_, hq', hqc⟩
    show wpAny _ A.in1 (holding [Value.ref q] _ >>= _) _ _ s'
    refine wpAny_bind (wpAny_holding ?_)
    refine wpAny_bind (wpAny_tryCatch ?_)
    unfold Builtin.Dict.pairItems
    refine wpAny_bind (wpAny_typeOf hT ?_)
    have e2 : (Value.type "tuple" == Value.type "tuple") = true := rfl
    rw [e2, Bool.or_true, if_pos rfl]
    refine wpAny_bind (wpAny_seqItems hq' hqd (wpAny_pure ?_))
    show wpAny _ A.in1 (holding [uk, vs i] (dictSet D uk (vs i))) _ _ s'
    refine wpAny_holding ?_
    have hl := stTo_len ks vs i
    refine wpAny_dictSet_pairs (knd := knd) hkey hd' (fun h' hd2 hsb => ?_) (by omega)
    refine wpAny_pure ⟨plainId_quiet plain_dict_update_loop _, ?_⟩
    have := ih (i + 1) { s' with heap := h', toks := s'.toks + 1 } (by omega) hlt (W.frame _ s' _ _ hst' (Nat.le_succ _) fun b hb o e => ?_) hd2 (fun j v hPj => ?_) fun s'' hm'' hd'' => ?_
    · exact this
    · rw [hsb.2 b (fun z : b = D => hDf (by rw [← z]; exact hb))]; exact e
    · obtain ⟨q, uk, np, oq, rfl, a1, a2, a3, a4⟩ := ht j v hPj
      exact ⟨q, uk, np, oq, rfl, a1, a2, (hsb.2 q a1).trans (hm.heap q _ a2 a3), a4⟩
    · refine hR s'' (Moved.trans W.gtrans ((hm.mono hsub).then_heap (Nat.le_succ _) fun b o hb e => ?_) hm'') hd''
      rw [hsb.2 b (fun z : b = D => hb (by rw [z]; exact List.mem_cons_self))]; exact e
end
end L2
namespace L2
open PySem PySem.Spec PyProof.Rows
def PairsV (H : Hp) : List (Key × V) → List V → Prop := Paired fun (p : Key × V) (v : V) => ∃ q, v = .ref q ∧ H q = some (.tup [kV p.1, p.2])
def putAll (ps : List (Key × V)) : List (Key × V) := ps.foldl (fun c z => putK c z.1 z.2) []
theorem Paired.at {α β : Type} {R : α → β → Prop} : ∀ {xs : List α} {ys : List β}, Paired R xs ys → ∀ (i : Nat) (y : β), ys[i]? = some y → ∃ x, xs[i]? = some x ∧ R x y
  | _, _, .nil, i, y, h => by simp at h
  | _, _, .cons r _, 0, y, h => by simp at h; subst h; exact ⟨_, rfl, r⟩
  | _, _, .cons _ t, i + 1, y, h => by simp at h; obtain ⟨x, hx, r⟩ := Paired.at t i y h; exact ⟨x, by simpa using hx, r⟩
section
variable {X : Cx}
end
end L2
namespace L2
open PySem PySem.Spec PyProof.Rows
section
variable {X : Cx}
end
end L2
namespace L2
open PySem PySem.Spec PyProof.Rows
def Its (x : Str) : It := ⟨fun i _ => i < x.cps.size, fun i H v H' => H' = H ∧ ∃ c, x.cps[i]? = some c ∧ v = .str ⟨#[c]⟩, fun i _ => x.cps.size ≤ i⟩
theorem turn_strA {P : Program} {w : World} {K : PySem.W.Frag} {tg : Expr} (it : Addr) (x : Str) (t : Tok) : Turn P w K tg (Its x) [it] it (fun i h => h.IsStrIter it "str_ascii_iterator" x t i) where
  mem := by simp
  obj := fun i h st b hb => by
    have e : b = it := by simpa using hb
    subst e
    obtain ⟨o, e, c, d⟩ := st
    exact ⟨o, e, fun v z => by rw [d] at z; cases z⟩
  keep := fun i h h' st k => by
    obtain ⟨o, e, c, d⟩ := st
    exact ⟨o, k it (by simp) o e, c, d⟩
  item := by
    intro X hP hw hK hc i pins s σ H E I hf st hg
    subst hP hw hK
    have hg : i < x.cps.size := hg
    obtain ⟨f0, f1, f2, f3, f4, f5⟩ := hf it (by simp)
    refine wpAny_pyNext_ascii_item st (c := x.cps[i]) (by simp [hg]) fun h' st' sb => ?_
    have I1 : Inv X pins σ H { s with heap := h', toks := s.toks + 1 } := I.turned (fun b o hb e => (sb.2 b hb).trans e) f0 f1 f3 f4 f5
    obtain ⟨o, e, c, d⟩ := id st'
    exact ⟨_, rfl, go_of (s := { s with heap := h', toks := s.toks + 1 }) e c d (by decide) ⟨.str ⟨#[x.cps[i]]⟩, H, I1, ⟨_, rfl⟩, ⟨rfl, _, by simp [hg], rfl⟩, st', fun b hb => (hf b hb).1⟩⟩
  done := by
    intro X hP hw hK hc i pins s σ H E I hf st hg
    subst hP hw hK
    have hg : x.cps.size ≤ i := hg
    obtain ⟨f0, f1, f2, f3, f4, f5⟩ := hf it (by simp)
    exact wpAny_pyNext_ascii_end (I.ok.hd hc) st (by simp [hg]) fun h' eb => ⟨rfl, I.turned (t' := s.toks) (fun b o hb e => eb b o hb e) f0 f1 f3 f4 f5⟩
  self := fun _ _ _ _ _ st h => wpAny_pyIter_striter_ascii st h
theorem turn_strW {P : Program} {w : World} {K : PySem.W.Frag} {tg : Expr} (it : Addr) (x : Str) (t : Tok) : Turn P w K tg (Its x) [it] it (fun i h => h.IsStrIter it "str_iterator" x t i) where
  mem := by simp
  obj := fun i h st b hb => by
    have e : b = it := by simpa using hb
    subst e
    obtain ⟨o, e, c, d⟩ := st
    exact ⟨o, e, fun v z => by rw [d] at z; cases z⟩
  keep := fun i h h' st k => by
    obtain ⟨o, e, c, d⟩ := st
    exact ⟨o, k it (by simp) o e, c, d⟩
  item := by
    intro X hP hw hK hc i pins s σ H E I hf st hg
    subst hP hw hK
    have hg : i < x.cps.size := hg
    obtain ⟨f0, f1, f2, f3, f4, f5⟩ := hf it (by simp)
    refine wpAny_pyNext_wide_item st (c := x.cps[i]) (by simp [hg]) fun h' st' sb => ?_
    have I1 : Inv X pins σ H { s with heap := h', toks := s.toks + 1 } := I.turned (fun b o hb e => (sb.2 b hb).trans e) f0 f1 f3 f4 f5
    obtain ⟨o, e, c, d⟩ := id st'
    exact ⟨_, rfl, go_of (s := { s with heap := h', toks := s.toks + 1 }) e c d (by decide) ⟨.str ⟨#[x.cps[i]]⟩, H, I1, ⟨_, rfl⟩, ⟨rfl, _, by simp [hg], rfl⟩, st', fun b hb => (hf b hb).1⟩⟩
  done := by
    intro X hP hw hK hc i pins s σ H E I hf st hg
    subst hP hw hK
    have hg : x.cps.size ≤ i := hg
    obtain ⟨f0, f1, f2, f3, f4, f5⟩ := hf it (by simp)
    exact wpAny_pyNext_wide_end (I.ok.hd hc) st (by simp [hg]) fun h' eb => ⟨rfl, I.turned (t' := s.toks) (fun b o hb e => eb b o hb e) f0 f1 f3 f4 f5⟩
  self := fun _ _ _ _ _ st h => wpAny_pyIter_striter_wide st h
section
variable {X : Cx} {pins : List (Addr × Obj)} {σ : St} {H : Hp} {s : Shared}
theorem pi_str1 {tg : Expr} {R : It → Hp → Prop} {E : Value → Shared → Prop} {x : Str} {t : Tok} (I : Inv X pins σ H s) (q : R (Its x) H) : wpAny (model X.prog X.w) X.A (pyIter (.str x t)) (PIE X pins σ tg R) E s := by
  have fp : ∀ b ∈ [s.heap.objs.size], FpOk X pins H b := fun b hb => by
    have e : b = s.heap.objs.size := by simpa using hb
    subst e
    exact I.fpOk (Nat.le_refl _) (I.hok.fresh (Nat.le_refl _))
  cases ha : x.cps.all (· < 128)
  · exact wpAny_pyIter_wide ha ⟨s.heap.objs.size, [s.heap.objs.size], _, _, H, rfl, I.kept (t' := s.toks) fun b o e => Heap.get?_push_of_some _ e, turn_strW _ x t, ⟨_, Heap.get?_push_size _ rfl, rfl, rfl⟩, fp, q⟩
  · exact wpAny_pyIter_ascii ha ⟨s.heap.objs.size, [s.heap.objs.size], _, _, H, rfl, I.kept (t' := s.toks) fun b o e => Heap.get?_push_of_some _ e, turn_strA _ x t, ⟨_, Heap.get?_push_size _ rfl, rfl, rfl⟩, fp, q⟩
def iSeqS (X : Cx) (tl : TE) : TI := fun σ H R => tl σ H fun x H1 => (∃ a, x = .ref a ∧ ((∃ xs, SqL X.K H1 a xs ∧ R (Itl X.K a) H1) ∨ (∃ xs, SqT X.K H1 a xs ∧ R (Itt X.K a) H1) ∨ ∃ kvs, H1 a = some (.dK kvs) ∧ ∀ o, (∀ o' u', X.H₀ a ≠ some (.frz o' u')) → R (Itd a o) (upd H1 a (.frz o (.dK kvs))))) ∨
  ∃ z, x = .str z ∧ R (Its z) H1
theorem pi_seqS {tg l : Expr} {tl : TE} (hl : PE X l tl) : PI X tg l (iSeqS X tl) := by
  intro pins s σ H R I h
  refine thn (hl pins s σ H _ I h) fun v s1 ⟨x, H1, I1, r1, q1⟩ => ?_
  rcases q1 with ⟨a, e, q⟩ | ⟨z, e, q⟩
  · subst e
    cases r1
    rcases q with ⟨xs, hq, q⟩ | ⟨xs, hq, q⟩ | ⟨kvs, hq, q⟩
    · obtain ⟨its, rv, p, hz⟩ := I1.list hq
      refine wpAny_pyIter_list p.isList ?_
      refine ⟨s1.heap.objs.size, [s1.heap.objs.size], _, _, H1, rfl, I1.kept (t' := s1.toks) fun b o e => Heap.get?_push_of_some _ e, turn_list a _, ⟨_, Heap.get?_push_size _ rfl, rfl, rfl⟩, fun b hb => ?_, q⟩
      have e : b = s1.heap.objs.size := by simpa using hb
      subst e
      exact I1.fpOk (Nat.le_refl _) (I1.hok.fresh (Nat.le_refl _))
    · obtain ⟨its, rv, p, hz⟩ := I1.tuple hq
      refine wpAny_pyIter_tuple (show s1.heap.IsTuple a its.toArray from p) ?_
      refine ⟨s1.heap.objs.size, [s1.heap.objs.size], _, _, H1, rfl, I1.kept (t' := s1.toks) fun b o e => Heap.get?_push_of_some _ e, turn_tuple a _, ⟨_, Heap.get?_push_size _ rfl, rfl, rfl⟩, fun b hb => ?_, q⟩
      have e : b = s1.heap.objs.size := by simpa using hb
      subst e
      exact I1.fpOk (Nat.le_refl _) (I1.hok.fresh (Nat.le_refl _))
    · exact pi_dict1 I1 hq q
  · subst e
    obtain ⟨t, rfl⟩ := r1
    exact pi_str1 I1 q
theorem is_bool_gen {M : Model} {A : Around} {E : Value → Shared → Prop} {s : Shared} {Q : Value → Shared → Prop} {v : Value} {b : Bool} (hv : ∀ i, v ≠ .builtin i) (h : Q (.bool (v == .bool b)) s) : wpAny M A (compareOp .Is v (.bool b)) Q E s := by
  cases v <;> first | exact wpAny_pure h | exact absurd rfl (hv _)
theorem isnot_bool_gen {M : Model} {A : Around} {E : Value → Shared → Prop} {s : Shared} {Q : Value → Shared → Prop} {v : Value} {b : Bool} (hv : ∀ i, v ≠ .builtin i) (h : Q (.bool (!(v == .bool b))) s) : wpAny M A (compareOp .IsNot v (.bool b)) Q E s := by
  cases v <;> first | exact wpAny_pure h | exact absurd rfl (hv _)
theorem rel_noblt {x : V} {v : Value} (r : RelV x v) : ∀ i, v ≠ .builtin i := fun i e => by
  subst e
  cases x <;> first | (cases r; done) | (obtain ⟨t, e⟩ := r; cases e)
theorem rel_isbl {x : V} {v : Value} {b : Bool} (r : RelV x v) : decide (x = .bl b) = (v == Value.bool b) := by
  cases x <;> first
    | (cases r; rename_i c; cases b <;> cases c <;> rfl)
    | (cases r; rfl)
    | (obtain ⟨t, rfl⟩ := r; rfl)
theorem op_isBl : OpR X (compareOp .Is) (fun x y H Q => ∃ b, y = .bl b ∧ Q (.bl (decide (x = .bl b))) H) := by
  intro pins s σ H x y v u Q I rx ry h
  obtain ⟨b, rfl, q⟩ := h
  cases ry
  exact is_bool_gen (rel_noblt rx) (fin_bl I q (rel_isbl rx))
theorem op_notBl : OpR X (compareOp .IsNot) (fun x y H Q => ∃ b, y = .bl b ∧ Q (.bl (!decide (x = .bl b))) H) := by
  intro pins s σ H x y v u Q I rx ry h
  obtain ⟨b, rfl, q⟩ := h
  cases ry
  exact isnot_bool_gen (rel_noblt rx) (fin_bl I q (by rw [rel_isbl rx]))
theorem isinst2_ok {A : Around} {E : Value → Shared → Prop} {Q : Value → Shared → Prop} {x : V} {u t c d : Value} {b b' : Bool} {tp : Addr} {dd : Option Addr} {n : Nat} {sl : Array (Option Value)} (I : Inv X pins σ H s) (rx : RelV x u) (ty : TyOf X.K H x t) (e : PySem.W.kitOne X.K t c = some b) (e' : PySem.W.kitOne X.K t d = some b')
    (htp : s.heap.get? tp = some ⟨.type "tuple", dd, .seq [c, d].toArray n, sl⟩) (h : ∀ tk, Q (.bool (b || b')) { s with toks := tk }) : wpAny (model X.prog X.w) A (call (.builtin "isinstance") [u, .ref tp]) Q E s := by
  have ea : PySem.W.kitAny X.K t [c, d] = some (b || b') := by
    unfold PySem.W.kitAny
    rw [e]
    cases b with
    | true => rfl
    | false =>
      show PySem.W.kitAny X.K t [d] = some b'
      unfold PySem.W.kitAny
      rw [e']
      cases b' <;> rfl
  cases ty with
  | non => cases (show u = Value.none from rx); exact PySem.W.kia_tup PySem.W.kitx_none I.kIn True.intro htp ea (fun z => nomatch z) h
  | bl y => cases (show u = Value.bool y from rx); exact PySem.W.kia_tup PySem.W.kitx_bool I.kIn True.intro htp ea (fun z => nomatch z) h
  | int i => obtain ⟨t, q⟩ := (show ∃ t, u = Value.int i t from rx); cases q; exact PySem.W.kia_tup PySem.W.kitx_int I.kIn True.intro htp ea (fun z => nomatch z) h
  | str y => obtain ⟨t, q⟩ := (show ∃ t, u = Value.str y t from rx); cases q; exact PySem.W.kia_tup PySem.W.kitx_str I.kIn True.intro htp ea (fun z => nomatch z) h
  | flt y => obtain ⟨t, q⟩ := (show ∃ t, u = Value.float y t from rx); cases q; exact PySem.W.kia_tup PySem.W.kitx_float I.kIn True.intro htp ea (fun z => nomatch z) h
  | @lst a xs ea' =>
    cases (show u = Value.ref a from rx)
    obtain ⟨_, _, n, _, h1⟩ := (show ObjOk X.prog X.w H s.heap a (.lst xs) from I.hok a _ ea')
    exact PySem.W.kia_tup PySem.W.kitx_list I.kIn ⟨_, h1, rfl⟩ htp ea (fun z => nomatch z) h
  | @frz a ob xs ea' =>
    cases (show u = Value.ref a from rx)
    obtain ⟨_, _, _, n, _, h1⟩ := (show ObjOk X.prog X.w H s.heap a (.frz ob (.lst xs)) from I.hok a _ ea')
    exact PySem.W.kia_tup PySem.W.kitx_list I.kIn ⟨_, h1, rfl⟩ htp ea (fun z => nomatch z) h
  | @tup a xs ea' =>
    cases (show u = Value.ref a from rx)
    obtain ⟨_, _, _, p⟩ := (show ObjOk X.prog X.w H s.heap a (.tup xs) from I.hok a _ ea')
    obtain ⟨o, h1, h2, _⟩ := p.1
    exact PySem.W.kia_tup PySem.W.kitx_tuple I.kIn ⟨o, h1, h2⟩ htp ea (fun z => nomatch z) h
  | @dK a kvs ea' =>
    cases (show u = Value.ref a from rx)
    obtain ⟨_, _, vs, _, p⟩ := (show ObjOk X.prog X.w H s.heap a (.dK kvs) from I.hok a _ ea')
    obtain ⟨o, es, ep, h1, h2, _⟩ := p
    exact PySem.W.kia_tup PySem.W.kitx_dict I.kIn ⟨o, h1, h2.1⟩ htp ea (fun z => nomatch z) h
  | @dT a kvs ea' =>
    cases (show u = Value.ref a from rx)
    obtain ⟨_, _, xs, _, o, es, ep, h1, h2, _⟩ := (show ObjOk X.prog X.w H s.heap a (.dT kvs) from I.hok a _ ea')
    exact PySem.W.kia_tup PySem.W.kitx_dict I.kIn ⟨o, h1, h2.1⟩ htp ea (fun z => nomatch z) h
  | @ins a C dx fs ea' cl ha hn htk hm =>
    cases (show u = Value.ref a from rx)
    obtain ⟨mA, O, _⟩ := ins_get I.hok ea'
    obtain ⟨od, J, _⟩ := O.look
    exact PySem.W.kia_tup (PySem.W.kitx_own (cl.get _) cl.hd ha hn htk hm) I.kIn J htp ea (fun z => nomatch z) h
theorem call_isinst2 : CallR X (.builtin "isinstance") (fun xs H Q => ∃ x a c d t b b', xs = [x, .ref a] ∧ H a = some (.tup [.ty c, .ty d]) ∧ TyOf X.K H x t ∧ PySem.W.kitOne X.K t (.type c) = some b ∧ PySem.W.kitOne X.K t (.type d) = some b' ∧ Q (.bl (b || b')) H) := by
  intro pins s σ H xs us Q I r h
  obtain ⟨x, a, c, d, t, b, b', rfl, ha, ty, e, e', q⟩ := h
  obtain ⟨u, w', rfl, ru, rw'⟩ := vals2 r
  cases rw'
  obtain ⟨its, rv, p, _⟩ := I.tuple (SqT.of (K := X.K) ha)
  obtain ⟨⟨cls, dd, data, sl⟩, ho, hc, n, hd⟩ := id p
  simp only at hc hd
  subst hc hd
  cases rv with
  | cons r1 r2 =>
    cases r2 with
    | cons r3 r4 =>
      cases r4
      cases r1
      cases r3
      exact isinst2_ok I ru ty e e' ho fun tk => ⟨.bl (b || b'), H, I.tok tk, rfl, q⟩
end
end L2
namespace L2
open PySem PySem.Spec PyProof.Rows
section
variable {X : Cx}
end
end L2
namespace L2
open PySem PySem.Spec PyProof.Rows
theorem lk_tuple_keys : typeLookup (.type "tuple") "keys" = pure none := by rw [typeLookup_type, builtinLookup_eq_fast]; kernel_rfl
theorem lk_tuple_hook : typeLookup (.type "tuple") "__getattr__" = pure none := by rw [typeLookup_type, builtinLookup_eq_fast]; kernel_rfl
section
variable {prog : Program} {w : World} {A : Around} {E : Value → Shared → Prop} {h : Heap} {g : Array GenState} {d : Drawn} {t : Nat} {os : OsState} {a : Addr} {its : Array Value} {n : Nat} {sl : Array (Option Value)}
theorem keysT_entry {tk : Tok} {Q : Fin → Shared → Prop} (hx : h.get? a = some (⟨.type "tuple", none, .seq its n, sl⟩)) (hh : A.handled = none)
   (hE : ∀ e h' t', (∀ b o, h.get? b = some o → h'.get? b = some o) → (∃ o, h'.get? e = some o ∧ o.cls = .type "AttributeError") → E (.ref e) ⟨h', g, d, t', os⟩) :
    wpAny (model prog w) A (Builtin.«object.__getattribute__» ⟨[.ref a, .str "keys" tk], []⟩) Q E ⟨h, g, d, t, os⟩ := by
  have hT : (⟨h, g, d, t, os⟩ : Shared).TypeIs (.ref a) "tuple" := ⟨_, hx, rfl⟩
  have f4 := lk_tuple_keys
  unfold Builtin.«object.__getattribute__»
  repeat (any_goals (first | assumption | wp_step))
  have hmsg : ¬ (Str.ofString (toString "'" ++ toString ((Manifest.find? "tuple").elim "tuple" fun x => x.tpName) ++ toString "' object has no attribute '") ++ Str.ofString "keys" ++ Str.ofString "'").length > sizeLine := by decide +kernel
  generalize (Str.ofString (toString "'" ++ toString ((Manifest.find? "tuple").elim "tuple" fun x => x.tpName) ++ toString "' object has no attribute '") ++ Str.ofString "keys" ++ Str.ofString "'") = msg at hmsg ⊢
  unfold raiseAttrError
  refine wpAny_bind ?_
  unfold mkStr
  rw [if_neg hmsg]
  repeat (any_goals (first | assumption | wp_step))
  show wpAny _ _ (isSubtype (.type "AttributeError") (.type "AttributeError")) _ _ _
  rw [sub_attr]
  generalize (if ((Manifest.find? "AttributeError").elim false fun t => t.mro.contains "StopIteration" || t.mro.contains "SystemExit") = true then [Value.str msg t].headD Value.none else Value.none) = fm
  refine wpAny_pure ?_
  simp only [Bool.not_true, Bool.false_eq_true, if_false]
  have hoE : ((h.push { cls := Value.type "tuple", data := Data.seq #[Value.str msg t] }).push { cls := Value.type "AttributeError", data := Data.fields (#[Value.ref h.objs.size, Value.none, Value.none, Value.none, Value.bool false, fm] ++ ownMembersOf (Value.type "AttributeError") [Value.str msg t]) }).get? (h.push { cls := Value.type "tuple", data := Data.seq #[Value.str msg t] }).objs.size = some { cls := Value.type "AttributeError", data := Data.fields (#[Value.ref h.objs.size, Value.none, Value.none, Value.none, Value.bool false, fm] ++ ownMembersOf (Value.type "AttributeError") [Value.str msg t]) } := Heap.get?_push_size _ rfl
  have e6 : (#[Value.ref h.objs.size, Value.none, Value.none, Value.none, Value.bool false, fm] ++ ownMembersOf (Value.type "AttributeError") [Value.str msg t])[6]? = some (.int 0 0) := rfl
  have e7 : (#[Value.ref h.objs.size, Value.none, Value.none, Value.none, Value.bool false, fm] ++ ownMembersOf (Value.type "AttributeError") [Value.str msg t])[7]? = some (.int 0 0) := rfl
  have old : ∀ b o, h.get? b = some o → ((h.push { cls := Value.type "tuple", data := Data.seq #[Value.str msg t] }).push { cls := Value.type "AttributeError", data := Data.fields (#[Value.ref h.objs.size, Value.none, Value.none, Value.none, Value.bool false, fm] ++ ownMembersOf (Value.type "AttributeError") [Value.str msg t]) }).get? b = some o ∧ b < (h.push { cls := Value.type "tuple", data := Data.seq #[Value.str msg t] }).objs.size := fun b o e =>
    ⟨Heap.get?_push_of_some _ (Heap.get?_push_of_some _ e), by rw [Heap.size_push]; exact Nat.lt_succ_of_lt (Heap.lt_size e)⟩
  generalize (h.push { cls := Value.type "tuple", data := Data.seq #[Value.str msg t] }).objs.size = ea at *
  generalize ((h.push { cls := Value.type "tuple", data := Data.seq #[Value.str msg t] }).push { cls := Value.type "AttributeError", data := Data.fields (#[Value.ref h.objs.size, Value.none, Value.none, Value.none, Value.bool false, fm] ++ ownMembersOf (Value.type "AttributeError") [Value.str msg t]) }) = h2 at *
  generalize hvs : #[Value.ref h.objs.size, Value.none, Value.none, Value.none, Value.bool false, fm] ++ ownMembersOf (Value.type "AttributeError") [Value.str msg t] = vs at *
  refine wpAny_bind (wpAny_load hoE ?_)
  dsimp only
  rw [e6, e7]
  simp only [Bool.or_self, Bool.false_eq_true, if_false]
  rw [if_neg (by decide)]
  refine wpAny_pure ?_
  simp only [if_true]
  have hT2 : (⟨h2, g, d, t + 1 + 1, os⟩ : Shared).TypeIs (.ref ea) "AttributeError" := ⟨_, hoE, rfl⟩
  refine wpAny_bind (wpAny_rule ?_)
  refine wpAny_bind (wpAny_typeOf hT2 ?_)
  dsimp only
  unfold layMembers
  refine wpAny_bind (wpAny_load hoE ?_)
  dsimp only
  refine wpAny_update hoE ?_
  unfold raiseNew
  refine wpAny_bind (wpAny_handled ?_)
  rw [hh]
  show wpAny _ _ (throw (Value.ref ea)) _ _ _
  have hup := Heap.get?_update_self (Obj.mapFields fun vs => vs.extract 0 6 ++ #[Value.str (Str.ofString "keys") (t + 1), Value.ref a]) hoE (Obj.isFreed_of_fields (Obj.data_mapFields rfl _))
  refine wpAny_throw (hE ea _ _ (fun b o e => ?_) ⟨_, hup, Obj.cls_mapFields ..⟩)
  have := old b o e
  exact (Heap.get?_update_other _ _ (Nat.ne_of_gt this.2)).trans this.1
theorem keysT_by {tk : Tok} {Q : Value → Shared → Prop} (hx : h.get? a = some (⟨.type "tuple", none, .seq its n, sl⟩)) (hh : A.handled = none)
   (hE : ∀ e h' t', (∀ b o, h.get? b = some o → h'.get? b = some o) → (∃ o, h'.get? e = some o ∧ o.cls = .type "AttributeError") → E (.ref e) ⟨h', g, d, t', os⟩) :
    wpAny (model prog w) A (getAttrBy (.ref a) (.str "keys" tk) false) Q E ⟨h, g, d, t, os⟩ := by
  have hT : (⟨h, g, d, t, os⟩ : Shared).TypeIs (.ref a) "tuple" := ⟨_, hx, rfl⟩
  have f2 := F.slot_tuple_getattribute.lookup
  have f3 := F.slot_tuple_getattribute.bind (.ref a)
  repeat (any_goals (first | assumption | wp_step))
  refine codeAny_call_builtin F.slot_tuple_getattribute.plain F.entry_tuple_ga (F.slot_tuple_getattribute.check _ _ _ _ _ _ _ _ hT (F.args_tuple_getattribute_2 _ _) (keysT_entry hx (by simp [hh]) fun e h' t' k ho => ?_))
  have hTe : (⟨h', g, d, t', os⟩ : Shared).TypeIs (.ref e) "AttributeError" := ho
  show wpAny _ _ (getattributeRaised _ _ _ _ _ _ _) _ _ _
  unfold getattributeRaised
  refine wpAny_bind (wpAny_isInstance hTe sub_attr ?_)
  simp only [if_true]
  unfold hookBehind onTheHeap
  simp only [Bool.false_eq_true, if_false]
  rw [lk_tuple_hook]
  refine wpAny_bind (wpAny_pure ?_)
  unfold hookOrError attributeErrorLeaves
  simp only [Bool.not_false, if_true]
  exact wpAny_bind (wpAny_throw (hE e h' t' k ho))
theorem keysT_none {Q : Option Value → Shared → Prop} {s : Shared} (hx : s.heap.get? a = some (⟨.type "tuple", none, .seq its n, sl⟩)) (hh : A.handled = none)
    (hQ : ∀ h' t', (∀ b o, s.heap.get? b = some o → h'.get? b = some o) → Q none { s with heap := h', toks := t' }) : wpAny (model prog w) A (getAttr? (.ref a) "keys") Q E s := by
  obtain ⟨h, g, d, t, os⟩ := s
  unfold getAttr? getAttrBy? mkText
  refine wpAny_bind (wpAny_bind (wpAny_fresh (wpAny_pure ?_)))
  refine wpAny_bind (wpAny_attempt (keysT_by hx hh fun e h' t' k ho => ?_))
  have hTe : (⟨h', g, d, t', os⟩ : Shared).TypeIs (.ref e) "AttributeError" := ho
  refine wpAny_bind (wpAny_isInstance hTe sub_attr ?_)
  simp only [if_true]
  exact wpAny_pure (hQ h' t' k)
end
section
variable {prog : Program} {w : World} {A : Around} {E : Value → Shared → Prop} {s : Shared} {K : Type} [DecidableEq K] {knd : KeyKind prog w K}
theorem call_dictT {l : Addr} {items : Array Value} {nl : Nat} {sl : Array (Option Value)} {ks : Nat → K} {vs : Nat → Value} {Q : Value → Shared → Prop} (hh : A.handled = none) (hl : s.heap.get? l = some (⟨.type "tuple", none, .seq items nl, sl⟩)) (hn : items.size ≤ sizeLine)
    (ht : ∀ (j : Nat) v, items[j]? = some v → ∃ q uk np oq, v = .ref q ∧ s.heap.get? q = some oq ∧ oq.cls = .type "tuple" ∧ oq.data = .seq #[uk, vs j] np ∧ knd.is (ks j) uk = true)
    (h : ∀ h' tk, h'.DictOf knd s.heap.objs.size (stTo ks vs items.size) → (∀ b o, b < s.heap.objs.size → s.heap.get? b = some o → h'.get? b = some o) → Q (.ref s.heap.objs.size) { s with heap := h', toks := tk }) :
    wpAny (model prog w) A (call (.type "dict") [.ref l]) Q E s := by
  refine callType_codes (Q₁ := fun obj s₁ => obj = .ref s.heap.objs.size ∧ s₁ = { s with heap := s.heap.push { cls := .type "dict", data := .dict #[] } }) F.kt_called_dict (F.kt_typeCall_dict_1 _) F.entry_dict_init (kt_code_dict_new _ ⟨rfl, rfl⟩) ?_
  rintro obj s₁ ⟨rfl, rfl⟩
  have hnew : (s.heap.push { cls := .type "dict", data := .dict #[] }).DictOf knd s.heap.objs.size [] := Heap.DictOf.new s.heap
  have hl' : (s.heap.push { cls := .type "dict", data := .dict #[] }).get? l = some (⟨.type "tuple", none, .seq items nl, sl⟩) := Heap.get?_push_of_some _ hl
  have hT : Shared.TypeIs { s with heap := s.heap.push { cls := .type "dict", data := .dict #[] } } (.ref l) "tuple" := ⟨_, hl', rfl⟩
  refine ⟨hnew.typeIs, F.args_dict_init_2 _ _, ?_⟩
  unfold Builtin.«dict.__init__»
  refine wpAny_bind ?_
  unfold Builtin.Dict.selfAndRest
  refine wpAny_bind (wpAny_notOrdered_dict hnew.typeIs ?_)
  show wpAny _ _ (pure (s.heap.objs.size, [Value.ref l])) _ _ _
  refine wpAny_pure ?_
  show wpAny _ _ (Builtin.Dict.updateFrom "dict.__init__" s.heap.objs.size (.ref l) [] .none) _ _ _
  unfold Builtin.Dict.updateFrom
  refine wpAny_bind (wpAny_typeOf hT ?_)
  rw [if_pos (by decide)]
  refine wpAny_bind (keysT_none (s := { s with heap := s.heap.push { cls := .type "dict", data := .dict #[] } }) hl' (by simp [hh]) fun h1 t1 hk1 => ?_)
  simp only [Option.isNone_none, if_true]
  refine wpAny_bind (wpAny_rule ?_)
  have hl1 : h1.get? l = some (⟨.type "tuple", none, .seq items nl, sl⟩) := hk1 _ _ hl'
  have hL1 : h1.IsTuple l items := ⟨_, hl1, rfl, nl, rfl⟩
  have hlS : l < s.heap.objs.size := Heap.lt_size hl
  have hbig : s.heap.objs.size < h1.objs.size := by
    obtain ⟨o, es, ep, ho, _⟩ := hnew
    exact Heap.lt_size (hk1 _ _ ho)
  refine wpAny_bind (wpAny_pyIter_tuple (s := { s with heap := h1, toks := t1 }) hL1 ?_)
  have hneI : l ≠ h1.objs.size := Nat.ne_of_lt (Nat.lt_trans hlS hbig)
  refine wpAny_pure ⟨plainId_quiet plain_dict_update_loop _, ?_⟩
  refine dict_loop (knd := knd) (n := items.size) ((Walks.tuple (A := A.in1.in1) (by simp [hh]) h1.objs.size l hneI items).toS) s.heap.objs.size ?_ ks vs hn items.size 0 _ rfl (Nat.zero_le _)
    ⟨⟨_, Heap.get?_push_size _ rfl, rfl, rfl⟩, hL1.push _⟩ ?_ ?_ ?_
  · simp only [List.mem_cons, List.not_mem_nil, or_false, not_or]
    exact ⟨Nat.ne_of_lt hbig, Nat.ne_of_gt hlS⟩
  · obtain ⟨o, es, ep, ho, r⟩ := hnew
    exact ⟨o, es, ep, Heap.get?_push_of_some _ (hk1 _ _ ho), r⟩
  · intro j v hv
    obtain ⟨q, uk, np, oq, rfl, a1, a2⟩ := ht j v hv
    have hqS : q < s.heap.objs.size := Heap.lt_size a1
    refine ⟨q, uk, np, oq, rfl, Nat.ne_of_lt hqS, ?_, Heap.get?_push_of_some _ (hk1 _ _ (Heap.get?_push_of_some _ a1)), a2⟩
    simp only [List.mem_singleton]
    exact Nat.ne_of_lt (Nat.lt_trans hqS hbig)
  · intro s' hm hd
    obtain ⟨h', g', d', tk', os'⟩ := s'
    have eg : g' = s.gens := hm.gens
    have ed : d' = s.drawn := hm.drawn
    have eo : os' = s.os := hm.os
    subst eg; subst ed; subst eo
    refine ⟨rfl, h h' tk' hd fun b o hb e => ?_⟩
    refine hm.heap b o ?_ (Heap.get?_push_of_some _ (hk1 _ _ (Heap.get?_push_of_some _ e)))
    simp only [List.mem_cons, List.not_mem_nil, or_false, not_or]
    exact ⟨Nat.ne_of_lt hb, Nat.ne_of_lt (Nat.lt_trans hb hbig)⟩
end
section
variable {X : Cx}
theorem call_dictPT (hcalm : X.calm = true) : CallR X (.type "dict") (fun xs H Q => ∃ (a : Addr) (ps : List (Key × V)) (qs : List V), xs = [.ref a] ∧ H a = some (.tup qs) ∧ PairsV H ps qs ∧ ∀ p, H p = none → Q (.ref p) (upd H p (.dK (putAll ps)))) := by
  intro pins s σ H xs us Q I r h
  obtain ⟨a, ps, qs, rfl, ha, hp, q⟩ := h
  obtain ⟨u, rfl, ru⟩ := vals1 r
  cases ru
  obtain ⟨hz, its, rv, ⟨ol, hl, hlc, nl, hld⟩, ol2, hl2, hdn⟩ := (show ObjOk X.prog X.w H s.heap a (.tup qs) from I.hok a _ ha)
  have hh := I.ok.hd hcalm
  rw [hl] at hl2
  cases hl2
  obtain ⟨lc, ldc, ld, lsl⟩ := ol
  cases hlc; cases hld; cases hdn
  have hlen : its.length = ps.length := by rw [← rv.length, hp.length]
  have hpair : ∀ (j : Nat) v, its.toArray[j]? = some v → ∃ q uk uv np oq, v = .ref q ∧ s.heap.get? q = some oq ∧ oq.cls = .type "tuple" ∧ oq.data = .seq #[uk, uv] np ∧ ∃ p, ps[j]? = some p ∧ RelV (kV p.1) uk ∧ RelV p.2 uv := fun j v hv => by
    have hv' : its[j]? = some v := by simpa using hv
    obtain ⟨y, hy, ry⟩ := Paired.at rv j v hv'
    obtain ⟨p, hpj, q, rfl, hq⟩ := Paired.at hp j y hy
    cases ry
    obtain ⟨_, ts, rt, ht⟩ := (show ObjOk X.prog X.w H s.heap q (.tup [kV p.1, p.2]) from I.hok q _ hq)
    obtain ⟨uk, uv, rfl, r1, r2⟩ := vals2 rt
    obtain ⟨oq, ho, hc, n, hd⟩ := ht.1
    exact ⟨q, uk, uv, n, oq, rfl, ho, hc, hd, p, hpj, r1, r2⟩
  obtain ⟨vs, hvs⟩ : ∃ vs : Nat → Value, ∀ (j : Nat) v, its.toArray[j]? = some v → ∃ q uk np oq, v = .ref q ∧ s.heap.get? q = some oq ∧ oq.cls = .type "tuple" ∧ oq.data = .seq #[uk, vs j] np ∧ ∃ p, ps[j]? = some p ∧ RelV (kV p.1) uk ∧ RelV p.2 (vs j) := by
    refine ⟨fun j => if h : j < its.length then (hpair j its[j] (by simp [h])).choose_spec.choose_spec.choose else .none, fun j v hv => ?_⟩
    have hv' : its[j]? = some v := by simpa using hv
    obtain ⟨hj, rfl⟩ := List.getElem?_eq_some_iff.mp hv'
    dsimp only
    rw [dif_pos hj]
    have z := (hpair j its[j] (by simp [hj]))
    exact ⟨z.choose, z.choose_spec.choose, z.choose_spec.choose_spec.choose_spec⟩
  refine call_dictT (knd := mixKind X.prog X.w) (ks := fun j => (ps.getD j (.inl 0, .non)).1) (vs := vs) hh hl (by simpa [← rv.length] using hz) (fun j v hv => ?_) fun h' tk hd hk => ?_
  · obtain ⟨q, uk, np, oq, e1, e2, e3, e4, p, hpj, r1, r2⟩ := hvs j v hv
    refine ⟨q, uk, np, oq, e1, e2, e3, e4, kV_is ?_⟩
    rw [List.getD_eq_getElem?_getD, hpj]
    exact r1
  have kv : ∀ i, i ≤ ps.length → KV ((ps.take i).foldl (fun c z => putK c z.1 z.2) []) (stTo (fun j => (ps.getD j (.inl 0, .non)).1) vs i) := by
    intro i
    induction i with
    | zero => intro _; exact .nil
    | succ i ih =>
      intro hi
      have hlt : i < its.length := by omega
      obtain ⟨q, uk, np, oq, e1, e2, e3, e4, p, hpj, r1, r2⟩ := hvs i its[i] (by simp [hlt])
      rw [List.take_add_one, hpj, Option.toList_some, List.foldl_append]
      show KV (putK _ p.1 p.2) (stored _ (ps.getD i (.inl 0, .non)).1 _)
      have ek : (ps.getD i (.inl 0, .non)).1 = p.1 := by rw [List.getD_eq_getElem?_getD, hpj]; rfl
      rw [ek]
      exact (ih (by omega)).put p.1 r2
  have kvn := kv ps.length (Nat.le_refl _)
  rw [List.take_length] at kvn
  have hsz : its.toArray.size = ps.length := by simp [hlen]
  rw [hsz] at hd
  have hpl : ps.length ≤ sizeLine := by rw [hp.length]; exact hz
  have zl : (putAll ps).length ≤ sizeLine := by
    have := kvn.length
    have l2 := stTo_len (fun j => (ps.getD j (.inl 0, .non)).1) vs ps.length
    unfold putAll
    omega
  exact ⟨.ref s.heap.objs.size, _, I.laid (a := s.heap.objs.size) (o := .dK (putAll ps)) (t' := tk) (fun b u e => hk b u (Heap.lt_size e) e) (Nat.le_refl _) (dk_new zl (beq_eq_false_iff_ne.mpr (Ne.symm (Nat.ne_of_lt I.big))) kvn hd), rfl, q _ (I.hok.fresh (Nat.le_refl _))⟩
end
end L2
namespace L2
open PySem PySem.Spec PyProof.Rows
def cutS (x : Str) (lo hi : Option Int) : Str := ⟨((x.cps.toList.drop (HT.sIx x.cps.toList.length 0 lo)).take (HT.sIx x.cps.toList.length x.cps.toList.length hi - HT.sIx x.cps.toList.length 0 lo)).toArray⟩
theorem cutS_len (x : Str) (lo hi : Option Int) : (cutS x lo hi).length ≤ x.length := by
  unfold cutS Str.length
  simp only [List.size_toArray, List.length_take, List.length_drop, Array.length_toList]
  omega
theorem strPick_cut (x : Str) (lo hi : Option Int) : ((Builtin.Str.strSliceIndices lo hi 1 x.length).filterMap (x.cps[·]?)).toArray = (cutS x lo hi).cps := by
  obtain ⟨h1, h2, h3⟩ := slice_bounds lo hi x.length
  have e : Builtin.Str.strSliceIndices lo hi 1 x.length = sliceRange (sliceBounds lo hi none x.length).1 (sliceBounds lo hi none x.length).2.1 (sliceBounds lo hi none x.length).2.2 := rfl
  have el : x.cps.toList.length = x.length := by simp [Str.length]
  rw [e, h1, h2, h3, sliceRange_one, pick_run]
  unfold cutS
  rw [el]
theorem cutS_whole {x : Str} {lo hi : Option Int} (h : (Builtin.Str.strSliceIndices lo hi 1 x.length).length = x.length) : cutS x lo hi = x := by
  obtain ⟨h1, h2, h3⟩ := slice_bounds lo hi x.length
  have e : Builtin.Str.strSliceIndices lo hi 1 x.length = sliceRange (sliceBounds lo hi none x.length).1 (sliceBounds lo hi none x.length).2.1 (sliceBounds lo hi none x.length).2.2 := rfl
  have el : x.cps.toList.length = x.length := by simp [Str.length]
  rw [e, h1, h2, h3, sliceRange_one, List.length_map, List.length_range] at h
  unfold cutS
  rw [el]
  have hb : HT.sIx x.length x.length hi ≤ x.length := by
    unfold HT.sIx
    cases hi with
    | none => exact Nat.le_refl _
    | some i => dsimp only; split <;> omega
  obtain ⟨cps⟩ := x
  congr 1
  have e0 : ∀ (n a b : Nat), b ≤ n → b - a = n → n = 0 ∨ a = 0 := by omega
  rcases e0 _ _ _ hb h with z | z
  · have : cps.toList = [] := by
      rw [← List.length_eq_zero_iff]; rw [Array.length_toList]; exact z
    simp [this]
    have : cps = #[] := by apply Array.toList_inj.mp; simpa using this
    rw [this]
  · rw [h, z, List.drop_zero, List.take_of_length_le (by rw [Array.length_toList]; exact Nat.le_refl _)]
section
variable {X : Cx}
def rSlS : V → Option Int → Option Int → Hp → VK → Prop := fun x lo hi H Q => ∃ z : Str, x = .str z ∧ z.length ≤ sizeLine ∧ Q (.str (cutS z lo hi)) H
theorem isPart_val {v : Value} {o : Option Int} (h : IsPart v o) : ∃ l : Option (Int × Tok), v = partValue l ∧ l.map (·.1) = o := by
  cases h with
  | none => exact ⟨none, rfl, rfl⟩
  | int i t => exact ⟨some (i, t), rfl, rfl⟩
theorem sl_str : SlR X rSlS := by
  intro pins s σ H x v vl vu lo hi sl Q I rx hs pl pu h
  obtain ⟨z, rfl, hz, q⟩ := h
  obtain ⟨t, rfl⟩ := rx
  obtain ⟨l, rfl, rfl⟩ := isPart_val pl
  obtain ⟨u, rfl, rfl⟩ := isPart_val pu
  refine ⟨"str", _, slot_str_getitem.lookup, typeIs_str s z t, ?_⟩
  refine wpAny_getItem_str_slice (l := l) (u := u) (st := none) hs rfl ?_
  unfold sliceMade
  by_cases hc : (((none : Option (Int × Tok)).map (·.1)).getD 1 == 1 && (slicePicked z l u none).length == z.length) = true
  · rw [if_pos hc]
    have e : cutS z (l.map (·.1)) (u.map (·.1)) = z := by
      refine cutS_whole ?_
      rw [Bool.and_eq_true] at hc
      exact eq_of_beq hc.2
    rw [e] at q
    exact ⟨.str z, H, I, ⟨_, rfl⟩, q⟩
  · rw [if_neg hc]
    have e : (⟨((slicePicked z l u none).filterMap (z.cps[·]?)).toArray⟩ : Str) = cutS z (l.map (·.1)) (u.map (·.1)) := by
      have := strPick_cut z (l.map (·.1)) (u.map (·.1))
      unfold slicePicked
      rw [show ((none : Option (Int × Tok)).map (·.1)).getD 1 = (1 : Int) from rfl, this]
    rw [e]
    exact ⟨Nat.le_trans (cutS_len _ _ _) hz, .str _, H, I.tok _, ⟨_, rfl⟩, q⟩
end
end L2
namespace L2
open PySem PySem.Spec PyProof.Rows
theorem vals_at : ∀ {xs : List V} {vs : List Value}, xs.length = vs.length → (∀ (j : Nat) x v, xs[j]? = some x → vs[j]? = some v → RelV x v) → Vals xs vs
  | [], [], _, _ => .nil
  | [], _ :: _, h, _ => by cases h
  | _ :: _, [], h, _ => by cases h
  | x :: xs, v :: vs, h, r => .cons (r 0 x v rfl rfl) (vals_at (by simpa using h) fun j a b ha hb => r (j + 1) a b (by simpa using ha) (by simpa using hb))
theorem items_range {acc : Array Value} {n : Nat} (h : ItemsOf (fun i v => ∃ t, v = .int (0 + i * 1) t) acc n) : Vals ((List.range n).map fun i => V.int (i : Nat)) acc.toList := by
  refine vals_at (by rw [List.length_map, List.length_range, Array.length_toList]; exact h.1.symm) fun j x v hx hv => ?_
  obtain ⟨t, rfl⟩ := h.2 j v (by simpa using hv)
  rw [List.getElem?_map] at hx
  cases e : (List.range n)[j]? with
  | none => rw [e] at hx; cases hx
  | some k =>
    rw [e] at hx
    have hk : k = j := by
      have := List.getElem?_eq_some_iff.mp e
      obtain ⟨_, z⟩ := this
      simpa using z.symm
    subst hk
    cases hx
    exact ⟨t, by rw [Int.zero_add, Int.mul_one]⟩
section
variable {X : Cx} {tg : Expr}
theorem call_lrng (hcalm : X.calm = true) : Call2 X (.type "list") (.type "range") (fun x H Q => ∃ n : Nat, x = .int n ∧ n ≤ 1000000 ∧ ∀ p, H p = none → Q (.ref p) (upd H p (.lst ((List.range n).map fun i => V.int (i : Nat))))) := by
  intro pins s σ H x u Q I rx h
  obtain ⟨n, rfl, hn, q⟩ := h
  obtain ⟨t, rfl⟩ := rx
  refine call_range_1 ?_
  have hl : ((List.range n).map fun i => V.int (i : Nat)).length ≤ sizeLine := by rw [List.length_map, List.length_range]; exact Nat.le_trans hn (by decide)
  have hh := I.ok.hd hcalm
  refine call_list_range (n := n) hh (IsRange.new ..) ?_ ?_ (by omega) fun h' tk acc' c' kp e it => ?_
  · exact small_one (by decide) (by decide) (by omega) (by omega)
  · rw [rangeSize_one]; split <;> omega
  have I1 := I.kept (h' := s.heap.push { cls := .type "range", data := .fields #[.int 0 s.toks, .int (n : Int) t, .int 1 (s.toks + 1)] }) (t' := s.toks + 1 + 1) fun b o e => Heap.get?_push_of_some _ e
  exact ⟨.ref _, _, I1.laid (t' := tk) kp (Nat.le_refl _) (show ObjOk X.prog X.w _ h' _ (.lst ((List.range n).map fun i => V.int (i : Nat))) from ⟨hl, acc'.toList, c', items_range it, by simpa using e⟩), rfl, q _ (I1.hok.fresh (Nat.le_refl _))⟩
theorem pe_call2T {x y : Str} {id T : String} {r : V → Hp → VK → Prop} {e : Expr} {t : TE} {p p' pos pos' : Pos} (hc : Call2 X (.type id) (.type T) r)
    (hg : Gl X x) (hm : X.mg x = none) (hv : bootBuiltins x = some (.type id)) (hg' : Gl X y) (hm' : X.mg y = none) (hv' : bootBuiltins y = some (.type T)) (ha : PE X e t)
    (hn : x ≠ "__name__") (hdb : (x == ("__debug__" : Str)) = false) (hn' : y ≠ "__name__") (hdb' : (y == ("__debug__" : Str)) = false)
    (he : starEach [e] X.env = (false, eval e X.env) :: starEach [] X.env) :
    PE X (.Call (.Name x p) [.Call (.Name y p') [e] [] pos'] [] pos) (fun σ H Q => t σ H fun v H1 => r v H1 Q) := by
  intro pins s σ H Q I h
  refine wpAny_Call_Name_kw (ld_blt I hg hm hv ?_ hn hdb)
  refine PyProof.Rows.callWith_type1 ?_ rfl rfl
  show wpAny _ _ (spliced ((false, eval (.Call (.Name y p') [e] [] pos') X.env) :: backTo pos (starEach [] X.env))) _ _ s
  refine Calls.spliced_cons ?_
  refine wpAny_Call_Name_kw (ld_blt I hg' hm' hv' ?_ hn' hdb')
  refine PyProof.Rows.callWith_type1 ?_ he rfl
  rw [he]
  show wpAny _ _ (spliced ((false, eval e X.env) :: backTo pos' (starEach [] X.env))) _ _ s
  refine Calls.spliced_cons (thn (ha pins s σ H _ I h) fun u s1 ⟨v, H1, I1, r1, q1⟩ => ?_)
  refine Calls.spliced_nil ?_
  exact thn (hc pins s1 σ H1 v u Q I1 r1 q1) fun u2 s2 q2 => Calls.spliced_nil q2
def Itrs (lo st : Int) (n : Nat) : It := ⟨fun i _ => i < n, fun i H x H' => H' = H ∧ x = .int (lo + i * st), fun i _ => n ≤ i⟩
theorem turn_rangeS {P : Program} {w : World} {K : PySem.W.Frag} {tg : Expr} (it : Addr) (lo sp : Int) (n : Nat) : Turn P w K tg (Itrs lo sp n) [it] it (fun i h => IsRangeIter h it (lo + (i : Nat) * sp) ((n : Int) - (i : Nat)) sp) where
  mem := by simp
  obj := fun i h st b hb => by
    have e : b = it := by simpa using hb
    subst e
    exact ⟨_, st, fun v z => by
      have z' : Data.fields _ = Data.cell v := z
      cases z'⟩
  keep := fun i h h' st k => k it (by simp) _ st
  item := by
    intro X hP hw hK hc i pins s σ H E I hf st hg
    subst hP hw hK
    obtain ⟨f0, f1, f2, f3, f4, f5⟩ := hf it (by simp)
    have W := Walks.range (prog := X.prog) (w := X.w) (I.ok.hd hc) it lo sp n
    refine W.item i s _ _ hg st fun v h' tk hv st' kk => ?_
    obtain ⟨t, rfl⟩ := hv
    have I1 : Inv X pins σ H { s with heap := h', toks := tk } := I.turned (fun b o hb e => kk b o (by simpa using hb) e) f0 f1 f3 f4 f5
    exact ⟨_, rfl, go_of (s := { s with heap := h', toks := tk }) (n := "range_iterator") st' rfl rfl (by decide) ⟨.int (lo + i * sp), H, I1, ⟨t, rfl⟩, ⟨rfl, rfl⟩, st', fun b hb => (hf b hb).1⟩⟩
  done := by
    intro X hP hw hK hc i pins s σ H E I hf st hg
    subst hP hw hK
    obtain ⟨f0, f1, f2, f3, f4, f5⟩ := hf it (by simp)
    exact wpAny_pyNext_range_end (I.ok.hd hc) st (by have : n ≤ i := hg; omega) fun h' eb => ⟨rfl, I.turned (t' := s.toks) (fun b o hb e => eb b o hb e) f0 f1 f3 f4 f5⟩
  self := fun _ _ _ _ _ st h => wpAny_pyIter_rangeiter st h
def len2 (lo hi : Int) : Nat := (Builtin.Range.rangeSize lo hi 2).toNat
theorem size2 (lo hi : Int) : ((len2 lo hi : Nat) : Int) = Builtin.Range.rangeSize lo hi 2 := by
  unfold len2 Builtin.Range.rangeSize
  simp only [show (2 : Int) > 0 by decide, if_true]
  split <;> omega
theorem small_two {a b : Int} (ha : 0 ≤ a) (ha' : a < 2 ^ 60) (hb : 0 ≤ b) (hb' : b < 2 ^ 60) : Builtin.Range.small a b 2 = true := by
  unfold Builtin.Range.small Builtin.Range.rangeSize
  simp only [Builtin.Range.rangeFitsLong, Bool.and_eq_true, Bool.or_eq_true, decide_eq_true_eq, beq_iff_eq, show (2 : Int) > 0 by decide, if_true]
  split <;> omega
theorem range_it2 {pins : List (Addr × Obj)} {σ : St} {H : Hp} {s : Shared} {R : It → Hp → Prop} {E : Value → Shared → Prop} {lo hi : Int} {t u v : Tok} {tk : Nat} (I : Inv X pins σ H s) (h1 : 0 ≤ lo) (h2 : lo < 2 ^ 60) (h3 : 0 ≤ hi) (h4 : hi < 2 ^ 60)
    (q : R (Itrs lo 2 (len2 lo hi)) H) : wpAny (model X.prog X.w) X.A (pyIter (.ref s.heap.objs.size)) (PIE X pins σ tg R) E { s with heap := s.heap.push { cls := .type "range", data := .fields #[.int lo t, .int hi u, .int 2 v] }, toks := tk } := by
  refine wpAny_pyIter_range (IsRange.new ..) (small_two h1 h2 h3 h4) ?_
  have I1 : Inv X pins σ H { s with heap := s.heap.push { cls := .type "range", data := .fields #[.int lo t, .int hi u, .int 2 v] }, toks := tk } := I.kept fun b o e => Heap.get?_push_of_some _ e
  refine ⟨(s.heap.push { cls := .type "range", data := .fields #[.int lo t, .int hi u, .int 2 v] }).objs.size, [(s.heap.push { cls := .type "range", data := .fields #[.int lo t, .int hi u, .int 2 v] }).objs.size], _, _, H, rfl,
    I1.kept (t' := tk) fun b o e => Heap.get?_push_of_some _ e, turn_rangeS _ lo 2 (len2 lo hi), ?_, fun b hb => ?_, q⟩
  · have e1 : lo + ((0 : Nat) : Int) * 2 = lo := by simp
    have e2 : ((len2 lo hi : Nat) : Int) - ((0 : Nat) : Int) = Builtin.Range.rangeSize lo hi 2 := by rw [size2]; simp
    show IsRangeIter _ _ (lo + ((0 : Nat) : Int) * 2) (((len2 lo hi : Nat) : Int) - ((0 : Nat) : Int)) 2
    rw [e1, e2]
    exact Heap.get?_push_size _ rfl
  · have e : b = (s.heap.push { cls := .type "range", data := .fields #[.int lo t, .int hi u, .int 2 v] }).objs.size := by simpa using hb
    subst e
    exact I1.fpOk (Nat.le_refl _) (I1.hok.fresh (Nat.le_refl _))
def iRng3 (ta : TA) : TI := fun σ H R => ta σ H fun vs H1 => ∃ i j : Int, vs = [.int i, .int j, .int 2] ∧ (0 ≤ i ∧ i < 2 ^ 60 ∧ 0 ≤ j ∧ j < 2 ^ 60) ∧ R (Itrs i 2 (len2 i j)) H1
theorem pi_range3 {a b c : Expr} {ta : TA} {p pos : Pos} (hg : Gl X "range") (hm : X.mg "range" = none) (ha : PA X [a, b, c] ta) (hs : starEach [a, b, c] X.env = [(false, eval a X.env), (false, eval b X.env), (false, eval c X.env)] := by rfl) (hs2 : starEach [b, c] X.env = [(false, eval b X.env), (false, eval c X.env)] := by rfl) :
    PI X tg (.Call (.Name "range" p) [a, b, c] [] pos) (iRng3 ta) := by
  intro pins s σ H R I h
  refine Call_ (ld_blt I hg hm boot_range (PyProof.Rows.callWith_type1 (thn (ha pos pins s σ H _ I h) fun us s1 ⟨vs, H1, I1, r1, q1⟩ => ?_) (by rw [hs, hs2]) (by rw [hs2]; rfl)))
  obtain ⟨i, j, e, ⟨q1, q2, q3, q4⟩, q⟩ := q1
  subst e
  cases r1 with
  | cons r rr =>
    cases rr with
    | cons r' rr =>
      cases rr with
      | cons r'' rr =>
        cases rr
        obtain ⟨t, rfl⟩ := r
        obtain ⟨t', rfl⟩ := r'
        obtain ⟨t'', rfl⟩ := r''
        exact call_range_3 (by decide) (range_it2 (tk := s1.toks) I1 q1 q2 q3 q4 q) (.inl (PyProof.noPylong_small (by decide)))
end
end L2
namespace L2
open PySem PySem.Spec PyProof.Rows
inductive Ty7 where | int | bool | str | list | tuple | dict | none
  deriving DecidableEq
def Ty7.name : Ty7 → String
  | .int => "int" | .bool => "bool" | .str => "str" | .list => "list" | .tuple => "tuple" | .dict => "dict" | .none => "NoneType"
inductive MV where
  | non | bl (b : Bool) | int (i : Int) | str (x : Str) | tup (xs : List MV) | frl (xs : List MV) | ref (a : Addr) | ty (n : Ty7)
def isFix : HO → Bool
  | .tup _ => true
  | .frz _ (.lst _) => true
  | _ => false
def Kp (H H' : Hp) : Prop := ∀ a o, H a = some o → isFix o = true → H' a = some o
theorem Kp.refl (H : Hp) : Kp H H := fun _ _ h _ => h
theorem Kp.trans {H H1 H2 : Hp} (a : Kp H H1) (b : Kp H1 H2) : Kp H H2 := fun c o h f => b c o (a c o h f) f
theorem Kp.new {H : Hp} {p : Addr} (h : H p = none) (o : HO) : Kp H (upd H p o) := fun a u e _ => by rw [upd_ne (ne_of_none e h)]; exact e
theorem Kp.upd {H : Hp} {p : Addr} {o : HO} (h : H p = some o) (f : isFix o = false) (o' : HO) : Kp H (upd H p o') := fun a u e g => by
  rw [upd_ne (ne_of e h (by intro z; rw [z, f] at g; cases g))]; exact e
def FrL (K : PySem.W.Frag) (H : Hp) (a : Addr) (vs : List V) : Prop := (∃ o, H a = some (.frz o (.lst vs))) ∨
  ∃ (o : Obj) (its : Array Value) (n : Nat), K.lookup a = some o ∧ o.cls = .type "list" ∧ o.dict = none ∧ o.data = .seq its n ∧ its.size ≤ sizeLine ∧ Vals vs its.toList
theorem FrL.sq {K : PySem.W.Frag} {H : Hp} {a : Addr} {vs : List V} (h : FrL K H a vs) : SqL K H a vs := by
  rcases h with ⟨o, h⟩ | h
  · exact .inl (.inr ⟨o, h⟩)
  · exact .inr h
mutual
inductive RM (K : PySem.W.Frag) (H : Hp) : MV → V → Prop
  | non : RM K H .non .non
  | bl (b : Bool) : RM K H (.bl b) (.bl b)
  | int (i : Int) : RM K H (.int i) (.int i)
  | str (x : Str) : RM K H (.str x) (.str x)
  | ref (a : Addr) : RM K H (.ref a) (.ref a)
  | ty (n : Ty7) : RM K H (.ty n) (.ty n.name)
  | tup {a : Addr} {xs : List MV} {vs : List V} : H a = some (.tup vs) → RMs K H xs vs → RM K H (.tup xs) (.ref a)
  | frl {a : Addr} {xs : List MV} {vs : List V} : FrL K H a vs → RMs K H xs vs → RM K H (.frl xs) (.ref a)
inductive RMs (K : PySem.W.Frag) (H : Hp) : List MV → List V → Prop
  | nil : RMs K H [] []
  | cons {x : MV} {v : V} {xs : List MV} {vs : List V} : RM K H x v → RMs K H xs vs → RMs K H (x :: xs) (v :: vs)
end
mutual
theorem RM.mono {K : PySem.W.Frag} {H H' : Hp} (k : Kp H H') : ∀ {m : MV} {v : V}, RM K H m v → RM K H' m v
  | _, _, .non => .non
  | _, _, .bl b => .bl b
  | _, _, .int i => .int i
  | _, _, .str x => .str x
  | _, _, .ref a => .ref a
  | _, _, .ty n => .ty n
  | _, _, .tup h r => .tup (k _ _ h rfl) (RMs.mono k r)
  | _, _, .frl h r => .frl (by
      rcases h with ⟨o, h⟩ | h
      · exact .inl ⟨o, k _ _ h rfl⟩
      · exact .inr h) (RMs.mono k r)
theorem RMs.mono {K : PySem.W.Frag} {H H' : Hp} (k : Kp H H') : ∀ {m : List MV} {v : List V}, RMs K H m v → RMs K H' m v
  | _, _, .nil => .nil
  | _, _, .cons a b => .cons (RM.mono k a) (RMs.mono k b)
end
theorem RMs.length {K : PySem.W.Frag} {H : Hp} : ∀ {m : List MV} {v : List V}, RMs K H m v → m.length = v.length
  | _, _, .nil => rfl
  | _, _, .cons _ b => by rw [List.length_cons, List.length_cons, b.length]
theorem RMs.get {K : PySem.W.Frag} {H : Hp} : ∀ {m : List MV} {v : List V} {i : Nat} {x : MV}, RMs K H m v → m[i]? = some x → ∃ u, v[i]? = some u ∧ RM K H x u
  | _, _, _, _, .nil, e => by simp at e
  | _, _, 0, _, .cons r _, e => by simp at e; subst e; exact ⟨_, rfl, r⟩
  | _, _, i + 1, x, .cons _ t, e => by
    obtain ⟨u, h1, h2⟩ := RMs.get (i := i) (x := x) t (by simpa using e)
    exact ⟨u, by simpa using h1, h2⟩
theorem RMs.get' {K : PySem.W.Frag} {H : Hp} : ∀ {m : List MV} {v : List V} {i : Nat} {u : V}, RMs K H m v → v[i]? = some u → ∃ x, m[i]? = some x ∧ RM K H x u
  | _, _, _, _, .nil, e => by simp at e
  | _, _, 0, _, .cons r _, e => by simp at e; subst e; exact ⟨_, rfl, r⟩
  | _, _, i + 1, x, .cons _ t, e => by
    obtain ⟨u, h1, h2⟩ := RMs.get' (i := i) (u := x) t (by simpa using e)
    exact ⟨u, by simpa using h1, h2⟩
theorem RMs.append {K : PySem.W.Frag} {H : Hp} : ∀ {m m' : List MV} {v v' : List V}, RMs K H m v → RMs K H m' v' → RMs K H (m ++ m') (v ++ v')
  | _, _, _, _, .nil, s => s
  | _, _, _, _, .cons r t, s => .cons r (t.append s)
theorem RMs.take {K : PySem.W.Frag} {H : Hp} : ∀ {m : List MV} {v : List V} (n : Nat), RMs K H m v → RMs K H (m.take n) (v.take n)
  | _, _, 0, _ => .nil
  | _, _, _ + 1, .nil => .nil
  | _, _, n + 1, .cons r t => .cons r (t.take n)
theorem RMs.drop {K : PySem.W.Frag} {H : Hp} : ∀ {m : List MV} {v : List V} (n : Nat), RMs K H m v → RMs K H (m.drop n) (v.drop n)
  | _, _, 0, r => r
  | _, _, _ + 1, .nil => .nil
  | _, _, n + 1, .cons _ t => t.drop n
theorem RMs.set {K : PySem.W.Frag} {H : Hp} {x : MV} {u : V} (r : RM K H x u) : ∀ {m : List MV} {v : List V} (i : Nat), RMs K H m v → RMs K H (m.set i x) (v.set i u)
  | _, _, _, .nil => .nil
  | _, _, 0, .cons _ t => .cons r t
  | _, _, i + 1, .cons q t => .cons q (t.set r i)
theorem RMs.rev {K : PySem.W.Frag} {H : Hp} : ∀ {m : List MV} {v : List V}, RMs K H m v → RMs K H m.reverse v.reverse
  | _, _, .nil => .nil
  | _, _, .cons r t => by rw [List.reverse_cons, List.reverse_cons]; exact t.rev.append (.cons r .nil)
theorem RMs.ints {K : PySem.W.Frag} {H : Hp} : ∀ ns : List Int, RMs K H (ns.map MV.int) (ns.map V.int)
  | [] => .nil
  | n :: r => .cons (.int n) (RMs.ints r)
theorem RMs.ints_of {K : PySem.W.Frag} {H : Hp} : ∀ {ns : List Int} {vs : List V}, RMs K H (ns.map MV.int) vs → vs = ns.map V.int
  | [], _, .nil => rfl
  | n :: r, _, .cons (.int _) t => by rw [t.ints_of]; rfl
inductive MO where
  | lst (xs : List MV) | dic (kvs : List (Key × MV)) | ins (c : Str) (fs : List (Str × MV))
  | fdic (o : Obj) (kvs : List (Key × MV))
abbrev MH := Addr → Option MO
def updM (M : MH) (a : Addr) (o : MO) : MH := fun b => if b = a then some o else M b
theorem updM_same {M : MH} {a : Addr} {o : MO} : updM M a o a = some o := by unfold updM; rw [if_pos rfl]
theorem updM_ne {M : MH} {a b : Addr} {o : MO} (h : b ≠ a) : updM M a o b = M b := by unfold updM; rw [if_neg h]
theorem updM_updM {M : MH} {a : Addr} {o u : MO} : updM (updM M a o) a u = updM M a u := by funext b; unfold updM; split <;> rfl
inductive RKs {κ : Type} (K : PySem.W.Frag) (H : Hp) : List (κ × MV) → List (κ × V) → Prop
  | nil : RKs K H [] []
  | cons {k : κ} {x : MV} {v : V} {xs : List (κ × MV)} {vs : List (κ × V)} : RM K H x v → RKs K H xs vs → RKs K H ((k, x) :: xs) ((k, v) :: vs)
theorem RKs.mono {κ : Type} {K : PySem.W.Frag} {H H' : Hp} (k : Kp H H') : ∀ {m : List (κ × MV)} {v : List (κ × V)}, RKs K H m v → RKs K H' m v
  | _, _, .nil => .nil
  | _, _, .cons a b => .cons (a.mono k) (b.mono k)
theorem RKs.length {κ : Type} {K : PySem.W.Frag} {H : Hp} : ∀ {m : List (κ × MV)} {v : List (κ × V)}, RKs K H m v → m.length = v.length
  | _, _, .nil => rfl
  | _, _, .cons _ b => by rw [List.length_cons, List.length_cons, b.length]
section
variable {κ : Type} [DecidableEq κ]
def valM (kvs : List (κ × MV)) (k : κ) : Option MV := match kvs with
  | [] => none
  | (j, v) :: r => if j = k then some v else valM r k
def putM (kvs : List (κ × MV)) (k : κ) (v : MV) : List (κ × MV) := match kvs with
  | [] => [(k, v)]
  | (j, u) :: r => if j = k then (j, v) :: r else (j, u) :: putM r k v
end
def RO (K : PySem.W.Frag) (H : Hp) : MO → HO → Prop
  | .lst xs, .lst vs => RMs K H xs vs
  | .dic kvs, .dK vs => RKs K H kvs vs ∧ (kvs.map (·.1)).Nodup
  | .ins c fs, .ins C _ vs => PySem.W.nsIn K mainGlobals c = some (some (.ref C)) ∧ RKs K H fs vs
  | .fdic o kvs, .frz o' (.dK vs) => o = o' ∧ RKs K H kvs vs ∧ (kvs.map (·.1)).Nodup
  | _, _ => False
theorem RO.mono {K : PySem.W.Frag} {H H' : Hp} (k : Kp H H') {o : MO} {u : HO} (h : RO K H o u) : RO K H' o u := by
  cases o with
  | lst xs => cases u <;> first | exact RMs.mono k h | exact h.elim
  | dic kvs => cases u <;> first | exact ⟨h.1.mono k, h.2⟩ | exact h.elim
  | ins c fs => cases u <;> first | exact ⟨h.1, h.2.mono k⟩ | exact h.elim
  | fdic ob kvs =>
    cases u with
    | frz o' u => cases u <;> first | exact ⟨h.1, h.2.1.mono k, h.2.2⟩ | exact h.elim
    | _ => exact h.elim
def RH (K : PySem.W.Frag) (M : MH) (H : Hp) : Prop := ∀ a o, M a = some o → ∃ u, H a = some u ∧ RO K H o u
theorem RH.free {K : PySem.W.Frag} {M : MH} {H : Hp} (r : RH K M H) {p : Addr} (h : H p = none) : M p = none := by
  cases e : M p with
  | none => rfl
  | some o => obtain ⟨u, hu, _⟩ := r p o e; rw [hu] at h; cases h
theorem RH.lst {K : PySem.W.Frag} {M : MH} {H : Hp} (r : RH K M H) {p : Addr} {xs : List MV} (h : M p = some (.lst xs)) : ∃ vs, H p = some (.lst vs) ∧ RMs K H xs vs := by
  obtain ⟨u, hu, ro⟩ := r p _ h
  cases u <;> try exact ro.elim
  exact ⟨_, hu, ro⟩
theorem RH.dic {K : PySem.W.Frag} {M : MH} {H : Hp} (r : RH K M H) {p : Addr} {xs : List (Key × MV)} (h : M p = some (.dic xs)) : ∃ vs, H p = some (.dK vs) ∧ RKs K H xs vs ∧ (xs.map (·.1)).Nodup := by
  obtain ⟨u, hu, ro⟩ := r p _ h
  cases u <;> try exact ro.elim
  exact ⟨_, hu, ro.1, ro.2⟩
theorem RH.fdic {K : PySem.W.Frag} {M : MH} {H : Hp} (r : RH K M H) {p : Addr} {o : Obj} {xs : List (Key × MV)} (h : M p = some (.fdic o xs)) : ∃ vs, H p = some (.frz o (.dK vs)) ∧ RKs K H xs vs ∧ (xs.map (·.1)).Nodup := by
  obtain ⟨u, hu, ro⟩ := r p _ h
  cases u with
  | frz o' u =>
    cases u <;> try exact ro.elim
    obtain ⟨rfl, r1, r2⟩ := ro
    exact ⟨_, hu, r1, r2⟩
  | _ => exact ro.elim
theorem RH.ins {K : PySem.W.Frag} {M : MH} {H : Hp} (r : RH K M H) {p : Addr} {c : Str} {fs : List (Str × MV)} (h : M p = some (.ins c fs)) : ∃ C dx vs, H p = some (.ins C dx vs) ∧ PySem.W.nsIn K mainGlobals c = some (some (.ref C)) ∧ RKs K H fs vs := by
  obtain ⟨u, hu, ro⟩ := r p _ h
  cases u <;> try exact ro.elim
  exact ⟨_, _, _, hu, ro.1, ro.2⟩
theorem RH.put {K : PySem.W.Frag} {M : MH} {H : Hp} (r : RH K M H) {p : Addr} {u : HO} {o : MO} (k : Kp H (upd H p u)) (ro : RO K (upd H p u) o u) : RH K (updM M p o) (upd H p u) := by
  intro a o' e
  by_cases h : a = p
  · subst h
    rw [updM_same] at e
    cases e
    exact ⟨u, upd_same, ro⟩
  · rw [updM_ne h] at e
    obtain ⟨v, hv, rv⟩ := r a o' e
    exact ⟨v, by rw [upd_ne h]; exact hv, rv.mono k⟩
theorem RH.kept {K : PySem.W.Frag} {M : MH} {H : Hp} (r : RH K M H) {p : Addr} (hp : H p = none) (u : HO) : RH K M (upd H p u) := by
  intro a o' e
  obtain ⟨v, hv, rv⟩ := r a o' e
  exact ⟨v, by rw [upd_ne (ne_of_none hv hp)]; exact hv, rv.mono (Kp.new hp u)⟩
abbrev Sm := List (Option MV)
abbrev QM := MV → MH → Prop
abbrev TEm := Sm → MH → QM → Prop
abbrev TAm := Sm → MH → (List MV → MH → Prop) → Prop
def RS (K : PySem.W.Frag) (H : Hp) (σm : Sm) (σ : St) : Prop := σm.length = σ.length ∧ ∀ (i : Nat) (m : MV), σm[i]? = some (some m) → ∃ v, σ[i]? = some (some v) ∧ RM K H m v
theorem RS.mono {K : PySem.W.Frag} {H H' : Hp} (k : Kp H H') {σm : Sm} {σ : St} (h : RS K H σm σ) : RS K H' σm σ := ⟨h.1, fun i m e => by
  obtain ⟨v, hv, r⟩ := h.2 i m e
  exact ⟨v, hv, r.mono k⟩⟩
theorem RS.set {K : PySem.W.Frag} {H : Hp} {σm : Sm} {σ : St} (h : RS K H σm σ) {m : MV} {v : V} (r : RM K H m v) (i : Nat) : RS K H (σm.set i (some m)) (σ.set i (some v)) := by
  refine ⟨by simp [h.1], fun j x e => ?_⟩
  rw [List.getElem?_set] at e
  by_cases hij : i = j
  · subst hij
    rw [if_pos rfl] at e
    split at e
    · cases e
      exact ⟨v, by rw [List.getElem?_set, if_pos rfl, if_pos (by rw [← h.1]; assumption)], r⟩
    · cases e
  · rw [if_neg hij] at e
    obtain ⟨u, hu, ru⟩ := h.2 j x e
    exact ⟨u, by rw [List.getElem?_set, if_neg hij]; exact hu, ru⟩
def Dn (K : PySem.W.Frag) (H : Hp) (Q : VK) : QM := fun m M => ∀ v H', Kp H H' → RM K H' m v → RH K M H' → Q v H'
theorem Dn.on {K : PySem.W.Frag} {H H1 : Hp} {Q : VK} (k : Kp H H1) {m : MV} {M : MH} (h : Dn K H Q m M) : Dn K H1 Q m M := fun v H' k' r rh => h v H' (k.trans k') r rh
def liE (K : PySem.W.Frag) (t : TEm) : TE := fun σ H Q => ∃ σm M, RS K H σm σ ∧ RH K M H ∧ t σm M (Dn K H Q)
def liA (K : PySem.W.Frag) (t : TAm) : TA := fun σ H Q => ∃ σm M, RS K H σm σ ∧ RH K M H ∧ t σm M (fun ms M' => ∀ vs H', Kp H H' → RMs K H' ms vs → RH K M' H' → Q vs H')
def MonE (t : TEm) : Prop := ∀ {σ M} {Q Q' : QM}, (∀ m M', Q m M' → Q' m M') → t σ M Q → t σ M Q'
def MonA (t : TAm) : Prop := ∀ {σ M} {Q Q' : List MV → MH → Prop}, (∀ m M', Q m M' → Q' m M') → t σ M Q → t σ M Q'
abbrev W1 := MV → MH → QM → Prop
abbrev W2 := MV → MV → MH → QM → Prop
abbrev WA := List MV → MH → QM → Prop
def Mon1 (w : W1) : Prop := ∀ {x M} {Q Q' : QM}, (∀ m M', Q m M' → Q' m M') → w x M Q → w x M Q'
def Mon2 (w : W2) : Prop := ∀ {x y M} {Q Q' : QM}, (∀ m M', Q m M' → Q' m M') → w x y M Q → w x y M Q'
def MonW (w : WA) : Prop := ∀ {xs M} {Q Q' : QM}, (∀ m M', Q m M' → Q' m M') → w xs M Q → w xs M Q'
def li1 (K : PySem.W.Frag) (w : W1) : V → Hp → VK → Prop := fun x H Q => ∃ mx M, RM K H mx x ∧ RH K M H ∧ w mx M (Dn K H Q)
def li2 (K : PySem.W.Frag) (w : W2) : R2 := fun x y H Q => ∃ mx my M, RM K H mx x ∧ RM K H my y ∧ RH K M H ∧ w mx my M (Dn K H Q)
def liW (K : PySem.W.Frag) (w : WA) : List V → Hp → VK → Prop := fun xs H Q => ∃ ms M, RMs K H ms xs ∧ RH K M H ∧ w ms M (Dn K H Q)
section
variable {K : PySem.W.Frag}
theorem li_op {ta tb : TEm} {w : W2} (ma : MonE ta) (mb : MonE tb) (mw : Mon2 w) {σ : St} {H : Hp} {Q : VK}
    (h : liE K (fun σ M Q => ta σ M fun x M1 => tb σ M1 fun y M2 => w x y M2 Q) σ H Q) : tOp (li2 K w) (liE K ta) (liE K tb) σ H Q := by
  obtain ⟨σm, M, rs, rh, h⟩ := h
  refine ⟨σm, M, rs, rh, ma (fun x M1 h1 => ?_) h⟩
  intro v H1 k1 r1 rh1
  refine ⟨σm, M1, rs.mono k1, rh1, mb (fun y M2 h2 => ?_) h1⟩
  intro u H2 k2 r2 rh2
  exact ⟨x, y, M2, r1.mono k2, r2, rh2, mw (fun m M' hq => hq.on (k1.trans k2)) h2⟩
end
theorem PE.weak {X : Cx} {e : Expr} {t t' : TE} (h : PE X e t) (i : ∀ σ H Q, t' σ H Q → t σ H Q) : PE X e t' := fun pins s σ H Q I q => h pins s σ H Q I (i _ _ _ q)
theorem PT.weak {X : Cx} {e : Expr} {t t' : TT} (h : PT X e t) (i : ∀ σ H Q, t' σ H Q → t σ H Q) : PT X e t' := fun pins s σ H Q I q => h pins s σ H Q I (i _ _ _ q)
theorem PW.weak {X : Cx} {e : Expr} {t t' : TT} (h : PW X e t) (i : ∀ σ H Q, t' σ H Q → t σ H Q) : PW X e t' := fun wh pins s σ H Q I q => h wh pins s σ H Q I (i _ _ _ q)
theorem PA.weak {X : Cx} {e : List Expr} {t t' : TA} (h : PA X e t) (i : ∀ σ H Q, t' σ H Q → t σ H Q) : PA X e t' := fun pos pins s σ H Q I q => h pos pins s σ H Q I (i _ _ _ q)
theorem PS.weak {X : Cx} {e : Stmt} {t t' : TS} (h : PS X e t) (i : ∀ D σ H, t' D σ H → t D σ H) : PS X e t' := fun pins s σ H D I q => h pins s σ H D I (i _ _ _ q)
theorem PSs.weak {X : Cx} {e : List Stmt} {t t' : TS} (h : PSs X e t) (i : ∀ D σ H, t' D σ H → t D σ H) : PSs X e t' := fun pins s σ H D I q => h pins s σ H D I (i _ _ _ q)
end L2
namespace L2
open PySem PySem.Spec PyProof.Rows
def wBin (op : Operator) (x y : MV) (M : MH) (Q : QM) : Prop := match op, x, y with
  | .Add, .int i, .int j => Q (.int (i + j)) M
  | .Sub, .int i, .int j => Q (.int (i - j)) M
  | .Mult, .int i, .int j => CMul i j ∧ Q (.int (i * j)) M
  | .FloorDiv, .int i, .int j => CDivB i j ∧ Q (.int (i / j)) M
  | .Mod, .int i, .int j => 0 < j ∧ Q (.int (i % j)) M
  | .LShift, .int i, .int j => CPow i j ∧ Q (.int (i * 2 ^ j.toNat)) M
  | .BitAnd, .int i, .int j => Q (.int (Builtin.bitAnd i j)) M
  | .BitOr, .int i, .int j => Q (.int (Builtin.bitOr i j)) M
  | .BitXor, .int i, .int j => Q (.int (Builtin.bitXor i j)) M
  | .Add, .str i, .str j => i.length + j.length ≤ sizeLine ∧ Q (.str (i ++ j)) M
  | .Mult, .str z, .int i => z.length ≤ 16 ∧ -1000 ≤ i ∧ i ≤ 1000 ∧ Q (.str (Txt.mul z i)) M
  | .Add, .tup xs, .tup ys => xs ≠ [] ∧ xs.length + ys.length ≤ sizeLine ∧ Q (.tup (xs ++ ys)) M
  | .Add, .ref a, .ref b => ∃ xs ys, M a = some (.lst xs) ∧ M b = some (.lst ys) ∧ xs.length + ys.length ≤ sizeLine ∧ ∀ p, M p = none → Q (.ref p) (updM M p (.lst (xs ++ ys)))
  | .Add, .frl xs, .ref b => ∃ ys, M b = some (.lst ys) ∧ xs.length + ys.length ≤ sizeLine ∧ ∀ p, M p = none → Q (.ref p) (updM M p (.lst (xs ++ ys)))
  | .Mult, .tup xs, .int k => xs ≠ [] ∧ 1 ≤ k ∧ xs.length * k.toNat ≤ 1000000 ∧ Q (.tup (List.replicate k.toNat xs).flatten) M
  | .Mult, .ref a, .int k => ∃ xs, M a = some (.lst xs) ∧ -(2 ^ 63) ≤ k ∧ k < 2 ^ 63 ∧ xs.length * k.toNat ≤ sizeLine ∧ ∀ p, M p = none → Q (.ref p) (updM M p (.lst (List.replicate k.toNat xs).flatten))
  | _, _, _ => False
theorem mon_bin (op : Operator) : Mon2 (wBin op) := by
  intro x y M Q Q' hq h
  unfold wBin at h ⊢
  split at h
  all_goals first
    | exact hq _ _ h
    | exact h.elim
    | exact ⟨h.1, hq _ _ h.2⟩
    | exact ⟨h.1, h.2.1, hq _ _ h.2.2⟩
    | exact ⟨h.1, h.2.1, h.2.2.1, hq _ _ h.2.2.2⟩
    | (obtain ⟨xs, ys, h1, h2, h3, h4⟩ := h
       exact ⟨xs, ys, h1, h2, h3, fun p hp => hq _ _ (h4 p hp)⟩)
    | (obtain ⟨ys, h2, h3, h4⟩ := h
       exact ⟨ys, h2, h3, fun p hp => hq _ _ (h4 p hp)⟩)
    | (obtain ⟨ys, h2, h3, h4, h5, h6⟩ := h
       exact ⟨ys, h2, h3, h4, h5, fun p hp => hq _ _ (h6 p hp)⟩)
theorem RMs.rep {K : PySem.W.Frag} {H : Hp} {xs : List MV} {vs : List V} (q : RMs K H xs vs) : ∀ k : Nat, RMs K H (List.replicate k xs).flatten (List.replicate k vs).flatten
  | 0 => .nil
  | k + 1 => by
    rw [List.replicate_succ, List.replicate_succ, List.flatten_cons, List.flatten_cons]
    exact q.append (q.rep k)
section
variable {X : Cx}
theorem op_bin (op : Operator) : OpR X (binaryOp op) (li2 X.K (wBin op)) := by
  intro pins s σ H x y v u Q I rx ry h
  obtain ⟨mx, my, M, r1, r2, rh, h⟩ := h
  unfold wBin at h
  split at h
  · cases r1; cases r2; exact op_add pins s σ H _ _ v u Q I rx ry ⟨_, _, rfl, rfl, h _ _ (Kp.refl _) (.int _) rh⟩
  · cases r1; cases r2; exact op_sub pins s σ H _ _ v u Q I rx ry ⟨_, _, rfl, rfl, h _ _ (Kp.refl _) (.int _) rh⟩
  · cases r1; cases r2; exact op_mul pins s σ H _ _ v u Q I rx ry ⟨_, _, rfl, rfl, h.1, h.2 _ _ (Kp.refl _) (.int _) rh⟩
  · cases r1; cases r2; exact op_fdivB pins s σ H _ _ v u Q I rx ry ⟨_, _, rfl, rfl, h.1, h.2 _ _ (Kp.refl _) (.int _) rh⟩
  · cases r1; cases r2; exact op_mod pins s σ H _ _ v u Q I rx ry ⟨_, _, rfl, rfl, h.1, h.2 _ _ (Kp.refl _) (.int _) rh⟩
  · cases r1; cases r2; exact op_shl pins s σ H _ _ v u Q I rx ry ⟨_, _, rfl, rfl, h.1, h.2 _ _ (Kp.refl _) (.int _) rh⟩
  · cases r1; cases r2; exact op_and pins s σ H _ _ v u Q I rx ry ⟨_, _, rfl, rfl, h _ _ (Kp.refl _) (.int _) rh⟩
  · cases r1; cases r2; exact op_or pins s σ H _ _ v u Q I rx ry ⟨_, _, rfl, rfl, h _ _ (Kp.refl _) (.int _) rh⟩
  · cases r1; cases r2; exact op_xor pins s σ H _ _ v u Q I rx ry ⟨_, _, rfl, rfl, h _ _ (Kp.refl _) (.int _) rh⟩
  · cases r1; cases r2; exact op_add_str pins s σ H _ _ v u Q I rx ry ⟨_, _, rfl, rfl, h.1, h.2 _ _ (Kp.refl _) (.str _) rh⟩
  · cases r1; cases r2; exact op_mulS pins s σ H _ _ v u Q I rx ry ⟨_, _, rfl, rfl, h.1, h.2.1, h.2.2.1, h.2.2.2 _ _ (Kp.refl _) (.str _) rh⟩
  · rename_i xs ys
    cases r1 with
    | tup h1 q1 =>
      rename_i a vs
      cases r2 with
      | tup h2 q2 =>
        rename_i b us
        obtain ⟨h3, h4, h5⟩ := h
        refine op_catT pins s σ H _ _ v u Q I rx ry ⟨_, _, vs, us, rfl, rfl, SqT.of h1, SqT.of h2, fun z => h3 ?_, by rw [← q1.length, ← q2.length]; exact h4, fun z => ?_, fun z p hp => ?_⟩
        · subst z; cases q1; rfl
        · subst z; cases q2
          rw [List.append_nil] at h5
          exact h5 _ _ (Kp.refl _) (.tup h1 q1) rh
        · have k := Kp.new hp (.tup (vs ++ us))
          exact h5 _ _ k (.tup upd_same ((q1.append q2).mono k)) (rh.kept hp _)
  · cases r1; cases r2
    obtain ⟨xs, ys, h1, h2, h3, h4⟩ := h
    obtain ⟨vs, e1, q1⟩ := rh.lst h1
    obtain ⟨us, e2, q2⟩ := rh.lst h2
    refine op_cat pins s σ H _ _ v u Q I rx ry ⟨_, _, vs, us, rfl, rfl, e1, e2, by rw [← q1.length, ← q2.length]; exact h3, fun p hp => ?_⟩
    have k := Kp.new hp (.lst (vs ++ us))
    exact h4 p (rh.free hp) _ _ k (.ref p) (rh.put k ((q1.append q2).mono k))
  · cases r2
    cases r1 with
    | frl e1 q1 =>
      rename_i vs
      obtain ⟨ys, h2, h3, h4⟩ := h
      obtain ⟨us, e2, q2⟩ := rh.lst h2
      refine op_catS pins s σ H _ _ v u Q I rx ry ⟨_, _, vs, us, rfl, rfl, e1.sq, SqL.of e2, by rw [← q1.length, ← q2.length]; exact h3, fun p hp => ?_⟩
      have k := Kp.new hp (.lst (vs ++ us))
      exact h4 p (rh.free hp) _ _ k (.ref p) (rh.put k ((q1.append q2).mono k))
  · rename_i xs k
    cases r2
    cases r1 with
    | tup h1 q1 =>
      rename_i a vs
      obtain ⟨h3, h4, h5, h6⟩ := h
      refine op_mulT pins s σ H _ _ v u Q I rx ry ⟨_, _, vs, rfl, rfl, SqT.of h1, fun z => h3 ?_, h4, by rw [← q1.length]; exact h5, fun z => ?_, fun z p hp => ?_⟩
      · subst z; cases q1; rfl
      · subst z
        have e : (List.replicate (1 : Int).toNat xs).flatten = xs := by simp
        rw [e] at h6
        exact h6 _ _ (Kp.refl _) (.tup h1 q1) rh
      · have kk := Kp.new hp (.tup (List.replicate k.toNat vs).flatten)
        exact h6 _ _ kk (.tup upd_same ((q1.rep k.toNat).mono kk)) (rh.kept hp _)
  · rename_i a k
    cases r1; cases r2
    obtain ⟨xs, h1, h2, h3, h4, h5⟩ := h
    obtain ⟨vs, e1, q1⟩ := rh.lst h1
    refine op_rep pins s σ H _ _ v u Q I rx ry ⟨_, _, vs, rfl, rfl, e1, h2, h3, by rw [← q1.length]; exact h4, fun p hp => ?_⟩
    have kk := Kp.new hp (.lst (List.replicate k.toNat vs).flatten)
    exact h5 p (rh.free hp) _ _ kk (.ref p) (rh.put kk ((q1.rep k.toNat).mono kk))
  · exact h.elim
end
mutual
inductive DM (M : MH) : MV → PyData → Prop
  | non : DM M .non .none
  | bl (b : Bool) : DM M (.bl b) (.bool b)
  | int (i : Int) : DM M (.int i) (.int i)
  | str (x : Str) : DM M (.str x) (.str x)
  | lst {a : Addr} {xs : List MV} {ds : List PyData} : M a = some (.lst xs) → DMs M xs ds → DM M (.ref a) (.list ds)
  | frl {xs : List MV} {ds : List PyData} : DMs M xs ds → DM M (.frl xs) (.list ds)
  | tup {xs : List MV} {ds : List PyData} : DMs M xs ds → DM M (.tup xs) (.tuple ds)
inductive DMs (M : MH) : List MV → List PyData → Prop
  | nil : DMs M [] []
  | cons {x : MV} {xs : List MV} {d : PyData} {ds : List PyData} : DM M x d → DMs M xs ds → DMs M (x :: xs) (d :: ds)
end
mutual
theorem DM.dp {K : PySem.W.Frag} {M : MH} {H : Hp} (rh : RH K M H) : ∀ {m : MV} {d : PyData} {v : V}, DM M m d → RM K H m v → Dp K H v d
  | _, _, _, .non, .non => .non
  | _, _, _, .bl b, .bl _ => .bl b
  | _, _, _, .int i, .int _ => .int i
  | _, _, _, .str x, .str _ => .str x
  | _, _, _, .lst h q, r => by
    cases r
    obtain ⟨vs, e, r⟩ := rh.lst h
    exact .lst (SqL.of e) (DMs.dp rh q r)
  | _, _, _, .frl q, .frl h r => .lst h.sq (DMs.dp rh q r)
  | _, _, _, .tup q, .tup h r => .tup (SqT.of h) (DMs.dp rh q r)
theorem DMs.dp {K : PySem.W.Frag} {M : MH} {H : Hp} (rh : RH K M H) : ∀ {m : List MV} {d : List PyData} {v : List V}, DMs M m d → RMs K H m v → DpAll K H v d
  | _, _, _, .nil, .nil => .nil
  | _, _, _, .cons a b, .cons c d => .cons (DM.dp rh a c) (DMs.dp rh b d)
end
def eqS : MV → MV → Option Bool
  | .int i, .int j => some (decide (i = j))
  | .str i, .str j => some (decide (i = j))
  | .bl i, .bl j => some (decide (i = j))
  | .non, .non => some true
  | .non, .int _ => some false | .int _, .non => some false | .non, .bl _ => some false | .bl _, .non => some false | .non, .str _ => some false | .str _, .non => some false
  | .int _, .str _ => some false | .str _, .int _ => some false | .bl _, .str _ => some false | .str _, .bl _ => some false
  | _, _ => none
theorem eqS_ok {K : PySem.W.Frag} {H : Hp} {x y : MV} {u v : V} {b : Bool} (h : eqS x y = some b) (r : RM K H x u) (q : RM K H y v) : scal u v = true ∧ decide (u = v) = b := by
  unfold eqS at h
  split at h <;> cases h <;> cases r <;> cases q <;> refine ⟨rfl, ?_⟩
  · rw [decide_eq_decide]; exact ⟨V.int.inj, fun e => by rw [e]⟩
  · rw [decide_eq_decide]; exact ⟨V.str.inj, fun e => by rw [e]⟩
  · rw [decide_eq_decide]; exact ⟨V.bl.inj, fun e => by rw [e]⟩
  all_goals rfl
inductive DHits (M : MH) (kb : List (Key × MV)) : List (Key × MV) → Bool → Prop
  | nil : DHits M kb [] true
  | miss {k : Key} {v : MV} {r : List (Key × MV)} : valM kb k = none → DHits M kb ((k, v) :: r) false
  | hit {k : Key} {v y : MV} {d e : PyData} {r : List (Key × MV)} {b : Bool} : valM kb k = some y → DM M v d → DM M y e → SeqAt.shaped d = true → SeqAt.shaped e = true → DHits M kb r b → DHits M kb ((k, v) :: r) (PyData.eqv d e && b)
def LstM (M : MH) (x : MV) (xs : List MV) : Prop := x = .frl xs ∨ ∃ a, x = .ref a ∧ M a = some (.lst xs)
def flatM : MV → Bool
  | .non => true | .bl _ => true | .int _ => true | .str _ => true | _ => false
def Alike (M : MH) : Nat → MV → MV → Prop
  | 0, x, y => flatM x = true ∧ x = y
  | n + 1, x, y => (flatM x = true ∧ x = y) ∨ (∃ xs ys, x = .tup xs ∧ y = .tup ys ∧ xs.length = ys.length ∧ ∀ (i : Nat) u v, xs[i]? = some u → ys[i]? = some v → Alike M n u v) ∨
    (∃ xs ys, LstM M x xs ∧ LstM M y ys ∧ xs.length = ys.length ∧ ∀ (i : Nat) u v, xs[i]? = some u → ys[i]? = some v → Alike M n u v) ∨
    ∃ a b ka kb, x = .ref a ∧ y = .ref b ∧ M a = some (.dic ka) ∧ M b = some (.dic kb) ∧ ka.length = kb.length ∧ ∀ k u, (k, u) ∈ ka → ∃ v, valM kb k = some v ∧ Alike M n u v
def wEq (x y : MV) (M : MH) (k : Bool → Prop) : Prop := match eqS x y with
  | some b => k b
  | none => (∃ n ≤ 60, Alike M n x y ∧ k true) ∨ (∃ a b xs, x = .ref a ∧ y = .ref b ∧ M a = some (.lst xs) ∧ M b = some (.lst []) ∧ k xs.isEmpty) ∨ (∃ d e, DM M x d ∧ DM M y e ∧ SeqAt.shaped d = true ∧ SeqAt.shaped e = true ∧ k (PyData.eqv d e)) ∨
    ∃ a b ka kb r, x = .ref a ∧ y = .ref b ∧ M a = some (.dic ka) ∧ M b = some (.dic kb) ∧ DHits M kb ka r ∧ k (ka.length == kb.length && r)
def toV : MV → V
  | .non => .non | .bl b => .bl b | .int i => .int i | .str x => .str x | _ => .non
theorem flat_rm {K : PySem.W.Frag} {H : Hp} {m : MV} {v : V} (f : flatM m = true) (r : RM K H m v) : v = toV m ∧ flatV v = true := by
  cases r <;> first | exact ⟨rfl, rfl⟩ | cases f
theorem flats_rm {K : PySem.W.Frag} {H : Hp} : ∀ {m : List MV} {v : List V}, m.all flatM = true → RMs K H m v → v = m.map toV ∧ v.all flatV = true
  | _, _, _, .nil => ⟨rfl, rfl⟩
  | _, _, f, .cons r t => by
    rw [List.all_cons, Bool.and_eq_true] at f
    obtain ⟨e, g⟩ := flat_rm f.1 r
    obtain ⟨e2, g2⟩ := flats_rm f.2 t
    subst e e2
    exact ⟨rfl, by rw [List.all_cons, g, g2]; rfl⟩
def keyM : MV → Option Key
  | .int i => some (.inl i)
  | .str x => some (.inr x)
  | _ => none
theorem key_rm {K : PySem.W.Frag} {H : Hp} {m : MV} {v : V} {k : Key} (e : keyM m = some k) (r : RM K H m v) : v = kV k := by
  cases r <;> cases e <;> rfl
theorem valM_rk {K : PySem.W.Frag} {H : Hp} {k : Key} : ∀ {m : List (Key × MV)} {v : List (Key × V)}, RKs K H m v → (valM m k = none ∧ valV v k = none) ∨ ∃ x u, valM m k = some x ∧ valV v k = some u ∧ RM K H x u
  | _, _, .nil => .inl ⟨rfl, rfl⟩
  | _, _, .cons (k := j) (x := x) (v := u) r t => by
    by_cases e : j = k
    · refine .inr ⟨x, u, ?_, valV_pos (p := (j, u)) e, r⟩
      unfold valM; rw [if_pos e]
    · have := valM_rk (k := k) t
      unfold valM; rw [if_neg e, valV_neg (p := (j, u)) e]
      exact this
theorem rk_any {K : PySem.W.Frag} {H : Hp} {k : Key} : ∀ {m : List (Key × MV)} {v : List (Key × V)}, RKs K H m v → (v.any fun kv => decide (kv.1 = k)) = (m.any fun kv => decide (kv.1 = k))
  | _, _, .nil => rfl
  | _, _, .cons r t => by rw [List.any_cons, List.any_cons, rk_any t]
theorem rk_map {K : PySem.W.Frag} {H : Hp} {k : Key} {x : MV} {u : V} (r : RM K H x u) : ∀ {m : List (Key × MV)} {v : List (Key × V)}, RKs K H m v →
    RKs K H (m.map fun kv => if kv.1 = k then (kv.1, x) else kv) (v.map fun kv => if kv.1 = k then (kv.1, u) else kv)
  | _, _, .nil => .nil
  | _, _, .cons (k := j) q t => by
    rw [List.map_cons, List.map_cons]
    by_cases e : j = k
    · rw [if_pos e, if_pos e]; exact .cons r (rk_map r t)
    · rw [if_neg e, if_neg e]; exact .cons q (rk_map r t)
theorem rk_app {κ : Type} {K : PySem.W.Frag} {H : Hp} : ∀ {m m' : List (κ × MV)} {v v' : List (κ × V)}, RKs K H m v → RKs K H m' v' → RKs K H (m ++ m') (v ++ v')
  | _, _, _, _, .nil, s => s
  | _, _, _, _, .cons r t, s => .cons r (rk_app t s)
theorem map_no {κ : Type} [DecidableEq κ] {k : κ} {x : MV} : ∀ {m : List (κ × MV)}, ¬ k ∈ m.map (·.1) → (m.map fun kv => if kv.1 = k then (kv.1, x) else kv) = m
  | [], _ => rfl
  | (j, y) :: r, h => by
    rw [List.map_cons, if_neg (fun e => h (by simp [show j = k from e])), map_no (fun e => h (by simp [e]))]
theorem putM_is {κ : Type} [DecidableEq κ] {k : κ} {x : MV} : ∀ {m : List (κ × MV)}, (m.map (·.1)).Nodup → putM m k x = if (m.any fun kv => decide (kv.1 = k)) = true then m.map (fun kv => if kv.1 = k then (kv.1, x) else kv) else m ++ [(k, x)]
  | [], _ => rfl
  | (j, y) :: r, h => by
    rw [List.map_cons, List.nodup_cons] at h
    unfold putM
    rw [List.any_cons]
    by_cases e : j = k
    · subst e
      rw [if_pos rfl, if_pos (by simp), List.map_cons, if_pos rfl, map_no h.1]
    · rw [if_neg e, putM_is h.2, show decide ((j, y).1 = k) = false from decide_eq_false e, Bool.false_or, List.map_cons, if_neg (show ¬ (j, y).1 = k from e)]
      split <;> rfl
theorem putM_keys {κ : Type} [DecidableEq κ] {k : κ} {x : MV} : ∀ (m : List (κ × MV)), ((putM m k x).map (·.1)) = if k ∈ m.map (·.1) then m.map (·.1) else m.map (·.1) ++ [k]
  | [] => rfl
  | (j, y) :: r => by
    unfold putM
    by_cases e : j = k
    · subst e; simp
    · rw [if_neg e, List.map_cons, putM_keys r, List.map_cons]
      have e' : k ≠ j := fun z => e z.symm
      by_cases m : k ∈ r.map (·.1)
      · rw [if_pos m, if_pos (List.mem_cons.mpr (.inr m))]
      · rw [if_neg m, if_neg (fun z => (List.mem_cons.mp z).elim e' m)]; rfl
theorem putM_rk {K : PySem.W.Frag} {H : Hp} {k : Key} {x : MV} {u : V} (r : RM K H x u) {m : List (Key × MV)} {v : List (Key × V)} (nd : (m.map (·.1)).Nodup) (h : RKs K H m v) :
    RKs K H (putM m k x) (putK v k u) ∧ ((putM m k x).map (·.1)).Nodup := by
  refine ⟨?_, ?_⟩
  · rw [putM_is nd]
    unfold putK
    rw [rk_any h]
    split
    · exact rk_map r h
    · exact rk_app h (.cons r .nil)
  · rw [putM_keys]
    split
    · exact nd
    · exact nd_snoc nd (by assumption)
def wIn (x y : MV) (M : MH) (k : Bool → Prop) : Prop := match y with
  | .tup xs => flatM x = true ∧ xs.all flatM = true ∧ k (inV (toV x) (xs.map toV))
  | .frl xs => flatM x = true ∧ xs.all flatM = true ∧ k (inV (toV x) (xs.map toV))
  | .ref a => (∃ xs, M a = some (.lst xs) ∧ flatM x = true ∧ xs.all flatM = true ∧ k (inV (toV x) (xs.map toV))) ∨ ∃ kvs kk, M a = some (.dic kvs) ∧ keyM x = some kk ∧ k (valM kvs kk).isSome
  | _ => False
def isNon : MV → Bool
  | .non => true | _ => false
def isBl (b : Bool) : MV → Bool
  | .bl c => decide (c = b)
  | _ => false
def wCmp (op : CmpOp) (x y : MV) (M : MH) (Q : QM) : Prop := match op with
  | .Lt => ∃ i j, x = .int i ∧ y = .int j ∧ Q (.bl (decide (i < j))) M
  | .LtE => (∃ i j, x = .int i ∧ y = .int j ∧ Q (.bl (decide (i ≤ j))) M) ∨ ∃ i j, x = .str i ∧ y = .str j ∧ Q (.bl (!decide (j.cps.toList < i.cps.toList))) M
  | .Gt => ∃ i j, x = .int i ∧ y = .int j ∧ Q (.bl (decide (j < i))) M
  | .GtE => ∃ i j, x = .int i ∧ y = .int j ∧ Q (.bl (decide (j ≤ i))) M
  | .Eq => wEq x y M fun b => Q (.bl b) M
  | .NotEq => wEq x y M fun b => Q (.bl (!b)) M
  | .In => wIn x y M fun b => Q (.bl b) M
  | .NotIn => wIn x y M fun b => Q (.bl (!b)) M
  | .Is => (y = .non ∧ Q (.bl (isNon x)) M) ∨ ∃ b, y = .bl b ∧ Q (.bl (isBl b x)) M
  | .IsNot => (y = .non ∧ Q (.bl (!isNon x)) M) ∨ ∃ b, y = .bl b ∧ Q (.bl (!isBl b x)) M
theorem mon_eq {x y : MV} {M : MH} {k k' : Bool → Prop} (hk : ∀ b, k b → k' b) (h : wEq x y M k) : wEq x y M k' := by
  unfold wEq at h ⊢
  split
  · rename_i b e; rw [e] at h; exact hk _ h
  · rename_i e; rw [e] at h
    rcases h with ⟨n, h1, h2, h3⟩ | ⟨a, b, xs, h1, h2, h3, h4, h5⟩ | ⟨d, e, h1, h2, h3, h4, h5⟩ | ⟨a, b, ka, kb, r, h1, h2, h3, h4, h5, h6⟩
    · exact .inl ⟨n, h1, h2, hk _ h3⟩
    · exact .inr (.inl ⟨a, b, xs, h1, h2, h3, h4, hk _ h5⟩)
    · exact .inr (.inr (.inl ⟨d, e, h1, h2, h3, h4, hk _ h5⟩))
    · exact .inr (.inr (.inr ⟨a, b, ka, kb, r, h1, h2, h3, h4, h5, hk _ h6⟩))
theorem mon_in {x y : MV} {M : MH} {k k' : Bool → Prop} (hk : ∀ b, k b → k' b) (h : wIn x y M k) : wIn x y M k' := by
  unfold wIn at h ⊢
  split at h
  · exact ⟨h.1, h.2.1, hk _ h.2.2⟩
  · exact ⟨h.1, h.2.1, hk _ h.2.2⟩
  · rcases h with ⟨xs, h1, h2, h3, h4⟩ | ⟨kvs, kk, h1, h2, h3⟩
    · exact .inl ⟨xs, h1, h2, h3, hk _ h4⟩
    · exact .inr ⟨kvs, kk, h1, h2, hk _ h3⟩
  · exact h.elim
theorem mon_cmp (op : CmpOp) : Mon2 (wCmp op) := by
  intro x y M Q Q' hq h
  cases op
  · exact mon_eq (k := fun b => Q (.bl b) M) (k' := fun b => Q' (.bl b) M) (fun b h => hq _ _ h) h
  · exact mon_eq (k := fun b => Q (.bl (!b)) M) (k' := fun b => Q' (.bl (!b)) M) (fun b h => hq _ _ h) h
  · obtain ⟨i, j, h1, h2, h3⟩ := h; exact ⟨i, j, h1, h2, hq _ _ h3⟩
  · rcases h with ⟨i, j, h1, h2, h3⟩ | ⟨i, j, h1, h2, h3⟩
    · exact .inl ⟨i, j, h1, h2, hq _ _ h3⟩
    · exact .inr ⟨i, j, h1, h2, hq _ _ h3⟩
  · obtain ⟨i, j, h1, h2, h3⟩ := h; exact ⟨i, j, h1, h2, hq _ _ h3⟩
  · obtain ⟨i, j, h1, h2, h3⟩ := h; exact ⟨i, j, h1, h2, hq _ _ h3⟩
  · rcases h with h | ⟨b, e, h⟩
    · exact .inl ⟨h.1, hq _ _ h.2⟩
    · exact .inr ⟨b, e, hq _ _ h⟩
  · rcases h with h | ⟨b, e, h⟩
    · exact .inl ⟨h.1, hq _ _ h.2⟩
    · exact .inr ⟨b, e, hq _ _ h⟩
  · exact mon_in (k := fun b => Q (.bl b) M) (k' := fun b => Q' (.bl b) M) (fun b h => hq _ _ h) h
  · exact mon_in (k := fun b => Q (.bl (!b)) M) (k' := fun b => Q' (.bl (!b)) M) (fun b h => hq _ _ h) h
section
variable {X : Cx}
theorem isBl_rm {K : PySem.W.Frag} {H : Hp} {m : MV} {v : V} {b : Bool} (r : RM K H m v) : decide (v = .bl b) = isBl b m := by
  cases r <;> first | rfl | (rename_i c; cases b <;> cases c <;> rfl)
theorem isNon_rm {K : PySem.W.Frag} {H : Hp} {m : MV} {v : V} (r : RM K H m v) : decide (v = .non) = isNon m := by cases r <;> rfl
theorem kv_at {kvs : List (Key × V)} {vs : List (Key × Value)} {k : Key} {v : V} (r : KV kvs vs) (h : valV kvs k = some v) : ∃ u, valueAt vs k = some u ∧ RelV v u := by
  have q := r.val k
  rw [h] at q
  exact RelO.some_of q
theorem kv_no {kvs : List (Key × V)} {vs : List (Key × Value)} {k : Key} (r : KV kvs vs) (h : valV kvs k = none) : valueAt vs k = none := by
  have q := r.val k
  rw [h] at q
  exact RelO.none_of q
theorem DHits.hits {pins : List (Addr × Obj)} {s : Shared} {σ : St} {H : Hp} {M : MH} (I : Inv X pins σ H s) (rh : RH X.K M H) (hu : X.A.in1.units + 64 < cLine) {kb : List (Key × MV)} {vb : List (Key × V)} {ub : List (Key × Value)} (rb : RKs X.K H kb vb) (qb : KV vb ub) :
    ∀ {ka : List (Key × MV)} {r : Bool}, DHits M kb ka r → ∀ {va : List (Key × V)} {ua : List (Key × Value)}, RKs X.K H ka va → KV va ua → PySem.W.KeqHits X.A.in1 s ub ua r := by
  intro ka r h
  induction h with
  | nil =>
    intro va ua ra qa
    cases ra
    cases qa
    exact .nil
  | @miss k v r hn =>
    intro va ua ra qa
    cases ra with
    | cons r1 r2 =>
      cases qa with
      | @cons _ p _ _ q1 q2 =>
        obtain ⟨pk, pv⟩ := p
        have e : k = pk := q1.1
        subst e
        rcases valM_rk (k := k) rb with ⟨z1, z2⟩ | ⟨x', u', z1, z2, _⟩
        · exact .miss (kv_no qb z2)
        · rw [hn] at z1; cases z1
  | @hit k v y d e r b hy hd he sd se _ ih =>
    intro va ua ra qa
    cases ra with
    | cons r1 r2 =>
      cases qa with
      | @cons _ p _ _ q1 q2 =>
        obtain ⟨pk, pv⟩ := p
        have e : k = pk := q1.1
        subst e
        rcases valM_rk (k := k) rb with ⟨z1, z2⟩ | ⟨x', u', z1, z2, r3⟩
        · rw [hy] at z1; cases z1
        · rw [hy] at z1; cases z1
          obtain ⟨w', hw, rw'⟩ := kv_at qb z2
          obtain ⟨as, a1⟩ := (hd.dp rh r1).reads I q1.2
          obtain ⟨bs, b1⟩ := (he.dp rh r3).reads I rw'
          exact .hit hw (PySem.W.keq_at a1 b1 sd se hu) (ih r2 q2)
theorem LstM.sq {M : MH} {H : Hp} (rh : RH X.K M H) {x : MV} {xs : List MV} {u : V} (h : LstM M x xs) (r : RM X.K H x u) : ∃ a vs, u = .ref a ∧ SqL X.K H a vs ∧ RMs X.K H xs vs := by
  rcases h with rfl | ⟨a, rfl, h⟩
  · cases r with
    | frl h1 q1 => exact ⟨_, _, rfl, h1.sq, q1⟩
  · cases r
    obtain ⟨vs, e, q⟩ := rh.lst h
    exact ⟨a, vs, rfl, SqL.of e, q⟩
theorem vals_get {xs : List V} {us : List Value} (r : Vals xs us) {i : Nat} {u : Value} (h : us[i]? = some u) : ∃ x, xs[i]? = some x ∧ RelV x u := by
  induction r generalizing i with
  | nil => cases h
  | cons q _ ih =>
    cases i with
    | zero => cases h; exact ⟨_, rfl, q⟩
    | succ i => exact ih (i := i) h
theorem kv_mem {kvs : List (Key × V)} {vs : List (Key × Value)} (r : KV kvs vs) {k : Key} {u : Value} (h : (k, u) ∈ vs) : ∃ x, (k, x) ∈ kvs ∧ RelV x u := by
  induction r with
  | nil => cases h
  | @cons p p' _ _ q _ ih =>
    obtain ⟨k1, x1⟩ := p
    obtain ⟨k2, x2⟩ := p'
    rcases List.mem_cons.mp h with e | h
    · cases e
      have e1 : k1 = k := q.1
      subst e1
      exact ⟨x1, List.mem_cons_self, q.2⟩
    · obtain ⟨x, m, rx⟩ := ih h
      exact ⟨x, List.mem_cons_of_mem _ m, rx⟩
theorem rk_mem {K : PySem.W.Frag} {H : Hp} {k : Key} {v : V} : ∀ {m : List (Key × MV)} {vs : List (Key × V)}, RKs K H m vs → (k, v) ∈ vs → ∃ x, (k, x) ∈ m ∧ RM K H x v
  | _, _, .nil, h => by cases h
  | _, _, .cons r t, h => by
    rcases List.mem_cons.mp h with e | h
    · cases e; exact ⟨_, List.mem_cons_self, r⟩
    · obtain ⟨x, m, q⟩ := rk_mem t h
      exact ⟨x, List.mem_cons_of_mem _ m, q⟩
theorem Alike.inn {pins : List (Addr × Obj)} {s : Shared} {σ : St} {H : Hp} {M : MH} (I : Inv X pins σ H s) (rh : RH X.K M H) {n : Nat} {A : Around} (hu : A.units < cLine)
    (ih : ∀ {x y : MV} {u v : V} {u' v' : Value}, Alike M n x y → RM X.K H x u → RM X.K H y v → RelV u u' → RelV v v' → AliP X.prog X.w A.in1 s u' v')
    {x y : MV} {u v : V} {u' v' : Value} (h : Alike M (n + 1) x y) (r1 : RM X.K H x u) (r2 : RM X.K H y v) (q1 : RelV u u') (q2 : RelV v v') :
    (flatM x = true ∧ x = y) ∨ ∃ a b, u' = .ref a ∧ v' = .ref b ∧ RcP X.prog X.w A s (.ref a) (.ref b) ∧ RnP X.prog X.w A s (.ref a) (.ref b) := by
  rw [Alike] at h
  rcases h with h | ⟨xs, ys, rfl, rfl, e, h⟩ | ⟨xs, ys, h1, h2, e, h⟩ | ⟨a, b, ka, kb, rfl, rfl, h1, h2, e, h⟩
  · exact .inl h
  · cases r1 with
    | tup g1 w1 =>
      cases r2 with
      | tup g2 w2 =>
        rename_i a vs b us
        obtain rfl : u' = Value.ref a := q1
        obtain rfl : v' = Value.ref b := q2
        obtain ⟨i1, p1, t1, _⟩ := I.tuple (SqT.of g1)
        obtain ⟨i2, p2, t2, _⟩ := I.tuple (SqT.of g2)
        have z : i1.toArray.size = i2.toArray.size := by rw [List.size_toArray, List.size_toArray, ← p1.length, ← p2.length, ← w1.length, ← w2.length]; exact e
        have he : ∀ p ∈ i1.toArray.toList.zip i2.toArray.toList, AliP X.prog X.w A.in1 s p.1 p.2 := by
          intro p hp
          obtain ⟨i, hi⟩ := List.mem_iff_getElem?.mp hp
          rw [List.getElem?_zip_eq_some] at hi
          obtain ⟨x1, c1, d1⟩ := vals_get p1 hi.1
          obtain ⟨x2, c2, d2⟩ := vals_get p2 hi.2
          obtain ⟨m1, c3, d3⟩ := w1.get' c1
          obtain ⟨m2, c4, d4⟩ := w2.get' c2
          exact ih (h i m1 m2 c3 c4) d3 d4 d1 d2
        exact .inr ⟨_, _, rfl, rfl, rc_tup t1 t2 z hu he, nrc_tup t1 t2 z hu he⟩
  · obtain ⟨a, vs, rfl, g1, w1⟩ := h1.sq rh r1
    obtain ⟨b, us, rfl, g2, w2⟩ := h2.sq rh r2
    obtain rfl : u' = Value.ref a := q1
    obtain rfl : v' = Value.ref b := q2
    obtain ⟨i1, p1, ⟨o1, n1, t1, t2, _, t3⟩, _⟩ := I.list g1
    obtain ⟨i2, p2, ⟨o2, n2, t4, t5, _, t6⟩, _⟩ := I.list g2
    have z : i1.toArray.size = i2.toArray.size := by rw [List.size_toArray, List.size_toArray, ← p1.length, ← p2.length, ← w1.length, ← w2.length]; exact e
    have he : ∀ j (h1 : j < i1.toArray.size) (h2 : j < i2.toArray.size), AliP X.prog X.w A.in1 s i1.toArray[j] i2.toArray[j] := by
      intro i l1 l2
      obtain ⟨x1, c1, d1⟩ := vals_get p1 (i := i) (u := i1.toArray[i]) (by simp [List.getElem?_eq_getElem (show i < i1.length by simpa using l1)])
      obtain ⟨x2, c2, d2⟩ := vals_get p2 (i := i) (u := i2.toArray[i]) (by simp [List.getElem?_eq_getElem (show i < i2.length by simpa using l2)])
      obtain ⟨m1, c3, d3⟩ := w1.get' c1
      obtain ⟨m2, c4, d4⟩ := w2.get' c2
      exact ih (h i m1 m2 c3 c4) d3 d4 d1 d2
    exact .inr ⟨_, _, rfl, rfl, rc_lst ⟨o1, t1, t2, n1, t3⟩ ⟨o2, t4, t5, n2, t6⟩ z hu he, nrc_lst ⟨o1, t1, t2, n1, t3⟩ ⟨o2, t4, t5, n2, t6⟩ z hu he⟩
  · cases r1; cases r2
    obtain rfl : u' = Value.ref a := q1
    obtain rfl : v' = Value.ref b := q2
    obtain ⟨va, ea, wa, _⟩ := rh.dic h1
    obtain ⟨vb, eb, wb, _⟩ := rh.dic h2
    obtain ⟨_, na, ua, pa, da⟩ := dk_of I.hok ea
    obtain ⟨_, nb, ub, pb, db⟩ := dk_of I.hok eb
    have z : ua.length = ub.length := by rw [← Paired.length pa, ← wa.length, ← Paired.length pb, ← wb.length]; exact e
    have he : ∀ p ∈ ua, ∃ y, valueAt ub p.1 = some y ∧ AliP X.prog X.w A.in1 s p.2 y := by
      rintro ⟨k, u1⟩ hp
      obtain ⟨x1, c1, d1⟩ := kv_mem pa hp
      obtain ⟨m1, c2, d2⟩ := rk_mem wa c1
      obtain ⟨m2, c3, c4⟩ := h k m1 c2
      rcases valM_rk (k := k) wb with ⟨z1, z2⟩ | ⟨x', u2, z1, z2, r3⟩
      · rw [c3] at z1; cases z1
      · rw [c3] at z1; cases z1
        obtain ⟨w', hw, rw'⟩ := kv_at pb z2
        exact ⟨w', hw, ih c4 d2 r3 d1 rw'⟩
    exact .inr ⟨_, _, rfl, rfl, rc_dic na nb da db hu z he, nrc_dic na nb da db hu z he⟩
theorem flat_alike {K : PySem.W.Frag} {H : Hp} {A : Around} {s : Shared} {P : Program} {w : World} {x : MV} {u v : V} {u' v' : Value} (f : flatM x = true) (r1 : RM K H x u) (r2 : RM K H x v) (q1 : RelV u u') (q2 : RelV v v') : AliP P w A s u' v' := by
  obtain ⟨rfl, f1⟩ := flat_rm f r1
  obtain ⟨rfl, f2⟩ := flat_rm f r2
  have h := eqAt_V (A := A) (s := s) q1 q2 f1 f2
  have e : eqV (toV x) (toV x) = true := by cases x <;> first | (cases f; done) | simp [toV, eqV]
  rw [e] at h
  exact .of_at h
theorem Alike.ok {pins : List (Addr × Obj)} {s : Shared} {σ : St} {H : Hp} {M : MH} (I : Inv X pins σ H s) (rh : RH X.K M H) : ∀ (n : Nat) {A : Around} {x y : MV} {u v : V} {u' v' : Value}, A.units + n < cLine → Alike M n x y → RM X.K H x u → RM X.K H y v → RelV u u' → RelV v v' → AliP X.prog X.w A s u' v'
  | 0, A, x, y, u, v, u', v', hu, h, r1, r2, q1, q2 => by
    rw [Alike] at h
    obtain ⟨f, rfl⟩ := h
    exact flat_alike f r1 r2 q1 q2
  | n + 1, A, x, y, u, v, u', v', hu, h, r1, r2, q1, q2 => by
    rcases Alike.inn I rh (A := A) (by omega) (fun h r1 r2 q1 q2 => Alike.ok I rh n (show A.units + 1 + n < cLine by omega) h r1 r2 q1 q2) h r1 r2 q1 q2 with ⟨f, rfl⟩ | ⟨a, b, rfl, rfl, h, _⟩
    · exact flat_alike f r1 r2 q1 q2
    · exact .refs h
theorem Alike.top {pins : List (Addr × Obj)} {s : Shared} {σ : St} {H : Hp} {M : MH} (I : Inv X pins σ H s) (rh : RH X.K M H) {n : Nat} {x y : MV} {u v : V} {u' v' : Value} (h : Alike M n x y) (hu : X.A.units + n < cLine) (ns : eqS x y = none) (r1 : RM X.K H x u) (r2 : RM X.K H y v) (q1 : RelV u u') (q2 : RelV v v') :
    RcP X.prog X.w X.A s u' v' ∧ RnP X.prog X.w X.A s u' v' := by
  have no : ¬ (flatM x = true ∧ x = y) := by
    rintro ⟨f, rfl⟩
    cases x <;> first | (cases f; done) | (cases ns; done)
  cases n with
  | zero => rw [Alike] at h; exact (no h).elim
  | succ n =>
    rcases Alike.inn I rh (A := X.A) (by omega) (fun h r1 r2 q1 q2 => Alike.ok I rh n (show X.A.units + 1 + n < cLine by omega) h r1 r2 q1 q2) h r1 r2 q1 q2 with f | ⟨a, b, rfl, rfl, h, h'⟩
    · exact (no f).elim
    · exact ⟨h, h'⟩
theorem op_cmp (hu : X.A.units + 70 < cLine) (op : CmpOp) : OpR X (compareOp op) (li2 X.K (wCmp op)) := by
  intro pins s σ H x y v u Q I rx ry h
  obtain ⟨mx, my, M, r1, r2, rh, h⟩ := h
  have hb : ∀ b, Dn X.K H Q (.bl b) M → Q (.bl b) H := fun b h => h _ _ (Kp.refl _) (.bl b) rh
  have hu1 : X.A.units + 1 < cLine := by omega
  have hu64 : X.A.units + 64 < cLine := by omega
  have huI : X.A.in1.units + 64 < cLine := by show X.A.units + 1 + 64 < cLine; omega
  have hu0 : X.A.units < cLine := by omega
  cases op with
  | Lt => obtain ⟨i, j, rfl, rfl, h⟩ := h; cases r1; cases r2; exact op_lt pins s σ H _ _ v u Q I rx ry ⟨_, _, rfl, rfl, hb _ h⟩
  | LtE =>
    rcases h with ⟨i, j, rfl, rfl, h⟩ | ⟨i, j, rfl, rfl, h⟩
    · cases r1; cases r2; exact op_le pins s σ H _ _ v u Q I rx ry ⟨_, _, rfl, rfl, hb _ h⟩
    · cases r1
      cases r2
      obtain ⟨t1, rfl⟩ := rx
      obtain ⟨t2, rfl⟩ := ry
      exact PySem.P.le_str ⟨.bl _, H, I, rfl, hb _ h⟩
  | Gt => obtain ⟨i, j, rfl, rfl, h⟩ := h; cases r1; cases r2; exact op_gt pins s σ H _ _ v u Q I rx ry ⟨_, _, rfl, rfl, hb _ h⟩
  | GtE => obtain ⟨i, j, rfl, rfl, h⟩ := h; cases r1; cases r2; exact op_ge pins s σ H _ _ v u Q I rx ry ⟨_, _, rfl, rfl, hb _ h⟩
  | Is =>
    rcases h with ⟨rfl, h⟩ | ⟨b, rfl, h⟩
    · cases r2; exact op_isN pins s σ H _ _ v u Q I rx ry ⟨rfl, by rw [isNon_rm r1]; exact hb _ h⟩
    · cases r2; exact op_isBl pins s σ H _ _ v u Q I rx ry ⟨b, rfl, by rw [isBl_rm r1]; exact hb _ h⟩
  | IsNot =>
    rcases h with ⟨rfl, h⟩ | ⟨b, rfl, h⟩
    · cases r2; exact op_notN pins s σ H _ _ v u Q I rx ry ⟨rfl, by rw [isNon_rm r1]; exact hb _ h⟩
    · cases r2; exact op_notBl pins s σ H _ _ v u Q I rx ry ⟨b, rfl, by rw [isBl_rm r1]; exact hb _ h⟩
  | Eq =>
    have h : wEq mx my M fun b => Dn X.K H Q (.bl b) M := h
    unfold wEq at h
    split at h
    · rename_i b e
      obtain ⟨e1, e2⟩ := eqS_ok e r1 r2
      exact op_eq pins s σ H _ _ v u Q I rx ry ⟨e1, by rw [e2]; exact hb _ h⟩
    · rcases h with ⟨n, h1, h2, h3⟩ | ⟨a, b, xs, rfl, rfl, h3, h4, h5⟩ | ⟨d, e, h1, h2, h3, h4, h5⟩ | ⟨a, b, ka, kb, r, rfl, rfl, h3, h4, h5, h6⟩
      · exact (h2.top I rh (by omega) (by assumption) r1 r2 rx ry).1 _ _ ⟨.bl true, H, I, rfl, hb _ h3⟩
      · cases r1; cases r2
        obtain ⟨vs, e1, q1⟩ := rh.lst h3
        obtain ⟨us, e2, q2⟩ := rh.lst h4
        cases q2
        refine op_eqNil hu0 pins s σ H _ _ v u Q I rx ry ⟨_, _, vs, rfl, rfl, SqL.of e1, SqL.of e2, ?_⟩
        have : vs.isEmpty = xs.isEmpty := by cases q1 <;> rfl
        rw [this]; exact hb _ h5
      · exact op_eqD hu64 pins s σ H _ _ v u Q I rx ry ⟨d, e, h1.dp rh r1, h2.dp rh r2, h3, h4, hb _ h5⟩
      · cases r1; cases r2
        obtain ⟨va, ea, qa, _⟩ := rh.dic h3
        obtain ⟨vb, eb, qb, _⟩ := rh.dic h4
        obtain ⟨_, na, ua, ka', da⟩ := dk_of I.hok ea
        obtain ⟨_, nb, ub, kb', db⟩ := dk_of I.hok eb
        obtain rfl : v = Value.ref _ := rx
        obtain rfl : u = Value.ref _ := ry
        refine PySem.W.keq_eq na nb da db hu0 (fun _ => h5.hits I rh huI qb kb' qa ka') ⟨.bl _, H, I, rfl, ?_⟩
        have e1 : ua.length = ka.length := by rw [← Paired.length ka', qa.length]
        have e2 : ub.length = kb.length := by rw [← Paired.length kb', qb.length]
        rw [e1, e2]
        exact hb _ h6
  | NotEq =>
    have h : wEq mx my M fun b => Dn X.K H Q (.bl (!b)) M := h
    unfold wEq at h
    split at h
    · rename_i b e
      obtain ⟨e1, e2⟩ := eqS_ok e r1 r2
      exact op_ne pins s σ H _ _ v u Q I rx ry ⟨e1, by rw [e2]; exact hb _ h⟩
    · rcases h with ⟨n, h1, h2, h3⟩ | ⟨a, b, xs, rfl, rfl, h3, h4, h5⟩ | ⟨d, e, h1, h2, h3, h4, h5⟩ | ⟨a, b, ka, kb, r, rfl, rfl, h3, h4, h5, h6⟩
      · exact (h2.top I rh (by omega) (by assumption) r1 r2 rx ry).2 _ _ ⟨.bl false, H, I, rfl, hb _ h3⟩
      · cases r1; cases r2
        obtain ⟨vs, e1, q1⟩ := rh.lst h3
        obtain ⟨us, e2, q2⟩ := rh.lst h4
        cases q2
        refine op_neNil hu0 pins s σ H _ _ v u Q I rx ry ⟨_, _, vs, rfl, rfl, SqL.of e1, SqL.of e2, ?_⟩
        have : vs.isEmpty = xs.isEmpty := by cases q1 <;> rfl
        rw [this]; exact hb _ h5
      · exact op_neD hu64 pins s σ H _ _ v u Q I rx ry ⟨d, e, h1.dp rh r1, h2.dp rh r2, h3, h4, hb _ h5⟩
      · cases r1; cases r2
        obtain ⟨va, ea, qa, _⟩ := rh.dic h3
        obtain ⟨vb, eb, qb, _⟩ := rh.dic h4
        obtain ⟨_, na, ua, ka', da⟩ := dk_of I.hok ea
        obtain ⟨_, nb, ub, kb', db⟩ := dk_of I.hok eb
        obtain rfl : v = Value.ref _ := rx
        obtain rfl : u = Value.ref _ := ry
        refine PySem.W.keq_ne na nb da db hu0 (fun _ => h5.hits I rh huI qb kb' qa ka') ⟨.bl _, H, I, rfl, ?_⟩
        have e1 : ua.length = ka.length := by rw [← Paired.length ka', qa.length]
        have e2 : ub.length = kb.length := by rw [← Paired.length kb', qb.length]
        rw [e1, e2]
        exact hb _ h6
  | In =>
    have h : wIn mx my M fun b => Dn X.K H Q (.bl b) M := h
    unfold wIn at h
    split at h
    · cases r2 with
      | tup h1 q1 =>
        obtain ⟨f1, f2, h⟩ := h
        obtain ⟨e1, g1⟩ := flat_rm f1 r1
        obtain ⟨e2, g2⟩ := flats_rm f2 q1
        exact op_in_seq pins s σ H _ _ v u Q I rx ry ⟨_, _, rfl, .inr (SqT.of h1), g1, g2, by rw [e1, e2]; exact hb _ h⟩
    · cases r2 with
      | frl h1 q1 =>
        obtain ⟨f1, f2, h⟩ := h
        obtain ⟨e1, g1⟩ := flat_rm f1 r1
        obtain ⟨e2, g2⟩ := flats_rm f2 q1
        exact op_in_seq pins s σ H _ _ v u Q I rx ry ⟨_, _, rfl, .inl h1.sq, g1, g2, by rw [e1, e2]; exact hb _ h⟩
    · cases r2
      rcases h with ⟨xs, h1, f1, f2, h⟩ | ⟨kvs, kk, h1, h2, h⟩
      · obtain ⟨vs, e, q1⟩ := rh.lst h1
        obtain ⟨e1, g1⟩ := flat_rm f1 r1
        obtain ⟨e2, g2⟩ := flats_rm f2 q1
        exact op_in_seq pins s σ H _ _ v u Q I rx ry ⟨_, _, rfl, .inl (SqL.of e), g1, g2, by rw [e1, e2]; exact hb _ h⟩
      · obtain ⟨vs, e, q1, _⟩ := rh.dic h1
        have := key_rm h2 r1
        subst this
        obtain rfl : u = Value.ref _ := ry
        refine d_in hu1 I (DGet.k (k := kk) e) rx fun s3 I3 => ⟨.bl _, H, I3, rfl, ?_⟩
        rcases valM_rk (k := kk) q1 with ⟨z1, z2⟩ | ⟨x', u', z1, z2, _⟩
        · rw [z2]; rw [z1] at h; exact hb _ h
        · rw [z2]; rw [z1] at h; exact hb _ h
    · exact h.elim
  | NotIn =>
    have h : wIn mx my M fun b => Dn X.K H Q (.bl (!b)) M := h
    unfold wIn at h
    split at h
    · cases r2 with
      | tup h1 q1 =>
        obtain ⟨f1, f2, h⟩ := h
        obtain ⟨e1, g1⟩ := flat_rm f1 r1
        obtain ⟨e2, g2⟩ := flats_rm f2 q1
        exact op_notIn_seq pins s σ H _ _ v u Q I rx ry ⟨_, _, rfl, .inr (SqT.of h1), g1, g2, by rw [e1, e2]; exact hb _ h⟩
    · cases r2 with
      | frl h1 q1 =>
        obtain ⟨f1, f2, h⟩ := h
        obtain ⟨e1, g1⟩ := flat_rm f1 r1
        obtain ⟨e2, g2⟩ := flats_rm f2 q1
        exact op_notIn_seq pins s σ H _ _ v u Q I rx ry ⟨_, _, rfl, .inl h1.sq, g1, g2, by rw [e1, e2]; exact hb _ h⟩
    · cases r2
      rcases h with ⟨xs, h1, f1, f2, h⟩ | ⟨kvs, kk, h1, h2, h⟩
      · obtain ⟨vs, e, q1⟩ := rh.lst h1
        obtain ⟨e1, g1⟩ := flat_rm f1 r1
        obtain ⟨e2, g2⟩ := flats_rm f2 q1
        exact op_notIn_seq pins s σ H _ _ v u Q I rx ry ⟨_, _, rfl, .inl (SqL.of e), g1, g2, by rw [e1, e2]; exact hb _ h⟩
      · obtain ⟨vs, e, q1, _⟩ := rh.dic h1
        have := key_rm h2 r1
        subst this
        obtain rfl : u = Value.ref _ := ry
        refine d_notIn hu1 I (DGet.k (k := kk) e) rx fun s3 I3 => ⟨.bl _, H, I3, rfl, ?_⟩
        rcases valM_rk (k := kk) q1 with ⟨z1, z2⟩ | ⟨x', u', z1, z2, _⟩
        · rw [z2]; rw [z1] at h; exact hb _ h
        · rw [z2]; rw [z1] at h; exact hb _ h
    · exact h.elim
end
end L2
namespace L2
open PySem PySem.Spec PyProof.Rows
def wIx (x y : MV) (M : MH) (Q : QM) : Prop := match x with
  | .tup xs => ∃ i v, y = .int i ∧ atI xs i = some v ∧ Q v M
  | .frl xs => ∃ i v, y = .int i ∧ atI xs i = some v ∧ Q v M
  | .str z => ∃ i c, y = .int i ∧ z.length ≤ sizeLine ∧ atI z.cps.toList i = some c ∧ Q (.str ⟨#[c]⟩) M
  | .ref a => (∃ xs i v, M a = some (.lst xs) ∧ y = .int i ∧ atI xs i = some v ∧ Q v M) ∨ (∃ kvs kk v, M a = some (.dic kvs) ∧ keyM y = some kk ∧ valM kvs kk = some v ∧ Q v M) ∨ ∃ o kvs kk v, M a = some (.fdic o kvs) ∧ keyM y = some kk ∧ valM kvs kk = some v ∧ Q v M
  | _ => False
theorem mon_ix : Mon2 wIx := by
  intro x y M Q Q' hq h
  unfold wIx at h ⊢
  split at h
  · obtain ⟨i, v, h1, h2, h3⟩ := h; exact ⟨i, v, h1, h2, hq _ _ h3⟩
  · obtain ⟨i, v, h1, h2, h3⟩ := h; exact ⟨i, v, h1, h2, hq _ _ h3⟩
  · obtain ⟨i, v, h1, h2, h3, h4⟩ := h; exact ⟨i, v, h1, h2, h3, hq _ _ h4⟩
  · rcases h with ⟨xs, i, v, h1, h2, h3, h4⟩ | ⟨kvs, kk, v, h1, h2, h3, h4⟩ | ⟨o, kvs, kk, v, h1, h2, h3, h4⟩
    · exact .inl ⟨xs, i, v, h1, h2, h3, hq _ _ h4⟩
    · exact .inr (.inl ⟨kvs, kk, v, h1, h2, h3, hq _ _ h4⟩)
    · exact .inr (.inr ⟨o, kvs, kk, v, h1, h2, h3, hq _ _ h4⟩)
  · exact h.elim
theorem RMs.atI {K : PySem.W.Frag} {H : Hp} {m : List MV} {v : List V} {i : Int} {x : MV} (r : RMs K H m v) (e : atI m i = some x) : ∃ u, atI v i = some u ∧ RM K H x u := by
  unfold L2.atI at e ⊢
  rw [← r.length]
  cases q : ixN m.length i with
  | none => rw [q] at e; cases e
  | some j => rw [q] at e; exact r.get e
section
variable {X : Cx}
theorem ix_dict (hu : X.A.units + 1 < cLine) : IxR X (fun x y H Q => ∃ a v, x = .ref a ∧ DGet H a y (some v) ∧ Q v H) := by
  intro value slice pins s σ H x y v u Q I rx ry h hs
  obtain ⟨a, w', rfl, g, q⟩ := h
  obtain rfl : v = Value.ref a := rx
  exact tail_any (dict_typeIs I g) PySem.F.slot_dict_getitem.lookup (d_getItem hu I g ry fun w2 s3 I3 rw' => ⟨w', H, I3, rw', q⟩) hs
theorem ix_any (hu : X.A.units + 1 < cLine) : IxR X (li2 X.K wIx) := by
  intro value slice pins s σ H x y v u Q I rx ry h hs
  obtain ⟨mx, my, M, r1, r2, rh, h⟩ := h
  unfold wIx at h
  split at h
  · obtain ⟨i, v', rfl, h2, h3⟩ := h
    cases r2
    cases r1 with
    | tup h1 q1 =>
      obtain ⟨u', e, r⟩ := q1.atI h2
      exact ix_tup value slice pins s σ H _ _ v u Q I rx ry ⟨_, _, _, u', rfl, rfl, SqT.of h1, e, h3 _ _ (Kp.refl _) r rh⟩ hs
  · obtain ⟨i, v', rfl, h2, h3⟩ := h
    cases r2
    cases r1 with
    | frl h1 q1 =>
      obtain ⟨u', e, r⟩ := q1.atI h2
      exact ix_list value slice pins s σ H _ _ v u Q I rx ry ⟨_, _, _, u', rfl, rfl, h1.sq, e, h3 _ _ (Kp.refl _) r rh⟩ hs
  · obtain ⟨i, c, rfl, h2, h3, h4⟩ := h
    cases r1; cases r2
    exact ix_str value slice pins s σ H _ _ v u Q I rx ry ⟨_, _, c, rfl, rfl, h2, h3, h4 _ _ (Kp.refl _) (.str _) rh⟩ hs
  · cases r1
    rcases h with ⟨xs, i, v', h1, rfl, h3, h4⟩ | ⟨kvs, kk, v', h1, h2, h3, h4⟩ | ⟨o, kvs, kk, v', h1, h2, h3, h4⟩
    · cases r2
      obtain ⟨vs, e, q1⟩ := rh.lst h1
      obtain ⟨u', e2, r⟩ := q1.atI h3
      exact ix_list value slice pins s σ H _ _ v u Q I rx ry ⟨_, _, _, u', rfl, rfl, SqL.of e, e2, h4 _ _ (Kp.refl _) r rh⟩ hs
    · obtain ⟨vs, e, q1, _⟩ := rh.dic h1
      have ek := key_rm h2 r2
      rcases valM_rk (k := kk) q1 with ⟨z1, z2⟩ | ⟨x', u', z1, z2, r'⟩
      · rw [z1] at h3; cases h3
      · rw [z1] at h3; cases h3
        have g := DGet.k (k := kk) e
        rw [z2] at g
        subst ek
        exact ix_dict hu value slice pins s σ H _ _ v u Q I rx ry ⟨_, u', rfl, g, h4 _ _ (Kp.refl _) r' rh⟩ hs
    · obtain ⟨vs, e, q1, _⟩ := rh.fdic h1
      have ek := key_rm h2 r2
      rcases valM_rk (k := kk) q1 with ⟨z1, z2⟩ | ⟨x', u', z1, z2, r'⟩
      · rw [z1] at h3; cases h3
      · rw [z1] at h3; cases h3
        have g : DGet H _ (kV kk) (valV vs kk) := .inl ⟨vs, kk, .inr ⟨o, e⟩, rfl, rfl⟩
        rw [z2] at g
        subst ek
        exact ix_dict hu value slice pins s σ H _ _ v u Q I rx ry ⟨_, u', rfl, g, h4 _ _ (Kp.refl _) r' rh⟩ hs
  · exact h.elim
end
def cutM (xs : List MV) (lo hi : Option Int) : List MV := (xs.drop (HT.sIx xs.length 0 lo)).take (HT.sIx xs.length xs.length hi - HT.sIx xs.length 0 lo)
theorem RMs.cut {K : PySem.W.Frag} {H : Hp} {m : List MV} {v : List V} (r : RMs K H m v) (lo hi : Option Int) : RMs K H (cutM m lo hi) (cutV v lo hi) := by
  unfold cutM cutV
  rw [← r.length]
  exact (r.drop _).take _
abbrev WS := MV → Option Int → Option Int → MH → QM → Prop
def wSl : WS := fun x lo hi M Q => match x with
  | .tup xs => ¬ (HT.sIx xs.length 0 lo = 0 ∧ HT.sIx xs.length xs.length hi = xs.length) ∧ Q (.tup (cutM xs lo hi)) M
  | .frl xs => ∀ p, M p = none → Q (.ref p) (updM M p (.lst (cutM xs lo hi)))
  | .ref a => ∃ xs, M a = some (.lst xs) ∧ ∀ p, M p = none → Q (.ref p) (updM M p (.lst (cutM xs lo hi)))
  | .str z => z.length ≤ sizeLine ∧ Q (.str (cutS z lo hi)) M
  | _ => False
theorem mon_sl {x : MV} {lo hi : Option Int} {M : MH} {Q Q' : QM} (hq : ∀ m M', Q m M' → Q' m M') (h : wSl x lo hi M Q) : wSl x lo hi M Q' := by
  unfold wSl at h ⊢
  split at h
  · exact ⟨h.1, hq _ _ h.2⟩
  · exact fun p hp => hq _ _ (h p hp)
  · obtain ⟨xs, h1, h2⟩ := h; exact ⟨xs, h1, fun p hp => hq _ _ (h2 p hp)⟩
  · exact ⟨h.1, hq _ _ h.2⟩
  · exact h.elim
def liS (K : PySem.W.Frag) (w : WS) : V → Option Int → Option Int → Hp → VK → Prop := fun x lo hi H Q => ∃ mx M, RM K H mx x ∧ RH K M H ∧ w mx lo hi M (Dn K H Q)
section
variable {X : Cx}
theorem sl_any : SlR X (liS X.K wSl) := by
  intro pins s σ H x v vl vu lo hi sl Q I rx hs pl pu h
  obtain ⟨mx, M, r1, rh, h⟩ := h
  unfold wSl at h
  split at h
  · cases r1 with
    | tup h1 q1 =>
      rename_i vs
      obtain ⟨h2, h3⟩ := h
      refine sl_tup pins s σ H _ v vl vu lo hi sl Q I rx hs pl pu ⟨_, _, rfl, SqT.of h1, by rw [← q1.length]; exact h2, fun p hp => ?_⟩
      have k := Kp.new hp (.tup (cutV vs lo hi))
      exact h3 _ _ k (.tup upd_same ((q1.cut lo hi).mono k)) (rh.kept hp _)
  · cases r1 with
    | frl h1 q1 =>
      rename_i vs
      refine sl_list pins s σ H _ v vl vu lo hi sl Q I rx hs pl pu ⟨_, _, rfl, h1.sq, fun p hp => ?_⟩
      have k := Kp.new hp (.lst (cutV vs lo hi))
      exact h p (rh.free hp) _ _ k (.ref p) (rh.put k ((q1.cut lo hi).mono k))
  · cases r1
    obtain ⟨xs, h1, h⟩ := h
    obtain ⟨vs, e, q1⟩ := rh.lst h1
    refine sl_list pins s σ H _ v vl vu lo hi sl Q I rx hs pl pu ⟨_, _, rfl, SqL.of e, fun p hp => ?_⟩
    have k := Kp.new hp (.lst (cutV vs lo hi))
    exact h p (rh.free hp) _ _ k (.ref p) (rh.put k ((q1.cut lo hi).mono k))
  · cases r1
    exact sl_str pins s σ H _ v vl vu lo hi sl Q I rx hs pl pu ⟨_, rfl, h.1, h.2 _ _ (Kp.refl _) (.str _) rh⟩
  · exact h.elim
end
def tyM (M : MH) : MV → Option Ty7
  | .non => some .none | .bl _ => some .bool | .int _ => some .int | .str _ => some .str | .tup _ => some .tuple
  | .ref a => match M a with | some (.lst _) => some .list | some (.dic _) => some .dict | _ => none
  | _ => none
def isTy : Ty7 → Ty7 → Bool
  | .bool, .int => true
  | a, b => decide (a = b)
theorem kit_ty (K : PySem.W.Frag) (T c : Ty7) (hc : c ≠ .none) : PySem.W.kitOne K (.type T.name) (.type c.name) = some (isTy T c) := by
  cases T <;> cases c <;> first | exact absurd rfl hc | with_unfolding_all rfl
theorem tyM_ok {K : PySem.W.Frag} {M : MH} {H : Hp} {m : MV} {v : V} {T : Ty7} (rh : RH K M H) (r : RM K H m v) (e : tyM M m = some T) : TyOf K H v (.type T.name) := by
  cases r with
  | non => cases e; exact .non
  | bl b => cases e; exact .bl b
  | int i => cases e; exact .int i
  | str x => cases e; exact .str x
  | tup h _ => cases e; exact .tup h
  | frl _ _ => cases e
  | ty _ => cases e
  | ref a =>
    unfold tyM at e
    dsimp only at e
    cases q : M a with
    | none => rw [q] at e; cases e
    | some o =>
      rw [q] at e
      cases o with
      | lst xs => cases e; obtain ⟨vs, h, _⟩ := rh.lst q; exact .lst h
      | dic kvs => cases e; obtain ⟨vs, h, _⟩ := rh.dic q; exact .dK h
      | ins _ _ => cases e
      | fdic _ _ => cases e
inductive BI where | len | isinst | max | min | sum | abs | int | list | tuple | dict | sorted | dictL | all
  deriving DecidableEq
def bLen (vs : List MV) (M : MH) (Q : QM) : Prop := match vs with
  | [.tup xs] => Q (.int xs.length) M
  | [.frl xs] => Q (.int xs.length) M
  | [.str z] => z.length ≤ sizeLine ∧ Q (.int z.length) M
  | [.ref a] => (∃ xs, M a = some (.lst xs) ∧ Q (.int xs.length) M) ∨ ∃ kvs, M a = some (.dic kvs) ∧ Q (.int kvs.length) M
  | _ => False
def bIsi (vs : List MV) (M : MH) (Q : QM) : Prop := match vs with
  | [x, .ty c] => ∃ T, tyM M x = some T ∧ c ≠ .none ∧ Q (.bl (isTy T c)) M
  | [x, .tup [.ty c, .ty d]] => ∃ T, tyM M x = some T ∧ c ≠ .none ∧ d ≠ .none ∧ Q (.bl (isTy T c || isTy T d)) M
  | _ => False
def bMax (vs : List MV) (M : MH) (Q : QM) : Prop := match vs with
  | [.int i, .int j] => Q (.int (if j > i then j else i)) M
  | [.ref a] => ∃ ns : List Int, M a = some (.lst (ns.map MV.int)) ∧ 0 < ns.length ∧ ∀ m, m ∈ ns → (∀ x ∈ ns, x ≤ m) → Q (.int m) M
  | _ => False
def bMin (vs : List MV) (M : MH) (Q : QM) : Prop := match vs with
  | [.int i, .int j] => Q (.int (if j < i then j else i)) M
  | [.ref a] => ∃ ns : List Int, M a = some (.lst (ns.map MV.int)) ∧ 0 < ns.length ∧ ∀ m, m ∈ ns → (∀ x ∈ ns, m ≤ x) → Q (.int m) M
  | _ => False
def bAbs (vs : List MV) (M : MH) (Q : QM) : Prop := match vs with
  | [.int i] => Q (.int (if i < 0 then -i else i)) M
  | _ => False
def bInt (vs : List MV) (M : MH) (Q : QM) : Prop := match vs with
  | [.int i] => Q (.int i) M
  | [.bl k] => Q (.int (if k then 1 else 0)) M
  | _ => False
def bLst (vs : List MV) (M : MH) (Q : QM) : Prop := match vs with
  | [.tup xs] => ∀ p, M p = none → Q (.ref p) (updM M p (.lst xs))
  | [.frl xs] => ∀ p, M p = none → Q (.ref p) (updM M p (.lst xs))
  | [.ref a] => ∃ xs, M a = some (.lst xs) ∧ ∀ p, M p = none → Q (.ref p) (updM M p (.lst xs))
  | _ => False
def bTup (vs : List MV) (M : MH) (Q : QM) : Prop := match vs with
  | [.tup xs] => Q (.tup xs) M
  | [.frl xs] => Q (.tup xs) M
  | [.ref a] => ∃ xs, M a = some (.lst xs) ∧ Q (.tup xs) M
  | _ => False
def prM (p : Key × MV) : MV := .tup [match p.1 with | .inl i => .int i | .inr x => .str x, p.2]
def putAllM (ps : List (Key × MV)) : List (Key × MV) := ps.foldl (fun c z => putM c z.1 z.2) []
def bDic (vs : List MV) (M : MH) (Q : QM) : Prop := match vs with
  | [.ref a] => ∃ kvs, M a = some (.dic kvs) ∧ ∀ p, M p = none → Q (.ref p) (updM M p (.dic kvs))
  | [.tup xs] => ∃ ps : List (Key × MV), xs = ps.map prM ∧ ∀ p, M p = none → Q (.ref p) (updM M p (.dic (putAllM ps)))
  | _ => False
theorem pairs_of {K : PySem.W.Frag} {H : Hp} : ∀ {ps : List (Key × MV)} {vs : List V}, RMs K H (ps.map prM) vs → ∃ ps' : List (Key × V), PairsV H ps' vs ∧ RKs K H ps ps'
  | [], _, .nil => ⟨[], .nil, .nil⟩
  | (k, x) :: r, _, .cons (.tup e t) u => by
    obtain ⟨ps', h1, h2⟩ := pairs_of u
    cases t with
    | cons t1 t2 =>
      cases t2 with
      | cons t3 t4 =>
        cases t4
        rename_i v1 v2
        refine ⟨(k, v2) :: ps', .cons ⟨_, rfl, ?_⟩ h1, .cons t3 h2⟩
        rw [e]
        cases k <;> cases t1 <;> rfl
theorem putAll_rk {K : PySem.W.Frag} {H : Hp} : ∀ {ps : List (Key × MV)} {ps' : List (Key × V)} {c : List (Key × MV)} {c' : List (Key × V)}, RKs K H ps ps' → RKs K H c c' → (c.map (·.1)).Nodup →
    RKs K H (ps.foldl (fun c z => putM c z.1 z.2) c) (ps'.foldl (fun c z => putK c z.1 z.2) c') ∧ ((ps.foldl (fun c z => putM c z.1 z.2) c).map (·.1)).Nodup
  | _, _, _, _, .nil, h, nd => ⟨h, nd⟩
  | _, _, _, _, .cons r t, h, nd => by
    obtain ⟨a, b⟩ := putM_rk r nd h
    have z := putAll_rk t a b
    exact z
def wBi (f : BI) (vs : List MV) (M : MH) (Q : QM) : Prop := match f with
  | .len => bLen vs M Q
  | .isinst => bIsi vs M Q
  | .max => bMax vs M Q
  | .min => bMin vs M Q
  | .sum => False
  | .abs => bAbs vs M Q
  | .int => bInt vs M Q
  | .list => bLst vs M Q
  | .tuple => bTup vs M Q
  | .dict => bDic vs M Q
  | .sorted => False
  | .dictL => False
  | .all => False
theorem mon_len : MonW bLen := by
  intro vs M Q Q' hq h
  unfold bLen at h ⊢
  split at h
  · exact hq _ _ h
  · exact hq _ _ h
  · exact ⟨h.1, hq _ _ h.2⟩
  · rcases h with ⟨xs, h1, h2⟩ | ⟨xs, h1, h2⟩
    · exact .inl ⟨xs, h1, hq _ _ h2⟩
    · exact .inr ⟨xs, h1, hq _ _ h2⟩
  · exact h.elim
theorem mon_bi (f : BI) : MonW (wBi f) := by
  intro vs M Q Q' hq h
  cases f
  · exact mon_len hq h
  · have h : bIsi vs M Q := h
    show bIsi vs M Q'
    unfold bIsi at h ⊢
    split at h
    · obtain ⟨T, h1, h2, h3⟩ := h; exact ⟨T, h1, h2, hq _ _ h3⟩
    · obtain ⟨T, h1, h2, h3, h4⟩ := h; exact ⟨T, h1, h2, h3, hq _ _ h4⟩
    · exact h.elim
  · have h : bMax vs M Q := h
    show bMax vs M Q'
    unfold bMax at h ⊢
    split at h
    · exact hq _ _ h
    · obtain ⟨ns, h1, h2, h3⟩ := h; exact ⟨ns, h1, h2, fun m a b => hq _ _ (h3 m a b)⟩
    · exact h.elim
  · have h : bMin vs M Q := h
    show bMin vs M Q'
    unfold bMin at h ⊢
    split at h
    · exact hq _ _ h
    · obtain ⟨ns, h1, h2, h3⟩ := h; exact ⟨ns, h1, h2, fun m a b => hq _ _ (h3 m a b)⟩
    · exact h.elim
  · exact False.elim h
  · have h : bAbs vs M Q := h
    show bAbs vs M Q'
    unfold bAbs at h ⊢
    split at h
    · exact hq _ _ h
    · exact h.elim
  · have h : bInt vs M Q := h
    show bInt vs M Q'
    unfold bInt at h ⊢
    split at h
    · exact hq _ _ h
    · exact hq _ _ h
    · exact h.elim
  · have h : bLst vs M Q := h
    show bLst vs M Q'
    unfold bLst at h ⊢
    split at h
    · exact fun p hp => hq _ _ (h p hp)
    · exact fun p hp => hq _ _ (h p hp)
    · obtain ⟨xs, h1, h2⟩ := h; exact ⟨xs, h1, fun p hp => hq _ _ (h2 p hp)⟩
    · exact h.elim
  · have h : bTup vs M Q := h
    show bTup vs M Q'
    unfold bTup at h ⊢
    split at h
    · exact hq _ _ h
    · exact hq _ _ h
    · obtain ⟨xs, h1, h2⟩ := h; exact ⟨xs, h1, hq _ _ h2⟩
    · exact h.elim
  · have h : bDic vs M Q := h
    show bDic vs M Q'
    unfold bDic at h ⊢
    split at h
    · obtain ⟨xs, h1, h2⟩ := h; exact ⟨xs, h1, fun p hp => hq _ _ (h2 p hp)⟩
    · obtain ⟨xs, h1, h2⟩ := h; exact ⟨xs, h1, fun p hp => hq _ _ (h2 p hp)⟩
    · exact h.elim
  · exact False.elim h
  · exact False.elim h
  · exact False.elim h
def BI.val : BI → Value
  | .len => .builtin "len" | .isinst => .builtin "isinstance" | .max => .builtin "max" | .min => .builtin "min" | .sum => .builtin "sum" | .abs => .builtin "abs"
  | .int => .type "int" | .list => .type "list" | .tuple => .type "tuple" | .dict => .type "dict" | .sorted => .builtin "sorted" | .dictL => .type "dict" | .all => .builtin "all"
section
variable {X : Cx}
theorem RMs.one {K : PySem.W.Frag} {H : Hp} {m : MV} {vs : List V} (r : RMs K H [m] vs) : ∃ v, vs = [v] ∧ RM K H m v := by
  cases r with
  | cons a b => cases b; exact ⟨_, rfl, a⟩
theorem RMs.two {K : PySem.W.Frag} {H : Hp} {m n : MV} {vs : List V} (r : RMs K H [m, n] vs) : ∃ v w, vs = [v, w] ∧ RM K H m v ∧ RM K H n w := by
  cases r with
  | cons a b => obtain ⟨w, rfl, c⟩ := b.one; exact ⟨_, _, rfl, a, c⟩
theorem call_dict_of : CallR X (.type "dict") (fun xs H Q => ∃ a kvs, xs = [.ref a] ∧ H a = some (.dK kvs) ∧ ∀ p, H p = none → Q (.ref p) (upd H p (.dK kvs))) := by
  intro pins s σ H xs us Q I r h
  obtain ⟨a, kvs, rfl, ha, q⟩ := h
  obtain ⟨u, rfl, ru⟩ := vals1 r
  cases ru
  exact d_copyOf I (.inl ha) fun p s' hp I' => ⟨.ref p, _, I', rfl, q p hp⟩
theorem call_bi (hc : X.calm = true) (f : BI) : CallR X f.val (liW X.K (wBi f)) := by
  intro pins s σ H xs us Q I r h
  obtain ⟨ms, M, r1, rh, h⟩ := h
  cases f with
  | len =>
    have h : bLen ms M (Dn X.K H Q) := h
    unfold bLen at h
    split at h
    · obtain ⟨v, rfl, a⟩ := r1.one
      cases a with
      | tup h1 q1 => exact call_len_seq pins s σ H _ us Q I r ⟨_, _, rfl, .inr (SqT.of h1), by rw [← q1.length]; exact h _ _ (Kp.refl _) (.int _) rh⟩
    · obtain ⟨v, rfl, a⟩ := r1.one
      cases a with
      | frl h1 q1 => exact call_len_seq pins s σ H _ us Q I r ⟨_, _, rfl, .inl h1.sq, by rw [← q1.length]; exact h _ _ (Kp.refl _) (.int _) rh⟩
    · obtain ⟨v, rfl, a⟩ := r1.one
      cases a
      exact call_len_str pins s σ H _ us Q I r ⟨_, rfl, h.1, h.2 _ _ (Kp.refl _) (.int _) rh⟩
    · obtain ⟨v, rfl, a⟩ := r1.one
      cases a
      rcases h with ⟨xs, h1, h⟩ | ⟨kvs, h1, h⟩
      · obtain ⟨vs, e, q1⟩ := rh.lst h1
        exact call_len_seq pins s σ H _ us Q I r ⟨_, _, rfl, .inl (SqL.of e), by rw [← q1.length]; exact h _ _ (Kp.refl _) (.int _) rh⟩
      · obtain ⟨vs, e, q1, _⟩ := rh.dic h1
        exact call_lenD pins s σ H _ us Q I r ⟨_, _, rfl, e, by rw [← q1.length]; exact h _ _ (Kp.refl _) (.int _) rh⟩
    · exact h.elim
  | isinst =>
    have h : bIsi ms M (Dn X.K H Q) := h
    unfold bIsi at h
    split at h
    · obtain ⟨v, w, rfl, a, b⟩ := r1.two
      cases b
      obtain ⟨T, h1, h2, h3⟩ := h
      exact call_isinst pins s σ H _ us Q I r ⟨_, _, _, _, rfl, tyM_ok rh a h1, kit_ty _ _ _ h2, h3 _ _ (Kp.refl _) (.bl _) rh⟩
    · obtain ⟨v, w, rfl, a, b⟩ := r1.two
      obtain ⟨T, h1, h2, h3, h4⟩ := h
      cases b with
      | tup ht qt =>
        cases qt with
        | cons q1 q2 =>
          cases q2 with
          | cons q3 q4 =>
            cases q4
            cases q1
            cases q3
            exact call_isinst2 pins s σ H _ us Q I r ⟨_, _, _, _, _, _, _, rfl, ht, tyM_ok rh a h1, kit_ty _ _ _ h2, kit_ty _ _ _ h3, h4 _ _ (Kp.refl _) (.bl _) rh⟩
    · exact h.elim
  | max =>
    have h : bMax ms M (Dn X.K H Q) := h
    unfold bMax at h
    split at h
    · obtain ⟨v, w, rfl, a, b⟩ := r1.two
      cases a; cases b
      exact call_max2 hc pins s σ H _ us Q I r ⟨_, _, rfl, h _ _ (Kp.refl _) (.int _) rh⟩
    · obtain ⟨v, rfl, a⟩ := r1.one
      cases a
      obtain ⟨ns, h1, h2, h3⟩ := h
      obtain ⟨vs, e, q1⟩ := rh.lst h1
      have := q1.ints_of
      subst this
      exact call_maxL hc pins s σ H _ us Q I r ⟨_, ns, rfl, SqL.of e, h2, fun m a b => h3 m a b _ _ (Kp.refl _) (.int _) rh⟩
    · exact h.elim
  | min =>
    have h : bMin ms M (Dn X.K H Q) := h
    unfold bMin at h
    split at h
    · obtain ⟨v, w, rfl, a, b⟩ := r1.two
      cases a; cases b
      exact call_min2 hc pins s σ H _ us Q I r ⟨_, _, rfl, h _ _ (Kp.refl _) (.int _) rh⟩
    · obtain ⟨v, rfl, a⟩ := r1.one
      cases a
      obtain ⟨ns, h1, h2, h3⟩ := h
      obtain ⟨vs, e, q1⟩ := rh.lst h1
      have := q1.ints_of
      subst this
      exact call_minL hc pins s σ H _ us Q I r ⟨_, ns, rfl, SqL.of e, h2, fun m a b => h3 m a b _ _ (Kp.refl _) (.int _) rh⟩
    · exact h.elim
  | sum => exact False.elim h
  | abs =>
    have h : bAbs ms M (Dn X.K H Q) := h
    unfold bAbs at h
    split at h
    · obtain ⟨v, rfl, a⟩ := r1.one
      cases a
      exact call_abs pins s σ H _ us Q I r ⟨_, rfl, h _ _ (Kp.refl _) (.int _) rh⟩
    · exact h.elim
  | int =>
    have h : bInt ms M (Dn X.K H Q) := h
    unfold bInt at h
    split at h
    · obtain ⟨v, rfl, a⟩ := r1.one
      cases a
      exact call_int1 pins s σ H _ us Q I r (.inl ⟨_, rfl, h _ _ (Kp.refl _) (.int _) rh⟩)
    · obtain ⟨v, rfl, a⟩ := r1.one
      cases a
      exact call_int1 pins s σ H _ us Q I r (.inr ⟨_, rfl, h _ _ (Kp.refl _) (.int _) rh⟩)
    · exact h.elim
  | list =>
    have h : bLst ms M (Dn X.K H Q) := h
    unfold bLst at h
    split at h
    · obtain ⟨v, rfl, a⟩ := r1.one
      cases a with
      | tup h1 q1 =>
        refine call_list_of pins s σ H _ us Q I r ⟨_, _, rfl, .inr (SqT.of h1), fun p hp => ?_⟩
        have k := fun z => Kp.new hp (.lst z)
        exact h p (rh.free hp) _ _ (k _) (.ref p) (rh.put (k _) (q1.mono (k _)))
    · obtain ⟨v, rfl, a⟩ := r1.one
      cases a with
      | frl h1 q1 =>
        refine call_list_of pins s σ H _ us Q I r ⟨_, _, rfl, .inl h1.sq, fun p hp => ?_⟩
        have k := fun z => Kp.new hp (.lst z)
        exact h p (rh.free hp) _ _ (k _) (.ref p) (rh.put (k _) (q1.mono (k _)))
    · obtain ⟨v, rfl, a⟩ := r1.one
      cases a
      obtain ⟨xs, h1, h⟩ := h
      obtain ⟨vs, e, q1⟩ := rh.lst h1
      refine call_list_of pins s σ H _ us Q I r ⟨_, _, rfl, .inl (SqL.of e), fun p hp => ?_⟩
      have k := Kp.new hp (.lst vs)
      exact h p (rh.free hp) _ _ k (.ref p) (rh.put k (q1.mono k))
    · exact h.elim
  | tuple =>
    have h : bTup ms M (Dn X.K H Q) := h
    unfold bTup at h
    split at h
    · obtain ⟨v, rfl, a⟩ := r1.one
      cases a with
      | tup h1 q1 => exact call_tuple_of pins s σ H _ us Q I r ⟨_, _, rfl, .inr ⟨SqT.of h1, h _ _ (Kp.refl _) (.tup h1 q1) rh⟩⟩
    · obtain ⟨v, rfl, a⟩ := r1.one
      cases a with
      | frl h1 q1 =>
        refine call_tuple_of pins s σ H _ us Q I r ⟨_, _, rfl, .inl ⟨h1.sq, fun p hp => ?_⟩⟩
        have k := fun z => Kp.new hp (.tup z)
        exact h _ _ (k _) (.tup upd_same (q1.mono (k _))) (rh.kept hp _)
    · obtain ⟨v, rfl, a⟩ := r1.one
      cases a
      obtain ⟨xs, h1, h⟩ := h
      obtain ⟨vs, e, q1⟩ := rh.lst h1
      refine call_tuple_of pins s σ H _ us Q I r ⟨_, _, rfl, .inl ⟨SqL.of e, fun p hp => ?_⟩⟩
      have k := Kp.new hp (.tup vs)
      exact h _ _ k (.tup upd_same (q1.mono k)) (rh.kept hp _)
    · exact h.elim
  | dict =>
    have h : bDic ms M (Dn X.K H Q) := h
    unfold bDic at h
    split at h
    · obtain ⟨v, rfl, a⟩ := r1.one
      cases a
      obtain ⟨kvs, h1, h⟩ := h
      obtain ⟨vs, e, q1, nd⟩ := rh.dic h1
      refine call_dict_of pins s σ H _ us Q I r ⟨_, _, rfl, e, fun p hp => ?_⟩
      have k := Kp.new hp (.dK vs)
      exact h p (rh.free hp) _ _ k (.ref p) (rh.put k ⟨q1.mono k, nd⟩)
    · obtain ⟨v, rfl, a⟩ := r1.one
      obtain ⟨ps, rfl, h2⟩ := h
      cases a with
      | tup e q1 =>
        obtain ⟨ps', pv, rk⟩ := pairs_of q1
        refine call_dictPT hc pins s σ H _ us Q I r ⟨_, ps', _, rfl, e, pv, fun p hp => ?_⟩
        have k := Kp.new hp (.dK (putAll ps'))
        obtain ⟨z1, z2⟩ := putAll_rk rk (.nil : RKs X.K H [] []) (by simp)
        exact h2 p (rh.free hp) _ _ k (.ref p) (rh.put k ⟨z1.mono k, z2⟩)
    · exact h.elim
  | sorted => exact False.elim h
  | dictL => exact False.elim h
  | all => exact False.elim h
end
theorem RMs.strs {K : PySem.W.Frag} {H : Hp} : ∀ ns : List Str, RMs K H (ns.map MV.str) (ns.map V.str)
  | [] => .nil
  | n :: r => .cons (.str n) (RMs.strs r)
theorem rms_of {K : PySem.W.Frag} {H : Hp} (f : Nat → Int) : ∀ l : List Nat, RMs K H (l.map fun i => MV.int (f i)) (l.map fun i => V.int (f i))
  | [] => .nil
  | _ :: r => .cons (.int _) (rms_of f r)
theorem rms_range {K : PySem.W.Frag} {H : Hp} (n : Nat) : RMs K H ((List.range n).map fun i => MV.int (i : Nat)) ((List.range n).map fun i => V.int (i : Nat)) := rms_of (fun i => (i : Int)) _
inductive B2 where | ssrt | lset | lrng
  deriving DecidableEq
def B2.out : B2 → String
  | .ssrt => "sorted"
  | .lset => "len"
  | .lrng => "list"
def B2.inn : B2 → String
  | .ssrt => "set"
  | .lset => "set"
  | .lrng => "range"
def B2.outV : B2 → Value
  | .ssrt => .builtin "sorted"
  | .lset => .builtin "len"
  | .lrng => .type "list"
def wB2 (f : B2) (v : MV) (M : MH) (Q : QM) : Prop := match f with
  | .ssrt => False
  | .lset => ∃ (a : Addr) (ns : List Int), v = .ref a ∧ M a = some (.lst (ns.map MV.int)) ∧ ns.length + 1 < scanBound ∧ ∀ k : Nat, (k = ns.length ↔ ns.Nodup) → k ≤ ns.length → Q (.int k) M
  | .lrng => ∃ n : Nat, v = .int n ∧ n ≤ 1000000 ∧ ∀ p, M p = none → Q (.ref p) (updM M p (.lst ((List.range n).map fun i => MV.int (i : Nat))))
theorem mon_b2 (f : B2) : Mon1 (wB2 f) := by
  intro v M Q Q' hq h
  cases f with
  | ssrt => exact False.elim h
  | lset =>
    obtain ⟨a, ns, h1, h2, h3, h4⟩ := h
    exact ⟨a, ns, h1, h2, h3, fun k a1 a2 => hq _ _ (h4 k a1 a2)⟩
  | lrng =>
    obtain ⟨n, h1, h2, h3⟩ := h
    exact ⟨n, h1, h2, fun p hp => hq _ _ (h3 p hp)⟩
section
variable {X : Cx}
theorem call_b2 (hc : X.calm = true) (f : B2) : Call2 X f.outV (.type f.inn) (li1 X.K (wB2 f)) := by
  intro pins s σ H x u Q I r h
  obtain ⟨m, M, r1, rh, h⟩ := h
  cases f with
  | ssrt => exact False.elim h
  | lset =>
    obtain ⟨a, ns, rfl, h2, h3, h4⟩ := h
    cases r1
    obtain ⟨vs, e, q1⟩ := rh.lst h2
    have := q1.ints_of
    subst this
    exact call_lset hc pins s σ H _ u Q I r ⟨_, ns, rfl, SqL.of e, h3, fun k a1 a2 => h4 k a1 a2 _ _ (Kp.refl _) (.int _) rh⟩
  | lrng =>
    obtain ⟨n, rfl, h2, h3⟩ := h
    cases r1
    refine call_lrng hc pins s σ H _ u Q I r ⟨n, rfl, h2, fun p hp => ?_⟩
    have k := Kp.new hp (.lst ((List.range n).map fun i => V.int (i : Nat)))
    exact h3 p (rh.free hp) _ _ k (.ref p) (rh.put k (rms_range n))
end
inductive MT where | append | extend | reverse | clear | pop | popAt | dclear | dget | dgetD | join | remove
  deriving DecidableEq
def wMt (m : MT) (a : Addr) (vs : List MV) (M : MH) (Q : QM) : Prop := ∃ xs, M a = some (.lst xs) ∧ match m, vs with
  | .append, [y] => xs.length < sizeLine ∧ Q .non (updM M a (.lst (xs ++ [y])))
  | .reverse, [] => Q .non (updM M a (.lst xs.reverse))
  | .popAt, [.int i] => ∃ k y, -(2 ^ 63) ≤ i ∧ i < 2 ^ 63 ∧ seqIndex? i xs.length = some k ∧ xs[k]? = some y ∧ Q y (updM M a (.lst (xs.eraseIdx k)))
  | _, _ => False
def wMl (m : MT) (x : MV) (vs : List MV) (M : MH) (Q : QM) : Prop := match x with
  | .ref a => wMt m a vs M Q
  | _ => False
def wMd (m : MT) (x : MV) (vs : List MV) (M : MH) (Q : QM) : Prop := match m with
  | _ => False
def MT.isL : MT → Bool
  | .dclear => false | .dget => false | .dgetD => false | .join => false | _ => true
def MT.ty : MT → String
  | .dclear => "dict" | .dget => "dict" | .dgetD => "dict" | .join => "str" | _ => "list"
def mtOk (m : MT) (x : MV) (M : MH) : Prop := match m with
  | .dclear => ∃ a kvs, x = .ref a ∧ M a = some (.dic kvs)
  | .dget => ∃ a kvs, x = .ref a ∧ M a = some (.dic kvs)
  | .dgetD => ∃ a kvs, x = .ref a ∧ M a = some (.dic kvs)
  | .join => ∃ z, x = .str z
  | _ => ∃ a xs, x = .ref a ∧ M a = some (.lst xs)
def wMts (m : MT) (x : MV) (vs : List MV) (M : MH) (Q : QM) : Prop := match m with
  | .dclear => wMd .dclear x vs M Q
  | .dget => wMd .dget x vs M Q
  | .dgetD => wMd .dgetD x vs M Q
  | .join => wMd .join x vs M Q
  | m => wMl m x vs M Q
theorem wMts_l {m : MT} {x : MV} {vs : List MV} {M : MH} {Q : QM} (h : m.isL = true) : wMts m x vs M Q = wMl m x vs M Q := by cases m <;> first | rfl | cases h
theorem wMts_d {m : MT} {x : MV} {vs : List MV} {M : MH} {Q : QM} (h : m.isL = false) : wMts m x vs M Q = wMd m x vs M Q := by cases m <;> first | rfl | cases h
theorem mon_ml {m : MT} {a : MV} {vs : List MV} {M : MH} {Q Q' : QM} (hq : ∀ m M', Q m M' → Q' m M') (h : wMl m a vs M Q) : wMl m a vs M Q' := by
  cases a <;> try exact h.elim
  obtain ⟨xs, h1, h⟩ := h
  refine ⟨xs, h1, ?_⟩
  split at h
  · exact ⟨h.1, hq _ _ h.2⟩
  · exact hq _ _ h
  · obtain ⟨k, y, a, b, c, d, e⟩ := h; exact ⟨k, y, a, b, c, d, hq _ _ e⟩
  · exact h.elim
theorem mon_md {m : MT} {x : MV} {vs : List MV} {M : MH} {Q Q' : QM} (hq : ∀ m M', Q m M' → Q' m M') (h : wMd m x vs M Q) : wMd m x vs M Q' := by
  cases m <;> try exact h.elim
theorem mon_mt {m : MT} {a : MV} {vs : List MV} {M : MH} {Q Q' : QM} (hq : ∀ m M', Q m M' → Q' m M') (h : wMts m a vs M Q) : wMts m a vs M Q' := by
  cases e : m.isL
  · rw [wMts_d e] at h ⊢; exact mon_md hq h
  · rw [wMts_l e] at h ⊢; exact mon_ml hq h
def MT.id : MT → String
  | .dclear => "dict.clear" | .dget => "dict.get" | .dgetD => "dict.get" | .join => "str.join"
  | .append => "list.append" | .extend => "list.extend" | .reverse => "list.reverse" | .clear => "list.clear" | .pop => "list.pop" | .popAt => "list.pop" | .remove => "list.remove"
def liM (K : PySem.W.Frag) (w : MV → List MV → MH → QM → Prop) : V → List V → Hp → VK → Prop := fun x xs H Q => ∃ mx ms M, RM K H mx x ∧ RMs K H ms xs ∧ RH K M H ∧ w mx ms M (Dn K H Q)
theorem RMs.erase {K : PySem.W.Frag} {H : Hp} {m : List MV} {v : List V} (r : RMs K H m v) (k : Nat) : RMs K H (m.eraseIdx k) (v.eraseIdx k) := by
  rw [List.eraseIdx_eq_take_drop_succ, List.eraseIdx_eq_take_drop_succ]; exact (r.take _).append (r.drop _)
section
variable {X : Cx}
theorem mt_anyL (m : MT) : MtR X m.id (liM X.K (wMl m)) := by
  intro pins s σ H x xs v us Q I rx rs h
  obtain ⟨mx, ms, M, r1, r2, rh, h⟩ := h
  cases r1 <;> try exact h.elim
  obtain ⟨ys, h1, h⟩ := h
  obtain ⟨vs, e, q1⟩ := rh.lst h1
  have ku : ∀ o, Kp H (upd H _ o) := fun o => Kp.upd e rfl o
  split at h
  · obtain ⟨w, rfl, r3⟩ := r2.one
    exact mt_append pins s σ H _ _ v us Q I rx rs ⟨_, vs, w, rfl, rfl, e, by rw [← q1.length]; exact h.1, h.2 _ _ (ku _) .non (rh.put (ku _) ((q1.append (.cons r3 .nil)).mono (ku _)))⟩
  · cases r2
    exact mt_reverse pins s σ H _ _ v us Q I rx rs ⟨_, vs, rfl, rfl, e, h _ _ (ku _) .non (rh.put (ku _) (q1.rev.mono (ku _)))⟩
  · obtain ⟨w, rfl, r3⟩ := r2.one
    cases r3
    obtain ⟨k, y, a, b, c, d, f⟩ := h
    obtain ⟨u', e2, r'⟩ := q1.get d
    exact mt_popAt pins s σ H _ _ v us Q I rx rs ⟨_, vs, _, k, u', rfl, rfl, e, a, b, by rw [← q1.length]; exact c, e2, f _ _ (ku _) (r'.mono (ku _)) (rh.put (ku _) ((q1.erase k).mono (ku _)))⟩
  · exact h.elim
theorem mt_anyD (hu : X.A.units + 1 < cLine) (m : MT) : MtR X m.id (liM X.K (wMd m)) := by
  intro pins s σ H x xs v us Q I rx rs h
  obtain ⟨mx, ms, M, r1, r2, rh, h⟩ := h
  cases m <;> try exact h.elim
theorem mt_any (hu : X.A.units + 1 < cLine) (m : MT) : MtR X m.id (liM X.K (wMts m)) := by
  intro pins s σ H x xs v us Q I rx rs h
  obtain ⟨mx, ms, M, r1, r2, rh, h⟩ := h
  cases e : m.isL
  · rw [wMts_d e] at h; exact mt_anyD hu m pins s σ H x xs v us Q I rx rs ⟨mx, ms, M, r1, r2, rh, h⟩
  · rw [wMts_l e] at h; exact mt_anyL m pins s σ H x xs v us Q I rx rs ⟨mx, ms, M, r1, r2, rh, h⟩
end
def wPut (o i v : MV) (M : MH) (Q : MH → Prop) : Prop := match o with
  | .ref a => (∃ xs k j, M a = some (.lst xs) ∧ i = .int k ∧ ixN xs.length k = some j ∧ Q (updM M a (.lst (xs.set j v)))) ∨ ∃ kvs kk, M a = some (.dic kvs) ∧ keyM i = some kk ∧ kvs.length < sizeLine ∧ Q (updM M a (.dic (putM kvs kk v)))
  | _ => False
theorem mon_put {o i v : MV} {M : MH} {Q Q' : MH → Prop} (hq : ∀ M', Q M' → Q' M') (h : wPut o i v M Q) : wPut o i v M Q' := by
  cases o <;> try exact h.elim
  rcases h with ⟨xs, k, j, h1, h2, h3, h4⟩ | ⟨kvs, kk, h1, h2, h3, h4⟩
  · exact .inl ⟨xs, k, j, h1, h2, h3, hq _ h4⟩
  · exact .inr ⟨kvs, kk, h1, h2, h3, hq _ h4⟩
def DnH (K : PySem.W.Frag) (H : Hp) (Q : Hp → Prop) : MH → Prop := fun M => ∀ H', Kp H H' → RH K M H' → Q H'
def liPut (K : PySem.W.Frag) : TSet := fun o i v H Q => ∃ mo mi mv M, RM K H mo o ∧ RM K H mi i ∧ RM K H mv v ∧ RH K M H ∧ wPut mo mi mv M (DnH K H Q)
section
variable {X : Cx}
theorem set_any (hu : X.A.units + 1 < cLine) : PSet X (liPut X.K) := by
  intro pins s σ H o i v ov iv u Q I ro ri rv h
  obtain ⟨mo, mi, mv, M, r1, r2, r3, rh, h⟩ := h
  cases r1 <;> try exact h.elim
  rcases h with ⟨xs, k, j, h1, rfl, h3, h4⟩ | ⟨kvs, kk, h1, h2, h3, h4⟩
  · cases r2
    obtain ⟨vs, e, q1⟩ := rh.lst h1
    have k := Kp.upd e rfl (.lst (vs.set j v))
    exact set_list pins s σ H _ _ v ov iv u Q I ro ri rv ⟨_, vs, _, j, rfl, rfl, e, by rw [← q1.length]; exact h3, h4 _ k (rh.put k ((q1.set r3 j).mono k))⟩
  · obtain ⟨vs, e, q1, nd⟩ := rh.dic h1
    have ek := key_rm h2 r2
    subst ek
    obtain rfl : ov = Value.ref _ := ro
    have k := Kp.upd e rfl (.dK (putK vs kk v))
    obtain ⟨q2, nd2⟩ := putM_rk (k := kk) r3 nd q1
    exact d_setItem hu I (DPut.k (k := kk) e (by rw [← q1.length]; exact h3)) ri rv fun s4 I4 => ⟨_, I4, h4 _ k (rh.put k ⟨q2.mono k, nd2⟩)⟩
end
end L2
namespace L2
open PySem PySem.Spec PyProof.Rows
mutual
inductive ITg where | nm (i : Nat) | tup (ts : ITgs)
inductive ITgs where | nil | cons (t : ITg) (ts : ITgs)
end
mutual
inductive IE where
  | var (i : Nat)
  | int (i : Int) | str (x : Str) | bl (b : Bool) | non
  | glb (x : Str) (i : Int)
  | ty (c : Ty7)
  | bin (op : Operator) (a b : IE)
  | neg (a : IE)
  | not (a : IE)
  | cmp (op : CmpOp) (a b : IE)
  | chn (op op' : CmpOp) (a b c : IE)
  | and (a b : IE)
  | or (a b : IE)
  | ife (c a b : IE)
  | tup (es : IEs)
  | lst (es : IEs)
  | dic
  | ix (a b : IE)
  | sl (a : IE) (lo hi : IO)
  | call (j : Nat) (e : IE) (es : IEs)
  | bi (f : BI) (e : IE) (es : IEs)
  | b2 (f : B2) (e : IE)
  | mt (m : MT) (o : IE) (es : IEs)
  | comp (own : List Str) (fr : List Nat) (src : ISr) (tg : ITg) (test : IO) (elt : IE)
  | fld (c : Str) (o : IE) (f : Str)
  | mcall (j : Nat) (c m : Str) (o : IE) (es : IEs)
  | make (j : Nat) (c : Str) (e : IE) (es : IEs)
  | disp (ps : IPs)
inductive IPs where | nil | cons (k v : IE) (r : IPs)
inductive IEs where | nil | cons (e : IE) (es : IEs)
inductive IO where | none | some (e : IE)
inductive ISr where | seq (e : IE) | rng (e : IE) | rng2 (a b : IE) | rng3 (a b c : IE)
end
inductive Src where | tup (xs : List MV) | lst (a : Addr) (xs : List MV) | rng (lo : Int) (n : Nat) | rst (lo st : Int) (n : Nat) | dic (a : Addr) (o : Obj) (kvs : List (Key × MV)) | str (x : Str)
def kM : Key → MV
  | .inl i => .int i
  | .inr x => .str x
def Src.items : Src → List MV
  | .tup xs => xs
  | .lst _ xs => xs
  | .rng lo n => (List.range n).map fun i => .int (lo + (i : Nat))
  | .rst lo st n => (List.range n).map fun i => .int (lo + (i : Nat) * st)
  | .dic _ _ kvs => kvs.map fun p => kM p.1
  | .str x => x.cps.toList.map fun c => .str ⟨#[c]⟩
def Src.ok (M : MH) : Src → Prop
  | .lst a xs => M a = some (.lst xs)
  | .dic a o kvs => M a = some (.fdic o kvs)
  | _ => True
def Src.okF (M : MH) : Src → Prop
  | .lst a xs => M a = some (.lst xs)
  | .dic _ _ _ => False
  | _ => True
def Src.okT (M : MH) : Src → Prop
  | .dic a o kvs => M a = some (.fdic o kvs)
  | _ => True
def Src.thaw (M : MH) : Src → MH
  | .dic a _ kvs => updM M a (.dic kvs)
  | _ => M
def Src.len : Src → Nat
  | .tup xs => xs.length
  | .lst _ xs => xs.length
  | .rng _ n => n
  | .rst _ _ n => n
  | .dic _ _ kvs => kvs.length
  | .str x => x.cps.size
theorem Src.items_len (S : Src) : S.items.length = S.len := by cases S <;> simp [Src.items, Src.len]
abbrev SpM := List MV → MH → QM → Prop
abbrev TSm := Sm → MH → (Src → MH → Prop) → Prop
mutual
def wTg : ITg → MV → Sm → (Sm → Prop) → Prop
  | .nm i, v, σ, Q => Q (σ.set i (some v))
  | .tup ts, v, σ, Q => ∃ xs, v = .tup xs ∧ wTgs ts xs σ Q
def wTgs : ITgs → List MV → Sm → (Sm → Prop) → Prop
  | .nil, xs, σ, Q => xs = [] ∧ Q σ
  | .cons t ts, xs, σ, Q => ∃ v r, xs = v :: r ∧ wTg t v σ fun σ' => wTgs ts r σ' Q
end
def sCm (own : List Str) (fr : List Nat) (σ : Sm) : Sm := own.map (fun _ => none) ++ fr.map (fun i => σ.getD i none)
mutual
def wE (Φ : List (Str × SpM)) : IE → TEm
  | .var i, σ, M, Q => ∃ v, σ[i]? = some (some v) ∧ Q v M
  | .int i, _, M, Q => Q (.int i) M
  | .str x, _, M, Q => Q (.str x) M
  | .bl b, _, M, Q => Q (.bl b) M
  | .non, _, M, Q => Q .non M
  | .glb _ i, _, M, Q => Q (.int i) M
  | .ty c, _, M, Q => Q (.ty c) M
  | .bin op a b, σ, M, Q => wE Φ a σ M fun x M1 => wE Φ b σ M1 fun y M2 => wBin op x y M2 Q
  | .neg a, σ, M, Q => wE Φ a σ M fun x M1 => ∃ i, x = .int i ∧ Q (.int (-i)) M1
  | .not a, σ, M, Q => wE Φ a σ M fun x M1 => ∃ b, x = .bl b ∧ Q (.bl (!b)) M1
  | .cmp op a b, σ, M, Q => wE Φ a σ M fun x M1 => wE Φ b σ M1 fun y M2 => wCmp op x y M2 Q
  | .chn op op' a b c, σ, M, Q => wE Φ a σ M fun x M1 => wE Φ b σ M1 fun y M2 => wCmp op x y M2 fun z M3 => ∃ k, z = .bl k ∧ (if k = true then wE Φ c σ M3 fun w M4 => wCmp op' y w M4 Q else Q (.bl false) M3)
  | .and a b, σ, M, Q => wE Φ a σ M fun x M1 => ∃ c, x = .bl c ∧ (if c = true then wE Φ b σ M1 Q else Q (.bl false) M1)
  | .or a b, σ, M, Q => wE Φ a σ M fun x M1 => ∃ c, x = .bl c ∧ (if c = true then Q (.bl true) M1 else wE Φ b σ M1 Q)
  | .ife c a b, σ, M, Q => wE Φ c σ M fun x M1 => ∃ k, x = .bl k ∧ (if k = true then wE Φ a σ M1 Q else wE Φ b σ M1 Q)
  | .tup es, σ, M, Q => wEs Φ es σ M fun vs M1 => vs.length ≤ sizeLine ∧ Q (.tup vs) M1
  | .lst es, σ, M, Q => wEs Φ es σ M fun vs M1 => vs.length ≤ sizeLine ∧ ∀ p, M1 p = none → Q (.ref p) (updM M1 p (.lst vs))
  | .dic, _, M, Q => ∀ p, M p = none → Q (.ref p) (updM M p (.dic []))
  | .ix a b, σ, M, Q => wE Φ a σ M fun x M1 => wE Φ b σ M1 fun y M2 => wIx x y M2 Q
  | .sl a lo hi, σ, M, Q => wE Φ a σ M fun x M1 => wO Φ lo σ M1 fun l M2 => wO Φ hi σ M2 fun h M3 => wSl x l h M3 Q
  | .call j e es, σ, M, Q => wE Φ e σ M fun v M1 => wEs Φ es σ M1 fun vs M2 => ∃ f sp, Φ[j]? = some (f, sp) ∧ sp (v :: vs) M2 Q
  | .bi f e es, σ, M, Q => wE Φ e σ M fun v M1 => wEs Φ es σ M1 fun vs M2 => wBi f (v :: vs) M2 Q
  | .b2 f e, σ, M, Q => wE Φ e σ M fun v M1 => wB2 f v M1 Q
  | .mt m o es, σ, M, Q => wE Φ o σ M fun x M1 => mtOk m x M1 ∧ wEs Φ es σ M1 fun vs M2 => wMts m x vs M2 Q
  | .comp own fr src tg test elt, σ, M, Q => wSr Φ src σ M fun S M1 => S.len < sizeLine ∧ ∀ D, M1 D = none → ∃ J : Nat → List MV → MH → Prop, J 0 [] (updM M1 D (.lst [])) ∧
      (∀ i ys M2, J i ys M2 → M2 D = some (.lst ys) ∧ ys.length ≤ i ∧ S.ok M2) ∧
      (∀ i x ys M2, S.items[i]? = some x → J i ys M2 → wTg tg x (sCm own fr σ) fun σ2 => wI Φ test σ2 M2 fun b M4 =>
        if b = true then wE Φ elt σ2 M4 fun y M5 => M5 D = some (.lst ys) ∧ J (i + 1) (ys ++ [y]) (updM M5 D (.lst (ys ++ [y]))) else J (i + 1) ys M4) ∧
      ∀ ys M2, J S.len ys M2 → Q (.ref D) (S.thaw M2)
  | .fld c o f, σ, M, Q => wE Φ o σ M fun x M1 => ∃ a fs v, x = .ref a ∧ M1 a = some (.ins c fs) ∧ valM fs f = some v ∧ Q v M1
  | .mcall j c m o es, σ, M, Q => wE Φ o σ M fun x M1 => ∃ a fs, x = .ref a ∧ M1 a = some (.ins c fs) ∧ valM fs m = none ∧ wEs Φ es σ M1 fun vs M2 => ∃ f sp, Φ[j]? = some (f, sp) ∧ sp (.ref a :: vs) M2 Q
  | .make j c e es, σ, M, Q => wE Φ e σ M fun v M1 => wEs Φ es σ M1 fun vs M2 => ∃ f sp, Φ[j]? = some (f, sp) ∧ ∀ p, M2 p = none → sp (.ref p :: v :: vs) (updM M2 p (.ins c [])) fun u M3 => u = .non ∧ Q (.ref p) M3
  | .disp ps, σ, M, Q => ∀ p, M p = none → wPs Φ ps σ (updM M p (.dic [])) fun l M2 => M2 p = some (.dic []) ∧ l.length ≤ 15 ∧ Q (.ref p) (updM M2 p (.dic (putAllM l)))
def wPs (Φ : List (Str × SpM)) : IPs → Sm → MH → (List (Key × MV) → MH → Prop) → Prop
  | .nil, _, M, Q => Q [] M
  | .cons k v r, σ, M, Q => wE Φ k σ M fun x M1 => ∃ kk, keyM x = some kk ∧ wE Φ v σ M1 fun y M2 => wPs Φ r σ M2 fun l M3 => Q ((kk, y) :: l) M3
def wEs (Φ : List (Str × SpM)) : IEs → TAm
  | .nil, _, M, Q => Q [] M
  | .cons e es, σ, M, Q => wE Φ e σ M fun v M1 => wEs Φ es σ M1 fun vs M2 => Q (v :: vs) M2
def wO (Φ : List (Str × SpM)) : IO → Sm → MH → (Option Int → MH → Prop) → Prop
  | .none, _, M, Q => Q none M
  | .some e, σ, M, Q => wE Φ e σ M fun v M1 => ∃ i, v = .int i ∧ Q (some i) M1
def wI (Φ : List (Str × SpM)) : IO → Sm → MH → (Bool → MH → Prop) → Prop
  | .none, _, M, Q => Q true M
  | .some e, σ, M, Q => wE Φ e σ M fun v M1 => ∃ b, v = .bl b ∧ Q b M1
def wSr (Φ : List (Str × SpM)) : ISr → TSm
  | .seq e, σ, M, Q => wE Φ e σ M fun v M1 => (∃ xs, (v = .tup xs ∨ v = .frl xs) ∧ Q (.tup xs) M1) ∨ (∃ a xs, v = .ref a ∧ M1 a = some (.lst xs) ∧ Q (.lst a xs) M1) ∨ (∃ a kvs, v = .ref a ∧ M1 a = some (.dic kvs) ∧ ∀ o, Q (.dic a o kvs) (updM M1 a (.fdic o kvs))) ∨ ∃ z, v = .str z ∧ Q (.str z) M1
  | .rng e, σ, M, Q => wE Φ e σ M fun v M1 => ∃ j, v = .int j ∧ -(2 ^ 62) ≤ j ∧ j < 2 ^ 62 ∧ Q (.rng 0 j.toNat) M1
  | .rng2 a b, σ, M, Q => wE Φ a σ M fun x M1 => wE Φ b σ M1 fun y M2 => ∃ i j, x = .int i ∧ y = .int j ∧ (-(2 ^ 62) ≤ i ∧ i < 2 ^ 62 ∧ -(2 ^ 62) ≤ j ∧ j < 2 ^ 62) ∧ Q (.rng i (j - i).toNat) M2
  | .rng3 a b c, σ, M, Q => wE Φ a σ M fun x M1 => wE Φ b σ M1 fun y M2 => wE Φ c σ M2 fun z M3 => ∃ i j, x = .int i ∧ y = .int j ∧ z = .int 2 ∧ (0 ≤ i ∧ i < 2 ^ 60 ∧ 0 ≤ j ∧ j < 2 ^ 60) ∧ Q (.rst i 2 (len2 i j)) M3
end
mutual
theorem mon_tg : ∀ (t : ITg) {v : MV} {σ : Sm} {Q Q' : Sm → Prop}, (∀ σ, Q σ → Q' σ) → wTg t v σ Q → wTg t v σ Q'
  | .nm i, v, σ, Q, Q', hq, h => by rw [wTg] at h ⊢; exact hq _ h
  | .tup ts, v, σ, Q, Q', hq, h => by
    rw [wTg] at h ⊢
    obtain ⟨xs, e, h⟩ := h
    exact ⟨xs, e, mon_tgs ts hq h⟩
theorem mon_tgs : ∀ (t : ITgs) {v : List MV} {σ : Sm} {Q Q' : Sm → Prop}, (∀ σ, Q σ → Q' σ) → wTgs t v σ Q → wTgs t v σ Q'
  | .nil, v, σ, Q, Q', hq, h => by rw [wTgs] at h ⊢; exact ⟨h.1, hq _ h.2⟩
  | .cons t ts, v, σ, Q, Q', hq, h => by
    rw [wTgs] at h ⊢
    obtain ⟨x, r, e, h⟩ := h
    exact ⟨x, r, e, mon_tg t (fun σ' h' => mon_tgs ts hq h') h⟩
end
theorem mon_ite {c : Prop} [Decidable c] {A B A' B' : Prop} (ha : A → A') (hb : B → B') (h : if c then A else B) : if c then A' else B' := by
  split at h
  · rw [if_pos (by assumption)]; exact ha h
  · rw [if_neg (by assumption)]; exact hb h
mutual
theorem mon_e {Φ : List (Str × SpM)} (hΦ : ∀ (j : Nat) f sp, Φ[j]? = some (f, sp) → MonW sp) : ∀ e : IE, MonE (wE Φ e)
  | .var i, σ, M, Q, Q', hq, h => by rw [wE] at h ⊢; obtain ⟨v, e, h⟩ := h; exact ⟨v, e, hq _ _ h⟩
  | .int _, σ, M, Q, Q', hq, h => by rw [wE] at h ⊢; exact hq _ _ h
  | .str _, σ, M, Q, Q', hq, h => by rw [wE] at h ⊢; exact hq _ _ h
  | .bl _, σ, M, Q, Q', hq, h => by rw [wE] at h ⊢; exact hq _ _ h
  | .non, σ, M, Q, Q', hq, h => by rw [wE] at h ⊢; exact hq _ _ h
  | .glb _ _, σ, M, Q, Q', hq, h => by rw [wE] at h ⊢; exact hq _ _ h
  | .ty _, σ, M, Q, Q', hq, h => by rw [wE] at h ⊢; exact hq _ _ h
  | .bin op a b, σ, M, Q, Q', hq, h => by
    rw [wE] at h ⊢
    exact mon_e hΦ a (fun x M1 h1 => mon_e hΦ b (fun y M2 h2 => mon_bin op hq h2) h1) h
  | .neg a, σ, M, Q, Q', hq, h => by
    rw [wE] at h ⊢
    exact mon_e hΦ a (fun x M1 ⟨i, e, h1⟩ => ⟨i, e, hq _ _ h1⟩) h
  | .not a, σ, M, Q, Q', hq, h => by
    rw [wE] at h ⊢
    exact mon_e hΦ a (fun x M1 ⟨i, e, h1⟩ => ⟨i, e, hq _ _ h1⟩) h
  | .cmp op a b, σ, M, Q, Q', hq, h => by
    rw [wE] at h ⊢
    exact mon_e hΦ a (fun x M1 h1 => mon_e hΦ b (fun y M2 h2 => mon_cmp op hq h2) h1) h
  | .chn op op' a b c, σ, M, Q, Q', hq, h => by
    rw [wE] at h ⊢
    exact mon_e hΦ a (fun x M1 h1 => mon_e hΦ b (fun y M2 h2 => mon_cmp op (fun z M3 ⟨k, e, h3⟩ => ⟨k, e, mon_ite (mon_e hΦ c fun w M4 h4 => mon_cmp op' hq h4) (hq _ _) h3⟩) h2) h1) h
  | .and a b, σ, M, Q, Q', hq, h => by
    rw [wE] at h ⊢
    exact mon_e hΦ a (fun x M1 ⟨c, e, h1⟩ => ⟨c, e, mon_ite (mon_e hΦ b hq) (hq _ _) h1⟩) h
  | .or a b, σ, M, Q, Q', hq, h => by
    rw [wE] at h ⊢
    exact mon_e hΦ a (fun x M1 ⟨c, e, h1⟩ => ⟨c, e, mon_ite (hq _ _) (mon_e hΦ b hq) h1⟩) h
  | .ife c a b, σ, M, Q, Q', hq, h => by
    rw [wE] at h ⊢
    exact mon_e hΦ c (fun x M1 ⟨k, e, h1⟩ => ⟨k, e, mon_ite (mon_e hΦ a hq) (mon_e hΦ b hq) h1⟩) h
  | .tup es, σ, M, Q, Q', hq, h => by
    rw [wE] at h ⊢
    exact mon_es hΦ es (fun vs M1 ⟨e, h1⟩ => ⟨e, hq _ _ h1⟩) h
  | .lst es, σ, M, Q, Q', hq, h => by
    rw [wE] at h ⊢
    exact mon_es hΦ es (fun vs M1 ⟨e, h1⟩ => ⟨e, fun p hp => hq _ _ (h1 p hp)⟩) h
  | .dic, σ, M, Q, Q', hq, h => by
    rw [wE] at h ⊢
    exact fun p hp => hq _ _ (h p hp)
  | .ix a b, σ, M, Q, Q', hq, h => by
    rw [wE] at h ⊢
    exact mon_e hΦ a (fun x M1 h1 => mon_e hΦ b (fun y M2 h2 => mon_ix hq h2) h1) h
  | .sl a lo hi, σ, M, Q, Q', hq, h => by
    rw [wE] at h ⊢
    exact mon_e hΦ a (fun x M1 h1 => mon_o hΦ lo (fun y M2 h2 => mon_o hΦ hi (fun z M3 h3 => mon_sl hq h3) h2) h1) h
  | .call j e es, σ, M, Q, Q', hq, h => by
    rw [wE] at h ⊢
    exact mon_e hΦ e (fun x M1 h1 => mon_es hΦ es (fun y M2 ⟨f, sp, e, h2⟩ => ⟨f, sp, e, hΦ _ _ _ e hq h2⟩) h1) h
  | .bi f e es, σ, M, Q, Q', hq, h => by
    rw [wE] at h ⊢
    exact mon_e hΦ e (fun x M1 h1 => mon_es hΦ es (fun y M2 h2 => mon_bi f hq h2) h1) h
  | .b2 f e, σ, M, Q, Q', hq, h => by
    rw [wE] at h ⊢
    exact mon_e hΦ e (fun x M1 h1 => mon_b2 f hq h1) h
  | .mt m o es, σ, M, Q, Q', hq, h => by
    rw [wE] at h ⊢
    exact mon_e hΦ o (fun x M1 ⟨h0, h1⟩ => ⟨h0, mon_es hΦ es (fun y M2 h2 => mon_mt hq h2) h1⟩) h
  | .comp own fr src tg test elt, σ, M, Q, Q', hq, h => by
    rw [wE] at h ⊢
    exact mon_sr hΦ src (fun S M1 ⟨hz, h1⟩ => ⟨hz, fun D hD => by
      obtain ⟨J, j0, j1, j2, j3⟩ := h1 D hD
      exact ⟨J, j0, j1, j2, fun ys M2 hj => hq _ _ (j3 ys M2 hj)⟩⟩) h
  | .fld c o f, σ, M, Q, Q', hq, h => by
    rw [wE] at h ⊢
    exact mon_e hΦ o (fun x M1 ⟨a, fs, v, e, e2, e3, h1⟩ => ⟨a, fs, v, e, e2, e3, hq _ _ h1⟩) h
  | .mcall j c m o es, σ, M, Q, Q', hq, h => by
    rw [wE] at h ⊢
    exact mon_e hΦ o (fun x M1 ⟨a, fs, e, e2, e3, h1⟩ => ⟨a, fs, e, e2, e3, mon_es hΦ es (fun y M2 ⟨f, sp, e, h2⟩ => ⟨f, sp, e, hΦ _ _ _ e hq h2⟩) h1⟩) h
  | .make j c e es, σ, M, Q, Q', hq, h => by
    rw [wE] at h ⊢
    exact mon_e hΦ e (fun x M1 h1 => mon_es hΦ es (fun y M2 ⟨f, sp, e, h2⟩ => ⟨f, sp, e, fun p hp => hΦ _ _ _ e (fun m M' z => ⟨z.1, hq _ _ z.2⟩) (h2 p hp)⟩) h1) h
  | .disp ps, σ, M, Q, Q', hq, h => by
    rw [wE] at h ⊢
    exact fun p hp => mon_ps hΦ ps (fun l M2 ⟨e, e2, h1⟩ => ⟨e, e2, hq _ _ h1⟩) (h p hp)
theorem mon_ps {Φ : List (Str × SpM)} (hΦ : ∀ (j : Nat) f sp, Φ[j]? = some (f, sp) → MonW sp) : ∀ (e : IPs) {σ M} {Q Q' : List (Key × MV) → MH → Prop}, (∀ m M', Q m M' → Q' m M') → wPs Φ e σ M Q → wPs Φ e σ M Q'
  | .nil, σ, M, Q, Q', hq, h => by rw [wPs] at h ⊢; exact hq _ _ h
  | .cons k v r, σ, M, Q, Q', hq, h => by
    rw [wPs] at h ⊢
    exact mon_e hΦ k (fun x M1 ⟨kk, e, h1⟩ => ⟨kk, e, mon_e hΦ v (fun y M2 h2 => mon_ps hΦ r (fun l M3 h3 => hq _ _ h3) h2) h1⟩) h
theorem mon_es {Φ : List (Str × SpM)} (hΦ : ∀ (j : Nat) f sp, Φ[j]? = some (f, sp) → MonW sp) : ∀ e : IEs, MonA (wEs Φ e)
  | .nil, σ, M, Q, Q', hq, h => by rw [wEs] at h ⊢; exact hq _ _ h
  | .cons e es, σ, M, Q, Q', hq, h => by
    rw [wEs] at h ⊢
    exact mon_e hΦ e (fun x M1 h1 => mon_es hΦ es (fun y M2 h2 => hq _ _ h2) h1) h
theorem mon_o {Φ : List (Str × SpM)} (hΦ : ∀ (j : Nat) f sp, Φ[j]? = some (f, sp) → MonW sp) : ∀ (e : IO) {σ M} {Q Q' : Option Int → MH → Prop}, (∀ m M', Q m M' → Q' m M') → wO Φ e σ M Q → wO Φ e σ M Q'
  | .none, σ, M, Q, Q', hq, h => by rw [wO] at h ⊢; exact hq _ _ h
  | .some e, σ, M, Q, Q', hq, h => by
    rw [wO] at h ⊢
    exact mon_e hΦ e (fun x M1 ⟨i, e, h1⟩ => ⟨i, e, hq _ _ h1⟩) h
theorem mon_i {Φ : List (Str × SpM)} (hΦ : ∀ (j : Nat) f sp, Φ[j]? = some (f, sp) → MonW sp) : ∀ (e : IO) {σ M} {Q Q' : Bool → MH → Prop}, (∀ m M', Q m M' → Q' m M') → wI Φ e σ M Q → wI Φ e σ M Q'
  | .none, σ, M, Q, Q', hq, h => by rw [wI] at h ⊢; exact hq _ _ h
  | .some e, σ, M, Q, Q', hq, h => by
    rw [wI] at h ⊢
    exact mon_e hΦ e (fun x M1 ⟨i, e, h1⟩ => ⟨i, e, hq _ _ h1⟩) h
theorem mon_sr {Φ : List (Str × SpM)} (hΦ : ∀ (j : Nat) f sp, Φ[j]? = some (f, sp) → MonW sp) : ∀ (e : ISr) {σ M} {Q Q' : Src → MH → Prop}, (∀ m M', Q m M' → Q' m M') → wSr Φ e σ M Q → wSr Φ e σ M Q'
  | .seq e, σ, M, Q, Q', hq, h => by
    rw [wSr] at h ⊢
    exact mon_e hΦ e (fun x M1 h1 => by
      rcases h1 with ⟨xs, e, h1⟩ | ⟨a, xs, e, e2, h1⟩ | ⟨a, xs, e, e2, h1⟩ | ⟨z, e, h1⟩
      · exact .inl ⟨xs, e, hq _ _ h1⟩
      · exact .inr (.inl ⟨a, xs, e, e2, hq _ _ h1⟩)
      · exact .inr (.inr (.inl ⟨a, xs, e, e2, fun o => hq _ _ (h1 o)⟩))
      · exact .inr (.inr (.inr ⟨z, e, hq _ _ h1⟩))) h
  | .rng e, σ, M, Q, Q', hq, h => by
    rw [wSr] at h ⊢
    exact mon_e hΦ e (fun x M1 ⟨j, e, a, b, h1⟩ => ⟨j, e, a, b, hq _ _ h1⟩) h
  | .rng2 a b, σ, M, Q, Q', hq, h => by
    rw [wSr] at h ⊢
    exact mon_e hΦ a (fun x M1 h1 => mon_e hΦ b (fun y M2 ⟨i, j, e, e2, c, h2⟩ => ⟨i, j, e, e2, c, hq _ _ h2⟩) h1) h
  | .rng3 a b c, σ, M, Q, Q', hq, h => by
    rw [wSr] at h ⊢
    exact mon_e hΦ a (fun x M1 h1 => mon_e hΦ b (fun y M2 h2 => mon_e hΦ c (fun z M3 ⟨i, j, e, e2, e3, c, h3⟩ => ⟨i, j, e, e2, e3, c, hq _ _ h3⟩) h2) h1) h
end
end L2
namespace L2
open PySem PySem.Spec PyProof.Rows
structure GI where
  bl : List Str
  gl : List (Str × Int)
  fns : List Str
  mts : List (Nat × Str × Str) := []
  mks : List (Nat × Str) := []
  cls : List (Str × Str) := []
def visB (sc : Scope) (x : Str) : Bool := match sc.names.lookup x with
  | some .local => true | some .cell => true | some .free => true | _ => false
def locB (sc : Scope) (x : Str) : Bool := match sc.names.lookup x with
  | some .local => true | some .cell => true | _ => false
def glB (sc : Scope) (x : Str) : Bool := decide (sc.names.lookup x = some .globalImplicit) && !(x == ("__debug__" : Str)) && decide (x ≠ "__name__")
def relab (scope osc : Scope) : Scope := { scope with names := scope.names.map fun (n, k) => if (k == .free && osc.kind == .function && osc.names.lookup n == some .cell) then (n, .cell) else (n, k) }
def BI.name : BI → String
  | .len => "len" | .isinst => "isinstance" | .max => "max" | .min => "min" | .sum => "sum" | .abs => "abs" | .int => "int" | .list => "list" | .tuple => "tuple" | .dict => "dict" | .sorted => "sorted" | .dictL => "dict" | .all => "all"
def MT.name : MT → String
  | .dclear => "clear" | .dget => "get" | .dgetD => "get" | .join => "join"
  | .append => "append" | .extend => "extend" | .reverse => "reverse" | .clear => "clear" | .pop => "pop" | .popAt => "pop" | .remove => "remove"
def notSl : Expr → Bool
  | .Slice .. => false | _ => true
def notSet : Expr → Bool
  | .Set .. => false | _ => true
def tok : IE → Bool
  | .ife .. => false
  | .not a => tok a
  | .and a b => tok a && tok b
  | .or a b => tok a && tok b
  | _ => true
def asName : Expr → Option Str | .Name x _ => some x | _ => none
def asConst : Expr → Option Const | .Constant c _ _ => some c | _ => none
def asBin : Expr → Option (Expr × Operator × Expr) | .BinOp l o r _ => some (l, o, r) | _ => none
def asUn : Expr → Option (UnaryOp × Expr) | .UnaryOp o x _ => some (o, x) | _ => none
def asCmp : Expr → Option (Expr × List CmpOp × List Expr) | .Compare l o r _ => some (l, o, r) | _ => none
def asBoo : Expr → Option (BoolOp × List Expr × Pos) | .BoolOp o vs p => some (o, vs, p) | _ => none
def asIf : Expr → Option (Expr × Expr × Expr) | .IfExp t x y _ => some (t, x, y) | _ => none
def asTup : Expr → Option (List Expr) | .Tuple xs _ _ => some xs | _ => none
def asLst : Expr → Option (List Expr) | .List xs _ => some xs | _ => none
def asDic : Expr → Option (List (Option Expr) × List Expr) | .Dict ks vs _ => some (ks, vs) | _ => none
def asSub : Expr → Option (Expr × Expr) | .Subscript x y _ => some (x, y) | _ => none
def asSl : Expr → Option (Option Expr × Option Expr × Option Expr) | .Slice l u s _ => some (l, u, s) | _ => none
def asCall : Expr → Option (Expr × List Expr × List Keyword × Pos) | .Call f xs ks p => some (f, xs, ks, p) | _ => none
def asAtt : Expr → Option (Expr × Str × Pos) | .Attribute o n p => some (o, n, p) | _ => none
def asLC : Expr → Option (Expr × List Comprehension × Scope) | .ListComp e gs sc _ => some (e, gs, sc) | _ => none
def the1 {α : Type} : List α → Option α | [x] => some x | _ => none
def the3 {α : Type} : List α → Option (α × α × α) | [x, y, z] => some (x, y, z) | _ => none
def the2 {α : Type} : List α → Option (α × α) | [x, y] => some (x, y) | _ => none
def hd1 {α : Type} : List α → Option (α × List α) | x :: r => some (x, r) | _ => none
def hd2 {α : Type} : List α → Option (α × α × List α) | x :: y :: r => some (x, y, r) | _ => none
def non0 {α : Type} : List α → Bool | [] => true | _ => false
theorem any_of {α : Type} {o : Option α} {p : α → Bool} (h : o.any p = true) : ∃ x, o = some x ∧ p x = true := by
  cases o with
  | none => cases h
  | some x => exact ⟨x, rfl, h⟩
section
variable {e : Expr}
theorem asName_of {x : Str} (h : asName e = some x) : ∃ p, e = .Name x p := by cases e <;> cases h; exact ⟨_, rfl⟩
theorem asConst_of {x : Const} (h : asConst e = some x) : ∃ k p, e = .Constant x k p := by cases e <;> cases h; exact ⟨_, _, rfl⟩
theorem asBin_of {x : Expr × Operator × Expr} (h : asBin e = some x) : ∃ p, e = .BinOp x.1 x.2.1 x.2.2 p := by cases e <;> cases h; exact ⟨_, rfl⟩
theorem asUn_of {x : UnaryOp × Expr} (h : asUn e = some x) : ∃ p, e = .UnaryOp x.1 x.2 p := by cases e <;> cases h; exact ⟨_, rfl⟩
theorem asCmp_of {x : Expr × List CmpOp × List Expr} (h : asCmp e = some x) : ∃ p, e = .Compare x.1 x.2.1 x.2.2 p := by cases e <;> cases h; exact ⟨_, rfl⟩
theorem asBoo_of {x : BoolOp × List Expr × Pos} (h : asBoo e = some x) : e = .BoolOp x.1 x.2.1 x.2.2 := by cases e <;> cases h; rfl
theorem asTup_of {x : List Expr} (h : asTup e = some x) : ∃ k p, e = .Tuple x k p := by cases e <;> cases h; exact ⟨_, _, rfl⟩
theorem asLst_of {x : List Expr} (h : asLst e = some x) : ∃ p, e = .List x p := by cases e <;> cases h; exact ⟨_, rfl⟩
theorem asSub_of {x : Expr × Expr} (h : asSub e = some x) : ∃ p, e = .Subscript x.1 x.2 p := by cases e <;> cases h; exact ⟨_, rfl⟩
theorem asSl_of {x : Option Expr × Option Expr × Option Expr} (h : asSl e = some x) : ∃ p, e = .Slice x.1 x.2.1 x.2.2 p := by cases e <;> cases h; exact ⟨_, rfl⟩
theorem asCall_of {x : Expr × List Expr × List Keyword × Pos} (h : asCall e = some x) : e = .Call x.1 x.2.1 x.2.2.1 x.2.2.2 := by cases e <;> cases h; rfl
theorem asAtt_of {x : Expr × Str × Pos} (h : asAtt e = some x) : e = .Attribute x.1 x.2.1 x.2.2 := by cases e <;> cases h; rfl
theorem asLC_of {x : Expr × List Comprehension × Scope} (h : asLC e = some x) : ∃ p, e = .ListComp x.1 x.2.1 x.2.2 p := by cases e <;> cases h; exact ⟨_, rfl⟩
theorem the1_of {α : Type} {l : List α} {x : α} (h : the1 l = some x) : l = [x] := by
  match l, h with
  | [_], h => cases h; rfl
theorem the2_of {α : Type} {l : List α} {x : α × α} (h : the2 l = some x) : l = [x.1, x.2] := by
  match l, h with
  | [_, _], h => cases h; rfl
theorem the3_of {α : Type} {l : List α} {x : α × α × α} (h : the3 l = some x) : l = [x.1, x.2.1, x.2.2] := by
  match l, h with
  | [_, _, _], h => cases h; rfl
theorem hd1_of {α : Type} {l : List α} {x : α × List α} (h : hd1 l = some x) : l = x.1 :: x.2 := by
  match l, h with
  | _ :: _, h => cases h; rfl
theorem hd2_of {α : Type} {l : List α} {x : α × α × List α} (h : hd2 l = some x) : l = x.1 :: x.2.1 :: x.2.2 := by
  match l, h with
  | _ :: _ :: _, h => cases h; rfl
theorem non0_of {α : Type} {l : List α} (h : non0 l = true) : l = [] := by
  match l, h with
  | [], _ => rfl
end
def plainE (e : Expr) : Bool := (asName e).isSome || (asConst e).isSome || (asBin e).isSome || (asUn e).isSome || (asCmp e).isSome || (asBoo e).isSome || (asIf e).isSome || (asTup e).isSome || (asLst e).isSome || (asDic e).isSome || (asSub e).isSome || (asCall e).isSome || (asLC e).isSome || (asAtt e).isSome
mutual
def chkTg (sc : Scope) (N : List Str) (lim : Nat) (all : Bool) : ITg → Expr → Bool
  | .nm i, e => (asName e).any fun x => decide (N[i]? = some x) && decide (i < lim) && (if all then locB sc x else decide (sc.names.lookup x = some .local))
  | .tup ts, e => (asTup e).any fun es => chkTgs sc N lim all ts es
def chkTgs (sc : Scope) (N : List Str) (lim : Nat) (all : Bool) : ITgs → List Expr → Bool
  | .nil, l => non0 l
  | .cons t ts, l => (hd1 l).any fun q => chkTg sc N lim all t q.1 && chkTgs sc N lim all ts q.2
end
mutual
def chkE (G : GI) : IE → Scope → List Str → Expr → Bool
  | .var i, sc, N, e => (asName e).any fun x => decide (N[i]? = some x) && visB sc x && !(x == ("__debug__" : Str)) && !(x == ("__classdict__" : Str))
  | .int i, _, _, e => (asConst e).any fun c => decide (c = .int i)
  | .str x, _, _, e => (asConst e).any fun c => decide (c = .str x)
  | .bl b, _, _, e => (asConst e).any fun c => decide (c = .bool b)
  | .non, _, _, e => (asConst e).any fun c => decide (c = .none)
  | .glb x i, sc, _, e => (asName e).any fun y => decide (x = y) && decide (G.gl.lookup x = some i) && glB sc x
  | .ty c, sc, _, e => (asName e).any fun y => decide (y = (c.name : Str)) && decide (c ≠ .none) && G.bl.contains y && glB sc y
  | .bin op a b, sc, N, e => (asBin e).any fun q => decide (op = q.2.1) && chkE G a sc N q.1 && chkE G b sc N q.2.2
  | .neg a, _, _, _ => false
  | .not a, sc, N, e => (asUn e).any fun q => decide (q.1 = .Not) && chkE G a sc N q.2
  | .cmp op a b, sc, N, e => (asCmp e).any fun q => (the1 q.2.1).any fun o => (the1 q.2.2).any fun r => decide (op = o) && chkE G a sc N q.1 && chkE G b sc N r && !behindInMarks op r
  | .chn op op' a b c, sc, N, e => (asCmp e).any fun q => (the2 q.2.1).any fun o => (the2 q.2.2).any fun r => decide (op = o.1) && decide (op' = o.2) && chkE G a sc N q.1 && chkE G b sc N r.1 && chkE G c sc N r.2 && !lastMarks [op, op'] [r.1, r.2]
  | .and a b, sc, N, e => (asBoo e).any fun q => (hd2 q.2.1).any fun v => decide (q.1 = .And) && chkE G a sc N v.1 && chkE G b sc N (if non0 v.2.2 then v.2.1 else .BoolOp .And (v.2.1 :: v.2.2) q.2.2)
  | .or a b, sc, N, e => (asBoo e).any fun q => (hd2 q.2.1).any fun v => decide (q.1 = .Or) && chkE G a sc N v.1 && chkE G b sc N (if non0 v.2.2 then v.2.1 else .BoolOp .Or (v.2.1 :: v.2.2) q.2.2)
  | .ife c a b, _, _, _ => false
  | .tup es, sc, N, e => (asTup e).any fun xs => chkEs G es sc N xs
  | .lst es, sc, N, e => (asLst e).any fun xs => chkEs G es sc N xs
  | .dic, _, _, _ => false
  | .ix a b, sc, N, e => (asSub e).any fun q => chkE G a sc N q.1 && chkE G b sc N q.2 && notSl q.2
  | .sl a lo hi, sc, N, e => (asSub e).any fun q => (asSl q.2).any fun s => chkE G a sc N q.1 && chkO G lo sc N s.1 && chkO G hi sc N s.2.1 && !s.2.2.isSome
  | .call j f es, sc, N, e => (asCall e).any fun q => (asName q.1).any fun g => (hd1 q.2.1).any fun x => non0 q.2.2.1 && decide (G.fns[j]? = some g) && glB sc g && chkE G f sc N x.1 && chkEs G es sc N x.2
  | .bi f a es, sc, N, e => (asCall e).any fun q => (asName q.1).any fun g => (hd1 q.2.1).any fun x => non0 q.2.2.1 && decide (g = (f.name : Str)) && G.bl.contains g && glB sc g && chkE G a sc N x.1 && chkEs G es sc N x.2
  | .b2 f a, sc, N, e => (asCall e).any fun q => (asName q.1).any fun g => (the1 q.2.1).any fun y => (asCall y).any fun r => (asName r.1).any fun k => (the1 r.2.1).any fun x => non0 q.2.2.1 && non0 r.2.2.1 && decide (g = (f.out : Str)) && decide (k = (f.inn : Str)) && G.bl.contains g && G.bl.contains k && glB sc g && glB sc k && chkE G a sc N x
  | .mt m o es, sc, N, e => (asCall e).any fun q => (asAtt q.1).any fun a => non0 q.2.2.1 && decide (a.2.1 = (m.name : Str)) && (a.2.2.endLine == q.2.2.2.line) && chkE G o sc N a.1 && chkEs G es sc N q.2.1 && decide (q.2.1.length < 20)
  | .comp own fr src tg test elt, sc, N, e => (asLC e).any fun q => (the1 q.2.1).any fun g => compOk sc q.2.2 N own fr && notSet g.iter && decide (nC own fr N).Nodup && chkSr G src sc N g.iter && chkTg (relab q.2.2 sc) (nC own fr N) own.length false tg g.target &&
      chkI G test (relab q.2.2 sc) (nC own fr N) g.ifs && chkE G elt (relab q.2.2 sc) (nC own fr N) q.1 && decide (g.is_async = 0)
  | .fld c o f, _, _, _ => false
  | .mcall j c m o es, _, _, _ => false
  | .make j c a es, _, _, _ => false
  | .disp ps, _, _, _ => false
def chkPs (G : GI) : IPs → Scope → List Str → List (Option Expr) → List Expr → Bool
  | .nil, _, _, l, r => non0 l && non0 r
  | .cons k v ps, sc, N, l, r => (hd1 l).any fun q => (hd1 r).any fun s => q.1.any fun x => chkE G k sc N x && chkE G v sc N s.1 && chkPs G ps sc N q.2 s.2
def chkEs (G : GI) : IEs → Scope → List Str → List Expr → Bool
  | .nil, _, _, l => non0 l
  | .cons e es, sc, N, l => (hd1 l).any fun q => chkE G e sc N q.1 && chkEs G es sc N q.2
def chkO (G : GI) : IO → Scope → List Str → Option Expr → Bool
  | .none, _, _, o => !o.isSome
  | .some e, sc, N, o => o.any fun x => chkE G e sc N x
def chkI (G : GI) : IO → Scope → List Str → List Expr → Bool
  | .none, _, _, l => non0 l
  | .some e, sc, N, l => (the1 l).any fun x => tok e && chkE G e sc N x
def chkSr (G : GI) : ISr → Scope → List Str → Expr → Bool
  | .seq a, sc, N, e => chkE G a sc N e
  | .rng a, sc, N, e => (asCall e).any fun q => (asName q.1).any fun f => (the1 q.2.1).any fun x => non0 q.2.2.1 && decide (f = ("range" : Str)) && G.bl.contains f && glB sc f && chkE G a sc N x
  | .rng2 a b, sc, N, e => (asCall e).any fun q => (asName q.1).any fun f => (the2 q.2.1).any fun x => non0 q.2.2.1 && decide (f = ("range" : Str)) && G.bl.contains f && glB sc f && chkE G a sc N x.1 && chkE G b sc N x.2
  | .rng3 a b c, sc, N, e => (asCall e).any fun q => (asName q.1).any fun f => (the3 q.2.1).any fun x => non0 q.2.2.1 && decide (f = ("range" : Str)) && G.bl.contains f && glB sc f && chkE G a sc N x.1 && chkE G b sc N x.2.1 && chkE G c sc N x.2.2
end
def liSp (K : PySem.W.Frag) (sp : SpM) : Sp := fun vs H Q _ => ∃ ms M, RMs K H ms vs ∧ RH K M H ∧ sp ms M (Dn K H Q)
structure Cok (X : Cx) (G : GI) (Φ : List (Str × SpM)) : Prop where
  room : X.A.units + 70 < cLine
  calm : X.calm = true
  nox : X.xe = fun _ _ => False
  blk : X.env.blockKind = .function
  nd : X.N.Nodup
  bls : ∀ x, G.bl.contains x = true → X.mg x = none
  gls : ∀ x i, G.gl.lookup x = some i → ∃ tk, X.mg x = some (.int i tk)
  fnn : ∀ (j : Nat) f, G.fns[j]? = some f → ∃ sp, Φ[j]? = some (f, sp)
  mon : ∀ (j : Nat) f sp, Φ[j]? = some (f, sp) → MonW sp
  fns : ∀ (j : Nat) f sp, G.fns[j]? = some f → Φ[j]? = some (f, sp) → ∃ k fa fd ps, Room k X.A ∧ FnOk X.prog X.w X.K X.mg X.base CX0 k fa fd ps (liSp X.K sp) ∧ X.mg f = some (.ref fa) ∧ PySem.W.keepIn X.K (.ref fa) = true ∧ Binds X.K fd ps []
  mts : ∀ (j : Nat) c m, G.mts.contains (j, c, m) = true → ∃ f sp, Φ[j]? = some (f, sp) ∧ ∃ k C fa fd ps, Room k X.A ∧ FnOk X.prog X.w X.K X.mg X.base CX0 k fa fd ps (liSp X.K sp) ∧ PySem.W.nsIn X.K mainGlobals c = some (some (.ref C)) ∧ Cls X.K C ∧ Meth X.K C m fa ∧ Binds X.K fd ps []
  mks : ∀ (j : Nat) c, G.mks.contains (j, c) = true → ∃ f sp, Φ[j]? = some (f, sp) ∧ ∃ k C fa fd ps, Room (k + 1) X.A ∧ FnOk X.prog X.w X.K X.mg X.base CX0 k fa fd ps (liSp X.K sp) ∧ PySem.W.nsIn X.K mainGlobals c = some (some (.ref C)) ∧ X.mg c = some (.ref C) ∧ Mk X.K C fa ∧ Binds X.K fd ps []
  cls : ∀ c f, G.cls.contains (c, f) = true → ∃ C, PySem.W.nsIn X.K mainGlobals c = some (some (.ref C)) ∧ Cls X.K C ∧ NoAttr X.K C f
section
variable {X : Cx} {G : GI} {Φ : List (Str × SpM)}
theorem vis_of {sc : Scope} {x : Str} (h : visB sc x = true) : Vis sc x := by
  unfold visB at h
  unfold Vis
  cases e : sc.names.lookup x with
  | none => rw [e] at h; cases h
  | some k => rw [e] at h; cases k <;> first | exact .inl rfl | exact .inr (.inl rfl) | exact .inr (.inr rfl) | cases h
theorem loc_of {sc : Scope} {x : Str} (h : locB sc x = true) : Loc sc x := by
  unfold locB at h
  unfold Loc
  cases e : sc.names.lookup x with
  | none => rw [e] at h; cases h
  | some k => rw [e] at h; cases k <;> first | exact .inl rfl | exact .inr rfl | cases h
theorem gl_of {x : Str} (h : glB X.env.scope x = true) : Gl X x ∧ (x == ("__debug__" : Str)) = false ∧ x ≠ "__name__" := by
  unfold glB at h
  simp only [Bool.and_eq_true, decide_eq_true_eq, Bool.not_eq_true'] at h
  exact ⟨h.1.1, h.1.2, h.2⟩
theorem boot_bi (f : BI) : bootBuiltins (f.name : Str) = some f.val := by cases f <;> (show bootBuiltins _ = some _; decide +kernel)
theorem boot_ty {c : Ty7} (h : c ≠ .none) : bootBuiltins (c.name : Str) = some (.type c.name) := by cases c <;> first | exact absurd rfl h | decide +kernel
theorem boot_range : bootBuiltins ("range" : Str) = some (.type "range") := by decide +kernel
theorem chkE_plain : ∀ {ie : IE} {sc : Scope} {N : List Str} {e : Expr}, chkE G ie sc N e = true → plainE e = true := by
  intro ie sc N e h
  cases ie
  all_goals
    rw [chkE] at h
    first
      | cases h
      | (replace h := any_of h
         obtain ⟨x, hx, _⟩ := h
         simp only [plainE, hx, Option.isSome_some, Bool.or_true, Bool.true_or])
theorem star_of : ∀ {ie : IE} {sc : Scope} {N : List Str} {e : Expr} {es : List Expr} {env : Env}, chkE G ie sc N e = true → starEach (e :: es) env = (false, eval e env) :: starEach es env := by
  intro ie sc N e es env h
  cases e <;> first | rfl | cases chkE_plain h
theorem star_any : ∀ {ies : IEs} {sc : Scope} {N : List Str} {es : List Expr} {env : Env} {pos : Pos}, chkEs G ies sc N es = true → (starEach es env).all (fun x => !x.1) = true
  | .nil, sc, N, es, _, _, h => by
    rw [chkEs] at h
    cases non0_of h
    rfl
  | .cons e es, sc, N, xs, env, pos, h => by
    rw [chkEs] at h
    replace h := any_of h
    obtain ⟨q, h1, h2⟩ := h
    cases hd1_of h1
    rw [Bool.and_eq_true] at h2
    rw [star_of h2.1, List.all_cons]
    exact star_any (pos := pos) h2.2
theorem no_call0 : ∀ {ie : IE} {sc : Scope} {N : List Str} {x : Str} {px p : Pos} {ks : List Keyword}, chkE G ie sc N (.Call (.Name x px) [] ks p) = true → False := by
  intro ie sc N x px p ks h
  cases ie
  all_goals
    rw [chkE] at h
    cases h
theorem attr_base {ie : IE} {sc : Scope} {N : List Str} {o : Expr} {nm : Str} {env : Env} (h : chkE G ie sc N o = true) : attributeBase o nm env (eval o env) = eval o env := by
  cases o <;> try rfl
  rename_i fn args kw pos
  cases fn <;> try rfl
  cases args with
  | cons a r => rfl
  | nil => exact (no_call0 h).elim
theorem back_all {pos : Pos} {l : List (Bool × Sem Value)} (h : l.all (fun x => !x.1) = true) : (backTo pos l).all (fun x => !x.1) = true ∧ (backTo pos l).any (·.1) = false := by
  induction l with
  | nil => exact ⟨rfl, rfl⟩
  | cons a r ih =>
    rw [List.all_cons, Bool.and_eq_true] at h
    obtain ⟨h1, h2⟩ := ih h.2
    have e : a.1 = false := by simpa using h.1
    unfold backTo at h1 h2 ⊢
    rw [List.map_cons, List.all_cons, List.any_cons, h1, h2]
    obtain ⟨b, t⟩ := a
    cases e
    exact ⟨rfl, rfl⟩
end
end L2
namespace L2
open PySem PySem.Spec PyProof.Rows
def tCW2 (own : List Str) (fr : List Nat) (g : TG) (tt : TT) (te : TE) (σ : St) (H1 : Hp) (Q : VK) (J : It) (D : Addr) : Prop := ∃ W : Nat → Nat → List V → Hp → Prop,
  (∃ m, W 0 m [] (upd H1 D (.lst []))) ∧ ∀ i m ys H2, W i m ys H2 →
    ((J.stop i H2 ∧ Q (.ref D) H2) ∨ (J.go i H2 ∧ ∃ N : List V → Hp → Prop, (∀ ys' H', N ys' H' → ∃ m', m' < m ∧ W (i + 1) m' ys' H') ∧ ∀ x H3, J.yld i H2 x H3 → g x (sC own fr σ) H3 fun σ2 H4 => Keep (sC own fr σ) σ2 ∧ tt σ2 H4 fun b H5 =>
      if b = true then te σ2 H5 fun y H6 => ∃ zs, H6 D = some (.lst zs) ∧ zs.length < sizeLine ∧ N (zs ++ [y]) (upd H6 D (.lst (zs ++ [y]))) else N ys H5))
def tComp2 (own : List Str) (fr : List Nat) (wi : TI) (g : TG) (tt : TT) (te : TE) : TE := fun σ H Q => wi σ H fun J H1 => ∀ D, H1 D = none → tCW2 own fr g tt te σ H1 Q J D
section
variable {X : Cx} {pins : List (Addr × Obj)} {σ : St} {H1 : Hp} {s2 : Shared} {tg elt iter : Expr} {ifs : List Expr} {scope : Scope} {pos : Pos} {own : List Str} {fr : List Nat} {g : TG} {tt : TT} {te : TE}
theorem comp_core2 {J : It} {fp : List Addr} {it : Addr} {tn : Nat → Heap → Prop} {RR : Value → Addr → Result → Shared → Prop} {Q : VK} {E : Value → Shared → Prop} (hc : X.calm = true) (ok : CompOk X.env.scope scope X.N fr)
    (hg : ∀ C fp s₃ H₃, PG (cxC X scope own fr C fp s₃ H₃) tg g) (ht : ∀ C fp s₃ H₃, PTs (cxC X scope own fr C fp s₃ H₃) ifs tt) (he : ∀ C fp s₃ H₃, PE (cxC X scope own fr C fp s₃ H₃) elt te)
    (I2 : Inv X pins σ H1 s2) (T : Turn X.prog X.w X.K tg J fp it tn) (st : tn 0 s2.heap) (hf : ∀ b ∈ fp, FpOk X pins H1 b)
    (h : ∀ D, H1 D = none → tCW2 own fr g tt te σ H1 Q J D)
    (hRR : ∀ D C H' s', Inv X pins σ H' s' → (∃ m, s'.heap.Ns C m) → H' C = none → C ≠ X.env.locals → X.s₀.heap.objs.size ≤ C → (∀ x c, X.env.cells.lookup x = some c → c ≠ C) → (∀ p ∈ X.pn ++ pins, p.1 ≠ C) → Q (.ref D) H' → RR (.ref D) C (.ok .next) s') :
    wpAny (model X.prog X.w) X.A (newList []) (fun acc s₃ => wpAny (model X.prog X.w) X.A (newFunctionEnv scope X.env.globals (clOf X.env.cells scope.names []) [] X.env.qual none .none (some X.env)) (fun cenv s₄ =>
      codeAny (model X.prog X.w) X.A (.compStart (.ListComp elt [⟨tg, iter, ifs, 0⟩] scope pos) 0 (.ref it) acc { cenv with scope := relabel scope X.env }) (RR acc cenv.locals) s₄) E s₃) E s2 := by
  have hD : H1 s2.heap.objs.size = none := I2.hok.fresh (Nat.le_refl _)
  obtain ⟨W, ⟨m0, w0⟩, step⟩ := h _ hD
  refine wpAny_newObj_type (wpAny_newFunctionEnv ok.nocell (by intro y hy; simp at hy) (fun h4 ns4 sb4 => ?_) ok.kind)
  dsimp only at ns4 sb4 ⊢
  have I3 : Inv X pins σ (upd H1 s2.heap.objs.size (.lst [])) { s2 with heap := s2.heap.push { cls := .type "list", dict := none, data := .seq ([] : List Value).toArray }, toks := s2.toks } :=
    I2.laid (fun b u e => Heap.get?_push_of_some _ e) (Nat.le_refl _) ⟨Nat.zero_le _, [], 0, .nil, Heap.get?_push_size _ rfl⟩
  have fpo : ∀ b ∈ fp, ∃ o, s2.heap.get? b = some o := fun b hb => let ⟨o, e, _⟩ := T.obj 0 _ st b hb; ⟨o, e⟩
  have fpD : ∀ b ∈ fp, b ≠ s2.heap.objs.size := fun b hb => let ⟨o, e⟩ := fpo b hb; Nat.ne_of_lt (Heap.lt_size e)
  have hf3 : ∀ b ∈ fp, FpOk X pins (upd H1 s2.heap.objs.size (.lst [])) b := fun b hb => ⟨by rw [upd_ne (fpD b hb)]; exact (hf b hb).1, (hf b hb).2⟩
  generalize hs3 : ({ s2 with heap := s2.heap.push { cls := .type "list", dict := none, data := .seq ([] : List Value).toArray }, toks := s2.toks } : Shared) = s3 at *
  have e3 : s2.heap.push { cls := .type "list", dict := none, data := .seq ([] : List Value).toArray } = s3.heap := by rw [← hs3]
  rw [e3] at ns4 sb4 ⊢
  have kp : ∀ b o, s3.heap.get? b = some o → h4.get? b = some o := fun b o e => (sb4.2 b (Nat.ne_of_lt (Heap.lt_size e))).trans (Heap.get?_push_of_some _ e)
  have fpo3 : ∀ b ∈ fp, ∃ o, s3.heap.get? b = some o := fun b hb => let ⟨o, e⟩ := fpo b hb; ⟨o, by rw [← e3]; exact Heap.get?_push_of_some _ e⟩
  have I4 := comp_start (own := own) (scope := scope) (fr := fr) (tk := s2.toks + 0) ok I3 rfl hf3 fpo3 ns4 kp
  have st4 : tn 0 h4 := T.keep _ _ _ st fun b hb o e => kp b o (by rw [← e3]; exact Heap.get?_push_of_some _ e)
  have fpC : ∀ b ∈ fp, b ≠ s3.heap.objs.size := fun b hb => let ⟨o, e⟩ := fpo3 b hb; Nat.ne_of_lt (Heap.lt_size e)
  have stat : ∀ {H' : Hp}, (∀ b ∈ fp, H' b = none) → ∀ b ∈ fp, FpOk (cxC X scope own fr s3.heap.objs.size fp s3 (upd H1 s2.heap.objs.size (.lst []))) pins H' b := fun hn b hb => by
    refine ⟨hn b hb, fpC b hb, fun z => ?_, .inl hb, fun x c e => ?_, (hf b hb).2.2.2.2.2⟩
    · rcases List.mem_cons.mp (I3.stkSub b z) with z | z
      · exact (hf b hb).2.1 z
      · exact (hf b hb).2.2.1 z
    · exact (hf b hb).2.2.2.2.1 x c ((clOf_spec _ _ _ _ _ e).elim (fun z => by simp at z) id)
  have loop : codeAny (model X.prog X.w) X.A (.compLoop (.ListComp elt [⟨tg, iter, ifs, 0⟩] scope pos) 0 (.ref it) (.ref s2.heap.objs.size) (compEnvC scope (clOf X.env.cells scope.names []) s3.heap.objs.size X.env))
      (RR (.ref s2.heap.objs.size) s3.heap.objs.size) { s3 with heap := h4, toks := s2.toks + 0 } := by
    refine compLoop_any (fun n s' => ∃ i ys H', Inv (cxC X scope own fr s3.heap.objs.size fp s3 (upd H1 s2.heap.objs.size (.lst []))) pins (sC own fr σ) H' s' ∧ tn i s'.heap ∧ (∀ b ∈ fp, H' b = none) ∧ W i n ys H') ?_ m0
      ⟨0, [], _, I4, st4, fun b hb => (hf3 b hb).1, w0⟩
    rintro n s5 ⟨i, ys, H5, I5, st5, fr5, w5⟩
    have way := step i n ys H5 w5
    rcases way with ⟨stop, q⟩ | ⟨go, N, hN, turn⟩
    · refine thn (T.done (cxC X scope own fr s3.heap.objs.size fp s3 (upd H1 s2.heap.objs.size (.lst []))) rfl rfl rfl hc i pins s5 _ H5 _ I5 (stat fr5) st5 stop) fun r s6 ⟨hr, I6⟩ => ?_
      subst hr
      have J6 : Inv X pins σ H5 s6 := I3.call' I6.os I6.base I6.hok I6.bare fun b hb => ⟨(hf b hb).2.2.2.1, (hf b hb).2.1, (hf b hb).2.2.2.2.1, (hf b hb).2.2.2.2.2⟩
      obtain ⟨m6, ns6, _⟩ := I6.loc
      refine hRR _ _ H5 s6 J6 ⟨m6, ns6⟩ I6.free (Nat.ne_of_gt I3.lt) I3.sz (fun x c e => ?_) (fun p hp => ?_) q
      · obtain ⟨v, z⟩ := I3.cell x c e
        exact Nat.ne_of_lt z.lt
      · exact Nat.ne_of_lt (Heap.lt_size (I3.pin p hp).1)
    · refine thn (T.item (cxC X scope own fr s3.heap.objs.size fp s3 (upd H1 s2.heap.objs.size (.lst []))) rfl rfl rfl hc i pins s5 _ H5 _ I5 (stat fr5) st5 go) fun r s6 ⟨u, hr, h6⟩ => ?_
      subst hr
      refine thn h6 fun _ s7 ⟨x, H7, I7, r7, y7, st7, fr7⟩ => ?_
      have I7' := I7.pinned (stat fr7) (T.obj _ _ st7)
      refine thn (hg _ _ _ _ _ s7 _ H7 x u _ I7' r7 (turn x H7 y7)) fun _ s8 ⟨σ8, H8, I8, kp8, q8⟩ => ?_
      have again : ∀ {H9 : Hp} {s9 : Shared}, Inv (cxC X scope own fr s3.heap.objs.size fp s3 (upd H1 s2.heap.objs.size (.lst []))) (pins ++ pinsAt fp s7.heap) σ8 H9 s9 → ∀ {ys'}, (∃ m', m' < n ∧ W (i + 1) m' ys' H9) →
          ∃ m, m < n ∧ ∃ i ys H', Inv (cxC X scope own fr s3.heap.objs.size fp s3 (upd H1 s2.heap.objs.size (.lst []))) pins (sC own fr σ) H' s9 ∧ tn i s9.heap ∧ (∀ b ∈ fp, H' b = none) ∧ W i m ys H' := fun {H9 s9} I9 {ys'} ⟨m', hm, w9⟩ => by
        refine ⟨m', hm, i + 1, ys', H9, (I9.unpinned).weak kp8.1 kp8.2, T.keep _ _ _ st7 fun b hb o e => (I9.pin (b, o) (List.mem_append_right _ (List.mem_append_right _ (mem_pinsAt hb e)))).1, fun b hb => ?_, w9⟩
        obtain ⟨o, e, d⟩ := T.obj _ _ st7 b hb
        exact (I9.pin (b, o) (List.mem_append_right _ (List.mem_append_right _ (mem_pinsAt hb e)))).2.1
      have fin : ∀ {ok : Bool} {s9 : Shared} {H9 : Hp}, Inv (cxC X scope own fr s3.heap.objs.size fp s3 (upd H1 s2.heap.objs.size (.lst []))) (pins ++ pinsAt fp s7.heap) σ8 H9 s9 →
          (if ok = true then te σ8 H9 fun y H6 => ∃ zs, H6 s2.heap.objs.size = some (.lst zs) ∧ zs.length < sizeLine ∧ N (zs ++ [y]) (upd H6 s2.heap.objs.size (.lst (zs ++ [y]))) else N ys H9) →
          (if ok = true then wpAny (model X.prog X.w) X.A (eval elt (compEnvC scope (clOf X.env.cells scope.names []) s3.heap.objs.size X.env)) (fun x s₄ =>
            wpAny (model X.prog X.w) X.A (call (.builtin "list.append") [.ref s2.heap.objs.size, x]) (fun _ s₅ => ∃ m, m < n ∧ ∃ i ys H', Inv (cxC X scope own fr s3.heap.objs.size fp s3 (upd H1 s2.heap.objs.size (.lst []))) pins (sC own fr σ) H' s₅ ∧ tn i s₅.heap ∧ (∀ b ∈ fp, H' b = none) ∧ W i m ys H') (fun _ _ => False) s₄) (fun _ _ => False) s9
            else ∃ m, m < n ∧ ∃ i ys H', Inv (cxC X scope own fr s3.heap.objs.size fp s3 (upd H1 s2.heap.objs.size (.lst []))) pins (sC own fr σ) H' s9 ∧ tn i s9.heap ∧ (∀ b ∈ fp, H' b = none) ∧ W i m ys H') := fun {ok s9 H9} I9 q9 => by
        cases ok with
        | false =>
          rw [if_neg Bool.false_ne_true] at q9 ⊢
          exact again I9 (hN _ _ q9)
        | true =>
          rw [if_pos rfl] at q9 ⊢
          refine thn (he _ _ _ _ _ s9 σ8 H9 _ I9 q9) fun v s10 ⟨y, H10, I10, r10, zs, hl10, hz5, w10⟩ => ?_
          refine thn (mt_append (X := cxC X scope own fr s3.heap.objs.size fp s3 (upd H1 s2.heap.objs.size (.lst []))) _ s10 σ8 H10 (.ref s2.heap.objs.size) [y] (.ref s2.heap.objs.size) [v] (fun _ H' => H' = upd H10 s2.heap.objs.size (.lst (zs ++ [y]))) I10 rfl (.cons r10 .nil) ⟨_, zs, y, rfl, rfl, hl10, hz5, rfl⟩) fun _ s11 ⟨_, H11, I11, _, e11⟩ => ?_
          subst e11
          exact again I11 (hN _ _ w10)
      rcases ht s3.heap.objs.size fp s3 (upd H1 s2.heap.objs.size (.lst [])) with ⟨e, et⟩ | ⟨c, e, hcT⟩
      · subst e et
        exact wpAny_tests_nil (fin (ok := true) I8 q8)
      · subst e
        exact wpAny_tests_one (thn (hcT _ s8 σ8 H8 _ I8 q8) fun b s9 ⟨H9, I9, q9⟩ => fin I9 q9)
  subst hs3
  exact codeAny_compStart_list loop (T.self _ 0 _ _ _ st4 loop)
theorem pe_comp2 (own : List Str) (fr : List Nat) {wi : TI} (hx : ∀ e s, ¬ X.xe e s) (hc : X.calm = true) (ok : compOk X.env.scope scope X.N own fr = true) (hi : PI X tg iter wi)
    (hg : ∀ C fp s₃ H₃, PG (cxC X scope own fr C fp s₃ H₃) tg g) (ht : ∀ C fp s₃ H₃, PTs (cxC X scope own fr C fp s₃ H₃) ifs tt) (he : ∀ C fp s₃ H₃, PE (cxC X scope own fr C fp s₃ H₃) elt te)
    (hs : ∀ x, foldedSetIterable iter X.env x = pure x := by intro _; rfl) :
    PE X (.ListComp elt [⟨tg, iter, ifs, 0⟩] scope pos) (tComp2 own fr wi g tt te) := by
  have ok' := compOk_of ok
  intro pins s σ H Q I h
  rw [eval_ListComp]
  refine wpAny_comprehension_free (use := none) (cl := clOf X.env.cells scope.names []) rfl hs (closure_is fun y hy hk => I.ok.has y.1 (ok'.has y hy hk)) ok'.kind ok'.names (thn (hi pins s σ H _ I h) fun v s1 h1 => thn h1 fun itv s2 h2 => ?_)
  obtain ⟨it, fp, tn, J, H2, e, I2, T, st2, f2, R⟩ := h2
  subst e
  refine comp_core2 (RR := fun acc C => compPost (model X.prog X.w) X.A X.xe none (EP X pins σ Q) acc C) (Q := Q) hc ok' hg ht he I2 T st2 f2 R ?_
  rintro D C H' s' I' ⟨m, ns⟩ c1 c2 c3 c4 c5 q
  refine ⟨m, ns, fun h' sb => ⟨.ref D, H', ?_, rfl, q⟩⟩
  exact I'.turned (t' := s'.toks) (fun b o hb e => (sb.2 b hb).trans e) c1 c2 (.inr c3) c4 c5
theorem ps_setcomp2 (own : List Str) (fr : List Nat) {i : Nat} {y : Str} {py spos : Pos} {wi : TI} (hN : X.N.Nodup) (hi : X.N[i]? = some y) (hy : Loc X.env.scope y) (hx : ∀ e s, ¬ X.xe e s) (hc : X.calm = true) (ok : compOk X.env.scope scope X.N own fr = true) (hit : PI X tg iter wi)
    (hg : ∀ C fp s₃ H₃, PG (cxC X scope own fr C fp s₃ H₃) tg g) (ht : ∀ C fp s₃ H₃, PTs (cxC X scope own fr C fp s₃ H₃) ifs tt) (he : ∀ C fp s₃ H₃, PE (cxC X scope own fr C fp s₃ H₃) elt te)
    (hsw : swapsWith (.ListComp elt [⟨tg, iter, ifs, 0⟩] scope pos) (some (.Name y py)) spos.line X.env = pure true := by rfl) (hs : ∀ x, foldedSetIterable iter X.env x = pure x := by intro _; rfl)
    (hf : X.fn y = true ∨ X.env.scope.names.lookup y = some .local := by first | exact .inl rfl | exact .inr rfl | assumption) :
    PS X (.Assign [.Name y py] (.ListComp elt [⟨tg, iter, ifs, 0⟩] scope pos) spos) (tAsg (tComp2 own fr wi g tt te) (gName i)) := by
  have ok' := compOk_of ok
  intro pins s σ H D I h
  rw [exec_Assign_Name_used _ _ _ _ hsw]
  refine wpAny_bind (wpAny_standAt (wpAny_bind ?_))
  show wpAny _ X.A (do let _ ← comprehension (.ListComp elt [⟨tg, iter, ifs, 0⟩] scope pos) scope X.env _ (newList []) false (eval iter X.env) (some (assign (.Name y py) X.env))) _ _ s
  refine wpAny_bind (wpAny_mono (wpAny_comprehension_free (use := some (assign (.Name y py) X.env)) (cl := clOf X.env.cells scope.names []) (Q := fun _ s' => SP X pins D .next s') rfl hs (closure_is fun y hy hk => I.ok.has y.1 (ok'.has y hy hk)) ok'.kind ok'.names
    (thn (hit pins s σ H _ I h) fun v s1 h1 => thn h1 fun itv s2 h2 => ?_)) (fun _ s' hq => wpAny_pure (wpAny_pure hq)) fun _ _ e => e)
  obtain ⟨it, fp, tn, J, H2, e, I2, T, st2, f2, R⟩ := h2
  subst e
  refine comp_core2 (RR := fun acc C => compPost (model X.prog X.w) X.A X.xe (some (assign (.Name y py) X.env)) (fun _ s' => SP X pins D .next s') acc C) (Q := fun v H' => D.nx (σ.set i (some v)) H') hc ok' hg ht he I2 T st2 f2 R ?_
  rintro E C H' s' I' ⟨m, ns⟩ c1 c2 c3 c4 c5 q
  show wpAny _ X.A (assign (.Name y py) X.env (.ref E)) _ _ _
  refine wpAny_assign_Name (store_ok2 I' hN hi hy (v := .ref E) (u := .ref E) rfl (fun s'' I'' sb => ?_) hf)
  obtain ⟨a, sb, ha⟩ := sb
  have hCa : C ≠ a := by
    rcases ha with z | z
    · rw [z]; exact c2
    · exact fun e => c4 _ _ z e.symm
  refine ⟨m, ns.sameBut sb hCa, fun h' sb' => ⟨_, H', ?_, q⟩⟩
  exact I''.turned (t' := s''.toks) (fun b o hb e => (sb'.2 b hb).trans e) c1 c2 (.inr c3) c4 c5
end
end L2
namespace L2
open PySem PySem.Spec PyProof.Rows
section
variable {G : GI} {sc : Scope} {N : List Str} {e : Expr}
theorem and_of {a b : Bool} (h : (a && b) = true) : a = true ∧ b = true := by rwa [Bool.and_eq_true] at h
theorem dec_of {p : Prop} [Decidable p] (h : decide p = true) : p := of_decide_eq_true h
theorem not_of {b : Bool} (h : (!b) = true) : b = false := by cases b with | false => rfl | true => cases h
theorem inv_var {i : Nat} (h : chkE G (.var i) sc N e = true) : ∃ x p, e = .Name x p ∧ N[i]? = some x ∧ visB sc x = true ∧ (x == ("__debug__" : Str)) = false ∧ (x == ("__classdict__" : Str)) = false := by
  rw [chkE] at h
  replace h := any_of h
  obtain ⟨x, h1, h⟩ := h
  obtain ⟨p, rfl⟩ := asName_of h1
  replace h := and_of h
  obtain ⟨h, h5⟩ := h
  replace h := and_of h
  obtain ⟨h, h4⟩ := h
  replace h := and_of h
  obtain ⟨h2, h3⟩ := h
  exact ⟨x, p, rfl, dec_of h2, h3, not_of h4, not_of h5⟩
theorem inv_int {i : Int} (h : chkE G (.int i) sc N e = true) : ∃ k p, e = .Constant (.int i) k p := by
  rw [chkE] at h
  replace h := any_of h
  obtain ⟨x, h1, h⟩ := h
  obtain ⟨k, p, rfl⟩ := asConst_of h1
  exact ⟨k, p, by rw [dec_of h]⟩
theorem inv_str {i : Str} (h : chkE G (.str i) sc N e = true) : ∃ k p, e = .Constant (.str i) k p := by
  rw [chkE] at h
  replace h := any_of h
  obtain ⟨x, h1, h⟩ := h
  obtain ⟨k, p, rfl⟩ := asConst_of h1
  exact ⟨k, p, by rw [dec_of h]⟩
theorem inv_bl {i : Bool} (h : chkE G (.bl i) sc N e = true) : ∃ k p, e = .Constant (.bool i) k p := by
  rw [chkE] at h
  replace h := any_of h
  obtain ⟨x, h1, h⟩ := h
  obtain ⟨k, p, rfl⟩ := asConst_of h1
  exact ⟨k, p, by rw [dec_of h]⟩
theorem inv_non (h : chkE G .non sc N e = true) : ∃ k p, e = .Constant .none k p := by
  rw [chkE] at h
  replace h := any_of h
  obtain ⟨x, h1, h⟩ := h
  obtain ⟨k, p, rfl⟩ := asConst_of h1
  exact ⟨k, p, by rw [dec_of h]⟩
theorem inv_glb {x : Str} {i : Int} (h : chkE G (.glb x i) sc N e = true) : ∃ p, e = .Name x p ∧ G.gl.lookup x = some i ∧ glB sc x = true := by
  rw [chkE] at h
  replace h := any_of h
  obtain ⟨y, h1, h⟩ := h
  obtain ⟨p, rfl⟩ := asName_of h1
  replace h := and_of h
  obtain ⟨h, h4⟩ := h
  replace h := and_of h
  obtain ⟨h2, h3⟩ := h
  obtain rfl := dec_of h2
  exact ⟨p, rfl, dec_of h3, h4⟩
theorem inv_ty {c : Ty7} (h : chkE G (.ty c) sc N e = true) : ∃ p, e = .Name (c.name : Str) p ∧ c ≠ .none ∧ G.bl.contains (c.name : Str) = true ∧ glB sc (c.name : Str) = true := by
  rw [chkE] at h
  replace h := any_of h
  obtain ⟨y, h1, h⟩ := h
  obtain ⟨p, rfl⟩ := asName_of h1
  replace h := and_of h
  obtain ⟨h, h5⟩ := h
  replace h := and_of h
  obtain ⟨h, h4⟩ := h
  replace h := and_of h
  obtain ⟨h2, h3⟩ := h
  obtain rfl := dec_of h2
  exact ⟨p, rfl, dec_of h3, h4, h5⟩
theorem inv_bin {op : Operator} {a b : IE} (h : chkE G (.bin op a b) sc N e = true) : ∃ l r p, e = .BinOp l op r p ∧ chkE G a sc N l = true ∧ chkE G b sc N r = true := by
  rw [chkE] at h
  replace h := any_of h
  obtain ⟨⟨l, o, r⟩, h1, h⟩ := h
  obtain ⟨p, rfl⟩ := asBin_of h1
  replace h := and_of h
  obtain ⟨h, h4⟩ := h
  replace h := and_of h
  obtain ⟨h2, h3⟩ := h
  obtain rfl := dec_of h2
  exact ⟨l, r, p, rfl, h3, h4⟩
theorem inv_not {a : IE} (h : chkE G (.not a) sc N e = true) : ∃ l p, e = .UnaryOp .Not l p ∧ chkE G a sc N l = true := by
  rw [chkE] at h
  replace h := any_of h
  obtain ⟨⟨o, l⟩, h1, h⟩ := h
  obtain ⟨p, rfl⟩ := asUn_of h1
  replace h := and_of h
  obtain ⟨h2, h3⟩ := h
  obtain rfl := dec_of h2
  exact ⟨l, p, rfl, h3⟩
theorem inv_cmp {op : CmpOp} {a b : IE} (h : chkE G (.cmp op a b) sc N e = true) : ∃ l r p, e = .Compare l [op] [r] p ∧ chkE G a sc N l = true ∧ chkE G b sc N r = true ∧ behindInMarks op r = false := by
  rw [chkE] at h
  replace h := any_of h
  obtain ⟨⟨l, os, rs⟩, h1, h⟩ := h
  obtain ⟨p, rfl⟩ := asCmp_of h1
  replace h := any_of h
  obtain ⟨o, h2, h⟩ := h
  replace h := any_of h
  obtain ⟨r, h3, h⟩ := h
  obtain rfl := the1_of h2
  obtain rfl := the1_of h3
  replace h := and_of h
  obtain ⟨h, h7⟩ := h
  replace h := and_of h
  obtain ⟨h, h6⟩ := h
  replace h := and_of h
  obtain ⟨h4, h5⟩ := h
  obtain rfl := dec_of h4
  exact ⟨l, r, p, rfl, h5, h6, not_of h7⟩
theorem inv_chn {op op' : CmpOp} {a b c : IE} (h : chkE G (.chn op op' a b c) sc N e = true) : ∃ l m r p, e = .Compare l [op, op'] [m, r] p ∧ chkE G a sc N l = true ∧ chkE G b sc N m = true ∧ chkE G c sc N r = true ∧ lastMarks [op, op'] [m, r] = false := by
  rw [chkE] at h
  replace h := any_of h
  obtain ⟨⟨l, os, rs⟩, h1, h⟩ := h
  obtain ⟨p, rfl⟩ := asCmp_of h1
  replace h := any_of h
  obtain ⟨⟨o, o'⟩, h2, h⟩ := h
  replace h := any_of h
  obtain ⟨⟨m, r⟩, h3, h⟩ := h
  obtain rfl := the2_of h2
  obtain rfl := the2_of h3
  replace h := and_of h
  obtain ⟨h, h9⟩ := h
  replace h := and_of h
  obtain ⟨h, h8⟩ := h
  replace h := and_of h
  obtain ⟨h, h7⟩ := h
  replace h := and_of h
  obtain ⟨h, h6⟩ := h
  replace h := and_of h
  obtain ⟨h4, h5⟩ := h
  obtain rfl := dec_of h4
  obtain rfl := dec_of h5
  exact ⟨l, m, r, p, rfl, h6, h7, h8, not_of h9⟩
theorem inv_and {a b : IE} (h : chkE G (.and a b) sc N e = true) : ∃ l r rest p, e = .BoolOp .And (l :: r :: rest) p ∧ chkE G a sc N l = true ∧ ((rest = [] ∧ chkE G b sc N r = true) ∨ chkE G b sc N (.BoolOp .And (r :: rest) p) = true) := by
  rw [chkE] at h
  replace h := any_of h
  obtain ⟨⟨o, vs, p⟩, h1, h⟩ := h
  obtain rfl := asBoo_of h1
  replace h := any_of h
  obtain ⟨⟨l, r, rest⟩, h2, h⟩ := h
  obtain rfl := hd2_of h2
  replace h := and_of h
  obtain ⟨h, h4⟩ := h
  replace h := and_of h
  obtain ⟨h2, h3⟩ := h
  obtain rfl := dec_of h2
  refine ⟨l, r, rest, p, rfl, h3, ?_⟩
  cases rest with
  | nil => exact .inl ⟨rfl, h4⟩
  | cons _ _ => exact .inr h4
theorem inv_or {a b : IE} (h : chkE G (.or a b) sc N e = true) : ∃ l r rest p, e = .BoolOp .Or (l :: r :: rest) p ∧ chkE G a sc N l = true ∧ ((rest = [] ∧ chkE G b sc N r = true) ∨ chkE G b sc N (.BoolOp .Or (r :: rest) p) = true) := by
  rw [chkE] at h
  replace h := any_of h
  obtain ⟨⟨o, vs, p⟩, h1, h⟩ := h
  obtain rfl := asBoo_of h1
  replace h := any_of h
  obtain ⟨⟨l, r, rest⟩, h2, h⟩ := h
  obtain rfl := hd2_of h2
  replace h := and_of h
  obtain ⟨h, h4⟩ := h
  replace h := and_of h
  obtain ⟨h2, h3⟩ := h
  obtain rfl := dec_of h2
  refine ⟨l, r, rest, p, rfl, h3, ?_⟩
  cases rest with
  | nil => exact .inl ⟨rfl, h4⟩
  | cons _ _ => exact .inr h4
theorem inv_tup {es : IEs} (h : chkE G (.tup es) sc N e = true) : ∃ xs k p, e = .Tuple xs k p ∧ chkEs G es sc N xs = true := by
  rw [chkE] at h
  replace h := any_of h
  obtain ⟨xs, h1, h⟩ := h
  obtain ⟨k, p, rfl⟩ := asTup_of h1
  exact ⟨xs, k, p, rfl, h⟩
theorem inv_lst {es : IEs} (h : chkE G (.lst es) sc N e = true) : ∃ xs p, e = .List xs p ∧ chkEs G es sc N xs = true := by
  rw [chkE] at h
  replace h := any_of h
  obtain ⟨xs, h1, h⟩ := h
  obtain ⟨p, rfl⟩ := asLst_of h1
  exact ⟨xs, p, rfl, h⟩
theorem inv_ix {a b : IE} (h : chkE G (.ix a b) sc N e = true) : ∃ x y p, e = .Subscript x y p ∧ chkE G a sc N x = true ∧ chkE G b sc N y = true ∧ notSl y = true := by
  rw [chkE] at h
  replace h := any_of h
  obtain ⟨⟨x, y⟩, h1, h⟩ := h
  obtain ⟨p, rfl⟩ := asSub_of h1
  replace h := and_of h
  obtain ⟨h, h4⟩ := h
  replace h := and_of h
  obtain ⟨h2, h3⟩ := h
  exact ⟨x, y, p, rfl, h2, h3, h4⟩
theorem inv_sl {a : IE} {lo hi : IO} (h : chkE G (.sl a lo hi) sc N e = true) : ∃ x l u p p2, e = .Subscript x (.Slice l u none p2) p ∧ chkE G a sc N x = true ∧ chkO G lo sc N l = true ∧ chkO G hi sc N u = true := by
  rw [chkE] at h
  replace h := any_of h
  obtain ⟨⟨x, y⟩, h1, h⟩ := h
  obtain ⟨p, rfl⟩ := asSub_of h1
  replace h := any_of h
  obtain ⟨⟨l, u, st⟩, h2, h⟩ := h
  obtain ⟨p2, rfl⟩ := asSl_of h2
  replace h := and_of h
  obtain ⟨h, h6⟩ := h
  replace h := and_of h
  obtain ⟨h, h5⟩ := h
  replace h := and_of h
  obtain ⟨h3, h4⟩ := h
  cases st with
  | some _ => cases h6
  | none => exact ⟨x, l, u, p, p2, rfl, h3, h4, h5⟩
theorem inv_call {j : Nat} {a : IE} {es : IEs} (h : chkE G (.call j a es) sc N e = true) : ∃ f p x xs p2, e = .Call (.Name f p) (x :: xs) [] p2 ∧ G.fns[j]? = some f ∧ glB sc f = true ∧ chkE G a sc N x = true ∧ chkEs G es sc N xs = true := by
  rw [chkE] at h
  replace h := any_of h
  obtain ⟨⟨f, l, ks, p2⟩, h1, h⟩ := h
  obtain rfl := asCall_of h1
  replace h := any_of h
  obtain ⟨g, h2, h⟩ := h
  obtain ⟨p, rfl⟩ := asName_of h2
  replace h := any_of h
  obtain ⟨⟨x, xs⟩, h3, h⟩ := h
  obtain rfl := hd1_of h3
  replace h := and_of h
  obtain ⟨h, h8⟩ := h
  replace h := and_of h
  obtain ⟨h, h7⟩ := h
  replace h := and_of h
  obtain ⟨h, h6⟩ := h
  replace h := and_of h
  obtain ⟨h4, h5⟩ := h
  obtain rfl := non0_of h4
  exact ⟨g, p, x, xs, p2, rfl, dec_of h5, h6, h7, h8⟩
theorem inv_bi {f : BI} {a : IE} {es : IEs} (h : chkE G (.bi f a es) sc N e = true) : ∃ p x xs p2, e = .Call (.Name (f.name : Str) p) (x :: xs) [] p2 ∧ G.bl.contains (f.name : Str) = true ∧ glB sc (f.name : Str) = true ∧ chkE G a sc N x = true ∧ chkEs G es sc N xs = true := by
  rw [chkE] at h
  replace h := any_of h
  obtain ⟨⟨f', l, ks, p2⟩, h1, h⟩ := h
  obtain rfl := asCall_of h1
  replace h := any_of h
  obtain ⟨g, h2, h⟩ := h
  obtain ⟨p, rfl⟩ := asName_of h2
  replace h := any_of h
  obtain ⟨⟨x, xs⟩, h3, h⟩ := h
  obtain rfl := hd1_of h3
  replace h := and_of h
  obtain ⟨h, h9⟩ := h
  replace h := and_of h
  obtain ⟨h, h8⟩ := h
  replace h := and_of h
  obtain ⟨h, h7⟩ := h
  replace h := and_of h
  obtain ⟨h, h6⟩ := h
  replace h := and_of h
  obtain ⟨h4, h5⟩ := h
  obtain rfl := non0_of h4
  obtain rfl := dec_of h5
  exact ⟨p, x, xs, p2, rfl, h6, h7, h8, h9⟩
theorem inv_b2 {f : B2} {a : IE} (h : chkE G (.b2 f a) sc N e = true) : ∃ p p' x p2 p2', e = .Call (.Name (f.out : Str) p) [.Call (.Name (f.inn : Str) p') [x] [] p2'] [] p2 ∧ G.bl.contains (f.out : Str) = true ∧ G.bl.contains (f.inn : Str) = true ∧ glB sc (f.out : Str) = true ∧ glB sc (f.inn : Str) = true ∧ chkE G a sc N x = true := by
  rw [chkE] at h
  replace h := any_of h
  obtain ⟨⟨f', l, ks, p2⟩, h1, h⟩ := h
  obtain rfl := asCall_of h1
  replace h := any_of h
  obtain ⟨g, h2, h⟩ := h
  obtain ⟨p, rfl⟩ := asName_of h2
  replace h := any_of h
  obtain ⟨y, h3, h⟩ := h
  obtain rfl := the1_of h3
  replace h := any_of h
  obtain ⟨⟨f'', l', ks', p2'⟩, h4, h⟩ := h
  obtain rfl := asCall_of h4
  replace h := any_of h
  obtain ⟨k, h5, h⟩ := h
  obtain ⟨p', rfl⟩ := asName_of h5
  replace h := any_of h
  obtain ⟨x, h6, h⟩ := h
  obtain rfl := the1_of h6
  simp only [Bool.and_eq_true] at h
  obtain ⟨⟨⟨⟨⟨⟨⟨⟨a1, a2⟩, a3⟩, a4⟩, a5⟩, a6⟩, a7⟩, a8⟩, a9⟩ := h
  obtain rfl := non0_of a1
  obtain rfl := non0_of a2
  obtain rfl := dec_of a3
  obtain rfl := dec_of a4
  exact ⟨p, p', x, p2, p2', rfl, a5, a6, a7, a8, a9⟩
theorem inv_mt {m : MT} {o : IE} {es : IEs} (h : chkE G (.mt m o es) sc N e = true) : ∃ ob ap args cp, e = .Call (.Attribute ob (m.name : Str) ap) args [] cp ∧ (ap.endLine == cp.line) = true ∧ chkE G o sc N ob = true ∧ chkEs G es sc N args = true ∧ args.length < 20 := by
  rw [chkE] at h
  replace h := any_of h
  obtain ⟨⟨f', args, ks, cp⟩, h1, h⟩ := h
  obtain rfl := asCall_of h1
  replace h := any_of h
  obtain ⟨⟨ob, nm, ap⟩, h2, h⟩ := h
  obtain rfl := asAtt_of h2
  replace h := and_of h
  obtain ⟨h, h8⟩ := h
  replace h := and_of h
  obtain ⟨h, h7⟩ := h
  replace h := and_of h
  obtain ⟨h, h6⟩ := h
  replace h := and_of h
  obtain ⟨h, h5⟩ := h
  replace h := and_of h
  obtain ⟨h3, h4⟩ := h
  obtain rfl := non0_of h3
  obtain rfl := dec_of h4
  exact ⟨ob, ap, args, cp, rfl, h5, h6, h7, dec_of h8⟩
theorem inv_comp {own : List Str} {fr : List Nat} {src : ISr} {tg : ITg} {test : IO} {elt : IE} (h : chkE G (.comp own fr src tg test elt) sc N e = true) : ∃ x t it ifs scope p, e = .ListComp x [⟨t, it, ifs, 0⟩] scope p ∧ compOk sc scope N own fr = true ∧ notSet it = true ∧
    (nC own fr N).Nodup ∧ chkSr G src sc N it = true ∧ chkTg (relab scope sc) (nC own fr N) own.length false tg t = true ∧ chkI G test (relab scope sc) (nC own fr N) ifs = true ∧ chkE G elt (relab scope sc) (nC own fr N) x = true := by
  rw [chkE] at h
  replace h := any_of h
  obtain ⟨⟨x, gs, scope⟩, h1, h⟩ := h
  obtain ⟨p, rfl⟩ := asLC_of h1
  replace h := any_of h
  obtain ⟨⟨t, it, ifs, k⟩, h2, h⟩ := h
  obtain rfl := the1_of h2
  replace h := and_of h
  obtain ⟨h, h9⟩ := h
  replace h := and_of h
  obtain ⟨h, h8⟩ := h
  replace h := and_of h
  obtain ⟨h, h7⟩ := h
  replace h := and_of h
  obtain ⟨h, h6⟩ := h
  replace h := and_of h
  obtain ⟨h, h5⟩ := h
  replace h := and_of h
  obtain ⟨h, h4⟩ := h
  replace h := and_of h
  obtain ⟨h2, h3⟩ := h
  obtain rfl := dec_of h9
  exact ⟨x, t, it, ifs, scope, p, rfl, h2, h3, dec_of h4, h5, h6, h7, h8⟩
theorem inv_ps_nil {ks : List (Option Expr)} {vs : List Expr} (h : chkPs G .nil sc N ks vs = true) : ks = [] ∧ vs = [] := by
  rw [chkPs] at h
  replace h := and_of h
  exact ⟨non0_of h.1, non0_of h.2⟩
theorem inv_ps_cons {k v : IE} {ps : IPs} {ks : List (Option Expr)} {vs : List Expr} (h : chkPs G (.cons k v ps) sc N ks vs = true) : ∃ x ks' y vs', ks = some x :: ks' ∧ vs = y :: vs' ∧ chkE G k sc N x = true ∧ chkE G v sc N y = true ∧ chkPs G ps sc N ks' vs' = true := by
  rw [chkPs] at h
  replace h := any_of h
  obtain ⟨⟨o, ks'⟩, h1, h⟩ := h
  replace h := any_of h
  obtain ⟨⟨y, vs'⟩, h2, h⟩ := h
  replace h := any_of h
  obtain ⟨x, h3, h⟩ := h
  replace h := and_of h
  obtain ⟨h, h6⟩ := h
  replace h := and_of h
  obtain ⟨h4, h5⟩ := h
  dsimp only at h3
  subst h3
  exact ⟨x, ks', y, vs', hd1_of h1, hd1_of h2, h4, h5, h6⟩
theorem inv_es_nil {l : List Expr} (h : chkEs G .nil sc N l = true) : l = [] := by
  rw [chkEs] at h
  exact non0_of h
theorem inv_es_cons {a : IE} {es : IEs} {l : List Expr} (h : chkEs G (.cons a es) sc N l = true) : ∃ x xs, l = x :: xs ∧ chkE G a sc N x = true ∧ chkEs G es sc N xs = true := by
  rw [chkEs] at h
  replace h := any_of h
  obtain ⟨⟨x, xs⟩, h1, h⟩ := h
  exact ⟨x, xs, hd1_of h1, and_of h⟩
theorem inv_o_none {o : Option Expr} (h : chkO G .none sc N o = true) : o = none := by
  rw [chkO] at h
  cases o with
  | none => rfl
  | some _ => cases h
theorem inv_o_some {a : IE} {o : Option Expr} (h : chkO G (.some a) sc N o = true) : ∃ x, o = some x ∧ chkE G a sc N x = true := by
  rw [chkO] at h
  exact any_of h
theorem inv_i_none {l : List Expr} (h : chkI G .none sc N l = true) : l = [] := by
  rw [chkI] at h
  exact non0_of h
theorem inv_i_some {a : IE} {l : List Expr} (h : chkI G (.some a) sc N l = true) : ∃ x, l = [x] ∧ tok a = true ∧ chkE G a sc N x = true := by
  rw [chkI] at h
  replace h := any_of h
  obtain ⟨x, h1, h⟩ := h
  exact ⟨x, the1_of h1, and_of h⟩
theorem inv_rng {a : IE} (h : chkSr G (.rng a) sc N e = true) : ∃ p x p2, e = .Call (.Name ("range" : Str) p) [x] [] p2 ∧ G.bl.contains ("range" : Str) = true ∧ glB sc ("range" : Str) = true ∧ chkE G a sc N x = true := by
  rw [chkSr] at h
  replace h := any_of h
  obtain ⟨⟨f', l, ks, p2⟩, h1, h⟩ := h
  obtain rfl := asCall_of h1
  replace h := any_of h
  obtain ⟨g, h2, h⟩ := h
  obtain ⟨p, rfl⟩ := asName_of h2
  replace h := any_of h
  obtain ⟨x, h3, h⟩ := h
  obtain rfl := the1_of h3
  replace h := and_of h
  obtain ⟨h, h8⟩ := h
  replace h := and_of h
  obtain ⟨h, h7⟩ := h
  replace h := and_of h
  obtain ⟨h, h6⟩ := h
  replace h := and_of h
  obtain ⟨h4, h5⟩ := h
  obtain rfl := non0_of h4
  obtain rfl := dec_of h5
  exact ⟨p, x, p2, rfl, h6, h7, h8⟩
theorem inv_rng2 {a b : IE} (h : chkSr G (.rng2 a b) sc N e = true) : ∃ p x y p2, e = .Call (.Name ("range" : Str) p) [x, y] [] p2 ∧ G.bl.contains ("range" : Str) = true ∧ glB sc ("range" : Str) = true ∧ chkE G a sc N x = true ∧ chkE G b sc N y = true := by
  rw [chkSr] at h
  replace h := any_of h
  obtain ⟨⟨f', l, ks, p2⟩, h1, h⟩ := h
  obtain rfl := asCall_of h1
  replace h := any_of h
  obtain ⟨g, h2, h⟩ := h
  obtain ⟨p, rfl⟩ := asName_of h2
  replace h := any_of h
  obtain ⟨⟨x, y⟩, h3, h⟩ := h
  obtain rfl := the2_of h3
  replace h := and_of h
  obtain ⟨h, h9⟩ := h
  replace h := and_of h
  obtain ⟨h, h8⟩ := h
  replace h := and_of h
  obtain ⟨h, h7⟩ := h
  replace h := and_of h
  obtain ⟨h, h6⟩ := h
  replace h := and_of h
  obtain ⟨h4, h5⟩ := h
  obtain rfl := non0_of h4
  obtain rfl := dec_of h5
  exact ⟨p, x, y, p2, rfl, h6, h7, h8, h9⟩
theorem inv_rng3 {a b c : IE} (h : chkSr G (.rng3 a b c) sc N e = true) : ∃ p x y z p2, e = .Call (.Name ("range" : Str) p) [x, y, z] [] p2 ∧ G.bl.contains ("range" : Str) = true ∧ glB sc ("range" : Str) = true ∧ chkE G a sc N x = true ∧ chkE G b sc N y = true ∧ chkE G c sc N z = true := by
  rw [chkSr] at h
  replace h := any_of h
  obtain ⟨⟨f', l, ks, p2⟩, h1, h⟩ := h
  obtain rfl := asCall_of h1
  replace h := any_of h
  obtain ⟨g, h2, h⟩ := h
  obtain ⟨p, rfl⟩ := asName_of h2
  replace h := any_of h
  obtain ⟨⟨x, y, z⟩, h3, h⟩ := h
  obtain rfl := the3_of h3
  replace h := and_of h
  obtain ⟨h, h10⟩ := h
  replace h := and_of h
  obtain ⟨h, h9⟩ := h
  replace h := and_of h
  obtain ⟨h, h8⟩ := h
  replace h := and_of h
  obtain ⟨h, h7⟩ := h
  replace h := and_of h
  obtain ⟨h, h6⟩ := h
  replace h := and_of h
  obtain ⟨h4, h5⟩ := h
  obtain rfl := non0_of h4
  obtain rfl := dec_of h5
  exact ⟨p, x, y, z, p2, rfl, h6, h7, h8, h9, h10⟩
theorem inv_tg_nm {lim : Nat} {all : Bool} {i : Nat} (h : chkTg sc N lim all (.nm i) e = true) : ∃ x p, e = .Name x p ∧ N[i]? = some x ∧ i < lim ∧ (if all then locB sc x else decide (sc.names.lookup x = some .local)) = true := by
  rw [chkTg] at h
  replace h := any_of h
  obtain ⟨x, h1, h⟩ := h
  obtain ⟨p, rfl⟩ := asName_of h1
  replace h := and_of h
  obtain ⟨h, h4⟩ := h
  replace h := and_of h
  obtain ⟨h2, h3⟩ := h
  exact ⟨x, p, rfl, dec_of h2, dec_of h3, h4⟩
theorem inv_tg_tup {lim : Nat} {all : Bool} {ts : ITgs} (h : chkTg sc N lim all (.tup ts) e = true) : ∃ es k p, e = .Tuple es k p ∧ chkTgs sc N lim all ts es = true := by
  rw [chkTg] at h
  replace h := any_of h
  obtain ⟨es, h1, h⟩ := h
  obtain ⟨k, p, rfl⟩ := asTup_of h1
  exact ⟨es, k, p, rfl, h⟩
theorem inv_tgs_nil {lim : Nat} {all : Bool} {l : List Expr} (h : chkTgs sc N lim all .nil l = true) : l = [] := by
  rw [chkTgs] at h
  exact non0_of h
theorem inv_tgs_cons {lim : Nat} {all : Bool} {t : ITg} {ts : ITgs} {l : List Expr} (h : chkTgs sc N lim all (.cons t ts) l = true) : ∃ x xs, l = x :: xs ∧ chkTg sc N lim all t x = true ∧ chkTgs sc N lim all ts xs = true := by
  rw [chkTgs] at h
  replace h := any_of h
  obtain ⟨⟨x, xs⟩, h1, h⟩ := h
  exact ⟨x, xs, hd1_of h1, and_of h⟩
end
end L2
namespace L2
open PySem PySem.Spec PyProof.Rows
def liT (K : PySem.W.Frag) (t : TEm) : TT := fun σ H Q => ∃ σm M, RS K H σm σ ∧ RH K M H ∧ t σm M (fun m M' => ∃ b, m = .bl b ∧ ∀ H', Kp H H' → RH K M' H' → Q b H')
def liO (K : PySem.W.Frag) (t : Sm → MH → (Option Int → MH → Prop) → Prop) : TO := fun σ H Q => ∃ σm M, RS K H σm σ ∧ RH K M H ∧ t σm M (fun o M' => ∀ H', Kp H H' → RH K M' H' → Q o H')
section
variable {K : PySem.W.Frag}
theorem li_test {t : TEm} (m : MonE t) {σ : St} {H : Hp} {Q : Bool → Hp → Prop} (h : liT K t σ H Q) : liE K t σ H fun x H' => ∃ c, x = .bl c ∧ Q c H' := by
  obtain ⟨σm, M, rs, rh, h⟩ := h
  refine ⟨σm, M, rs, rh, m (fun x M1 ⟨b, e, h1⟩ => ?_) h⟩
  subst e
  intro v H1 k1 r1 rh1
  cases r1
  exact ⟨b, rfl, h1 H1 k1 rh1⟩
theorem liT_on {t : TEm} (m : MonE t) {σm : Sm} {M : MH} {H H1 : Hp} {Q : Bool → Hp → Prop} (k : Kp H H1) (h : t σm M fun x M' => ∃ b, x = .bl b ∧ ∀ H', Kp H H' → RH K M' H' → Q b H') :
    t σm M fun x M' => ∃ b, x = .bl b ∧ ∀ H', Kp H1 H' → RH K M' H' → Q b H' :=
  m (fun x M' ⟨b, e, q⟩ => ⟨b, e, fun H' k' => q H' (k.trans k')⟩) h
theorem li_cons {te : TEm} {t : TAm} (me : MonE te) (mt : MonA t) {σ : St} {H : Hp} {Q : List V → Hp → Prop} (h : liA K (fun σ M Q => te σ M fun v M1 => t σ M1 fun vs M2 => Q (v :: vs) M2) σ H Q) : tCons (liE K te) (liA K t) σ H Q := by
  obtain ⟨σm, M, rs, rh, h⟩ := h
  refine ⟨σm, M, rs, rh, me (fun x M1 h1 => ?_) h⟩
  intro v H1 k1 r1 rh1
  refine ⟨σm, M1, rs.mono k1, rh1, mt (fun ms M2 h2 => ?_) h1⟩
  intro vs H2 k2 r2 rh2
  exact h2 (v :: vs) H2 (k1.trans k2) (.cons (r1.mono k2) r2) rh2
end
def SrcIt (X : Cx) (H : Hp) : Src → It → Prop
  | .tup xs, J => (∃ a vs, H a = some (.tup vs) ∧ RMs X.K H xs vs ∧ J = Itt X.K a) ∨ ∃ a vs, FrL X.K H a vs ∧ RMs X.K H xs vs ∧ J = Itl X.K a
  | .lst a _, J => J = Itl X.K a
  | .rng lo n, J => J = Itr lo n
  | .rst lo st n, J => J = Itrs lo st n
  | .dic a o _, J => J = Itd a o ∧ ∀ o' u', X.H₀ a ≠ some (.frz o' u')
  | .str x, J => J = Its x
theorem src_thaw {X : Cx} {H0 H : Hp} {M : MH} {S : Src} {J : It} (s : SrcIt X H0 S J) (rh : RH X.K M H) (ok : S.okT M) : ∃ H', Thw X H H' ∧ Kp H H' ∧ RH X.K (S.thaw M) H' := by
  cases S with
  | tup xs => exact ⟨H, .inl rfl, Kp.refl _, rh⟩
  | lst a xs => exact ⟨H, .inl rfl, Kp.refl _, rh⟩
  | rng a xs => exact ⟨H, .inl rfl, Kp.refl _, rh⟩
  | rst a b xs => exact ⟨H, .inl rfl, Kp.refl _, rh⟩
  | str x => exact ⟨H, .inl rfl, Kp.refl _, rh⟩
  | dic a o kvs =>
    obtain ⟨vs, e, r, nd⟩ := rh.fdic ok
    have k := Kp.upd e rfl (.dK vs)
    exact ⟨_, .inr ⟨a, o, .dK vs, e, trivial, s.2, rfl⟩, k, rh.put k (o := .dic kvs) ⟨r.mono k, nd⟩⟩
theorem ok_okT {M : MH} {S : Src} (ok : S.ok M) : S.okT M := by
  cases S <;> first | trivial | exact ok
theorem rk_get {K : PySem.W.Frag} {H : Hp} {k : Key} {v : V} : ∀ {m : List (Key × MV)} {vs : List (Key × V)} {i : Nat}, RKs K H m vs → vs[i]? = some (k, v) → ∃ x, m[i]? = some (k, x) ∧ RM K H x v
  | _, _, _, .nil, h => by cases h
  | _, _, 0, .cons r _, h => by cases h; exact ⟨_, rfl, r⟩
  | _, _, i + 1, .cons _ t, h => rk_get (i := i) t h
theorem src_turn {X : Cx} {H0 H : Hp} {M : MH} {S : Src} {J : It} (s : SrcIt X H0 S J) (k : Kp H0 H) (rh : RH X.K M H) (ok : S.ok M) :
    (∀ i, i < S.len → J.go i H ∧ ∀ x H', J.yld i H x H' → H' = H ∧ ∃ m, S.items[i]? = some m ∧ RM X.K H m x) ∧ ∀ i, S.len ≤ i → J.stop i H := by
  have seqL : ∀ {a : Addr} {xs : List MV} {vs : List V}, SqL X.K H a vs → RMs X.K H xs vs → (∀ i, i < xs.length → (Itl X.K a).go i H ∧ ∀ x H', (Itl X.K a).yld i H x H' → H' = H ∧ ∃ m, xs[i]? = some m ∧ RM X.K H m x) ∧ ∀ i, xs.length ≤ i → (Itl X.K a).stop i H := by
    intro a xs vs hs r
    refine ⟨fun i hi => ⟨⟨vs, _, hs, List.getElem?_eq_getElem (by rw [← r.length]; exact hi)⟩, fun x H' y => ?_⟩, fun i hi => ⟨vs, hs, by rw [← r.length]; exact hi⟩⟩
    exact ⟨y.1, r.get' (y.2 vs hs)⟩
  cases S with
  | tup xs =>
    rcases s with ⟨a, vs, h, r, rfl⟩ | ⟨a, vs, h, r, rfl⟩
    · have h := SqT.of (K := X.K) (k _ _ h rfl)
      have r := r.mono k
      refine ⟨fun i hi => ⟨⟨vs, _, h, List.getElem?_eq_getElem (by rw [← r.length]; exact hi)⟩, fun x H' y => ?_⟩, fun i hi => ⟨vs, h, by rw [← r.length]; exact hi⟩⟩
      exact ⟨y.1, r.get' (y.2 vs h)⟩
    · refine seqL (FrL.sq ?_) (r.mono k)
      rcases h with ⟨o, h⟩ | h
      · exact .inl ⟨o, k _ _ h rfl⟩
      · exact .inr h
  | lst a xs =>
    cases s
    obtain ⟨vs, h, r⟩ := rh.lst ok
    exact seqL (SqL.of h) r
  | rng lo n =>
    cases s
    refine ⟨fun i hi => ⟨hi, fun x H' y => ⟨y.1, .int (lo + (i : Nat)), ?_, ?_⟩⟩, fun i hi => hi⟩
    · show ((List.range n).map _)[i]? = _
      rw [List.getElem?_map, List.getElem?_eq_getElem (by simpa using (show i < n from hi))]
      simp
    · rw [y.2]; exact .int _
  | rst lo st n =>
    cases s
    refine ⟨fun i hi => ⟨hi, fun x H' y => ⟨y.1, .int (lo + (i : Nat) * st), ?_, ?_⟩⟩, fun i hi => hi⟩
    · show ((List.range n).map _)[i]? = _
      rw [List.getElem?_map, List.getElem?_eq_getElem (by simpa using (show i < n from hi))]
      simp
    · rw [y.2]; exact .int _
  | str z =>
    cases s
    refine ⟨fun i hi => ⟨hi, fun x H' y => ?_⟩, fun i hi => hi⟩
    obtain ⟨e, c, hc, rfl⟩ := y
    refine ⟨e, .str ⟨#[c]⟩, ?_, .str _⟩
    show (z.cps.toList.map _)[i]? = _
    rw [List.getElem?_map, Array.getElem?_toList, hc]
    rfl
  | dic a o kvs =>
    obtain ⟨rfl, _⟩ := s
    obtain ⟨vs, e, r, nd⟩ := rh.fdic ok
    refine ⟨fun i hi => ⟨⟨vs, e, by rw [← r.length]; exact hi⟩, fun x H' y => ?_⟩, fun i hi => ⟨vs, e, by rw [← r.length]; exact hi⟩⟩
    obtain ⟨rfl, y⟩ := y
    obtain ⟨kk, v, hv, rfl⟩ := y vs e
    obtain ⟨x, hx, _⟩ := rk_get r hv
    refine ⟨rfl, kM kk, ?_, ?_⟩
    · show (kvs.map fun p => kM p.1)[i]? = _
      rw [List.getElem?_map, hx]; rfl
    · cases kk with
      | inl i => exact .int i
      | inr x => exact .str x
def liSr (X : Cx) (t : TSm) : TI := fun σ H R => ∃ σm M, RS X.K H σm σ ∧ RH X.K M H ∧ t σm M (fun S M' => ∀ J H', Kp H H' → RH X.K M' H' → SrcIt X H' S J → R J H')
section
variable {X : Cx} {tg : Expr}
theorem PI.weak {e : Expr} {t t' : TI} (h : PI X tg e t) (i : ∀ σ H R, t' σ H R → t σ H R) : PI X tg e t' := fun pins s σ H R I q => h pins s σ H R I (i _ _ _ q)
end
mutual
def gOf (K : PySem.W.Frag) : ITg → TG
  | .nm i => gName i
  | .tup ts => gTup K (ITgs.len ts) (gsOf K ts)
def gsOf (K : PySem.W.Frag) : ITgs → TGs
  | .nil => gNil
  | .cons t ts => gCons (gOf K t) (gsOf K ts)
def ITgs.len : ITgs → Nat
  | .nil => 0
  | .cons _ ts => ts.len + 1
end
mutual
theorem sTg {X : Cx} {lim : Nat} {all : Bool} (hc : X.calm = true) (hN : X.N.Nodup) (hf : all = true → ∀ x, X.fn x = true) : ∀ (t : ITg) {e : Expr}, chkTg X.env.scope X.N lim all t e = true → PG X e (gOf X.K t)
  | .nm i, e, h => by
    obtain ⟨x, p, rfl, h1, h2, h3⟩ := inv_tg_nm h
    rw [gOf]
    cases all with
    | true =>
      rw [if_pos rfl] at h3
      exact pg_name hN h1 (loc_of h3) (.inl (hf rfl _))
    | false =>
      rw [if_neg Bool.false_ne_true, decide_eq_true_eq] at h3
      exact pg_name hN h1 (.inl h3) (.inr h3)
  | .tup ts, e, h => by
    obtain ⟨es, k, p, rfl, h⟩ := inv_tg_tup h
    rw [gOf]
    obtain ⟨h1, h2, h3⟩ := sTgs hc hN hf ts h
    exact pg_tup hc h1 h2 h3
theorem sTgs {X : Cx} {lim : Nat} {all : Bool} (hc : X.calm = true) (hN : X.N.Nodup) (hf : all = true → ∀ x, X.fn x = true) : ∀ (t : ITgs) {es : List Expr}, chkTgs X.env.scope X.N lim all t es = true → PGs X es (gsOf X.K t) ∧ (assignEach es X.env).length = t.len ∧ (assignEach es X.env).findIdx? (·.1) = none
  | .nil, l, h => by
    cases inv_tgs_nil h
    rw [gsOf, ITgs.len]; exact ⟨pgs_nil, rfl, rfl⟩
  | .cons t ts, l, h => by
    obtain ⟨e, es, rfl, ha, hb⟩ := inv_tgs_cons h
    obtain ⟨h1, h2, h3⟩ := sTgs hc hN hf ts hb
    have h4 := sTg hc hN hf t ha
    have e1 : assignEach (e :: es) X.env = (false, assign e X.env) :: assignEach es X.env := by
      cases t with
      | nm i => obtain ⟨x, p, rfl, _⟩ := inv_tg_nm ha; rfl
      | tup ts => obtain ⟨x, k, p, rfl, _⟩ := inv_tg_tup ha; rfl
    rw [gsOf, ITgs.len]
    refine ⟨pgs_cons h4 h1 (by rw [e1]; rfl), by rw [e1, List.length_cons, h2], ?_⟩
    rw [e1, List.findIdx?_cons, if_neg Bool.false_ne_true, h3]
    rfl
end
theorem RMs.len_tgs {K : PySem.W.Frag} : ∀ {ts : ITgs} {xs : List MV} {σ : Sm} {P : Sm → Prop}, wTgs ts xs σ P → xs.length = ts.len
  | .nil, xs, σ, P, h => by rw [wTgs] at h; rw [h.1, ITgs.len]; rfl
  | .cons t ts, xs, σ, P, h => by
    rw [wTgs] at h
    obtain ⟨v, r, rfl, h⟩ := h
    rw [List.length_cons, ITgs.len]
    have aux : ∀ (t : ITg) {v : MV} {σ : Sm}, wTg t v σ (fun σ' => wTgs ts r σ' P) → ∃ σ', wTgs ts r σ' P := by
      have both : (∀ (t : ITg) {v : MV} {σ : Sm} {P : Sm → Prop}, wTg t v σ P → ∃ σ', P σ') ∧ (∀ (t : ITgs) {v : List MV} {σ : Sm} {P : Sm → Prop}, wTgs t v σ P → ∃ σ', P σ') := by
        refine ⟨fun t => ?_, fun t => ?_⟩
        · exact ITg.rec (motive_1 := fun t => ∀ {v : MV} {σ : Sm} {P : Sm → Prop}, wTg t v σ P → ∃ σ', P σ') (motive_2 := fun t => ∀ {v : List MV} {σ : Sm} {P : Sm → Prop}, wTgs t v σ P → ∃ σ', P σ')
            (fun i v σ P h => by rw [wTg] at h; exact ⟨_, h⟩) (fun ts ih v σ P h => by rw [wTg] at h; obtain ⟨xs, _, h⟩ := h; exact ih h)
            (fun {v σ P} h => by rw [wTgs] at h; exact ⟨_, h.2⟩) (fun t ts i1 i2 v σ P h => by rw [wTgs] at h; obtain ⟨x, r, _, h⟩ := h; obtain ⟨σ', h⟩ := i1 h; exact i2 h) t
        · exact ITgs.rec (motive_1 := fun t => ∀ {v : MV} {σ : Sm} {P : Sm → Prop}, wTg t v σ P → ∃ σ', P σ') (motive_2 := fun t => ∀ {v : List MV} {σ : Sm} {P : Sm → Prop}, wTgs t v σ P → ∃ σ', P σ')
            (fun i v σ P h => by rw [wTg] at h; exact ⟨_, h⟩) (fun ts ih v σ P h => by rw [wTg] at h; obtain ⟨xs, _, h⟩ := h; exact ih h)
            (fun {v σ P} h => by rw [wTgs] at h; exact ⟨_, h.2⟩) (fun t ts i1 i2 v σ P h => by rw [wTgs] at h; obtain ⟨x, r, _, h⟩ := h; obtain ⟨σ', h⟩ := i1 h; exact i2 h) t
      exact fun t {v σ} h => both.1 t h
    obtain ⟨σ', h'⟩ := aux t h
    rw [RMs.len_tgs (K := K) h']
mutual
theorem tg_ok {K : PySem.W.Frag} {H : Hp} {lim : Nat} {sc : Scope} {N : List Str} {all : Bool} {Ψ : St → Prop} (hΨ : ∀ σ i v, i < lim → Ψ σ → Ψ (σ.set i (some v))) : ∀ (t : ITg) {e : Expr} {mv : MV} {v : V} {σm : Sm} {σ : St} {P : Sm → Prop} {Q : St → Hp → Prop}, chkTg sc N lim all t e = true →
    RM K H mv v → RS K H σm σ → Ψ σ → wTg t mv σm P → (∀ σm' σ', P σm' → RS K H σm' σ' → Ψ σ' → Q σ' H) → gOf K t v σ H Q
  | .nm i, e, mv, v, σm, σ, P, Q, hc, r, rs, ps, h, hq => by
    obtain ⟨x, p, rfl, _, hl, _⟩ := inv_tg_nm hc
    rw [wTg] at h
    rw [gOf]
    exact hq _ _ h (rs.set r i) (hΨ _ _ _ hl ps)
  | .tup ts, e, mv, v, σm, σ, P, Q, hc, r, rs, ps, h, hq => by
    obtain ⟨es, k, p, rfl, hc⟩ := inv_tg_tup hc
    rw [wTg] at h
    obtain ⟨xs, rfl, h⟩ := h
    rw [gOf]
    cases r with
    | tup h1 q1 =>
      exact ⟨_, _, rfl, SqT.of h1, by rw [← q1.length]; exact RMs.len_tgs (K := K) h, tgs_ok hΨ ts hc q1 rs ps h hq⟩
theorem tgs_ok {K : PySem.W.Frag} {H : Hp} {lim : Nat} {sc : Scope} {N : List Str} {all : Bool} {Ψ : St → Prop} (hΨ : ∀ σ i v, i < lim → Ψ σ → Ψ (σ.set i (some v))) : ∀ (t : ITgs) {es : List Expr} {mvs : List MV} {vs : List V} {σm : Sm} {σ : St} {P : Sm → Prop} {Q : St → Hp → Prop}, chkTgs sc N lim all t es = true →
    RMs K H mvs vs → RS K H σm σ → Ψ σ → wTgs t mvs σm P → (∀ σm' σ', P σm' → RS K H σm' σ' → Ψ σ' → Q σ' H) → gsOf K t vs σ H Q
  | .nil, es, mvs, vs, σm, σ, P, Q, hc, r, rs, ps, h, hq => by
    rw [wTgs] at h
    obtain ⟨rfl, h⟩ := h
    cases r
    rw [gsOf]
    exact ⟨rfl, hq _ _ h rs ps⟩
  | .cons t ts, es, mvs, vs, σm, σ, P, Q, hc, r, rs, ps, h, hq => by
    obtain ⟨e, es, rfl, hc1, hc2⟩ := inv_tgs_cons hc
    rw [wTgs] at h
    obtain ⟨x, rr, rfl, h⟩ := h
    cases r with
    | cons r1 r2 =>
      rw [gsOf]
      exact ⟨_, _, rfl, tg_ok hΨ t hc1 r1 rs ps h fun σm' σ' h' rs' ps' => tgs_ok hΨ ts hc2 r2 rs' ps' h' hq⟩
end
end L2
namespace L2
open PySem PySem.Spec PyProof.Rows
theorem sC_rs {K : PySem.W.Frag} {H : Hp} {own : List Str} {fr : List Nat} {σm : Sm} {σ : St} (rs : RS K H σm σ) : RS K H (sCm own fr σm) (sC own fr σ) := by
  refine ⟨by simp [sCm, sC], fun i m e => ?_⟩
  unfold sCm at e
  unfold sC
  by_cases hi : i < own.length
  · rw [List.getElem?_append_left (by simpa using hi), List.getElem?_map] at e
    cases q : own[i]? with
    | none => rw [q] at e; cases e
    | some z => rw [q] at e; cases e
  · rw [List.getElem?_append_right (by simpa using hi), List.length_map, List.getElem?_map] at e
    rw [List.getElem?_append_right (by simpa using hi), List.length_map, List.getElem?_map]
    cases q : fr[i - own.length]? with
    | none => rw [q] at e; cases e
    | some j =>
      rw [q] at e
      have e' : σm.getD j none = some m := Option.some.inj e
      have e2 : σm[j]? = some (some m) := by
        rw [List.getD_eq_getElem?_getD] at e'
        cases q2 : σm[j]? with
        | none => rw [q2] at e'; cases e'
        | some o => rw [q2] at e'; rw [show o = some m from e']
      obtain ⟨v, hv, r⟩ := rs.2 j m e2
      refine ⟨v, ?_, r⟩
      show some (σ.getD j none) = _
      rw [List.getD_eq_getElem?_getD, hv]
      rfl
theorem keep_set {own : List Str} {fr : List Nat} {σ σ' : St} {i : Nat} {v : V} (hi : i < own.length) (k : Keep (sC own fr σ) σ') : Keep (sC own fr σ) (σ'.set i (some v)) := by
  refine ⟨by rw [List.length_set]; exact k.1, fun j w h => ?_⟩
  by_cases hij : i = j
  · subst hij
    exfalso
    unfold sC at h
    rw [List.getElem?_append_left (by simpa using hi), List.getElem?_map] at h
    cases q : own[i]? with
    | none => rw [q] at h; cases h
    | some z => rw [q] at h; cases h
  · rw [List.getElem?_set, if_neg hij]
    exact k.2 j w h
theorem plain_ix {y : Expr} (h : notSl y = true) : PlainIx y := by
  intro o i
  cases y <;> first | rfl | cases h
theorem fold_set {it : Expr} (h : notSet it = true) (env : Env) : ∀ x, foldedSetIterable it env x = pure x := by
  intro x
  cases it <;> first | rfl | cases h
theorem Cok.comp {X : Cx} {G : GI} {Φ : List (Str × SpM)} (c : Cok X G Φ) {scope : Scope} {own : List Str} {fr : List Nat} {C : Addr} {fp : List Addr} {s₃ : Shared} {H₃ : Hp} (hk : scope.kind = .function) (nd : (nC own fr X.N).Nodup) : Cok (cxC X scope own fr C fp s₃ H₃) G Φ :=
  ⟨c.room, c.calm, rfl, (by show (if scope.kind.isAnnotationScope then ScopeKind.function else scope.kind) = .function; rw [hk]; rfl), nd, c.bls, c.gls, c.fnn, c.mon, c.fns, c.mts, c.mks, c.cls⟩
def ttOf (K : PySem.W.Frag) (Φ : List (Str × SpM)) : IO → TT
  | .none => tAll
  | .some e => liT K (wE Φ e)
theorem comp_read {X : Cx} {Φ : List (Str × SpM)} (hΦ : ∀ (j : Nat) f sp, Φ[j]? = some (f, sp) → MonW sp) {own : List Str} {fr : List Nat} {src : ISr} {tg : ITg} {test : IO} {elt : IE} {sc : Scope} {N : List Str} {t : Expr}
    (h5 : chkTg sc N own.length false tg t = true) {σ : St} {H : Hp} {Q : VK} (hw : liE X.K (wE Φ (.comp own fr src tg test elt)) σ H Q) : tComp2 own fr (liSr X (wSr Φ src)) (gOf X.K tg) (ttOf X.K Φ test) (liE X.K (wE Φ elt)) σ H (fun v H' => ∃ H2, Thw X H' H2 ∧ Q v H2) := by
  obtain ⟨σm, M, rs, rh, hw⟩ := hw
  rw [wE] at hw
  refine ⟨σm, M, rs, rh, mon_sr hΦ src (fun S M1 ⟨hz, q⟩ => ?_) hw⟩
  intro J H1 k1 rh1 sit D hD
  obtain ⟨Jm, j0, j1, j2, j3⟩ := q D (rh1.free hD)
  refine ⟨fun i m ys H2 => m = S.len - i ∧ i ≤ S.len ∧ Kp H1 H2 ∧ ∃ mys M2, RH X.K M2 H2 ∧ Jm i mys M2, ⟨S.len, rfl, Nat.zero_le _, Kp.new hD _, [], _, rh1.put (Kp.new hD (.lst [])) (o := .lst []) RMs.nil, j0⟩, ?_⟩
  rintro i m ys H2 ⟨rfl, hi, k2, mys, M2, rh2, hj⟩
  obtain ⟨d1, d2, d3⟩ := j1 i mys M2 hj
  obtain ⟨goes, stops⟩ := src_turn sit k2 rh2 d3
  by_cases hlt : i < S.len
  · obtain ⟨go, yld⟩ := goes i hlt
    refine .inr ⟨go, fun ys' H' => Kp H1 H' ∧ ∃ mys M', RH X.K M' H' ∧ Jm (i + 1) mys M', fun ys' H' ⟨a, mys', M', b, c⟩ => ⟨S.len - (i + 1), by omega, rfl, hlt, a, mys', M', b, c⟩, fun x H3 y => ?_⟩
    obtain ⟨e3, m, hm, rm⟩ := yld x H3 y
    subst e3
    have ht := j2 i m mys M2 hm hj
    refine tg_ok (Ψ := Keep (sC own fr σ)) (lim := own.length) (fun σ' i v hi k => keep_set hi k) tg h5 rm (sC_rs (rs.mono (k1.trans k2))) ⟨rfl, fun _ _ h => h⟩ ht fun σm' σ' hP rs' keep => ⟨keep, ?_⟩
    have eltp : ∀ {M4 : MH} {H5 : Hp}, Kp H3 H5 → RH X.K M4 H5 → (wE Φ elt σm' M4 fun y M5 => M5 D = some (.lst mys) ∧ Jm (i + 1) (mys ++ [y]) (updM M5 D (.lst (mys ++ [y])))) →
        liE X.K (wE Φ elt) σ' H5 fun y H6 => ∃ zs, H6 D = some (.lst zs) ∧ zs.length < sizeLine ∧ Kp H1 (upd H6 D (.lst (zs ++ [y]))) ∧ ∃ mys M', RH X.K M' (upd H6 D (.lst (zs ++ [y]))) ∧ Jm (i + 1) mys M' := fun {M4 H5} k5 rh5 q => by
      refine ⟨σm', M4, rs'.mono k5, rh5, mon_e hΦ elt (fun y M5 ⟨hd, hj'⟩ => ?_) q⟩
      intro v H6 k6 r6 rh6
      obtain ⟨zs, e, rz⟩ := rh6.lst hd
      have ku := Kp.upd e rfl (.lst (zs ++ [v]))
      exact ⟨zs, e, by rw [← rz.length]; omega, k2.trans (k5.trans (k6.trans ku)), _, _, rh6.put ku (o := .lst (mys ++ [y])) ((rz.append (.cons r6 .nil)).mono ku), hj'⟩
    cases test with
    | none =>
      rw [wI] at hP
      rw [if_pos rfl] at hP
      rw [ttOf]
      refine all_go ?_
      dsimp only
      rw [if_pos rfl]
      exact eltp (Kp.refl _) rh2 hP
    | some e =>
      rw [wI] at hP
      refine ⟨σm', M2, rs', rh2, mon_e hΦ e (fun v M4 ⟨b, eb, q⟩ => ⟨b, eb, fun H5 k5 rh5 => mon_ite (fun q => eltp k5 rh5 q) (fun q => ⟨k2.trans k5, _, _, rh5, q⟩) q⟩) hP⟩
  · refine .inl ⟨stops i (by omega), ?_⟩
    have e : i = S.len := by omega
    subst e
    obtain ⟨H', th, k3, rh3⟩ := src_thaw sit rh2 (ok_okT d3)
    exact ⟨H', th, j3 mys M2 hj _ _ (k1.trans (k2.trans k3)) (.ref D) rh3⟩
theorem chn_read {K : PySem.W.Frag} {Φ : List (Str × SpM)} (hΦ : ∀ (j : Nat) f sp, Φ[j]? = some (f, sp) → MonW sp) {op op' : CmpOp} {a b d : IE} {σ : St} {H : Hp} {Q : VK} (hw : liE K (wE Φ (.chn op op' a b d)) σ H Q) :
    tChain (li2 K (wCmp op)) (li2 K (wCmp op')) (liE K (wE Φ a)) (liE K (wE Φ b)) (liE K (wE Φ d)) σ H Q := by
  obtain ⟨σm, M, rs, rh, hw⟩ := hw
  rw [wE] at hw
  refine ⟨σm, M, rs, rh, mon_e hΦ a (fun x M1 q1 => ?_) hw⟩
  intro v H1 k1 r1 rh1
  refine ⟨σm, M1, rs.mono k1, rh1, mon_e hΦ b (fun y M2 q2 => ?_) q1⟩
  intro u H2 k2 r2 rh2
  refine ⟨x, y, M2, r1.mono k2, r2, rh2, mon_cmp op (fun z M3 ⟨k, e, q3⟩ => ?_) q2⟩
  subst e
  intro z H3 k3 r3 rh3
  cases r3
  refine ⟨k, rfl, mon_ite (fun q => ?_) (fun q => ?_) q3⟩
  · refine ⟨σm, M3, rs.mono (k1.trans (k2.trans k3)), rh3, mon_e hΦ d (fun w M4 q4 => ?_) q⟩
    intro w' H4 k4 r4 rh4
    exact ⟨y, w, M4, r2.mono (k3.trans k4), r4, rh4, mon_cmp op' (fun m M' hq => hq.on (k1.trans (k2.trans (k3.trans k4)))) q4⟩
  · exact q _ _ (k1.trans (k2.trans k3)) (.bl _) rh3
def trOf (K : PySem.W.Frag) (Φ : List (Str × SpM)) : IPs → List (TE × TE)
  | .nil => []
  | .cons k v r => (liE K (wE Φ k), liE K (wE Φ v)) :: trOf K Φ r
def aob : IE → Bool
  | .and .. => true
  | .or .. => true
  | _ => false
structure Snd (X : Cx) (Φ : List (Str × SpM)) (ie : IE) (e : Expr) : Prop where
  pe : PE X e (liE X.K (wE Φ ie))
  pt : tok ie = true → PT X e (liT X.K (wE Φ ie))
  pw : tok ie = true → aob ie = true → PW X e (liT X.K (wE Φ ie))
theorem Snd.plain {X : Cx} {G : GI} {Φ : List (Str × SpM)} {ie : IE} {e : Expr} (c : Cok X G Φ) (pe : PE X e (liE X.K (wE Φ ie))) (he : ∀ whole, isTrue e X.env whole = (do let v ← whole; standAt e.pos; holding [v] (truthy v))) (na : aob ie = false) : Snd X Φ ie e :=
  ⟨pe, fun _ => (pt_val pe he).weak fun σ H Q h => li_test (t := wE Φ ie) (mon_e c.mon ie) h, fun _ h => by rw [na] at h; cases h⟩
mutual
theorem sE {G : GI} {Φ : List (Str × SpM)} : ∀ (ie : IE) {X : Cx} {e : Expr}, Cok X G Φ → chkE G ie X.env.scope X.N e = true → Snd X Φ ie e
  | .var i, X, e, c, h => by
    obtain ⟨x, p, rfl, h1, h2, h3, h4⟩ := inv_var h
    refine .plain c ?_ (fun _ => rfl) rfl
    refine (pe_var h1 (vis_of h2) h3 h4).weak fun σ H Q hw => ?_
    obtain ⟨σm, M, rs, rh, hw⟩ := hw
    rw [wE] at hw
    obtain ⟨v, e, q⟩ := hw
    obtain ⟨u, hu, r⟩ := rs.2 i v e
    exact ⟨u, hu, q _ _ (Kp.refl _) r rh⟩
  | .int i, X, e, c, h => by
    obtain ⟨k, p, rfl⟩ := inv_int h
    refine .plain c ?_ (fun _ => rfl) rfl
    refine pe_int.weak fun σ H Q hw => ?_
    obtain ⟨σm, M, rs, rh, hw⟩ := hw
    rw [wE] at hw
    exact hw _ _ (Kp.refl _) (.int i) rh
  | .str i, X, e, c, h => by
    obtain ⟨k, p, rfl⟩ := inv_str h
    refine .plain c ?_ (fun _ => rfl) rfl
    refine pe_str.weak fun σ H Q hw => ?_
    obtain ⟨σm, M, rs, rh, hw⟩ := hw
    rw [wE] at hw
    exact hw _ _ (Kp.refl _) (.str i) rh
  | .bl i, X, e, c, h => by
    obtain ⟨k, p, rfl⟩ := inv_bl h
    refine .plain c ?_ (fun _ => rfl) rfl
    refine pe_bl.weak fun σ H Q hw => ?_
    obtain ⟨σm, M, rs, rh, hw⟩ := hw
    rw [wE] at hw
    exact hw _ _ (Kp.refl _) (.bl i) rh
  | .non, X, e, c, h => by
    obtain ⟨k, p, rfl⟩ := inv_non h
    refine .plain c ?_ (fun _ => rfl) rfl
    refine pe_non.weak fun σ H Q hw => ?_
    obtain ⟨σm, M, rs, rh, hw⟩ := hw
    rw [wE] at hw
    exact hw _ _ (Kp.refl _) .non rh
  | .glb x i, X, e, c, h => by
    obtain ⟨p, rfl, h1, h2⟩ := inv_glb h
    obtain ⟨g1, g2, g3⟩ := gl_of h2
    obtain ⟨tk, hm⟩ := c.gls x i h1
    refine .plain c ?_ (fun _ => rfl) rfl
    refine (pe_glob (v := .int i) g1 hm ⟨tk, rfl⟩ g2).weak fun σ H Q hw => ?_
    obtain ⟨σm, M, rs, rh, hw⟩ := hw
    rw [wE] at hw
    exact hw _ _ (Kp.refl _) (.int i) rh
  | .ty t, X, e, c, h => by
    obtain ⟨p, rfl, h0, h1, h2⟩ := inv_ty h
    obtain ⟨g1, g2, g3⟩ := gl_of h2
    refine .plain c ?_ (fun _ => rfl) rfl
    refine (pe_bltn (v := .ty t.name) g1 (c.bls _ h1) (boot_ty h0) rfl g3 g2).weak fun σ H Q hw => ?_
    obtain ⟨σm, M, rs, rh, hw⟩ := hw
    rw [wE] at hw
    exact hw _ _ (Kp.refl _) (.ty t) rh
  | .bin op a b, X, e, c, h => by
    obtain ⟨l, r, p, rfl, h1, h2⟩ := inv_bin h
    refine .plain c ?_ (fun _ => rfl) rfl
    refine (pe_op (op_bin op) (sE a c h1).pe (sE b c h2).pe).weak fun σ H Q hw => ?_
    have : wE Φ (.bin op a b) = fun σ M Q => wE Φ a σ M fun x M1 => wE Φ b σ M1 fun y M2 => wBin op x y M2 Q := by funext σ M Q; rw [wE]
    rw [this] at hw
    exact li_op (ta := wE Φ a) (tb := wE Φ b) (w := wBin op) (mon_e c.mon a) (mon_e c.mon b) (mon_bin op) hw
  | .neg a, X, e, c, h => by rw [chkE] at h; cases h
  | .not a, X, e, c, h => by
    obtain ⟨l, p, rfl, h1⟩ := inv_not h
    have ih := sE a c h1
    refine ⟨(pe_not ih.pe).weak fun σ H Q hw => ?_, fun ht => (pt_not (ih.pt ht)).weak fun σ H Q hw => ?_, fun _ z => by cases z⟩
    · obtain ⟨σm, M, rs, rh, hw⟩ := hw
      rw [wE] at hw
      refine ⟨σm, M, rs, rh, mon_e c.mon a (fun x M1 ⟨i, e, q⟩ => ?_) hw⟩
      subst e
      intro v H1 k1 r1 rh1
      cases r1
      exact ⟨i, rfl, q _ _ k1 (.bl _) rh1⟩
    · obtain ⟨σm, M, rs, rh, hw⟩ := hw
      rw [wE] at hw
      refine ⟨σm, M, rs, rh, mon_e c.mon a (fun x M1 ⟨i, e, b, e2, q⟩ => ⟨i, e, fun H' k rh' => ?_⟩) hw⟩
      cases e2
      exact q H' k rh'
  | .cmp op a b, X, e, c, h => by
    obtain ⟨l, r, p, rfl, h1, h2, h3⟩ := inv_cmp h
    have rd : ∀ σ H Q, liE X.K (wE Φ (.cmp op a b)) σ H Q → tOp (li2 X.K (wCmp op)) (liE X.K (wE Φ a)) (liE X.K (wE Φ b)) σ H Q := fun σ H Q hw => by
      have : wE Φ (.cmp op a b) = fun σ M Q => wE Φ a σ M fun x M1 => wE Φ b σ M1 fun y M2 => wCmp op x y M2 Q := by funext σ M Q; rw [wE]
      rw [this] at hw
      exact li_op (ta := wE Φ a) (tb := wE Φ b) (w := wCmp op) (mon_e c.mon a) (mon_e c.mon b) (mon_cmp op) hw
    refine ⟨(pe_cmpR (op_cmp c.room op) (sE a c h1).pe (sE b c h2).pe h3).weak rd, fun _ => (pt_cmpR (op_cmp c.room op) (sE a c h1).pe (sE b c h2).pe h3).weak fun σ H Q hw => ?_, fun _ z => by cases z⟩
    exact rd σ H _ (li_test (t := wE Φ (.cmp op a b)) (mon_e c.mon _) hw)
  | .chn op op' a b d, X, e, c, h => by
    obtain ⟨l, m, r, p, rfl, h1, h2, h3, h4⟩ := inv_chn h
    refine ⟨(pe_chain (op_cmp c.room op) (op_cmp c.room op') (sE a c h1).pe (sE b c h2).pe (sE d c h3).pe h4).weak fun σ H Q hw => chn_read c.mon hw,
      fun _ => (pt_chain (op_cmp c.room op) (op_cmp c.room op') (sE a c h1).pe (sE b c h2).pe (sE d c h3).pe h4).weak fun σ H Q hw => ?_, fun _ z => by cases z⟩
    exact chn_read c.mon (li_test (t := wE Φ (.chn op op' a b d)) (mon_e c.mon _) hw)
  | .and a b, X, e, c, h => by
    obtain ⟨l, r, rest, p, rfl, h1, h2⟩ := inv_and h
    have ih := sE a c h1
    have hb : PE X (.BoolOp .And (r :: rest) p) (liE X.K (wE Φ b)) := by
      rcases h2 with ⟨rfl, h2⟩ | h2
      · exact pe_one (sE b c h2).pe
      · exact (sE b c h2).pe
    have hw' : tok (.and a b) = true → PW X (.BoolOp .And (l :: r :: rest) p) (liT X.K (wE Φ (.and a b))) := fun ht => by
      have ht : (tok a && tok b) = true := ht
      rw [Bool.and_eq_true] at ht
      have hb2 : PW X (.BoolOp .And (r :: rest) p) (liT X.K (wE Φ b)) := by
        rcases h2 with ⟨rfl, h2⟩ | h2
        · exact pw_and1 ((sE b c h2).pt ht.2)
        · refine (sE b c h2).pw ht.2 ?_
          cases b <;> first | rfl | (rw [chkE] at h2; cases h2)
      refine (pw_and (ih.pt ht.1) hb2).weak fun σ H Q hw => ?_
      obtain ⟨σm, M, rs, rh, hw⟩ := hw
      rw [wE] at hw
      refine ⟨σm, M, rs, rh, mon_e c.mon a (fun x M1 ⟨k, e, q⟩ => ⟨k, e, fun H1 k1 rh1 => ?_⟩) hw⟩
      refine mon_ite (fun q => ⟨σm, M1, rs.mono k1, rh1, liT_on (t := wE Φ b) (mon_e c.mon b) k1 q⟩) (fun q => let ⟨b, e, q⟩ := q; MV.noConfusion e fun eb => eb ▸ q H1 k1 rh1) q
    refine ⟨(pe_and ih.pe hb).weak fun σ H Q hw => ?_, fun ht => (hw' ht).pt, fun ht _ => hw' ht⟩
    obtain ⟨σm, M, rs, rh, hw⟩ := hw
    rw [wE] at hw
    refine ⟨σm, M, rs, rh, mon_e c.mon a (fun x M1 ⟨k, e, q⟩ => ?_) hw⟩
    subst e
    intro v H1 k1 r1 rh1
    cases r1
    refine ⟨k, rfl, mon_ite (fun q => ⟨σm, M1, rs.mono k1, rh1, mon_e c.mon b (fun m M' hq => hq.on k1) q⟩) (fun q => q _ _ k1 (.bl _) rh1) q⟩
  | .or a b, X, e, c, h => by
    obtain ⟨l, r, rest, p, rfl, h1, h2⟩ := inv_or h
    have ih := sE a c h1
    have hb : PE X (.BoolOp .Or (r :: rest) p) (liE X.K (wE Φ b)) := by
      rcases h2 with ⟨rfl, h2⟩ | h2
      · exact pe_one (sE b c h2).pe
      · exact (sE b c h2).pe
    have hw' : tok (.or a b) = true → PW X (.BoolOp .Or (l :: r :: rest) p) (liT X.K (wE Φ (.or a b))) := fun ht => by
      have ht : (tok a && tok b) = true := ht
      rw [Bool.and_eq_true] at ht
      have hb2 : PW X (.BoolOp .Or (r :: rest) p) (liT X.K (wE Φ b)) := by
        rcases h2 with ⟨rfl, h2⟩ | h2
        · exact pw_or1 ((sE b c h2).pt ht.2)
        · refine (sE b c h2).pw ht.2 ?_
          cases b <;> first | rfl | (rw [chkE] at h2; cases h2)
      refine (pw_or (ih.pt ht.1) hb2).weak fun σ H Q hw => ?_
      obtain ⟨σm, M, rs, rh, hw⟩ := hw
      rw [wE] at hw
      refine ⟨σm, M, rs, rh, mon_e c.mon a (fun x M1 ⟨k, e, q⟩ => ⟨k, e, fun H1 k1 rh1 => ?_⟩) hw⟩
      refine mon_ite (fun q => let ⟨b, e, q⟩ := q; MV.noConfusion e fun eb => eb ▸ q H1 k1 rh1) (fun q => ⟨σm, M1, rs.mono k1, rh1, liT_on (t := wE Φ b) (mon_e c.mon b) k1 q⟩) q
    refine ⟨(pe_or ih.pe hb).weak fun σ H Q hw => ?_, fun ht => (hw' ht).pt, fun ht _ => hw' ht⟩
    obtain ⟨σm, M, rs, rh, hw⟩ := hw
    rw [wE] at hw
    refine ⟨σm, M, rs, rh, mon_e c.mon a (fun x M1 ⟨k, e, q⟩ => ?_) hw⟩
    subst e
    intro v H1 k1 r1 rh1
    cases r1
    refine ⟨k, rfl, mon_ite (fun q => q _ _ k1 (.bl _) rh1) (fun q => ⟨σm, M1, rs.mono k1, rh1, mon_e c.mon b (fun m M' hq => hq.on k1) q⟩) q⟩
  | .ife d a b, X, e, c, h => by rw [chkE] at h; cases h
  | .tup es, X, e, c, h => by
    obtain ⟨xs, k, p, rfl, h1⟩ := inv_tup h
    refine .plain c ?_ (fun _ => rfl) rfl
    refine (pe_tup (sA es c h1)).weak fun σ H Q hw => ?_
    obtain ⟨σm, M, rs, rh, hw⟩ := hw
    rw [wE] at hw
    refine ⟨σm, M, rs, rh, mon_es c.mon es (fun ms M1 ⟨hz, q⟩ => ?_) hw⟩
    intro vs H1 k1 r1 rh1
    refine ⟨by rw [← r1.length]; exact hz, fun p hp => ?_⟩
    have k2 := Kp.new hp (.tup vs)
    exact q _ _ (k1.trans k2) (.tup upd_same (r1.mono k2)) (rh1.kept hp _)
  | .lst es, X, e, c, h => by
    obtain ⟨xs, p, rfl, h1⟩ := inv_lst h
    refine .plain c ?_ (fun _ => rfl) rfl
    refine (pe_lst (sA es c h1)).weak fun σ H Q hw => ?_
    obtain ⟨σm, M, rs, rh, hw⟩ := hw
    rw [wE] at hw
    refine ⟨σm, M, rs, rh, mon_es c.mon es (fun ms M1 ⟨hz, q⟩ => ?_) hw⟩
    intro vs H1 k1 r1 rh1
    refine ⟨by rw [← r1.length]; exact hz, fun p hp => ?_⟩
    have k2 := Kp.new hp (.lst vs)
    exact q p (rh1.free hp) _ _ (k1.trans k2) (.ref p) (rh1.put k2 (r1.mono k2))
  | .dic, X, e, c, h => by rw [chkE] at h; cases h
  | .ix a b, X, e, c, h => by
    obtain ⟨l, r, p, rfl, h1, h2, h3⟩ := inv_ix h
    refine .plain c ?_ (fun _ => rfl) rfl
    refine (pe_ix (ix_any (by have := c.room; omega)) (sE a c h1).pe (sE b c h2).pe (plain_ix h3)).weak fun σ H Q hw => ?_
    have : wE Φ (.ix a b) = fun σ M Q => wE Φ a σ M fun x M1 => wE Φ b σ M1 fun y M2 => wIx x y M2 Q := by funext σ M Q; rw [wE]
    rw [this] at hw
    exact li_op (ta := wE Φ a) (tb := wE Φ b) (w := wIx) (mon_e c.mon a) (mon_e c.mon b) mon_ix hw
  | .sl a lo hi, X, e, c, h => by
    obtain ⟨x, l, u, p, p2, rfl, h1, h2, h3⟩ := inv_sl h
    refine .plain c ?_ (fun _ => rfl) rfl
    refine (pe_slice sl_any (sE a c h1).pe (sO lo c h2) (sO hi c h3)).weak fun σ H Q hw => ?_
    obtain ⟨σm, M, rs, rh, hw⟩ := hw
    rw [wE] at hw
    refine ⟨σm, M, rs, rh, mon_e c.mon a (fun x M1 q1 => ?_) hw⟩
    intro v H1 k1 r1 rh1
    refine ⟨σm, M1, rs.mono k1, rh1, mon_o c.mon lo (fun l M2 q2 => ?_) q1⟩
    intro H2 k2 rh2
    refine ⟨σm, M2, rs.mono (k1.trans k2), rh2, mon_o c.mon hi (fun u M3 q3 => ?_) q2⟩
    intro H3 k3 rh3
    exact ⟨x, M3, r1.mono (k2.trans k3), rh3, mon_sl (fun m M' hq => hq.on (k1.trans (k2.trans k3))) q3⟩
  | .call j a es, X, e, c, h => by
    obtain ⟨f, p, x, xs, p2, rfl, h1, h2, h3, h4⟩ := inv_call h
    obtain ⟨g1, g2, g3⟩ := gl_of h2
    obtain ⟨sp, hj⟩ := c.fnn j f h1
    obtain ⟨k, fa, fd, ps, hr, F, hm, hk, hb⟩ := c.fns j f sp h1 hj
    have ha : PA X (x :: xs) (tCons (liE X.K (wE Φ a)) (liA X.K (wEs Φ es))) := pa_cons (sE a c h3).pe (sA es c h4) (star_of h3)
    refine .plain c ?_ (fun _ => rfl) rfl
    refine (pe_call (E := E0) F hr g1 hm hk hb .nil pass0 ha g2 (star_of h3) (back_all (star_any (pos := p2) h4)).2).weak fun σ H Q hw => ?_
    obtain ⟨σm, M, rs, rh, hw⟩ := hw
    rw [wE] at hw
    refine ⟨σm, M, rs, rh, mon_e c.mon a (fun v M1 q1 => ?_) hw⟩
    intro u H1 k1 r1 rh1
    refine ⟨σm, M1, rs.mono k1, rh1, mon_es c.mon es (fun vs M2 ⟨f', sp', e, q2⟩ => ?_) q1⟩
    rw [hj] at e
    cases e
    intro us H2 k2 r2 rh2
    refine ⟨v :: vs, M2, ?_, rh2, c.mon j f sp hj (fun m M' hq => hq.on (k1.trans k2)) q2⟩
    rw [List.append_nil]
    exact .cons (r1.mono k2) r2
  | .bi f a es, X, e, c, h => by
    obtain ⟨p, x, xs, p2, rfl, h1, h2, h3, h4⟩ := inv_bi h
    obtain ⟨g1, g2, g3⟩ := gl_of h2
    have ha : PA X (x :: xs) (tCons (liE X.K (wE Φ a)) (liA X.K (wEs Φ es))) := pa_cons (sE a c h3).pe (sA es c h4) (star_of h3)
    have hv := boot_bi f
    have hcall := call_bi (X := X) c.calm f
    have hp : PE X (.Call (.Name (f.name : Str) p) (x :: xs) [] p2) (tCB (liW X.K (wBi f)) (tCons (liE X.K (wE Φ a)) (liA X.K (wEs Φ es)))) := by
      cases hf : f.val <;> rw [hf] at hv hcall <;> first
        | exact pe_callB hcall g1 (c.bls _ h1) hv ha g3 g2 (star_of h3) (back_all (star_any (pos := p2) h4)).2
        | exact pe_callTy hcall g1 (c.bls _ h1) hv ha g3 g2 (star_of h3) (back_all (star_any (pos := p2) h4)).2
        | (cases f <;> cases hf)
    refine .plain c ?_ (fun _ => rfl) rfl
    refine hp.weak fun σ H Q hw => ?_
    obtain ⟨σm, M, rs, rh, hw⟩ := hw
    rw [wE] at hw
    refine ⟨σm, M, rs, rh, mon_e c.mon a (fun v M1 q1 => ?_) hw⟩
    intro u H1 k1 r1 rh1
    refine ⟨σm, M1, rs.mono k1, rh1, mon_es c.mon es (fun vs M2 q2 => ?_) q1⟩
    intro us H2 k2 r2 rh2
    exact ⟨v :: vs, M2, .cons (r1.mono k2) r2, rh2, mon_bi f (fun m M' hq => hq.on (k1.trans k2)) q2⟩
  | .b2 f a, X, e, c, h => by
    obtain ⟨p, p', x, p2, p2', rfl, h1, h2, h3, h4, h5⟩ := inv_b2 h
    obtain ⟨g1, g2, g3⟩ := gl_of h3
    obtain ⟨k1, k2, k3⟩ := gl_of h4
    have hv : bootBuiltins (f.out : Str) = some f.outV := by cases f <;> decide +kernel
    have hv' : bootBuiltins (f.inn : Str) = some (.type f.inn) := by cases f <;> decide +kernel
    have hp : PE X (.Call (.Name (f.out : Str) p) [.Call (.Name (f.inn : Str) p') [x] [] p2'] [] p2) (fun σ H Q => liE X.K (wE Φ a) σ H fun v H1 => li1 X.K (wB2 f) v H1 Q) := by
      have hc := call_b2 (X := X) c.calm f
      cases f with
      | lrng => exact pe_call2T (p := p) (p' := p') (pos := p2) (pos' := p2') hc g1 (c.bls _ h1) hv k1 (c.bls _ h2) hv' (sE a c h5).pe g3 g2 k3 k2 (star_of h5)
      | ssrt => exact pe_call2 (p := p) (p' := p') (pos := p2) (pos' := p2') hc g1 (c.bls _ h1) hv k1 (c.bls _ h2) hv' (sE a c h5).pe g3 g2 k3 k2 (star_of h5)
      | lset => exact pe_call2 (p := p) (p' := p') (pos := p2) (pos' := p2') hc g1 (c.bls _ h1) hv k1 (c.bls _ h2) hv' (sE a c h5).pe g3 g2 k3 k2 (star_of h5)
    refine .plain c ?_ (fun _ => rfl) rfl
    refine hp.weak fun σ H Q hw => ?_
    obtain ⟨σm, M, rs, rh, hw⟩ := hw
    rw [wE] at hw
    refine ⟨σm, M, rs, rh, mon_e c.mon a (fun v M1 q1 => ?_) hw⟩
    intro u H1 k1 r1 rh1
    exact ⟨v, M1, r1, rh1, mon_b2 f (fun m M' hq => hq.on k1) q1⟩
  | .mt m o es, X, e, c, h => by
    obtain ⟨ob, ap, args, cp, rfl, h1, h2, h3, h4⟩ := inv_mt h
    have slot : PySem.Slot m.ty (m.name : Str) m.id ∧ typeOf (.builtin m.id) = pure (.type "method_descriptor") := by
      cases m
      · exact ⟨PySem.F.slot_list_append, PySem.F.type_list_append⟩
      · exact ⟨PySem.F.slot_list_extend, PySem.F.type_list_extend⟩
      · exact ⟨PySem.F.slot_list_reverse, PySem.F.type_list_reverse⟩
      · exact ⟨PySem.F.slot_list_clear, PySem.F.type_list_clear⟩
      · exact ⟨PySem.F.slot_list_pop, PySem.F.type_list_pop⟩
      · exact ⟨PySem.F.slot_list_pop, PySem.F.type_list_pop⟩
      · exact ⟨PySem.F.slot_dict_clear, PySem.F.type_dict_clear⟩
      · exact ⟨PySem.F.slot_dict_get, PySem.F.type_dict_get⟩
      · exact ⟨PySem.F.slot_dict_get, PySem.F.type_dict_get⟩
      · exact ⟨PySem.F.slot_str_join, PySem.F.type_str_join⟩
      · exact ⟨PySem.F.slot_list_remove, PySem.F.type_list_remove⟩
    have plain : PlainAttrs m.ty := by
      cases m <;> first | exact PySem.F.plainAttrs_list | exact PySem.F.plainAttrs_dict | exact PySem.F.plainAttrs_str
    have hu1 : X.A.units + 1 < cLine := by have := c.room; omega
    have tyL : ∀ {H1 : Hp} {M1 : MH} {mx : MV} {v : V}, RH X.K M1 H1 → RM X.K H1 mx v → mtOk m mx M1 → tyV X.K m.ty v H1 := by
      intro H1 M1 mx v rh r hm
      cases m
      case join =>
        obtain ⟨z, rfl⟩ := hm
        cases r
        exact rfl
      case dclear | dget | dgetD =>
        obtain ⟨a, kvs, rfl, hm⟩ := hm
        cases r
        obtain ⟨vs, e, _⟩ := rh.dic hm
        exact .inr (.inr (.inl ⟨rfl, .inl ⟨vs, e⟩⟩))
      all_goals
        obtain ⟨a, xs, rfl, hm⟩ := hm
        cases r
        obtain ⟨vs, e, _⟩ := rh.lst hm
        exact .inl ⟨rfl, vs, SqL.of e⟩
    refine .plain c ?_ (fun _ => rfl) rfl
    cases args with
    | nil =>
      refine (pe_bm0 plain slot.1 slot.2 (mt_any hu1 m) (sE o c h2).pe (attr_base h2) h1).weak fun σ H Q hw => ?_
      obtain ⟨σm, M, rs, rh, hw⟩ := hw
      rw [wE] at hw
      refine ⟨σm, M, rs, rh, mon_e c.mon o (fun v M1 ⟨q0, q1⟩ => ?_) hw⟩
      intro u H1 k1 r1 rh1
      cases es with
      | cons _ _ => rw [chkEs] at h3; cases h3
      | nil =>
        rw [wEs] at q1
        exact ⟨tyL rh1 r1 q0, v, [], M1, r1, .nil, rh1, mon_mt (fun m M' hq => hq.on k1) q1⟩
    | cons x xs =>
      cases es with
      | nil => cases inv_es_nil h3
      | cons a es =>
        have h3' := h3
        obtain ⟨x', xs', e', h3⟩ := inv_es_cons h3
        cases e'
        have ha := sA (.cons a es) c h3'
        have hall := back_all (pos := cp) (star_any (env := X.env) (pos := cp) h3')
        refine (pe_bm plain slot.1 slot.2 (mt_any hu1 m) (sE o c h2).pe ha (attr_base h2) ?_ h1 (star_of h3.1) (back_all (star_any (pos := cp) h3.2)).2).weak fun σ H Q hw => ?_
        · rw [hall.1]
          simp only [Bool.true_and, Bool.and_eq_true, decide_eq_true_eq]
          refine ⟨rfl, ?_⟩
          simp at h4 ⊢
          omega
        obtain ⟨σm, M, rs, rh, hw⟩ := hw
        rw [wE] at hw
        refine ⟨σm, M, rs, rh, mon_e c.mon o (fun v M1 ⟨q0, q1⟩ => ?_) hw⟩
        intro u H1 k1 r1 rh1
        refine ⟨tyL rh1 r1 q0, σm, M1, rs.mono k1, rh1, mon_es c.mon (.cons a es) (fun vs M2 q2 => ?_) q1⟩
        intro us H2 k2 r2 rh2
        exact ⟨v, vs, M2, r1.mono k2, r2, rh2, mon_mt (fun m M' hq => hq.on (k1.trans k2)) q2⟩
  | .comp own fr src tg test elt, X, e, c, h => by
    obtain ⟨x, t, it, ifs, scope, p, rfl, h1, h2, h3, h4, h5, h6, h7⟩ := inv_comp h
    refine .plain c ?_ (fun _ => rfl) rfl
    refine (pe_comp2 own fr (g := gOf X.K tg) (te := liE X.K (wE Φ elt)) (fun e s h => by rw [c.nox] at h; exact h) c.calm h1 (sSr src (tg := t) c h4) (fun C fp s₃ H₃ => sTg (X := cxC X scope own fr C fp s₃ H₃) (lim := own.length) (all := false) c.calm h3 (fun z => by cases z) tg h5) (tt := ttOf X.K Φ test) (fun C fp s₃ H₃ => sI (X := cxC X scope own fr C fp s₃ H₃) test (c.comp (compOk_of h1).kind h3) h6)
      (fun C fp s₃ H₃ => (sE (X := cxC X scope own fr C fp s₃ H₃) elt (c.comp (compOk_of h1).kind h3) h7).pe) (fold_set h2 _)).thaw.weak fun σ H Q hw => ?_
    exact comp_read c.mon h5 hw
  | .fld cn o f, X, e, c, h => by rw [chkE] at h; cases h
  | .mcall j cn m o es, X, e, c, h => by rw [chkE] at h; cases h
  | .make j cn a es, X, e, c, h => by rw [chkE] at h; cases h
  | .disp ps, X, e, c, h => by rw [chkE] at h; cases h
theorem sP {G : GI} {Φ : List (Str × SpM)} : ∀ (ps : IPs) {X : Cx} {pos : Pos} {ks : List (Option Expr)} {vs : List Expr}, Cok X G Φ → chkPs G ps X.env.scope X.N ks vs = true → PPs X pos ks vs (trOf X.K Φ ps)
  | .nil, X, pos, ks, vs, c, h => by
    obtain ⟨rfl, rfl⟩ := inv_ps_nil h
    rw [trOf]; exact pps_nil
  | .cons k v r, X, pos, ks, vs, c, h => by
    obtain ⟨x, ks', y, vs', rfl, rfl, h1, h2, h3⟩ := inv_ps_cons h
    rw [trOf]; exact pps_cons (sE k c h1).pe (sE v c h2).pe (sP r c h3)
theorem sA {G : GI} {Φ : List (Str × SpM)} : ∀ (ies : IEs) {X : Cx} {es : List Expr}, Cok X G Φ → chkEs G ies X.env.scope X.N es = true → PA X es (liA X.K (wEs Φ ies))
  | .nil, X, es, c, h => by
    cases es with
    | cons _ _ => cases inv_es_nil h
    | nil =>
      refine pa_nil.weak fun σ H Q hw => ?_
      obtain ⟨σm, M, rs, rh, hw⟩ := hw
      rw [wEs] at hw
      exact hw _ _ (Kp.refl _) .nil rh
  | .cons a as, X, es, c, h => by
    cases es with
    | nil => rw [chkEs] at h; cases h
    | cons x xs =>
      obtain ⟨x', xs', e', h⟩ := inv_es_cons h
      cases e'
      refine (pa_cons (sE a c h.1).pe (sA as c h.2) (star_of h.1)).weak fun σ H Q hw => ?_
      have : wEs Φ (.cons a as) = fun σ M Q => wE Φ a σ M fun v M1 => wEs Φ as σ M1 fun vs M2 => Q (v :: vs) M2 := by funext σ M Q; rw [wEs]
      rw [this] at hw
      exact li_cons (te := wE Φ a) (t := wEs Φ as) (mon_e c.mon a) (mon_es c.mon as) hw
theorem sO {G : GI} {Φ : List (Str × SpM)} : ∀ (io : IO) {X : Cx} {e : Option Expr}, Cok X G Φ → chkO G io X.env.scope X.N e = true → PO X e (liO X.K (wO Φ io))
  | .none, X, e, c, h => by
    cases e with
    | some _ => cases inv_o_none h
    | none =>
      intro pins s σ H Q I hw
      refine po_none pins s σ H Q I ?_
      obtain ⟨σm, M, rs, rh, hw⟩ := hw
      rw [wO] at hw
      exact hw _ (Kp.refl _) rh
  | .some a, X, e, c, h => by
    cases e with
    | none => rw [chkO] at h; cases h
    | some x =>
      obtain ⟨x', e', h⟩ := inv_o_some h
      cases e'
      intro pins s σ H Q I hw
      refine po_some (sE a c h).pe pins s σ H Q I ?_
      obtain ⟨σm, M, rs, rh, hw⟩ := hw
      rw [wO] at hw
      refine ⟨σm, M, rs, rh, mon_e c.mon a (fun v M1 ⟨i, e, q⟩ => ?_) hw⟩
      subst e
      intro u H1 k1 r1 rh1
      cases r1
      exact ⟨i, rfl, q H1 k1 rh1⟩
theorem sI {G : GI} {Φ : List (Str × SpM)} : ∀ (io : IO) {X : Cx} {es : List Expr}, Cok X G Φ → chkI G io X.env.scope X.N es = true → PTs X es (ttOf X.K Φ io)
  | .none, X, es, c, h => by
    cases es with
    | cons _ _ => cases inv_i_none h
    | nil => exact .inl ⟨rfl, rfl⟩
  | .some a, X, es, c, h => by
    obtain ⟨x, rfl, h1, h2⟩ := inv_i_some h
    exact .inr ⟨x, rfl, (sE a c h2).pt h1⟩
theorem sSr {G : GI} {Φ : List (Str × SpM)} : ∀ (s : ISr) {X : Cx} {tg e : Expr}, Cok X G Φ → chkSr G s X.env.scope X.N e = true → PI X tg e (liSr X (wSr Φ s))
  | .seq a, X, tg, e, c, h => by
    rw [chkSr] at h
    refine (pi_seqS (sE a c h).pe).weak fun σ H R hw => ?_
    obtain ⟨σm, M, rs, rh, hw⟩ := hw
    rw [wSr] at hw
    refine ⟨σm, M, rs, rh, mon_e c.mon a (fun v M1 q => ?_) hw⟩
    intro u H1 k1 r1 rh1
    rcases q with ⟨xs, e, q⟩ | ⟨b, xs, e, hb, q⟩ | ⟨b, kvs, e, hb, q⟩ | ⟨z, e, q⟩
    · rcases e with e | e
      · subst e
        cases r1 with
        | tup h1 q1 => exact .inl ⟨_, rfl, .inr (.inl ⟨_, SqT.of h1, q _ _ k1 rh1 (.inl ⟨_, _, h1, q1, rfl⟩)⟩)⟩
      · subst e
        cases r1 with
        | frl h1 q1 => exact .inl ⟨_, rfl, .inl ⟨_, h1.sq, q _ _ k1 rh1 (.inr ⟨_, _, h1, q1, rfl⟩)⟩⟩
    · subst e
      cases r1
      obtain ⟨vs, e2, _⟩ := rh1.lst hb
      exact .inl ⟨_, rfl, .inl ⟨_, SqL.of e2, q _ _ k1 rh1 rfl⟩⟩
    · subst e
      cases r1
      obtain ⟨vs, e2, r2, nd⟩ := rh1.dic hb
      refine .inl ⟨_, rfl, .inr (.inr ⟨vs, e2, fun o nf => ?_⟩)⟩
      have k := Kp.upd e2 rfl (.frz o (.dK vs))
      exact q o _ _ (k1.trans k) (rh1.put k (o := .fdic o kvs) ⟨rfl, r2.mono k, nd⟩) ⟨rfl, nf⟩
    · subst e
      cases r1
      exact .inr ⟨z, rfl, q _ _ k1 rh1 rfl⟩
  | .rng a, X, tg, e, c, h => by
    obtain ⟨p, x, p2, rfl, h2, h3, h4⟩ := inv_rng h
    refine (pi_range1 (gl_of h3).1 (c.bls _ h2) (pa_cons (sE a c h4).pe pa_nil (star_of h4)) (star_of h4)).weak fun σ H R hw => ?_
    obtain ⟨σm, M, rs, rh, hw⟩ := hw
    rw [wSr] at hw
    refine ⟨σm, M, rs, rh, mon_e c.mon a (fun v M1 ⟨j, e, q1, q2, q⟩ => ?_) hw⟩
    subst e
    intro u H1 k1 r1 rh1
    cases r1
    exact ⟨j, rfl, q1, q2, q _ _ k1 rh1 rfl⟩
  | .rng2 a b, X, tg, e, c, h => by
    obtain ⟨p, x, y, p2, rfl, h2, h3, h4, h5⟩ := inv_rng2 h
    refine (pi_range2 (gl_of h3).1 (c.bls _ h2) (pa_cons (sE a c h4).pe (pa_cons (sE b c h5).pe pa_nil (star_of h5)) (star_of h4)) (by rw [star_of h4, star_of h5]; rfl) (star_of h5)).weak fun σ H R hw => ?_
    obtain ⟨σm, M, rs, rh, hw⟩ := hw
    rw [wSr] at hw
    refine ⟨σm, M, rs, rh, mon_e c.mon a (fun v M1 q1 => ?_) hw⟩
    intro u H1 k1 r1 rh1
    refine ⟨σm, M1, rs.mono k1, rh1, mon_e c.mon b (fun w M2 ⟨i, j, e1, e2, hb, q⟩ => ?_) q1⟩
    subst e1 e2
    intro u2 H2 k2 r2 rh2
    cases r1
    cases r2
    exact ⟨i, j, rfl, hb, q _ _ (k1.trans k2) rh2 rfl⟩
  | .rng3 a b d, X, tg, e, c, h => by
    obtain ⟨p, x, y, z, p2, rfl, h2, h3, h4, h5, h6⟩ := inv_rng3 h
    refine (pi_range3 (gl_of h3).1 (c.bls _ h2) (pa_cons (sE a c h4).pe (pa_cons (sE b c h5).pe (pa_cons (sE d c h6).pe pa_nil (star_of h6)) (star_of h5)) (star_of h4)) (by rw [star_of h4, star_of h5, star_of h6]; rfl) (by rw [star_of h5, star_of h6]; rfl)).weak fun σ H R hw => ?_
    obtain ⟨σm, M, rs, rh, hw⟩ := hw
    rw [wSr] at hw
    refine ⟨σm, M, rs, rh, mon_e c.mon a (fun v M1 q1 => ?_) hw⟩
    intro u H1 k1 r1 rh1
    refine ⟨σm, M1, rs.mono k1, rh1, mon_e c.mon b (fun w M2 q2 => ?_) q1⟩
    intro u2 H2 k2 r2 rh2
    refine ⟨σm, M2, rs.mono (k1.trans k2), rh2, mon_e c.mon d (fun w2 M3 ⟨i, j, e1, e2, e3, hb, q⟩ => ?_) q2⟩
    subst e1 e2 e3
    intro u3 H3 k3 r3 rh3
    cases r1
    cases r2
    cases r3
    exact ⟨i, j, rfl, hb, q _ _ (k1.trans (k2.trans k3)) rh3 rfl⟩
end
end L2
namespace L2
open PySem PySem.Spec PyProof.Rows
mutual
inductive IS where
  | pass | brk | cnt | never
  | ret (e : IE) | retN
  | set (i : Nat) (e : IE)
  | asg (t : ITgs) (e : IE)
  | put (o i e : IE)
  | fset (c : Str) (o : IE) (f : Str) (e : IE)
  | expr (e : IE)
  | ite (c : IE) (a b : ISs)
  | for_ (t : ITg) (s : ISr) (b : ISs)
  | while_ (c : IE) (b : ISs)
inductive ISs where | nil | cons (s : IS) (r : ISs)
end
structure EndM where
  nx : Sm → MH → Prop
  rt : QM
  bk : Sm → MH → Prop := fun _ _ => False
  ct : Sm → MH → Prop := fun _ _ => False
mutual
def wS (Φ : List (Str × SpM)) : IS → EndM → Sm → MH → Prop
  | .pass, D, σ, M => D.nx σ M
  | .brk, D, σ, M => D.bk σ M
  | .cnt, D, σ, M => D.ct σ M
  | .never, _, _, _ => False
  | .ret e, D, σ, M => wE Φ e σ M D.rt
  | .retN, D, _, M => D.rt .non M
  | .set i e, D, σ, M => wE Φ e σ M fun v M1 => D.nx (σ.set i (some v)) M1
  | .asg t e, D, σ, M => wE Φ e σ M fun v M1 => ∃ xs, v = .tup xs ∧ wTgs t xs σ fun σ' => D.nx σ' M1
  | .put o i e, D, σ, M => wE Φ e σ M fun v M1 => wE Φ o σ M1 fun x M2 => wE Φ i σ M2 fun y M3 => wPut x y v M3 fun M4 => D.nx σ M4
  | .fset c o f e, D, σ, M => wE Φ e σ M fun v M1 => wE Φ o σ M1 fun x M2 => ∃ a fs, x = .ref a ∧ M2 a = some (.ins c fs) ∧ fs.length < 1000 ∧ D.nx σ (updM M2 a (.ins c (putM fs f v)))
  | .expr e, D, σ, M => wE Φ e σ M fun _ M1 => D.nx σ M1
  | .ite c a b, D, σ, M => wE Φ c σ M fun x M1 => ∃ k, x = .bl k ∧ (if k = true then wSs Φ a D σ M1 else wSs Φ b D σ M1)
  | .for_ t s b, D, σ, M => wSr Φ s σ M fun S M1 => ∃ J : Nat → Sm → MH → Prop, J 0 σ M1 ∧ (∀ i σ M, J i σ M → S.ok M) ∧
      (∀ i x σ M, S.items[i]? = some x → J i σ M → wTg t x σ fun σ2 => wSs Φ b { nx := J (i + 1), rt := fun v M => S.okT M ∧ D.rt v (S.thaw M), bk := fun σ M => S.okT M ∧ D.nx σ (S.thaw M), ct := J (i + 1) } σ2 M) ∧ ∀ σ M, J S.len σ M → D.nx σ (S.thaw M)
  | .while_ c b, D, σ, M => ∃ J : Nat → Sm → MH → Prop, (∃ m, J m σ M) ∧ ∀ m σ M, J m σ M → wE Φ c σ M fun x M1 => ∃ k, x = .bl k ∧
      (if k = true then wSs Φ b { nx := fun σ' M' => ∃ m', m' < m ∧ J m' σ' M', rt := D.rt, bk := D.nx, ct := fun σ' M' => ∃ m', m' < m ∧ J m' σ' M' } σ M1 else D.nx σ M1)
def wSs (Φ : List (Str × SpM)) : ISs → EndM → Sm → MH → Prop
  | .nil, D, σ, M => D.nx σ M
  | .cons s r, D, σ, M => wS Φ s { nx := fun σ M => wSs Φ r D σ M, rt := D.rt, bk := D.bk, ct := D.ct } σ M
end
structure EndM.Le (D D' : EndM) : Prop where
  nx : ∀ σ M, D.nx σ M → D'.nx σ M
  rt : ∀ v M, D.rt v M → D'.rt v M
  bk : ∀ σ M, D.bk σ M → D'.bk σ M
  ct : ∀ σ M, D.ct σ M → D'.ct σ M
mutual
theorem mon_s {Φ : List (Str × SpM)} (hΦ : ∀ (j : Nat) f sp, Φ[j]? = some (f, sp) → MonW sp) : ∀ (s : IS) {D D' : EndM} {σ : Sm} {M : MH}, D.Le D' → wS Φ s D σ M → wS Φ s D' σ M
  | .pass, D, D', σ, M, l, h => by rw [wS] at h ⊢; exact l.nx _ _ h
  | .brk, D, D', σ, M, l, h => by rw [wS] at h ⊢; exact l.bk _ _ h
  | .cnt, D, D', σ, M, l, h => by rw [wS] at h ⊢; exact l.ct _ _ h
  | .never, D, D', σ, M, l, h => by rw [wS] at h; exact h.elim
  | .ret e, D, D', σ, M, l, h => by rw [wS] at h ⊢; exact mon_e hΦ e l.rt h
  | .retN, D, D', σ, M, l, h => by rw [wS] at h ⊢; exact l.rt _ _ h
  | .set i e, D, D', σ, M, l, h => by rw [wS] at h ⊢; exact mon_e hΦ e (fun v M1 h1 => l.nx _ _ h1) h
  | .asg t e, D, D', σ, M, l, h => by rw [wS] at h ⊢; exact mon_e hΦ e (fun v M1 ⟨xs, e, h1⟩ => ⟨xs, e, mon_tgs t (fun σ' h2 => l.nx _ _ h2) h1⟩) h
  | .put o i e, D, D', σ, M, l, h => by
    rw [wS] at h ⊢
    exact mon_e hΦ e (fun v M1 h1 => mon_e hΦ o (fun x M2 h2 => mon_e hΦ i (fun y M3 h3 => mon_put (fun M4 h4 => l.nx _ _ h4) h3) h2) h1) h
  | .fset c o f e, D, D', σ, M, l, h => by
    rw [wS] at h ⊢
    exact mon_e hΦ e (fun v M1 h1 => mon_e hΦ o (fun x M2 ⟨a, fs, e1, e2, e3, h2⟩ => ⟨a, fs, e1, e2, e3, l.nx _ _ h2⟩) h1) h
  | .expr e, D, D', σ, M, l, h => by rw [wS] at h ⊢; exact mon_e hΦ e (fun v M1 h1 => l.nx _ _ h1) h
  | .ite c a b, D, D', σ, M, l, h => by
    rw [wS] at h ⊢
    exact mon_e hΦ c (fun x M1 ⟨k, e, h1⟩ => ⟨k, e, mon_ite (mon_ss hΦ a l) (mon_ss hΦ b l) h1⟩) h
  | .for_ t s b, D, D', σ, M, l, h => by
    rw [wS] at h ⊢
    refine mon_sr hΦ s (fun S M1 ⟨J, j0, j1, j2, j3⟩ => ⟨J, j0, j1, fun i x σ M hx hj => ?_, fun σ M hj => l.nx _ _ (j3 σ M hj)⟩) h
    exact mon_tg t (fun σ2 h2 => by refine mon_ss hΦ b ?_ h2; exact ⟨fun _ _ z => z, fun _ _ z => ⟨z.1, l.rt _ _ z.2⟩, fun _ _ z => ⟨z.1, l.nx _ _ z.2⟩, fun _ _ z => z⟩) (j2 i x σ M hx hj)
  | .while_ c b, D, D', σ, M, l, h => by
    rw [wS] at h ⊢
    obtain ⟨J, j0, j1⟩ := h
    refine ⟨J, j0, fun m σ M hj => mon_e hΦ c (fun x M1 ⟨k, e, h1⟩ => ⟨k, e, mon_ite (fun z => by refine mon_ss hΦ b ?_ z; exact ⟨fun _ _ z => z, l.rt, l.nx, fun _ _ z => z⟩) (l.nx _ _) h1⟩) (j1 m σ M hj)⟩
theorem mon_ss {Φ : List (Str × SpM)} (hΦ : ∀ (j : Nat) f sp, Φ[j]? = some (f, sp) → MonW sp) : ∀ (s : ISs) {D D' : EndM} {σ : Sm} {M : MH}, D.Le D' → wSs Φ s D σ M → wSs Φ s D' σ M
  | .nil, D, D', σ, M, l, h => by rw [wSs] at h ⊢; exact l.nx _ _ h
  | .cons s r, D, D', σ, M, l, h => by
    rw [wSs] at h ⊢
    refine mon_s hΦ s ?_ h
    exact ⟨fun σ M h1 => mon_ss hΦ r l h1, l.rt, l.bk, l.ct⟩
end
def notComp : Expr → Bool
  | .ListComp .. => false | .SetComp .. => false | .DictComp .. => false | _ => true
def asRet : Stmt → Option (Option Expr) | .Return v _ => some v | _ => none
def asAsg : Stmt → Option (List Expr × Expr) | .Assign ts v _ => some (ts, v) | _ => none
def asEx : Stmt → Option Expr | .Expr v _ => some v | _ => none
def asIfS : Stmt → Option (Expr × List Stmt × List Stmt) | .If t x y _ => some (t, x, y) | _ => none
def asFor : Stmt → Option (Expr × Expr × List Stmt × List Stmt) | .For t i b r _ => some (t, i, b, r) | _ => none
def asWh : Stmt → Option (Expr × List Stmt × List Stmt) | .While t b r _ => some (t, b, r) | _ => none
section
variable {e : Stmt}
theorem asRet_of {x : Option Expr} (h : asRet e = some x) : ∃ p, e = .Return x p := by cases e <;> cases h; exact ⟨_, rfl⟩
theorem asAsg_of {x : List Expr × Expr} (h : asAsg e = some x) : ∃ p, e = .Assign x.1 x.2 p := by cases e <;> cases h; exact ⟨_, rfl⟩
theorem asEx_of {x : Expr} (h : asEx e = some x) : ∃ p, e = .Expr x p := by cases e <;> cases h; exact ⟨_, rfl⟩
theorem asIfS_of {x : Expr × List Stmt × List Stmt} (h : asIfS e = some x) : ∃ p, e = .If x.1 x.2.1 x.2.2 p := by cases e <;> cases h; exact ⟨_, rfl⟩
theorem asFor_of {x : Expr × Expr × List Stmt × List Stmt} (h : asFor e = some x) : ∃ p, e = .For x.1 x.2.1 x.2.2.1 x.2.2.2 p := by cases e <;> cases h; exact ⟨_, rfl⟩
theorem asWh_of {x : Expr × List Stmt × List Stmt} (h : asWh e = some x) : ∃ p, e = .While x.1 x.2.1 x.2.2 p := by cases e <;> cases h; exact ⟨_, rfl⟩
end
mutual
def chkS (G : GI) (sc : Scope) (N : List Str) : IS → Stmt → Bool
  | .pass, _ => false
  | .brk, _ => false
  | .cnt, _ => false
  | .never, _ => true
  | .ret e, s => (asRet s).any fun o => o.any fun x => chkE G e sc N x
  | .retN, _ => false
  | .set i e, s => (asAsg s).any fun q => (the1 q.1).any fun t => (asName t).any fun x => decide (N[i]? = some x) && locB sc x && chkE G e sc N q.2
  | .asg t e, _ => false
  | .put o i e, s => (asAsg s).any fun q => (the1 q.1).any fun t => (asSub t).any fun a => chkE G o sc N a.1 && chkE G i sc N a.2 && notSl a.2 && chkE G e sc N q.2
  | .fset c o f e, _ => false
  | .expr e, s => (asEx s).any fun v => chkE G e sc N v && notComp v
  | .ite c a b, s => (asIfS s).any fun q => tok c && chkE G c sc N q.1 && chkSs G sc N a q.2.1 && chkSs G sc N b q.2.2
  | .for_ t r b, s => (asFor s).any fun q => chkTg sc N N.length true t q.1 && chkSr G r sc N q.2.1 && notSet q.2.1 && chkSs G sc N b q.2.2.1 && non0 q.2.2.2
  | .while_ c b, s => (asWh s).any fun q => tok c && chkE G c sc N q.1 && chkSs G sc N b q.2.1 && non0 q.2.2
def chkSs (G : GI) (sc : Scope) (N : List Str) : ISs → List Stmt → Bool
  | .nil, l => non0 l
  | .cons s r, l => (hd1 l).any fun q => chkS G sc N s q.1 && chkSs G sc N r q.2
end
def liD (K : PySem.W.Frag) (H : Hp) (D : Ends) : EndM where
  nx := fun σm M => ∀ σ H', Kp H H' → RS K H' σm σ → RH K M H' → D.nx σ H'
  rt := Dn K H D.rt
  bk := fun σm M => ∀ σ H', Kp H H' → RS K H' σm σ → RH K M H' → D.bk σ H'
  ct := fun σm M => ∀ σ H', Kp H H' → RS K H' σm σ → RH K M H' → D.ct σ H'
theorem liD.on {K : PySem.W.Frag} {H H1 : Hp} {D : Ends} (k : Kp H H1) : (liD K H D).Le (liD K H1 D) :=
  ⟨fun _ _ h σ H' k' => h σ H' (k.trans k'), fun _ _ h => h.on k, fun _ _ h σ H' k' => h σ H' (k.trans k'), fun _ _ h σ H' k' => h σ H' (k.trans k')⟩
def liSt (K : PySem.W.Frag) (t : EndM → Sm → MH → Prop) : TS := fun D σ H => ∃ σm M, RS K H σm σ ∧ RH K M H ∧ t (liD K H D) σm M
theorem swap_name {e : Expr} {x : Str} {p : Pos} {ln : Nat} {env : Env} (h : notComp e = true) : swapsWith e (some (.Name x p)) ln env = pure false := by cases e <;> first | rfl | cases h
theorem swap_none {e : Expr} {ln : Nat} {env : Env} (h : notComp e = true) : swapsWith e none ln env = pure false := by cases e <;> first | rfl | cases h
theorem swap_sub {e a b : Expr} {p : Pos} {ln : Nat} {env : Env} : swapsWith e (some (.Subscript a b p)) ln env = pure false := by cases e <;> rfl
theorem swap_comp {elt : Expr} {gs : List Comprehension} {scope : Scope} {pos p : Pos} {x : Str} {ln : Nat} {env : Env} : ∃ b : Bool, swapsWith (.ListComp elt gs scope pos) (some (.Name x p)) ln env = pure b := ⟨_, rfl⟩
theorem comp_of {G : GI} {ie : IE} {sc : Scope} {N : List Str} {e : Expr} (h : chkE G ie sc N e = true) : notComp e = true ∨ ∃ own fr src tg test elt, ie = .comp own fr src tg test elt := by
  cases ie with
  | comp own fr src tg test elt => exact .inr ⟨_, _, _, _, _, _, rfl⟩
  | _ => left; cases e <;> first | rfl | (rw [chkE] at h; cases h)
section
variable {G : GI} {sc : Scope} {N : List Str} {st : Stmt}
theorem invS_ret {e : IE} (h : chkS G sc N (.ret e) st = true) : ∃ x p, st = .Return (some x) p ∧ chkE G e sc N x = true := by
  rw [chkS] at h
  replace h := any_of h
  obtain ⟨o, h1, h⟩ := h
  obtain ⟨p, rfl⟩ := asRet_of h1
  replace h := any_of h
  obtain ⟨x, rfl, h⟩ := h
  exact ⟨x, p, rfl, h⟩
theorem invS_set {i : Nat} {e : IE} (h : chkS G sc N (.set i e) st = true) : ∃ x px v p, st = .Assign [.Name x px] v p ∧ N[i]? = some x ∧ locB sc x = true ∧ chkE G e sc N v = true := by
  rw [chkS] at h
  replace h := any_of h
  obtain ⟨⟨ts, v⟩, h1, h⟩ := h
  obtain ⟨p, rfl⟩ := asAsg_of h1
  replace h := any_of h
  obtain ⟨t, h2, h⟩ := h
  obtain rfl := the1_of h2
  replace h := any_of h
  obtain ⟨x, h3, h⟩ := h
  obtain ⟨px, rfl⟩ := asName_of h3
  replace h := and_of h
  obtain ⟨h, h6⟩ := h
  replace h := and_of h
  obtain ⟨h4, h5⟩ := h
  exact ⟨x, px, v, p, rfl, dec_of h4, h5, h6⟩
theorem invS_put {o i e : IE} (h : chkS G sc N (.put o i e) st = true) : ∃ a b pt v p, st = .Assign [.Subscript a b pt] v p ∧ chkE G o sc N a = true ∧ chkE G i sc N b = true ∧ notSl b = true ∧ chkE G e sc N v = true := by
  rw [chkS] at h
  replace h := any_of h
  obtain ⟨⟨ts, v⟩, h1, h⟩ := h
  obtain ⟨p, rfl⟩ := asAsg_of h1
  replace h := any_of h
  obtain ⟨g, h2, h⟩ := h
  obtain rfl := the1_of h2
  replace h := any_of h
  obtain ⟨⟨a, b⟩, h3, h⟩ := h
  obtain ⟨pt, rfl⟩ := asSub_of h3
  replace h := and_of h
  obtain ⟨h, h7⟩ := h
  replace h := and_of h
  obtain ⟨h, h6⟩ := h
  replace h := and_of h
  obtain ⟨h4, h5⟩ := h
  exact ⟨a, b, pt, v, p, rfl, h4, h5, h6, h7⟩
theorem invS_expr {e : IE} (h : chkS G sc N (.expr e) st = true) : ∃ v p, st = .Expr v p ∧ chkE G e sc N v = true ∧ notComp v = true := by
  rw [chkS] at h
  replace h := any_of h
  obtain ⟨v, h1, h⟩ := h
  obtain ⟨p, rfl⟩ := asEx_of h1
  exact ⟨v, p, rfl, and_of h⟩
theorem invS_ite {c : IE} {a b : ISs} (h : chkS G sc N (.ite c a b) st = true) : ∃ t x y p, st = .If t x y p ∧ tok c = true ∧ chkE G c sc N t = true ∧ chkSs G sc N a x = true ∧ chkSs G sc N b y = true := by
  rw [chkS] at h
  replace h := any_of h
  obtain ⟨⟨t, x, y⟩, h1, h⟩ := h
  obtain ⟨p, rfl⟩ := asIfS_of h1
  replace h := and_of h
  obtain ⟨h, h5⟩ := h
  replace h := and_of h
  obtain ⟨h, h4⟩ := h
  replace h := and_of h
  obtain ⟨h2, h3⟩ := h
  exact ⟨t, x, y, p, rfl, h2, h3, h4, h5⟩
theorem invS_for {t : ITg} {s : ISr} {b : ISs} (h : chkS G sc N (.for_ t s b) st = true) : ∃ tg it body p, st = .For tg it body [] p ∧ chkTg sc N N.length true t tg = true ∧ chkSr G s sc N it = true ∧ notSet it = true ∧ chkSs G sc N b body = true := by
  rw [chkS] at h
  replace h := any_of h
  obtain ⟨⟨tg, it, body, els⟩, h1, h⟩ := h
  obtain ⟨p, rfl⟩ := asFor_of h1
  replace h := and_of h
  obtain ⟨h, h6⟩ := h
  replace h := and_of h
  obtain ⟨h, h5⟩ := h
  replace h := and_of h
  obtain ⟨h, h4⟩ := h
  replace h := and_of h
  obtain ⟨h2, h3⟩ := h
  obtain rfl := non0_of h6
  exact ⟨tg, it, body, p, rfl, h2, h3, h4, h5⟩
theorem invS_while {c : IE} {b : ISs} (h : chkS G sc N (.while_ c b) st = true) : ∃ t body p, st = .While t body [] p ∧ tok c = true ∧ chkE G c sc N t = true ∧ chkSs G sc N b body = true := by
  rw [chkS] at h
  replace h := any_of h
  obtain ⟨⟨tg, body, els⟩, h1, h⟩ := h
  obtain ⟨p, rfl⟩ := asWh_of h1
  replace h := and_of h
  obtain ⟨h, h5⟩ := h
  replace h := and_of h
  obtain ⟨h, h4⟩ := h
  replace h := and_of h
  obtain ⟨h2, h3⟩ := h
  obtain rfl := non0_of h5
  exact ⟨tg, body, p, rfl, h2, h3, h4⟩
theorem invSs_nil {sts : List Stmt} (h : chkSs G sc N .nil sts = true) : sts = [] := by
  rw [chkSs] at h
  exact non0_of h
theorem invSs_cons {s : IS} {r : ISs} {sts : List Stmt} (h : chkSs G sc N (.cons s r) sts = true) : ∃ x xs, sts = x :: xs ∧ chkS G sc N s x = true ∧ chkSs G sc N r xs = true := by
  rw [chkSs] at h
  replace h := any_of h
  obtain ⟨⟨x, xs⟩, h1, h⟩ := h
  exact ⟨x, xs, hd1_of h1, and_of h⟩
end
mutual
theorem sS {G : GI} {Φ : List (Str × SpM)} : ∀ (is : IS) {X : Cx} {st : Stmt}, Cok X G Φ → (∀ x, X.fn x = true) → chkS G X.env.scope X.N is st = true → PS X st (liSt X.K (wS Φ is))
  | .pass, X, st, c, hf, h => by rw [chkS] at h; cases h
  | .brk, X, st, c, hf, h => by rw [chkS] at h; cases h
  | .cnt, X, st, c, hf, h => by rw [chkS] at h; cases h
  | .never, X, st, c, hf, h => by
    refine ps_never.weak fun D σ H hw => ?_
    obtain ⟨σm, M, rs, rh, hw⟩ := hw
    rw [wS] at hw
    exact hw
  | .ret e, X, st, c, hf, h => by
    obtain ⟨v, p, rfl, h⟩ := invS_ret h
    refine (ps_ret (sE e c h).pe).weak fun D σ H hw => ?_
    obtain ⟨σm, M, rs, rh, hw⟩ := hw
    rw [wS] at hw
    exact ⟨σm, M, rs, rh, hw⟩
  | .retN, X, st, c, hf, h => by rw [chkS] at h; cases h
  | .set i e, X, st, c, hf, h => by
      obtain ⟨x, px, v, p, rfl, h1, h2, h3⟩ := invS_set h
      have rd : ∀ D σ H, liSt X.K (wS Φ (.set i e)) D σ H → liE X.K (wE Φ e) σ H fun v H1 => D.nx (σ.set i (some v)) H1 := fun D σ H hw => by
        obtain ⟨σm, M, rs, rh, hw⟩ := hw
        rw [wS] at hw
        refine ⟨σm, M, rs, rh, mon_e c.mon e (fun v M1 q => ?_) hw⟩
        intro u H1 k1 r1 rh1
        exact q _ _ k1 ((rs.mono k1).set r1 i) rh1
      rcases comp_of h3 with hn | ⟨own, fr, src, tg, test, elt, rfl⟩
      · exact (ps_set c.nd h1 (loc_of h2) (sE e c h3).pe (swap_name hn) (.inl (hf _))).weak rd
      · obtain ⟨y, t, it, ifs, scope, p3, rfl, i1, i2, i3, i4, i5, i6, i7⟩ := inv_comp h3
        obtain ⟨b, hb⟩ := swap_comp (elt := y) (gs := [⟨t, it, ifs, 0⟩]) (scope := scope) (pos := p3) (p := px) (x := x) (ln := p.line) (env := X.env)
        cases b with
        | false => exact (ps_set c.nd h1 (loc_of h2) (sE _ c h3).pe hb (.inl (hf _))).weak rd
        | true =>
          refine (ps_setcomp2 own fr (g := gOf X.K tg) (te := liE X.K (wE Φ elt)) (tt := ttOf X.K Φ test) c.nd h1 (loc_of h2) (fun e s h => by rw [c.nox] at h; exact h) c.calm i1 (sSr src (tg := t) c i4)
            (fun C fp s₃ H₃ => sTg (X := cxC X scope own fr C fp s₃ H₃) (lim := own.length) (all := false) c.calm i3 (fun z => by cases z) tg i5) (fun C fp s₃ H₃ => sI (X := cxC X scope own fr C fp s₃ H₃) test (c.comp (compOk_of i1).kind i3) i6)
            (fun C fp s₃ H₃ => (sE (X := cxC X scope own fr C fp s₃ H₃) elt (c.comp (compOk_of i1).kind i3) i7).pe) hb (fold_set i2 _) (.inl (hf _))).thaw.weak fun D σ H hw => ?_
          exact comp_read c.mon i5 (rd D σ H hw)
  | .asg t e, X, st, c, hf, h => by rw [chkS] at h; cases h
  | .put o i e, X, st, c, hf, h => by
      obtain ⟨a, b, pt, v, p, rfl, h1, h2, h3, h4⟩ := invS_put h
      have hg : PG X (.Subscript a b pt) (gSub (liE X.K (wE Φ o)) (liE X.K (wE Φ i)) (liPut X.K)) := pg_sub (sE o c h1).pe (sE i c h2).pe (set_any (by have := c.room; omega)) (by intro v; cases b <;> first | rfl | cases h3)
      refine (ps_asg (sE e c h4).pe hg (swap_sub (e := v) (a := a) (b := b) (p := pt) (ln := p.line) (env := X.env)) rfl rfl).weak fun D σ H hw => ?_
      obtain ⟨σm, M, rs, rh, hw⟩ := hw
      rw [wS] at hw
      refine ⟨σm, M, rs, rh, mon_e c.mon e (fun v M1 q1 => ?_) hw⟩
      intro u H1 k1 r1 rh1
      refine ⟨σm, M1, rs.mono k1, rh1, mon_e c.mon o (fun x M2 q2 => ?_) q1⟩
      intro u2 H2 k2 r2 rh2
      refine ⟨σm, M2, rs.mono (k1.trans k2), rh2, mon_e c.mon i (fun y M3 q3 => ?_) q2⟩
      intro u3 H3 k3 r3 rh3
      refine ⟨x, y, v, M3, r2.mono k3, r3, r1.mono (k2.trans k3), rh3, mon_put (fun M4 q4 => ?_) q3⟩
      intro H4 k4 rh4
      have kk := k1.trans (k2.trans (k3.trans k4))
      exact q4 _ _ kk (rs.mono kk) rh4
  | .fset cn o f e, X, st, c, hf, h => by rw [chkS] at h; cases h
  | .expr e, X, st, c, hf, h => by
    obtain ⟨v, p, rfl, h1, h2⟩ := invS_expr h
    refine (ps_expr (sE e c h1).pe (swap_none h2)).weak fun D σ H hw => ?_
    obtain ⟨σm, M, rs, rh, hw⟩ := hw
    rw [wS] at hw
    refine ⟨σm, M, rs, rh, mon_e c.mon e (fun v M1 q => ?_) hw⟩
    intro u H1 k1 r1 rh1
    exact q _ _ k1 (rs.mono k1) rh1
  | .ite d a b, X, st, c, hf, h => by
    obtain ⟨t, x, y, p, rfl, h1, h2, h3, h4⟩ := invS_ite h
    refine (ps_if ((sE d c h2).pt h1) (sSs a c hf h3) (sSs b c hf h4)).weak fun D σ H hw => ?_
    obtain ⟨σm, M, rs, rh, hw⟩ := hw
    rw [wS] at hw
    refine ⟨σm, M, rs, rh, mon_e c.mon d (fun x M1 ⟨k, e, q⟩ => ⟨k, e, fun H1 k1 rh1 => ?_⟩) hw⟩
    exact mon_ite (fun q => ⟨σm, M1, rs.mono k1, rh1, mon_ss c.mon a (liD.on k1) q⟩) (fun q => ⟨σm, M1, rs.mono k1, rh1, mon_ss c.mon b (liD.on k1) q⟩) q
  | .for_ t s b, X, st, c, hf, h => by
      obtain ⟨tg, it, body, p, rfl, h1, h2, h3, h4⟩ := invS_for h
      refine (ps_for (by rw [c.nox]; exact PassesOwn.never) c.calm (sSr s (tg := tg) c h2) (sTg (lim := X.N.length) (all := true) c.calm c.nd (fun _ => hf) t h1) (sSs b c hf h4) (fold_set h3 _)).thaw.weak fun D σ H hw => ?_
      obtain ⟨σm, M, rs, rh, hw⟩ := hw
      rw [wS] at hw
      refine ⟨σm, M, rs, rh, mon_sr c.mon s (fun S M1 ⟨J, j0, j1, j2, j3⟩ => ?_) hw⟩
      intro I H1 k1 rh1 sit
      refine ⟨fun i m σ' H' => m = S.len - i ∧ i ≤ S.len ∧ Kp H1 H' ∧ ∃ σm' M', RS X.K H' σm' σ' ∧ RH X.K M' H' ∧ J i σm' M', ⟨_, rfl, Nat.zero_le _, Kp.refl _, σm, M1, rs.mono k1, rh1, j0⟩, ?_⟩
      rintro i m σ2 H2 ⟨rfl, hi, k2, σm2, M2, rs2, rh2, hj⟩
      obtain ⟨goes, stops⟩ := src_turn sit k2 rh2 (j1 i σm2 M2 hj)
      by_cases hlt : i < S.len
      · obtain ⟨go, yld⟩ := goes i hlt
        refine .inr ⟨go, fun σ' H' => Kp H1 H' ∧ ∃ σm' M', RS X.K H' σm' σ' ∧ RH X.K M' H' ∧ J (i + 1) σm' M', fun σ' H' ⟨a, z⟩ => ⟨S.len - (i + 1), by omega, rfl, hlt, a, z⟩, fun x H' y => ?_⟩
        obtain ⟨e, m, hm, rm⟩ := yld x H' y
        subst e
        refine tg_ok (Ψ := fun _ => True) (lim := X.N.length) (fun _ _ _ _ z => z) t h1 rm rs2 trivial (j2 i m σm2 M2 hm hj) fun σm3 σ3 q rs3 _ => ?_
        refine ⟨σm3, M2, rs3, rh2, ?_⟩
        refine mon_ss c.mon b ?_ q
        refine ⟨fun σ' M' z σv H3 k3 rs' rh' => ⟨k2.trans k3, σ', M', rs', rh', z⟩, fun v M' z u H3 k3 r3 rh' => ?_, fun σ' M' z σv H3 k3 rs' rh' => ?_, fun σ' M' z σv H3 k3 rs' rh' => ⟨k2.trans k3, σ', M', rs', rh', z⟩⟩
        · obtain ⟨H4, th, k4, rh4⟩ := src_thaw sit rh' z.1
          exact ⟨H4, th, z.2 u H4 (k1.trans (k2.trans (k3.trans k4))) (r3.mono k4) rh4⟩
        · obtain ⟨H4, th, k4, rh4⟩ := src_thaw sit rh' z.1
          exact ⟨H4, th, z.2 σv H4 (k1.trans (k2.trans (k3.trans k4))) (rs'.mono k4) rh4⟩
      · have e : i = S.len := by omega
        subst e
        obtain ⟨H4, th, k4, rh4⟩ := src_thaw sit rh2 (ok_okT (j1 _ σm2 M2 hj))
        exact .inl ⟨stops _ (Nat.le_refl _), H4, th, j3 σm2 M2 hj _ _ (k1.trans (k2.trans k4)) (rs2.mono k4) rh4⟩
  | .while_ d b, X, st, c, hf, h => by
      obtain ⟨tst, body, p, rfl, h1, h2, h3⟩ := invS_while h
      refine (ps_while (by rw [c.nox]; exact PassesOwn.never) ((sE d c h2).pt h1) (sSs b c hf h3)).weak fun D σ H hw => ?_
      obtain ⟨σm, M, rs, rh, hw⟩ := hw
      rw [wS] at hw
      obtain ⟨J, ⟨m0, j0⟩, j1⟩ := hw
      refine ⟨fun m σ' H' => Kp H H' ∧ ∃ σm' M', RS X.K H' σm' σ' ∧ RH X.K M' H' ∧ J m σm' M', ⟨m0, Kp.refl _, σm, M, rs, rh, j0⟩, ?_⟩
      rintro m σ2 H2 ⟨k2, σm2, M2, rs2, rh2, hj⟩
      refine ⟨σm2, M2, rs2, rh2, mon_e c.mon d (fun x M1 ⟨k, e, q⟩ => ⟨k, e, fun H3 k3 rh3 => ?_⟩) (j1 m σm2 M2 hj)⟩
      refine mon_ite (fun q => ?_) (fun q => q _ _ (k2.trans k3) (rs2.mono k3) rh3) q
      refine ⟨fun σ' H' => ∃ m', m' < m ∧ Kp H H' ∧ ∃ σm' M', RS X.K H' σm' σ' ∧ RH X.K M' H' ∧ J m' σm' M', fun σ' H' z => z, σm2, M1, rs2.mono k3, rh3, ?_⟩
      refine mon_ss c.mon b ?_ q
      refine ⟨?_, fun v M' z => z.on (k2.trans k3), fun σ' M' z σv H4 k4 => z σv H4 (k2.trans (k3.trans k4)), ?_⟩
      · rintro σ' M' ⟨m', hm, z⟩ σv H4 k4 rs' rh'
        exact ⟨m', hm, k2.trans (k3.trans k4), σ', M', rs', rh', z⟩
      · rintro σ' M' ⟨m', hm, z⟩ σv H4 k4 rs' rh'
        exact ⟨m', hm, k2.trans (k3.trans k4), σ', M', rs', rh', z⟩
theorem sSs {G : GI} {Φ : List (Str × SpM)} : ∀ (is : ISs) {X : Cx} {sts : List Stmt}, Cok X G Φ → (∀ x, X.fn x = true) → chkSs G X.env.scope X.N is sts = true → PSs X sts (liSt X.K (wSs Φ is))
  | .nil, X, sts, c, hf, h => by
      cases invSs_nil h
      refine pss_nil.weak fun D σ H hw => ?_
      obtain ⟨σm, M, rs, rh, hw⟩ := hw
      rw [wSs] at hw
      exact hw σ H (Kp.refl _) rs rh
  | .cons s r, X, sts, c, hf, h => by
      obtain ⟨x, xs, rfl, h1, h2⟩ := invSs_cons h
      refine (pss_cons (sS s c hf h1) (sSs r c hf h2)).weak fun D σ H hw => ?_
      obtain ⟨σm, M, rs, rh, hw⟩ := hw
      rw [wSs] at hw
      refine ⟨σm, M, rs, rh, ?_⟩
      refine mon_s c.mon s ?_ hw
      refine ⟨fun σ' M' z σv H1 k1 rs' rh' => ?_, fun v M' z => z, fun σ' M' z => z, fun σ' M' z => z⟩
      exact ⟨σ', M', rs', rh', mon_ss c.mon r (liD.on k1) z⟩
end
end L2
namespace L2
open PySem PySem.Spec PyProof.Rows
structure Fts (P : Program) (w : World) (K : PySem.W.Frag) (mg : Str → Option Value) (base : Heap) (k : Nat) (G : GI) (Φ : List (Str × SpM)) : Prop where
  bls : ∀ x, G.bl.contains x = true → mg x = none
  gls : ∀ x i, G.gl.lookup x = some i → ∃ tk, mg x = some (.int i tk)
  fnn : ∀ (j : Nat) f, G.fns[j]? = some f → ∃ sp, Φ[j]? = some (f, sp)
  mon : ∀ (j : Nat) f sp, Φ[j]? = some (f, sp) → MonW sp
  fns : ∀ (j : Nat) f sp, G.fns[j]? = some f → Φ[j]? = some (f, sp) → ∃ fa fd ps, FnOk P w K mg base CX0 k fa fd ps (liSp K sp) ∧ mg f = some (.ref fa) ∧ PySem.W.keepIn K (.ref fa) = true ∧ Binds K fd ps []
  mts : ∀ (j : Nat) c m, G.mts.contains (j, c, m) = true → ∃ f sp, Φ[j]? = some (f, sp) ∧ ∃ C fa fd ps, FnOk P w K mg base CX0 k fa fd ps (liSp K sp) ∧ PySem.W.nsIn K mainGlobals c = some (some (.ref C)) ∧ Cls K C ∧ Meth K C m fa ∧ Binds K fd ps []
  mks : ∀ (j : Nat) c, G.mks.contains (j, c) = true → ∃ f sp, Φ[j]? = some (f, sp) ∧ ∃ k' C fa fd ps, k' + 1 ≤ k ∧ FnOk P w K mg base CX0 k' fa fd ps (liSp K sp) ∧ PySem.W.nsIn K mainGlobals c = some (some (.ref C)) ∧ mg c = some (.ref C) ∧ Mk K C fa ∧ Binds K fd ps []
  cls : ∀ c f, G.cls.contains (c, f) = true → ∃ C, PySem.W.nsIn K mainGlobals c = some (some (.ref C)) ∧ Cls K C ∧ NoAttr K C f
def startM (n : Nat) (vs : List MV) : Sm := vs.map some ++ List.replicate (n - vs.length) none
theorem start_rs {K : PySem.W.Frag} {H : Hp} {N : List Str} {ms : List MV} {vs : List V} (r : RMs K H ms vs) : RS K H (startM N.length ms) (start N vs) := by
  unfold startM start
  have hl := r.length
  refine ⟨by simp [hl], fun i m e => ?_⟩
  by_cases hi : i < ms.length
  · rw [List.getElem?_append_left (by simpa using hi), List.getElem?_map] at e
    cases q : ms[i]? with
    | none => rw [q] at e; cases e
    | some x =>
      rw [q] at e
      have ex : x = m := Option.some.inj (Option.some.inj e)
      subst ex
      obtain ⟨u, hu, ru⟩ := r.get q
      exact ⟨u, by rw [List.getElem?_append_left (by simpa [← hl] using hi), List.getElem?_map, hu]; rfl, ru⟩
  · rw [List.getElem?_append_right (by simpa using hi), List.getElem?_replicate] at e
    split at e <;> cases e
theorem Fun.okM {P : Program} {w : World} {K : PySem.W.Frag} {mg : Str → Option Value} {base : Heap} {G : GI} {Φ : List (Str × SpM)} {x qual : Str} {st : Stmt} {f : Addr} {fd : FuncData} {N ps : List Str} {k : Nat} {sp : SpM}
    (F : Fun K x qual st f fd) (S : FnScope N ps (defScope st)) (T : Fts P w K mg base k G Φ) (ir : ISs) (hc : chkSs G (defScope st) N ir (defBody st) = true)
    (len : ∀ vs M Q, sp vs M Q → vs.length = ps.length) (h : ∀ vs M Q, sp vs M Q → wSs Φ ir { nx := fun _ M' => Q .non M', rt := Q } (startM N.length vs) M) : FnOk P w K mg base CX0 (k + 1) f fd ps (liSp K sp) := by
  refine F.ok S (fun vs H Q E hs => ?_) fun cdv A outer s H vs Q E hr hs => ?_
  · obtain ⟨ms, M, r, rh, q⟩ := hs
    rw [← r.length]; exact len _ _ _ q
  obtain ⟨ms, M, r, rh, q⟩ := hs
  have c : Cok (cxOf CX0 P w K mg base N qual (defScope st) f cdv A outer s H E).nox G Φ :=
    ⟨(by have := hr.un; show (A.deeper _).units + 70 < cLine; omega), rfl, rfl, (by show (if (defScope st).kind.isAnnotationScope then ScopeKind.function else (defScope st).kind) = .function; rw [S.kind]; rfl), S.nd, T.bls, T.gls, T.fnn, T.mon,
      (fun j f sp hg hj => let ⟨fa, fd, ps, F, hm, hk, hb⟩ := T.fns j f sp hg hj; ⟨k, fa, fd, ps, hr, F, hm, hk, hb⟩),
      (fun j c m h => let ⟨f, sp, hj, C, fa, fd, ps, F, hC, cl, hm, hb⟩ := T.mts j c m h; ⟨f, sp, hj, k, C, fa, fd, ps, hr, F, hC, cl, hm, hb⟩),
      (fun j c h => let ⟨f, sp, hj, k', C, fa, fd, ps, hk, F, hC, hm, mk1, hb⟩ := T.mks j c h; ⟨f, sp, hj, k', C, fa, fd, ps, hr.mono hk, F, hC, hm, mk1, hb⟩), T.cls⟩
  refine ⟨_, sSs ir c (fun _ => rfl) hc, startM N.length ms, M, start_rs r, rh, ?_⟩
  refine mon_ss T.mon ir ?_ (h ms M _ q)
  exact ⟨fun σ M' z σv H' k1 rs' rh' => z _ _ k1 .non rh', fun v M' z => z, fun _ _ z => z.elim, fun _ _ z => z.elim⟩
theorem liSp.imp {K : PySem.W.Frag} {P : Program} {w : World} {mg : Str → Option Value} {base : Heap} {k : Nat} {f : Addr} {fd : FuncData} {ps : List Str} {sp sp' : SpM} (F : FnOk P w K mg base CX0 k f fd ps (liSp K sp)) (h : ∀ vs M Q, sp' vs M Q → sp vs M Q) : FnOk P w K mg base CX0 k f fd ps (liSp K sp') :=
  F.imp fun vs H Q E ⟨ms, M, r, rh, q⟩ => ⟨ms, M, r, rh, h _ _ _ q⟩
def spLawM : SpM := fun vs M Q => ∃ ns : List Int, vs = [.frl (ns.map .int)] ∧ ns.length ≤ 63 ∧ ∀ M', Q (.bl true) M'
def spLawV (K : PySem.W.Frag) : Sp := fun vs H Q _ => ∃ (a : Addr) (ns : List Int), vs = [.ref a] ∧ FrL K H a (ns.map V.int) ∧ ns.length ≤ 63 ∧ ∀ H', Q (.bl true) H'
theorem law_imp {K : PySem.W.Frag} {P : Program} {w : World} {mg : Str → Option Value} {base : Heap} {k : Nat} {f : Addr} {fd : FuncData} {ps : List Str} (F : FnOk P w K mg base CX0 k f fd ps (liSp K spLawM)) : FnOk P w K mg base CX0 k f fd ps (spLawV K) :=
  F.imp fun vs H Q E ⟨a, ns, e, hs, hl, q⟩ => by
    subst e
    refine ⟨[.frl (ns.map .int)], fun _ => none, .cons (.frl hs (RMs.ints ns)) .nil, fun _ _ z => (by cases z), ns, rfl, hl, fun M' => ?_⟩
    intro v H' k r rh
    cases r
    exact q _
theorem frl_of {K : PySem.W.Frag} {H : Hp} {a : Addr} {vs : List V} (o : Only H) (h : SqL K H a vs) : FrL K H a vs := by
  rcases h with (h | ⟨ob, h⟩) | h
  · rcases o a with z | ⟨ob, xs, z⟩
    · rw [h] at z; cases z
    · rw [h] at z; cases z
  · exact .inl ⟨ob, h⟩
  · exact .inr h
end L2
namespace L2
open PySem PySem.Spec PyProof.Rows
theorem mkFts0 {P : Program} {w : World} {K : PySem.W.Frag} {mg : Str → Option Value} {base : Heap} {k : Nat} {G : GI} {Φ Ψ : List (Str × SpM)} (hb : ∀ x ∈ G.bl, mg x = none) (hg : ∀ p ∈ G.gl, ∃ tk, mg p.1 = some (.int p.2 tk)) (hf : Φ.map (·.1) = G.fns)
    (hm : ∀ p ∈ Φ ++ Ψ, MonW p.2) (hF : ∀ p ∈ Φ, ∃ fa fd ps, FnOk P w K mg base CX0 k fa fd ps (liSp K p.2) ∧ mg p.1 = some (.ref fa) ∧ PySem.W.keepIn K (.ref fa) = true ∧ Binds K fd ps [])
    (ht : ∀ q ∈ G.mts, ∃ f sp, (Φ ++ Ψ)[q.1]? = some (f, sp) ∧ ∃ C fa fd ps, FnOk P w K mg base CX0 k fa fd ps (liSp K sp) ∧ PySem.W.nsIn K mainGlobals q.2.1 = some (some (.ref C)) ∧ Cls K C ∧ Meth K C q.2.2 fa ∧ Binds K fd ps [])
    (hk : ∀ q ∈ G.mks, ∃ f sp, (Φ ++ Ψ)[q.1]? = some (f, sp) ∧ ∃ k' C fa fd ps, k' + 1 ≤ k ∧ FnOk P w K mg base CX0 k' fa fd ps (liSp K sp) ∧ PySem.W.nsIn K mainGlobals q.2 = some (some (.ref C)) ∧ mg q.2 = some (.ref C) ∧ Mk K C fa ∧ Binds K fd ps [])
    (hc : ∀ q ∈ G.cls, ∃ C, PySem.W.nsIn K mainGlobals q.1 = some (some (.ref C)) ∧ Cls K C ∧ NoAttr K C q.2) : Fts P w K mg base k G (Φ ++ Ψ) where
  bls := fun x h => hb x (by simpa using h)
  gls := fun x i h => hg (x, i) (PySem.mem_of_lookup h)
  fnn := fun j f h => by
    rw [← hf, List.getElem?_map] at h
    cases e : Φ[j]? with
    | none => rw [e] at h; cases h
    | some p => rw [e] at h; cases h; exact ⟨p.2, by rw [List.getElem?_append_left (List.getElem?_eq_some_iff.mp e).1, e]⟩
  mon := fun j f sp h => hm (f, sp) (List.mem_of_getElem? h)
  fns := fun j f sp hj h => by
    rw [← hf, List.getElem?_map] at hj
    cases e : Φ[j]? with
    | none => rw [e] at hj; cases hj
    | some p =>
      rw [List.getElem?_append_left (List.getElem?_eq_some_iff.mp e).1, e] at h
      cases h
      exact hF (f, sp) (List.mem_of_getElem? e)
  mts := fun j c m h => ht (j, c, m) (by simpa using h)
  mks := fun j c h => hk (j, c) (by simpa using h)
  cls := fun c f h => hc (c, f) (by simpa using h)
theorem mkFts {P : Program} {w : World} {K : PySem.W.Frag} {mg : Str → Option Value} {base : Heap} {k : Nat} {G : GI} {Φ : List (Str × SpM)} (hb : ∀ x ∈ G.bl, mg x = none) (hg : ∀ p ∈ G.gl, ∃ tk, mg p.1 = some (.int p.2 tk)) (hf : Φ.map (·.1) = G.fns)
    (hm : ∀ p ∈ Φ, MonW p.2) (hF : ∀ p ∈ Φ, ∃ fa fd ps, FnOk P w K mg base CX0 k fa fd ps (liSp K p.2) ∧ mg p.1 = some (.ref fa) ∧ PySem.W.keepIn K (.ref fa) = true ∧ Binds K fd ps []) (h1 : G.mts = [] := by rfl) (h2 : G.mks = [] := by rfl) (h3 : G.cls = [] := by rfl) : Fts P w K mg base k G Φ := by
  have := mkFts0 (Ψ := []) hb hg hf (by rw [List.append_nil]; exact hm) hF (by rw [h1]; exact fun _ z => nomatch z) (by rw [h2]; exact fun _ z => nomatch z) (by rw [h3]; exact fun _ z => nomatch z)
  rwa [List.append_nil] at this
end L2
namespace L2
open PySem PySem.Spec PyProof.Rows
section
variable {M : MH} {Q : QM} {i j : Int} {x y : MV} {a b : Addr}
theorem q_add : wBin .Add (.int i) (.int j) M Q = Q (.int (i + j)) M := rfl
theorem q_sub : wBin .Sub (.int i) (.int j) M Q = Q (.int (i - j)) M := rfl
theorem q_mul : wBin .Mult (.int i) (.int j) M Q = (CMul i j ∧ Q (.int (i * j)) M) := rfl
theorem q_fdiv : wBin .FloorDiv (.int i) (.int j) M Q = (CDivB i j ∧ Q (.int (i / j)) M) := rfl
theorem q_mod : wBin .Mod (.int i) (.int j) M Q = (0 < j ∧ Q (.int (i % j)) M) := rfl
theorem q_shl : wBin .LShift (.int i) (.int j) M Q = (CPow i j ∧ Q (.int (i * 2 ^ j.toNat)) M) := rfl
theorem q_and : wBin .BitAnd (.int i) (.int j) M Q = Q (.int (Builtin.bitAnd i j)) M := rfl
theorem q_or : wBin .BitOr (.int i) (.int j) M Q = Q (.int (Builtin.bitOr i j)) M := rfl
theorem q_xor : wBin .BitXor (.int i) (.int j) M Q = Q (.int (Builtin.bitXor i j)) M := rfl
theorem q_adds {x y : Str} : wBin .Add (.str x) (.str y) M Q = (x.length + y.length ≤ sizeLine ∧ Q (.str (x ++ y)) M) := rfl
theorem q_muls {x : Str} : wBin .Mult (.str x) (.int i) M Q = (x.length ≤ 16 ∧ -1000 ≤ i ∧ i ≤ 1000 ∧ Q (.str (Txt.mul x i)) M) := rfl
theorem q_addt {xs ys : List MV} : wBin .Add (.tup xs) (.tup ys) M Q = (xs ≠ [] ∧ xs.length + ys.length ≤ sizeLine ∧ Q (.tup (xs ++ ys)) M) := rfl
theorem q_mult {xs : List MV} : wBin .Mult (.tup xs) (.int i) M Q = (xs ≠ [] ∧ 1 ≤ i ∧ xs.length * i.toNat ≤ 1000000 ∧ Q (.tup (List.replicate i.toNat xs).flatten) M) := rfl
theorem q_mulr : wBin .Mult (.ref a) (.int i) M Q = ∃ xs, M a = some (.lst xs) ∧ -(2 ^ 63) ≤ i ∧ i < 2 ^ 63 ∧ xs.length * i.toNat ≤ sizeLine ∧ ∀ p, M p = none → Q (.ref p) (updM M p (.lst (List.replicate i.toNat xs).flatten)) := rfl
theorem q_addl : wBin .Add (.ref a) (.ref b) M Q = ∃ xs ys, M a = some (.lst xs) ∧ M b = some (.lst ys) ∧ xs.length + ys.length ≤ sizeLine ∧ ∀ p, M p = none → Q (.ref p) (updM M p (.lst (xs ++ ys))) := rfl
theorem q_lt : wCmp .Lt (.int i) (.int j) M Q = Q (.bl (decide (i < j))) M := propext ⟨fun ⟨_, _, e, f, h⟩ => by cases e; cases f; exact h, fun h => ⟨i, j, rfl, rfl, h⟩⟩
theorem q_le : wCmp .LtE (.int i) (.int j) M Q = Q (.bl (decide (i ≤ j))) M := propext ⟨fun h => Or.elim h (fun ⟨_, _, e, f, h⟩ => by cases e; cases f; exact h) (fun ⟨_, _, e, _⟩ => nomatch e), fun h => Or.inl ⟨i, j, rfl, rfl, h⟩⟩
theorem q_gt : wCmp .Gt (.int i) (.int j) M Q = Q (.bl (decide (j < i))) M := propext ⟨fun ⟨_, _, e, f, h⟩ => by cases e; cases f; exact h, fun h => ⟨i, j, rfl, rfl, h⟩⟩
theorem q_eqi : wCmp .Eq (.int i) (.int j) M Q = Q (.bl (decide (i = j))) M := rfl
theorem q_nei : wCmp .NotEq (.int i) (.int j) M Q = Q (.bl (!decide (i = j))) M := rfl
theorem q_eqs {x y : Str} : wCmp .Eq (.str x) (.str y) M Q = Q (.bl (decide (x = y))) M := rfl
theorem q_nes {x y : Str} : wCmp .NotEq (.str x) (.str y) M Q = Q (.bl (!decide (x = y))) M := rfl
theorem q_eqb {x y : Bool} : wCmp .Eq (.bl x) (.bl y) M Q = Q (.bl (decide (x = y))) M := rfl
theorem q_neb {x y : Bool} : wCmp .NotEq (.bl x) (.bl y) M Q = Q (.bl (!decide (x = y))) M := rfl
theorem q_is : wCmp .Is x .non M Q = Q (.bl (isNon x)) M := propext ⟨fun h => Or.elim h (fun h => h.2) (fun ⟨_, e, _⟩ => nomatch e), fun h => Or.inl ⟨rfl, h⟩⟩
theorem q_eqr {y : MV} : wCmp .Eq (.ref a) y M Q = wEq (.ref a) y M fun b => Q (.bl b) M := rfl
theorem q_ner {y : MV} : wCmp .NotEq (.ref a) y M Q = wEq (.ref a) y M fun b => Q (.bl (!b)) M := rfl
theorem q_eqt {xs : List MV} {y : MV} : wCmp .Eq (.tup xs) y M Q = wEq (.tup xs) y M fun b => Q (.bl b) M := rfl
theorem q_net {xs : List MV} {y : MV} : wCmp .NotEq (.tup xs) y M Q = wEq (.tup xs) y M fun b => Q (.bl (!b)) M := rfl
theorem q_in : wCmp .In x y M Q = wIn x y M fun b => Q (.bl b) M := rfl
theorem eq_alike {k : Bool → Prop} {m : Nat} (n : eqS x y = none) (h : Alike M m x y) (le : m ≤ 60) (q : k true) : wEq x y M k := by
  unfold wEq; rw [n]; exact .inl ⟨m, le, h, q⟩
theorem Alike.flat {x : MV} (n : Nat) (f : flatM x = true) : Alike M n x x := by
  cases n <;> rw [Alike]
  · exact ⟨f, rfl⟩
  · exact .inl ⟨f, rfl⟩
theorem Alike.tup {xs ys : List MV} {n : Nat} (e : xs.length = ys.length) (h : ∀ (i : Nat) u v, xs[i]? = some u → ys[i]? = some v → Alike M n u v) : Alike M (n + 1) (.tup xs) (.tup ys) := by
  rw [Alike]; exact .inr (.inl ⟨xs, ys, rfl, rfl, e, h⟩)
theorem Alike.two {a b a' b' : MV} {n : Nat} (h1 : Alike M n a a') (h2 : Alike M n b b') : Alike M (n + 1) (.tup [a, b]) (.tup [a', b']) := by
  refine .tup rfl fun i u v h h' => ?_
  match i with
  | 0 => cases h; cases h'; exact h1
  | 1 => cases h; cases h'; exact h2
  | i + 2 => cases h
theorem Alike.lst {x y : MV} {xs ys : List MV} {n : Nat} (h1 : LstM M x xs) (h2 : LstM M y ys) (e : xs.length = ys.length) (h : ∀ (i : Nat) u v, xs[i]? = some u → ys[i]? = some v → Alike M n u v) : Alike M (n + 1) x y := by
  rw [Alike]; exact .inr (.inr (.inl ⟨xs, ys, h1, h2, e, h⟩))
theorem Alike.dic {a b : Addr} {ka kb : List (Key × MV)} {n : Nat} (h1 : M a = some (.dic ka)) (h2 : M b = some (.dic kb)) (e : ka.length = kb.length) (h : ∀ k u, (k, u) ∈ ka → ∃ v, valM kb k = some v ∧ Alike M n u v) : Alike M (n + 1) (.ref a) (.ref b) := by
  rw [Alike]; exact .inr (.inr (.inr ⟨a, b, ka, kb, rfl, rfl, h1, h2, e, h⟩))
def ixO (o : Option MO) (y : MV) (M : MH) (Q : QM) : Prop := match o with
  | some (.lst xs) => ∃ i v, y = .int i ∧ atI xs i = some v ∧ Q v M
  | some (.dic kvs) => ∃ kk v, keyM y = some kk ∧ valM kvs kk = some v ∧ Q v M
  | some (.fdic _ kvs) => ∃ kk v, keyM y = some kk ∧ valM kvs kk = some v ∧ Q v M
  | _ => False
theorem q_ixr : wIx (.ref a) y M Q = ixO (M a) y M Q := propext ⟨fun h => by
    rcases h with ⟨xs, i, v, e, r⟩ | ⟨kvs, kk, v, e, r⟩ | ⟨o, kvs, kk, v, e, r⟩
    · rw [e]; exact ⟨i, v, r⟩
    · rw [e]; exact ⟨kk, v, r⟩
    · rw [e]; exact ⟨kk, v, r⟩, fun h => by
    cases e : M a with
    | none => rw [e] at h; exact h.elim
    | some o =>
      rw [e] at h
      cases o with
      | lst xs => obtain ⟨i, v, r⟩ := h; exact .inl ⟨xs, i, v, e, r⟩
      | dic kvs => obtain ⟨kk, v, r⟩ := h; exact .inr (.inl ⟨kvs, kk, v, e, r⟩)
      | ins _ _ => exact h.elim
      | fdic o kvs => obtain ⟨kk, v, r⟩ := h; exact .inr (.inr ⟨o, kvs, kk, v, e, r⟩)⟩
theorem q_ixol {xs : List MV} : ixO (some (.lst xs)) (.int i) M Q = ∃ v, atI xs i = some v ∧ Q v M := propext ⟨fun ⟨_, v, e, h⟩ => by cases e; exact ⟨v, h⟩, fun ⟨v, h⟩ => ⟨i, v, rfl, h⟩⟩
theorem q_ixt {xs : List MV} : wIx (.tup xs) (.int i) M Q = ∃ v, atI xs i = some v ∧ Q v M := propext ⟨fun ⟨_, v, e, h⟩ => by cases e; exact ⟨v, h⟩, fun ⟨v, h⟩ => ⟨i, v, rfl, h⟩⟩
theorem q_ixf {xs : List MV} : wIx (.frl xs) (.int i) M Q = ∃ v, atI xs i = some v ∧ Q v M := propext ⟨fun ⟨_, v, e, h⟩ => by cases e; exact ⟨v, h⟩, fun ⟨v, h⟩ => ⟨i, v, rfl, h⟩⟩
def slO (o : Option MO) (lo hi : Option Int) (M : MH) (Q : QM) : Prop := match o with
  | some (.lst xs) => ∀ p, M p = none → Q (.ref p) (updM M p (.lst (cutM xs lo hi)))
  | _ => False
theorem q_slr {lo hi : Option Int} : wSl (.ref a) lo hi M Q = slO (M a) lo hi M Q := propext ⟨fun ⟨xs, e, h⟩ => by rw [e]; exact h, fun h => by
    cases e : M a with
    | none => rw [e] at h; exact h.elim
    | some o =>
      rw [e] at h
      cases o with
      | lst xs => exact ⟨xs, e, h⟩
      | dic kvs => exact h.elim
      | ins _ _ => exact h.elim
      | fdic _ _ => exact h.elim⟩
theorem q_slol {lo hi : Option Int} {xs : List MV} : slO (some (.lst xs)) lo hi M Q = ∀ p, M p = none → Q (.ref p) (updM M p (.lst (cutM xs lo hi))) := rfl
theorem q_slf {lo hi : Option Int} {xs : List MV} : wSl (.frl xs) lo hi M Q = ∀ p, M p = none → Q (.ref p) (updM M p (.lst (cutM xs lo hi))) := rfl
theorem q_sls {lo hi : Option Int} {z : Str} : wSl (.str z) lo hi M Q = (z.length ≤ sizeLine ∧ Q (.str (cutS z lo hi)) M) := rfl
theorem q_slt {lo hi : Option Int} {xs : List MV} : wSl (.tup xs) lo hi M Q = (¬ (HT.sIx xs.length 0 lo = 0 ∧ HT.sIx xs.length xs.length hi = xs.length) ∧ Q (.tup (cutM xs lo hi)) M) := rfl
theorem q_lent {xs : List MV} : wBi .len [.tup xs] M Q = Q (.int xs.length) M := rfl
theorem q_lenf {xs : List MV} : wBi .len [.frl xs] M Q = Q (.int xs.length) M := rfl
theorem q_lens {z : Str} : wBi .len [.str z] M Q = (z.length ≤ sizeLine ∧ Q (.int z.length) M) := rfl
def lenO (o : Option MO) (M : MH) (Q : QM) : Prop := match o with
  | some (.lst xs) => Q (.int xs.length) M
  | some (.dic kvs) => Q (.int kvs.length) M
  | _ => False
theorem q_lenr : wBi .len [.ref a] M Q = lenO (M a) M Q := propext ⟨fun h => by
    rcases h with ⟨xs, e, h⟩ | ⟨kvs, e, h⟩ <;> (rw [e]; exact h), fun h => by
    cases e : M a with
    | none => rw [e] at h; exact h.elim
    | some o =>
      rw [e] at h
      cases o with
      | lst xs => exact .inl ⟨xs, e, h⟩
      | dic kvs => exact .inr ⟨kvs, e, h⟩
      | ins _ _ => exact h.elim
      | fdic _ _ => exact h.elim⟩
theorem q_lenol {xs : List MV} : lenO (some (.lst xs)) M Q = Q (.int xs.length) M := rfl
theorem q_lenod {kvs : List (Key × MV)} : lenO (some (.dic kvs)) M Q = Q (.int kvs.length) M := rfl
def isO (o : Option Ty7) (c : Ty7) (M : MH) (Q : QM) : Prop := match o with
  | some T => c ≠ .none ∧ Q (.bl (isTy T c)) M
  | none => False
theorem q_isi {c : Ty7} : wBi .isinst [x, .ty c] M Q = isO (tyM M x) c M Q := propext (by
  have e : wBi .isinst [x, .ty c] M Q = ∃ T, tyM M x = some T ∧ c ≠ .none ∧ Q (.bl (isTy T c)) M := by cases x <;> rfl
  rw [e]
  exact ⟨fun ⟨T, e, h⟩ => by rw [e]; exact h, fun h => by
    cases e : tyM M x with
    | none => rw [e] at h; exact h.elim
    | some T => rw [e] at h; exact ⟨T, rfl, h⟩⟩)
def isO2 (o : Option Ty7) (c d : Ty7) (M : MH) (Q : QM) : Prop := match o with
  | some T => c ≠ .none ∧ d ≠ .none ∧ Q (.bl (isTy T c || isTy T d)) M
  | none => False
theorem q_isoi2 {T c d : Ty7} : isO2 (some T) c d M Q = (c ≠ .none ∧ d ≠ .none ∧ Q (.bl (isTy T c || isTy T d)) M) := rfl
theorem q_isoi {T c : Ty7} : isO (some T) c M Q = (c ≠ .none ∧ Q (.bl (isTy T c)) M) := rfl
theorem q_tyi : tyM M (.int i) = some .int := rfl
theorem q_tyb {k : Bool} : tyM M (.bl k) = some .bool := rfl
theorem q_tys {k : Str} : tyM M (.str k) = some .str := rfl
theorem q_tyn : tyM M .non = some .none := rfl
theorem q_tyt {xs : List MV} : tyM M (.tup xs) = some .tuple := rfl
def tyO : Option MO → Option Ty7
  | some (.lst _) => some .list
  | some (.dic _) => some .dict
  | _ => none
theorem q_tyol {xs : List MV} : tyO (some (.lst xs)) = some .list := rfl
theorem q_tyod {kvs : List (Key × MV)} : tyO (some (.dic kvs)) = some .dict := rfl
theorem q_max1 : wBi .max [.ref a] M Q = ∃ ns : List Int, M a = some (.lst (ns.map MV.int)) ∧ 0 < ns.length ∧ ∀ m, m ∈ ns → (∀ x ∈ ns, x ≤ m) → Q (.int m) M := rfl
theorem q_min1 : wBi .min [.ref a] M Q = ∃ ns : List Int, M a = some (.lst (ns.map MV.int)) ∧ 0 < ns.length ∧ ∀ m, m ∈ ns → (∀ x ∈ ns, m ≤ x) → Q (.int m) M := rfl
theorem q_listt {xs : List MV} : wBi .list [.tup xs] M Q = ∀ p, M p = none → Q (.ref p) (updM M p (.lst xs)) := rfl
theorem q_listf {xs : List MV} : wBi .list [.frl xs] M Q = ∀ p, M p = none → Q (.ref p) (updM M p (.lst xs)) := rfl
theorem q_listr : wBi .list [.ref a] M Q = ∃ xs, M a = some (.lst xs) ∧ ∀ p, M p = none → Q (.ref p) (updM M p (.lst xs)) := rfl
theorem q_tupt {xs : List MV} : wBi .tuple [.tup xs] M Q = Q (.tup xs) M := rfl
theorem q_tupr : wBi .tuple [.ref a] M Q = ∃ xs, M a = some (.lst xs) ∧ Q (.tup xs) M := rfl
theorem q_lrng : wB2 .lrng (.int i) M Q = (∃ n : Nat, MV.int i = .int n ∧ n ≤ 1000000 ∧ ∀ p, M p = none → Q (.ref p) (updM M p (.lst ((List.range n).map fun i => MV.int (i : Nat))))) := rfl
def apO (o : Option MO) (a : Addr) (y : MV) (M : MH) (Q : QM) : Prop := match o with
  | some (.lst xs) => xs.length < sizeLine ∧ Q .non (updM M a (.lst (xs ++ [y])))
  | _ => False
theorem q_app : wMts .append (.ref a) [y] M Q = apO (M a) a y M Q := propext ⟨fun ⟨xs, e, h⟩ => by rw [e]; exact h, fun h => by
    cases e : M a with
    | none => rw [e] at h; exact h.elim
    | some o =>
      rw [e] at h
      cases o with
      | lst xs => exact ⟨xs, e, h⟩
      | dic kvs => exact h.elim
      | ins _ _ => exact h.elim
      | fdic _ _ => exact h.elim⟩
theorem q_apol {xs : List MV} : apO (some (.lst xs)) a y M Q = (xs.length < sizeLine ∧ Q .non (updM M a (.lst (xs ++ [y])))) := rfl
theorem q_okl1 : mtOk .append x M = (∃ a xs, x = .ref a ∧ M a = some (.lst xs)) := rfl
theorem q_okl3 : mtOk .reverse x M = (∃ a xs, x = .ref a ∧ M a = some (.lst xs)) := rfl
theorem q_okl6 : mtOk .popAt x M = (∃ a xs, x = .ref a ∧ M a = some (.lst xs)) := rfl
theorem q_addf {xs : List MV} : wBin .Add (.frl xs) (.ref b) M Q = (∃ ys, M b = some (.lst ys) ∧ xs.length + ys.length ≤ sizeLine ∧ ∀ p, M p = none → Q (.ref p) (updM M p (.lst (xs ++ ys)))) := rfl
def puO (o : Option MO) (a : Addr) (i v : MV) (M : MH) (Q : MH → Prop) : Prop := match o with
  | some (.lst xs) => ∃ k j, i = .int k ∧ ixN xs.length k = some j ∧ Q (updM M a (.lst (xs.set j v)))
  | some (.dic kvs) => ∃ kk, keyM i = some kk ∧ kvs.length < sizeLine ∧ Q (updM M a (.dic (putM kvs kk v)))
  | _ => False
theorem q_put {v : MV} {R : MH → Prop} : wPut (.ref a) x v M R = puO (M a) a x v M R := propext ⟨fun h => by
    rcases h with ⟨xs, k, j, e, r⟩ | ⟨kvs, kk, e, r⟩
    · rw [e]; exact ⟨k, j, r⟩
    · rw [e]; exact ⟨kk, r⟩, fun h => by
    cases e : M a with
    | none => rw [e] at h; exact h.elim
    | some o =>
      rw [e] at h
      cases o with
      | lst xs => obtain ⟨k, j, r⟩ := h; exact .inl ⟨xs, k, j, e, r⟩
      | dic kvs => obtain ⟨kk, r⟩ := h; exact .inr ⟨kvs, kk, e, r⟩
      | ins _ _ => exact h.elim
      | fdic _ _ => exact h.elim⟩
theorem q_puol {xs : List MV} {v : MV} {R : MH → Prop} : puO (some (.lst xs)) a (.int i) v M R = ∃ j, ixN xs.length i = some j ∧ R (updM M a (.lst (xs.set j v))) := propext ⟨fun ⟨_, j, e, h⟩ => by cases e; exact ⟨j, h⟩, fun ⟨j, h⟩ => ⟨i, j, rfl, h⟩⟩
def srO (o : Option MO) (a : Addr) (M : MH) (Q : Src → MH → Prop) : Prop := match o with
  | some (.lst xs) => Q (.lst a xs) M
  | some (.dic kvs) => ∀ o, Q (.dic a o kvs) (updM M a (.fdic o kvs))
  | _ => False
def srV (v : MV) (M : MH) (Q : Src → MH → Prop) : Prop := (∃ xs, (v = .tup xs ∨ v = .frl xs) ∧ Q (.tup xs) M) ∨ (∃ a xs, v = .ref a ∧ M a = some (.lst xs) ∧ Q (.lst a xs) M) ∨ (∃ a kvs, v = .ref a ∧ M a = some (.dic kvs) ∧ ∀ o, Q (.dic a o kvs) (updM M a (.fdic o kvs))) ∨ ∃ z, v = .str z ∧ Q (.str z) M
theorem q_seq {Φ : List (Str × SpM)} {e : IE} {σ : Sm} {R : Src → MH → Prop} : wSr Φ (.seq e) σ M R = wE Φ e σ M fun v M1 => srV v M1 R := rfl
theorem q_srr {R : Src → MH → Prop} : srV (.ref a) M R = srO (M a) a M R := propext ⟨fun h => by
    rcases h with ⟨xs, e, h⟩ | ⟨b, xs, e, f, h⟩ | ⟨b, xs, e, f, h⟩ | ⟨z, e, _⟩
    · rcases e with e | e <;> cases e
    · cases e; rw [f]; exact h
    · cases e; rw [f]; exact h
    · exact (nomatch e), fun h => by
    cases e : M a with
    | none => rw [e] at h; exact h.elim
    | some o =>
      rw [e] at h
      cases o with
      | lst xs => exact .inr (.inl ⟨a, xs, rfl, e, h⟩)
      | dic kvs => exact .inr (.inr (.inl ⟨a, kvs, rfl, e, h⟩))
      | ins _ _ => exact h.elim
      | fdic _ _ => exact h.elim⟩
theorem q_srod {kvs : List (Key × MV)} {R : Src → MH → Prop} : srO (some (.dic kvs)) a M R = ∀ o, R (.dic a o kvs) (updM M a (.fdic o kvs)) := rfl
theorem q_th5 {x : Str} : Src.thaw M (.str x) = M := rfl
theorem q_ot5 {x : Str} : Src.okT M (.str x) = True := rfl
theorem q_th1 {xs : List MV} : Src.thaw M (.tup xs) = M := rfl
theorem q_th2 {xs : List MV} : Src.thaw M (.lst a xs) = M := rfl
theorem q_th3 {n : Nat} : Src.thaw M (.rng i n) = M := rfl
theorem q_th4 {o : Obj} {kvs : List (Key × MV)} : Src.thaw M (.dic a o kvs) = updM M a (.dic kvs) := rfl
theorem q_ot1 {xs : List MV} : Src.okT M (.tup xs) = True := rfl
theorem q_ot2 {xs : List MV} : Src.okT M (.lst a xs) = True := rfl
theorem q_ot3 {n : Nat} : Src.okT M (.rng i n) = True := rfl
theorem q_ot4 {o : Obj} {kvs : List (Key × MV)} : Src.okT M (.dic a o kvs) = (M a = some (.fdic o kvs)) := rfl
theorem q_srol {xs : List MV} {R : Src → MH → Prop} : srO (some (.lst xs)) a M R = R (.lst a xs) M := rfl
def rgV (v : MV) (M : MH) (Q : Src → MH → Prop) : Prop := ∃ j, v = .int j ∧ -(2 ^ 62) ≤ j ∧ j < 2 ^ 62 ∧ Q (.rng 0 j.toNat) M
theorem q_rng {Φ : List (Str × SpM)} {e : IE} {σ : Sm} {R : Src → MH → Prop} : wSr Φ (.rng e) σ M R = wE Φ e σ M fun v M1 => rgV v M1 R := rfl
theorem q_rgi {R : Src → MH → Prop} : rgV (.int i) M R = (-(2 ^ 62) ≤ i ∧ i < 2 ^ 62 ∧ R (.rng 0 i.toNat) M) := propext ⟨fun ⟨_, e, h⟩ => by cases e; exact h, fun h => ⟨i, rfl, h⟩⟩
def rgV2 (x y : MV) (M : MH) (Q : Src → MH → Prop) : Prop := ∃ i j, x = .int i ∧ y = .int j ∧ (-(2 ^ 62) ≤ i ∧ i < 2 ^ 62 ∧ -(2 ^ 62) ≤ j ∧ j < 2 ^ 62) ∧ Q (.rng i (j - i).toNat) M
theorem q_rng3 {Φ : List (Str × SpM)} {e f g : IE} {σ : Sm} {R : Src → MH → Prop} : wSr Φ (.rng3 e f g) σ M R = wE Φ e σ M fun x M1 => wE Φ f σ M1 fun y M2 => wE Φ g σ M2 fun z M3 => ∃ i j, x = .int i ∧ y = .int j ∧ z = .int 2 ∧ (0 ≤ i ∧ i < 2 ^ 60 ∧ 0 ≤ j ∧ j < 2 ^ 60) ∧ R (.rst i 2 (len2 i j)) M3 := rfl
theorem q_th6 {n : Nat} {st : Int} : Src.thaw M (.rst i st n) = M := rfl
theorem q_ot6 {n : Nat} {st : Int} : Src.okT M (.rst i st n) = True := rfl
theorem q_rng2 {Φ : List (Str × SpM)} {e f : IE} {σ : Sm} {R : Src → MH → Prop} : wSr Φ (.rng2 e f) σ M R = wE Φ e σ M fun x M1 => wE Φ f σ M1 fun y M2 => rgV2 x y M2 R := rfl
theorem q_rgi2 {R : Src → MH → Prop} : rgV2 (.int i) (.int j) M R = ((-(2 ^ 62) ≤ i ∧ i < 2 ^ 62 ∧ -(2 ^ 62) ≤ j ∧ j < 2 ^ 62) ∧ R (.rng i (j - i).toNat) M) := propext ⟨fun ⟨_, _, e, f, h⟩ => by cases e; cases f; exact h, fun h => ⟨i, j, rfl, rfl, h⟩⟩
theorem q_max2 : wBi .max [.int i, .int j] M Q = Q (.int (if j > i then j else i)) M := rfl
theorem q_min2 : wBi .min [.int i, .int j] M Q = Q (.int (if j < i then j else i)) M := rfl
theorem q_inti : wBi .int [.int i] M Q = Q (.int i) M := rfl
theorem q_intb {k : Bool} : wBi .int [.bl k] M Q = Q (.int (if k then 1 else 0)) M := rfl
end
theorem e_var {Φ : List (Str × SpM)} {σ : Sm} {M : MH} {Q : QM} {i : Nat} : wE Φ (.var i) σ M Q = (∃ v, σ[i]? = some (some v) ∧ Q v M) := rfl
theorem e_int {Φ : List (Str × SpM)} {σ : Sm} {M : MH} {Q : QM} {i : Int} : wE Φ (.int i) σ M Q = (Q (.int i) M) := rfl
theorem e_str {Φ : List (Str × SpM)} {σ : Sm} {M : MH} {Q : QM} {x : Str} : wE Φ (.str x) σ M Q = (Q (.str x) M) := rfl
theorem e_bl {Φ : List (Str × SpM)} {σ : Sm} {M : MH} {Q : QM} {b : Bool} : wE Φ (.bl b) σ M Q = (Q (.bl b) M) := rfl
theorem e_non {Φ : List (Str × SpM)} {σ : Sm} {M : MH} {Q : QM}  : wE Φ (.non) σ M Q = (Q .non M) := rfl
theorem e_glb {Φ : List (Str × SpM)} {σ : Sm} {M : MH} {Q : QM} {x : Str} {i : Int} : wE Φ (.glb x i) σ M Q = (Q (.int i) M) := rfl
theorem e_ty {Φ : List (Str × SpM)} {σ : Sm} {M : MH} {Q : QM} {c : Ty7} : wE Φ (.ty c) σ M Q = (Q (.ty c) M) := rfl
theorem e_bin {Φ : List (Str × SpM)} {σ : Sm} {M : MH} {Q : QM} {op : Operator} {a b : IE} : wE Φ (.bin op a b) σ M Q = (wE Φ a σ M fun x M1 => wE Φ b σ M1 fun y M2 => wBin op x y M2 Q) := rfl
theorem e_neg {Φ : List (Str × SpM)} {σ : Sm} {M : MH} {Q : QM} {a : IE} : wE Φ (.neg a) σ M Q = (wE Φ a σ M fun x M1 => ∃ i, x = .int i ∧ Q (.int (-i)) M1) := rfl
theorem e_not {Φ : List (Str × SpM)} {σ : Sm} {M : MH} {Q : QM} {a : IE} : wE Φ (.not a) σ M Q = (wE Φ a σ M fun x M1 => ∃ b, x = .bl b ∧ Q (.bl (!b)) M1) := rfl
theorem e_cmp {Φ : List (Str × SpM)} {σ : Sm} {M : MH} {Q : QM} {op : CmpOp} {a b : IE} : wE Φ (.cmp op a b) σ M Q = (wE Φ a σ M fun x M1 => wE Φ b σ M1 fun y M2 => wCmp op x y M2 Q) := rfl
theorem e_chn {Φ : List (Str × SpM)} {σ : Sm} {M : MH} {Q : QM} {op op' : CmpOp} {a b c : IE} : wE Φ (.chn op op' a b c) σ M Q = (wE Φ a σ M fun x M1 => wE Φ b σ M1 fun y M2 => wCmp op x y M2 fun z M3 => ∃ k, z = .bl k ∧ (if k = true then wE Φ c σ M3 fun w M4 => wCmp op' y w M4 Q else Q (.bl false) M3)) := rfl
theorem e_and {Φ : List (Str × SpM)} {σ : Sm} {M : MH} {Q : QM} {a b : IE} : wE Φ (.and a b) σ M Q = (wE Φ a σ M fun x M1 => ∃ c, x = .bl c ∧ (if c = true then wE Φ b σ M1 Q else Q (.bl false) M1)) := rfl
theorem e_or {Φ : List (Str × SpM)} {σ : Sm} {M : MH} {Q : QM} {a b : IE} : wE Φ (.or a b) σ M Q = (wE Φ a σ M fun x M1 => ∃ c, x = .bl c ∧ (if c = true then Q (.bl true) M1 else wE Φ b σ M1 Q)) := rfl
theorem e_ife {Φ : List (Str × SpM)} {σ : Sm} {M : MH} {Q : QM} {a b c : IE} : wE Φ (.ife c a b) σ M Q = (wE Φ c σ M fun x M1 => ∃ k, x = .bl k ∧ (if k = true then wE Φ a σ M1 Q else wE Φ b σ M1 Q)) := rfl
theorem e_tup {Φ : List (Str × SpM)} {σ : Sm} {M : MH} {Q : QM} {es : IEs} : wE Φ (.tup es) σ M Q = (wEs Φ es σ M fun vs M1 => vs.length ≤ sizeLine ∧ Q (.tup vs) M1) := rfl
theorem e_lst {Φ : List (Str × SpM)} {σ : Sm} {M : MH} {Q : QM} {es : IEs} : wE Φ (.lst es) σ M Q = (wEs Φ es σ M fun vs M1 => vs.length ≤ sizeLine ∧ ∀ p, M1 p = none → Q (.ref p) (updM M1 p (.lst vs))) := rfl
theorem e_dic {Φ : List (Str × SpM)} {σ : Sm} {M : MH} {Q : QM}  : wE Φ (.dic) σ M Q = (∀ p, M p = none → Q (.ref p) (updM M p (.dic []))) := rfl
theorem e_ix {Φ : List (Str × SpM)} {σ : Sm} {M : MH} {Q : QM} {a b : IE} : wE Φ (.ix a b) σ M Q = (wE Φ a σ M fun x M1 => wE Φ b σ M1 fun y M2 => wIx x y M2 Q) := rfl
theorem e_sl {Φ : List (Str × SpM)} {σ : Sm} {M : MH} {Q : QM} {a : IE} {lo hi : IO} : wE Φ (.sl a lo hi) σ M Q = (wE Φ a σ M fun x M1 => wO Φ lo σ M1 fun l M2 => wO Φ hi σ M2 fun h M3 => wSl x l h M3 Q) := rfl
theorem e_call {Φ : List (Str × SpM)} {σ : Sm} {M : MH} {Q : QM} {j : Nat} {e : IE} {es : IEs} : wE Φ (.call j e es) σ M Q = (wE Φ e σ M fun v M1 => wEs Φ es σ M1 fun vs M2 => ∃ f sp, Φ[j]? = some (f, sp) ∧ sp (v :: vs) M2 Q) := rfl
theorem e_b2 {Φ : List (Str × SpM)} {σ : Sm} {M : MH} {Q : QM} {f : B2} {e : IE} : wE Φ (.b2 f e) σ M Q = (wE Φ e σ M fun v M1 => wB2 f v M1 Q) := rfl
theorem e_bi {Φ : List (Str × SpM)} {σ : Sm} {M : MH} {Q : QM} {f : BI} {e : IE} {es : IEs} : wE Φ (.bi f e es) σ M Q = (wE Φ e σ M fun v M1 => wEs Φ es σ M1 fun vs M2 => wBi f (v :: vs) M2 Q) := rfl
theorem e_mt {Φ : List (Str × SpM)} {σ : Sm} {M : MH} {Q : QM} {m : MT} {o : IE} {es : IEs} : wE Φ (.mt m o es) σ M Q = (wE Φ o σ M fun x M1 => mtOk m x M1 ∧ wEs Φ es σ M1 fun vs M2 => wMts m x vs M2 Q) := rfl
theorem e_fld {Φ : List (Str × SpM)} {σ : Sm} {M : MH} {Q : QM} {c f : Str} {o : IE} : wE Φ (.fld c o f) σ M Q = (wE Φ o σ M fun x M1 => ∃ a fs v, x = .ref a ∧ M1 a = some (.ins c fs) ∧ valM fs f = some v ∧ Q v M1) := rfl
theorem e_mcall {Φ : List (Str × SpM)} {σ : Sm} {M : MH} {Q : QM} {j : Nat} {c m : Str} {o : IE} {es : IEs} : wE Φ (.mcall j c m o es) σ M Q = (wE Φ o σ M fun x M1 => ∃ a fs, x = .ref a ∧ M1 a = some (.ins c fs) ∧ valM fs m = none ∧ wEs Φ es σ M1 fun vs M2 => ∃ f sp, Φ[j]? = some (f, sp) ∧ sp (.ref a :: vs) M2 Q) := rfl
theorem e_make {Φ : List (Str × SpM)} {σ : Sm} {M : MH} {Q : QM} {j : Nat} {c : Str} {e : IE} {es : IEs} : wE Φ (.make j c e es) σ M Q = (wE Φ e σ M fun v M1 => wEs Φ es σ M1 fun vs M2 => ∃ f sp, Φ[j]? = some (f, sp) ∧ ∀ p, M2 p = none → sp (.ref p :: v :: vs) (updM M2 p (.ins c [])) fun u M3 => u = .non ∧ Q (.ref p) M3) := rfl
theorem e_disp {Φ : List (Str × SpM)} {σ : Sm} {M : MH} {Q : QM} {ps : IPs} : wE Φ (.disp ps) σ M Q = (∀ p, M p = none → wPs Φ ps σ (updM M p (.dic [])) fun l M2 => M2 p = some (.dic []) ∧ l.length ≤ 15 ∧ Q (.ref p) (updM M2 p (.dic (putAllM l)))) := rfl
theorem e_comp {Φ : List (Str × SpM)} {σ : Sm} {M : MH} {Q : QM} {own : List Str} {fr : List Nat} {src : ISr} {tg : ITg} {test : IO} {elt : IE} : wE Φ (.comp own fr src tg test elt) σ M Q = (wSr Φ src σ M fun S M1 => S.len < sizeLine ∧ ∀ D, M1 D = none → ∃ J : Nat → List MV → MH → Prop, J 0 [] (updM M1 D (.lst [])) ∧
      (∀ i ys M2, J i ys M2 → M2 D = some (.lst ys) ∧ ys.length ≤ i ∧ S.ok M2) ∧
      (∀ i x ys M2, S.items[i]? = some x → J i ys M2 → wTg tg x (sCm own fr σ) fun σ2 => wI Φ test σ2 M2 fun b M4 =>
        if b = true then wE Φ elt σ2 M4 fun y M5 => M5 D = some (.lst ys) ∧ J (i + 1) (ys ++ [y]) (updM M5 D (.lst (ys ++ [y]))) else J (i + 1) ys M4) ∧
      ∀ ys M2, J S.len ys M2 → Q (.ref D) (S.thaw M2)) := rfl
theorem thaw_F {M M' : MH} {S : Src} (h : S.okF M) : S.thaw M' = M' := by
  cases S <;> first | rfl | exact h.elim
theorem comp_pure {Φ : List (Str × SpM)} {own : List Str} {fr : List Nat} {src : ISr} {tg : ITg} {elt : IE} {σ : Sm} {M : MH} {Q : QM} {α : Type} (xs : List α) (f g : α → MV)
    (hs : wSr Φ src σ M fun S M1 => S.items = xs.map f ∧ xs.length < sizeLine ∧ S.okF M1 ∧ M1 = M)
    (ht : ∀ x ∈ xs, ∀ M', (∀ a o, M a = some o → M' a = some o) → wTg tg (f x) (sCm own fr σ) fun σ2 => wE Φ elt σ2 M' fun y M2 => y = g x ∧ M2 = M')
    (hΦ : ∀ (j : Nat) f sp, Φ[j]? = some (f, sp) → MonW sp) (q : ∀ D, M D = none → Q (.ref D) (updM M D (.lst (xs.map g)))) : wE Φ (.comp own fr src tg .none elt) σ M Q := by
  rw [e_comp]
  refine mon_sr hΦ src (fun S M1 ⟨h1, h2, h3, h4⟩ => ?_) hs
  subst h4
  have hl : S.len = xs.length := by rw [← S.items_len, h1, List.length_map]
  refine ⟨by rw [hl]; exact h2, fun D hD => ⟨fun i ys M2 => M2 = updM M1 D (.lst ys) ∧ ys = (xs.take i).map g, ⟨rfl, by simp⟩, ?_, ?_, ?_⟩⟩
  · rintro i ys M2 ⟨rfl, rfl⟩
    refine ⟨updM_same, by rw [List.length_map, List.length_take]; omega, ?_⟩
    cases S with
    | tup _ => trivial
    | rng _ _ => trivial
    | rst _ _ _ => trivial
    | dic _ _ _ => exact h3.elim
    | str _ => trivial
    | lst a zs =>
      have : a ≠ D := by intro e; subst e; have h3 : M1 a = some (.lst zs) := h3; rw [h3] at hD; cases hD
      show updM M1 D _ a = _
      rw [updM_ne this]; exact h3
  · rintro i x ys M2 hx ⟨rfl, rfl⟩
    rw [h1] at hx
    have hi : i < xs.length := by have := (List.getElem?_eq_some_iff.mp hx).1; rw [List.length_map] at this; exact this
    rw [List.getElem?_map, List.getElem?_eq_getElem hi] at hx
    cases hx
    refine mon_tg tg (fun σ2 h => ?_) (ht xs[i] (List.getElem_mem hi) (updM M1 D (.lst ((xs.take i).map g))) (fun a o e => by
      rw [updM_ne (by intro z; subst z; rw [e] at hD; cases hD)]; exact e))
    rw [wI, if_pos rfl]
    refine mon_e hΦ elt (fun y M2 ⟨e1, e2⟩ => ?_) h
    subst e1 e2
    refine ⟨updM_same, updM_updM, ?_⟩
    rw [List.take_add_one, List.getElem?_eq_getElem hi, List.map_append]
    rfl
  · rintro ys M2 ⟨rfl, rfl⟩
    rw [hl, List.take_of_length_le (Nat.le_refl _), thaw_F h3]
    exact q D hD
theorem q_tg1 {i : Nat} {v : MV} {σ : Sm} {R : Sm → Prop} : wTg (.nm i) v σ R = R (σ.set i (some v)) := rfl
section
variable {M : MH}
theorem Alike.lstFlat {x y : MV} {xs : List MV} (n : Nat) (h1 : LstM M x xs) (h2 : LstM M y xs) (f : ∀ v ∈ xs, flatM v = true) : Alike M (n + 1) x y :=
  .lst h1 h2 rfl fun i u v e e' => by
    rw [e] at e'; cases e'
    exact .flat n (f u (List.mem_of_getElem? e))
end
section
variable {Φ : List (Str × SpM)} {D : EndM} {σ : Sm} {M : MH}
theorem s_nil : wSs Φ .nil D σ M = D.nx σ M := rfl
theorem s_cons {s : IS} {r : ISs} : wSs Φ (.cons s r) D σ M = wS Φ s { nx := fun σ M => wSs Φ r D σ M, rt := D.rt, bk := D.bk, ct := D.ct } σ M := rfl
theorem s_pass : wS Φ .pass D σ M = D.nx σ M := rfl
theorem s_brk : wS Φ .brk D σ M = D.bk σ M := rfl
theorem s_cnt : wS Φ .cnt D σ M = D.ct σ M := rfl
theorem s_never : wS Φ .never D σ M = False := rfl
theorem s_ret {e : IE} : wS Φ (.ret e) D σ M = wE Φ e σ M D.rt := rfl
theorem s_retN : wS Φ .retN D σ M = D.rt .non M := rfl
theorem s_set {i : Nat} {e : IE} : wS Φ (.set i e) D σ M = wE Φ e σ M fun v M1 => D.nx (σ.set i (some v)) M1 := rfl
theorem s_asg {t : ITgs} {e : IE} : wS Φ (.asg t e) D σ M = wE Φ e σ M fun v M1 => ∃ xs, v = .tup xs ∧ wTgs t xs σ fun σ' => D.nx σ' M1 := rfl
theorem s_put {o i e : IE} : wS Φ (.put o i e) D σ M = wE Φ e σ M fun v M1 => wE Φ o σ M1 fun x M2 => wE Φ i σ M2 fun y M3 => wPut x y v M3 fun M4 => D.nx σ M4 := rfl
theorem s_fset {c f : Str} {o e : IE} : wS Φ (.fset c o f e) D σ M = wE Φ e σ M fun v M1 => wE Φ o σ M1 fun x M2 => ∃ a fs, x = .ref a ∧ M2 a = some (.ins c fs) ∧ fs.length < 1000 ∧ D.nx σ (updM M2 a (.ins c (putM fs f v))) := rfl
theorem s_expr {e : IE} : wS Φ (.expr e) D σ M = wE Φ e σ M fun _ M1 => D.nx σ M1 := rfl
theorem s_ite {c : IE} {a b : ISs} : wS Φ (.ite c a b) D σ M = wE Φ c σ M fun x M1 => ∃ k, x = .bl k ∧ (if k = true then wSs Φ a D σ M1 else wSs Φ b D σ M1) := rfl
theorem s_for {t : ITg} {s : ISr} {b : ISs} : wS Φ (.for_ t s b) D σ M = wSr Φ s σ M fun S M1 => ∃ J : Nat → Sm → MH → Prop, J 0 σ M1 ∧ (∀ i σ M, J i σ M → S.ok M) ∧
      (∀ i x σ M, S.items[i]? = some x → J i σ M → wTg t x σ fun σ2 => wSs Φ b { nx := J (i + 1), rt := fun v M => S.okT M ∧ D.rt v (S.thaw M), bk := fun σ M => S.okT M ∧ D.nx σ (S.thaw M), ct := J (i + 1) } σ2 M) ∧ ∀ σ M, J S.len σ M → D.nx σ (S.thaw M) := rfl
theorem s_while {c : IE} {b : ISs} : wS Φ (.while_ c b) D σ M = ∃ J : Nat → Sm → MH → Prop, (∃ m, J m σ M) ∧ ∀ m σ M, J m σ M → wE Φ c σ M fun x M1 => ∃ k, x = .bl k ∧
      (if k = true then wSs Φ b { nx := fun σ' M' => ∃ m', m' < m ∧ J m' σ' M', rt := D.rt, bk := D.nx, ct := fun σ' M' => ∃ m', m' < m ∧ J m' σ' M' } σ M1 else D.nx σ M1) := rfl
theorem o_none {Q : Option Int → MH → Prop} : wO Φ .none σ M Q = Q none M := rfl
theorem o_some {e : IE} {Q : Option Int → MH → Prop} : wO Φ (.some e) σ M Q = wE Φ e σ M fun v M1 => ∃ i, v = .int i ∧ Q (some i) M1 := rfl
theorem i_none {Q : Bool → MH → Prop} : wI Φ .none σ M Q = Q true M := rfl
theorem i_some {e : IE} {Q : Bool → MH → Prop} : wI Φ (.some e) σ M Q = wE Φ e σ M fun v M1 => ∃ b, v = .bl b ∧ Q b M1 := rfl
theorem es_nil {Q : List MV → MH → Prop} : wEs Φ .nil σ M Q = Q [] M := rfl
theorem es_cons {e : IE} {es : IEs} {Q : List MV → MH → Prop} : wEs Φ (.cons e es) σ M Q = wE Φ e σ M fun v M1 => wEs Φ es σ M1 fun vs M2 => Q (v :: vs) M2 := rfl
theorem ps_nil {Q : List (Key × MV) → MH → Prop} : wPs Φ .nil σ M Q = Q [] M := rfl
theorem ps_cons {k v : IE} {r : IPs} {Q : List (Key × MV) → MH → Prop} : wPs Φ (.cons k v r) σ M Q = wE Φ k σ M fun x M1 => ∃ kk, keyM x = some kk ∧ wE Φ v σ M1 fun y M2 => wPs Φ r σ M2 fun l M3 => Q ((kk, y) :: l) M3 := rfl
end
end L2
namespace My
open PySem L2
def top (i : Nat) : Stmt := PySem.Challenge.pw_bellferry_k05_a_tear.main.body.getD i (.Pass ⟨0, 0, 0, 0⟩)
abbrev s_is_whole : Stmt := top 4
abbrev s_two_to : Stmt := top 5
abbrev s_fits : Stmt := top 6
abbrev s_amid : Stmt := top 7
abbrev s_refuse_no_code : Stmt := top 12
abbrev s_tear : Stmt := top 13
abbrev s__law_cell_at : Stmt := top 15
abbrev s__law_whole : Stmt := top 16
abbrev s__law_stream : Stmt := top 17
abbrev s__law_plain_code : Stmt := top 18
abbrev s__law_turned : Stmt := top 19
abbrev s__law_drawn : Stmt := top 20
abbrev s__law_code : Stmt := top 21
abbrev s__law_ones : Stmt := top 22
abbrev s__law_good : Stmt := top 23
abbrev s_law : Stmt := top 24
structure Adr where
  f_is_whole : Addr
  d_is_whole : FuncData
  f_two_to : Addr
  d_two_to : FuncData
  f_fits : Addr
  d_fits : FuncData
  f_amid : Addr
  d_amid : FuncData
  f_refuse_no_code : Addr
  d_refuse_no_code : FuncData
  f_tear : Addr
  d_tear : FuncData
  f__law_cell_at : Addr
  d__law_cell_at : FuncData
  f__law_whole : Addr
  d__law_whole : FuncData
  f__law_stream : Addr
  d__law_stream : FuncData
  f__law_plain_code : Addr
  d__law_plain_code : FuncData
  f__law_turned : Addr
  d__law_turned : FuncData
  f__law_drawn : Addr
  d__law_drawn : FuncData
  f__law_code : Addr
  d__law_code : FuncData
  f__law_ones : Addr
  d__law_ones : FuncData
  f__law_good : Addr
  d__law_good : FuncData
  f_law : Addr
  d_law : FuncData
structure Txt (K : PySem.W.Frag) (mg : Str → Option Value) (t : Adr) : Prop where
  F_is_whole : Fun K "is_whole" "is_whole" s_is_whole t.f_is_whole t.d_is_whole
  b_is_whole : Binds K t.d_is_whole ["value"] []
  m_is_whole : mg "is_whole" = some (.ref t.f_is_whole)
  F_two_to : Fun K "two_to" "two_to" s_two_to t.f_two_to t.d_two_to
  b_two_to : Binds K t.d_two_to ["exponent"] []
  m_two_to : mg "two_to" = some (.ref t.f_two_to)
  F_fits : Fun K "fits" "fits" s_fits t.f_fits t.d_fits
  b_fits : Binds K t.d_fits ["width", "number"] []
  m_fits : mg "fits" = some (.ref t.f_fits)
  F_amid : Fun K "amid" "amid" s_amid t.f_amid t.d_amid
  b_amid : Binds K t.d_amid ["old", "new", "choice"] []
  m_amid : mg "amid" = some (.ref t.f_amid)
  F_refuse_no_code : Fun K "refuse_no_code" "refuse_no_code" s_refuse_no_code t.f_refuse_no_code t.d_refuse_no_code
  b_refuse_no_code : Binds K t.d_refuse_no_code ["code"] []
  m_refuse_no_code : mg "refuse_no_code" = some (.ref t.f_refuse_no_code)
  F_tear : Fun K "tear" "tear" s_tear t.f_tear t.d_tear
  b_tear : Binds K t.d_tear ["code"] []
  m_tear : mg "tear" = some (.ref t.f_tear)
  F__law_cell_at : Fun K "_law_cell_at" "_law_cell_at" s__law_cell_at t.f__law_cell_at t.d__law_cell_at
  b__law_cell_at : Binds K t.d__law_cell_at ["script", "k"] []
  m__law_cell_at : mg "_law_cell_at" = some (.ref t.f__law_cell_at)
  F__law_whole : Fun K "_law_whole" "_law_whole" s__law_whole t.f__law_whole t.d__law_whole
  b__law_whole : Binds K t.d__law_whole ["found"] []
  m__law_whole : mg "_law_whole" = some (.ref t.f__law_whole)
  F__law_stream : Fun K "_law_stream" "_law_stream" s__law_stream t.f__law_stream t.d__law_stream
  b__law_stream : Binds K t.d__law_stream ["cell", "many"] []
  m__law_stream : mg "_law_stream" = some (.ref t.f__law_stream)
  F__law_plain_code : Fun K "_law_plain_code" "_law_plain_code" s__law_plain_code t.f__law_plain_code t.d__law_plain_code
  b__law_plain_code : Binds K t.d__law_plain_code ["kind", "m"] []
  m__law_plain_code : mg "_law_plain_code" = some (.ref t.f__law_plain_code)
  F__law_turned : Fun K "_law_turned" "_law_turned" s__law_turned t.f__law_turned t.d__law_turned
  b__law_turned : Binds K t.d__law_turned ["code", "by", "mask"] []
  m__law_turned : mg "_law_turned" = some (.ref t.f__law_turned)
  F__law_drawn : Fun K "_law_drawn" "_law_drawn" s__law_drawn t.f__law_drawn t.d__law_drawn
  b__law_drawn : Binds K t.d__law_drawn ["cell", "many"] []
  m__law_drawn : mg "_law_drawn" = some (.ref t.f__law_drawn)
  F__law_code : Fun K "_law_code" "_law_code" s__law_code t.f__law_code t.d__law_code
  b__law_code : Binds K t.d__law_code ["first", "second"] []
  m__law_code : mg "_law_code" = some (.ref t.f__law_code)
  F__law_ones : Fun K "_law_ones" "_law_ones" s__law_ones t.f__law_ones t.d__law_ones
  b__law_ones : Binds K t.d__law_ones ["word"] []
  m__law_ones : mg "_law_ones" = some (.ref t.f__law_ones)
  F__law_good : Fun K "_law_good" "_law_good" s__law_good t.f__law_good t.d__law_good
  b__law_good : Binds K t.d__law_good ["found", "code"] []
  m__law_good : mg "_law_good" = some (.ref t.f__law_good)
  F_law : Fun K "law" "law" s_law t.f_law t.d_law
  b_law : Binds K t.d_law ["script"] []
  m_law : mg "law" = some (.ref t.f_law)
  z_bool : mg "bool" = none
  z_int : mg "int" = none
  z_isinstance : mg "isinstance" = none
  z_len : mg "len" = none
  z_list : mg "list" = none
  z_max : mg "max" = none
  z_min : mg "min" = none
  z_range : mg "range" = none
  z_set : mg "set" = none
  z_tuple : mg "tuple" = none
  c_CODE_WIDTH : ∃ tk, mg "CODE_WIDTH" = some (.int 16 tk)
  c_FEWEST_WORDS : ∃ tk, mg "FEWEST_WORDS" = some (.int 2 tk)
  c_MOST_WORDS : ∃ tk, mg "MOST_WORDS" = some (.int 64 tk)
theorem sc_is_whole : FnScope ["value"] ["value"] (defScope s_is_whole) := ⟨rfl, rfl, rfl, by decide +kernel, rfl, by decide +kernel, by decide +kernel⟩
theorem sc_two_to : FnScope ["exponent", "answer", "k"] ["exponent"] (defScope s_two_to) := ⟨rfl, rfl, rfl, by decide +kernel, rfl, by decide +kernel, by decide +kernel⟩
theorem sc_fits : FnScope ["width", "number"] ["width", "number"] (defScope s_fits) := ⟨rfl, rfl, rfl, by decide +kernel, rfl, by decide +kernel, by decide +kernel⟩
theorem sc_amid : FnScope ["old", "new", "choice"] ["old", "new", "choice"] (defScope s_amid) := ⟨rfl, rfl, rfl, by decide +kernel, rfl, by decide +kernel, by decide +kernel⟩
theorem sc_refuse_no_code : FnScope ["code", "word"] ["code"] (defScope s_refuse_no_code) := ⟨rfl, rfl, rfl, by decide +kernel, rfl, by decide +kernel, by decide +kernel⟩
theorem sc_tear : FnScope ["code", "k", "old", "new", "unlike", "others"] ["code"] (defScope s_tear) := ⟨rfl, rfl, rfl, by decide +kernel, rfl, by decide +kernel, by decide +kernel⟩
theorem sc__law_cell_at : FnScope ["script", "k"] ["script", "k"] (defScope s__law_cell_at) := ⟨rfl, rfl, rfl, by decide +kernel, rfl, by decide +kernel, by decide +kernel⟩
theorem sc__law_whole : FnScope ["found"] ["found"] (defScope s__law_whole) := ⟨rfl, rfl, rfl, by decide +kernel, rfl, by decide +kernel, by decide +kernel⟩
theorem sc__law_stream : FnScope ["cell", "many", "found", "number", "k"] ["cell", "many"] (defScope s__law_stream) := ⟨rfl, rfl, rfl, by decide +kernel, rfl, by decide +kernel, by decide +kernel⟩
theorem sc__law_plain_code : FnScope ["kind", "m", "rising"] ["kind", "m"] (defScope s__law_plain_code) := ⟨rfl, rfl, rfl, by decide +kernel, rfl, by decide +kernel, by decide +kernel⟩
theorem sc__law_turned : FnScope ["code", "by", "mask", "found", "word", "spread", "place"] ["code", "by", "mask"] (defScope s__law_turned) := ⟨rfl, rfl, rfl, by decide +kernel, rfl, by decide +kernel, by decide +kernel⟩
theorem sc__law_drawn : FnScope ["cell", "many", "code", "number", "word"] ["cell", "many"] (defScope s__law_drawn) := ⟨rfl, rfl, rfl, by decide +kernel, rfl, by decide +kernel, by decide +kernel⟩
theorem sc__law_code : FnScope ["first", "second", "numbers", "code", "at", "one", "other", "word"] ["first", "second"] (defScope s__law_code) := ⟨rfl, rfl, rfl, by decide +kernel, rfl, by decide +kernel, by decide +kernel⟩
theorem sc__law_ones : FnScope ["word"] ["word"] (defScope s__law_ones) := ⟨rfl, rfl, rfl, by decide +kernel, rfl, by decide +kernel, by decide +kernel⟩
theorem sc__law_good : FnScope ["found", "code", "k", "old", "new", "low"] ["found", "code"] (defScope s__law_good) := ⟨rfl, rfl, rfl, by decide +kernel, rfl, by decide +kernel, by decide +kernel⟩
theorem sc_law : FnScope ["script", "k", "code", "handed"] ["script"] (defScope s_law) := ⟨rfl, rfl, rfl, by decide +kernel, rfl, by decide +kernel, by decide +kernel⟩
def GB : List Str := ["bool", "int", "isinstance", "len", "list", "max", "min", "range", "set", "tuple"]
def GL : List (Str × Int) := [("CODE_WIDTH", 16), ("FEWEST_WORDS", 2), ("MOST_WORDS", 64)]
theorem gb_of {K : PySem.W.Frag} {mg : Str → Option Value} {t : Adr} (T : Txt K mg t) : ∀ x ∈ GB, mg x = none := (List.forall_mem_cons.2 ⟨T.z_bool, (List.forall_mem_cons.2 ⟨T.z_int, (List.forall_mem_cons.2 ⟨T.z_isinstance, (List.forall_mem_cons.2 ⟨T.z_len, (List.forall_mem_cons.2 ⟨T.z_list, (List.forall_mem_cons.2 ⟨T.z_max, (List.forall_mem_cons.2 ⟨T.z_min, (List.forall_mem_cons.2 ⟨T.z_range, (List.forall_mem_cons.2 ⟨T.z_set, (List.forall_mem_cons.2 ⟨T.z_tuple, (fun _ h => nomatch h)⟩)⟩)⟩)⟩)⟩)⟩)⟩)⟩)⟩)⟩)
theorem gl_of' {K : PySem.W.Frag} {mg : Str → Option Value} {t : Adr} (T : Txt K mg t) : ∀ p ∈ GL, ∃ tk, mg p.1 = some (.int p.2 tk) := (List.forall_mem_cons.2 ⟨T.c_CODE_WIDTH, (List.forall_mem_cons.2 ⟨T.c_FEWEST_WORDS, (List.forall_mem_cons.2 ⟨T.c_MOST_WORDS, (fun _ h => nomatch h)⟩)⟩)⟩)
def iis_whole_0 : ISs := .cons (.ret (.and (.bi .isinst (.var 0) (.cons (.ty .int) .nil)) (.not (.bi .isinst (.var 0) (.cons (.ty .bool) .nil))))) .nil
abbrev ir_is_whole : ISs := iis_whole_0
def G_is_whole : GI := { bl := GB, gl := GL, fns := [] }
theorem ck_is_whole : chkSs G_is_whole (defScope s_is_whole) ["value"] ir_is_whole (defBody s_is_whole) = true := by decide +kernel
def itwo_to_3 : ISs := .cons (.ret (.var 1)) .nil
def itwo_to_2 : ISs := .cons (.set 1 (.bin .Mult (.var 1) (.int 2))) .nil
def itwo_to_1 : ISs := .cons (.for_ (.nm 2) (.rng (.var 0)) itwo_to_2) itwo_to_3
def itwo_to_0 : ISs := .cons (.set 1 (.int 1)) itwo_to_1
abbrev ir_two_to : ISs := itwo_to_0
def G_two_to : GI := { bl := GB, gl := GL, fns := [] }
theorem ck_two_to : chkSs G_two_to (defScope s_two_to) ["exponent", "answer", "k"] ir_two_to (defBody s_two_to) = true := by decide +kernel
def ifits_0 : ISs := .cons (.ret (.and (.call 0 (.var 1) .nil) (.chn .LtE .Lt (.int 0) (.var 1) (.call 1 (.var 0) .nil)))) .nil
abbrev ir_fits : ISs := ifits_0
def G_fits : GI := { bl := GB, gl := GL, fns := ["is_whole", "two_to"] }
theorem ck_fits : chkSs G_fits (defScope s_fits) ["width", "number"] ir_fits (defBody s_fits) = true := by decide +kernel
def iamid_0 : ISs := .cons (.ret (.bin .BitXor (.var 0) (.bin .BitAnd (.bin .BitXor (.var 0) (.var 1)) (.var 2)))) .nil
abbrev ir_amid : ISs := iamid_0
def G_amid : GI := { bl := GB, gl := GL, fns := [] }
theorem ck_amid : chkSs G_amid (defScope s_amid) ["old", "new", "choice"] ir_amid (defBody s_amid) = true := by decide +kernel
def irefuse_no_code_6 : ISs := .cons .never .nil
def irefuse_no_code_5 : ISs := .cons (.ite (.cmp .NotEq (.b2 .lset (.var 0)) (.bi .len (.var 0) .nil)) irefuse_no_code_6 .nil) .nil
def irefuse_no_code_4 : ISs := .cons .never .nil
def irefuse_no_code_3 : ISs := .cons (.ite (.not (.call 0 (.glb "CODE_WIDTH" 16) (.cons (.var 1) .nil))) irefuse_no_code_4 .nil) .nil
def irefuse_no_code_2 : ISs := .cons (.for_ (.nm 1) (.seq (.var 0)) irefuse_no_code_3) irefuse_no_code_5
def irefuse_no_code_1 : ISs := .cons .never .nil
def irefuse_no_code_0 : ISs := .cons (.ite (.not (.chn .LtE .LtE (.glb "FEWEST_WORDS" 2) (.bi .len (.var 0) .nil) (.glb "MOST_WORDS" 64))) irefuse_no_code_1 .nil) irefuse_no_code_2
abbrev ir_refuse_no_code : ISs := irefuse_no_code_0
def G_refuse_no_code : GI := { bl := GB, gl := GL, fns := ["fits"] }
theorem ck_refuse_no_code : chkSs G_refuse_no_code (defScope s_refuse_no_code) ["code", "word"] ir_refuse_no_code (defBody s_refuse_no_code) = true := by decide +kernel
def itear_8 : ISs := .cons (.ret .non) .nil
def itear_7 : ISs := .cons (.ret (.tup (.cons (.var 1) (.cons (.call 0 (.var 2) (.cons (.var 3) (.cons (.bin .Sub (.var 4) (.var 5)) .nil))) .nil)))) .nil
def itear_6 : ISs := .cons (.ite (.cmp .NotEq (.var 5) (.int 0)) itear_7 .nil) .nil
def itear_5 : ISs := .cons (.set 5 (.bin .BitAnd (.var 4) (.bin .Sub (.var 4) (.int 1)))) itear_6
def itear_4 : ISs := .cons (.set 4 (.bin .BitXor (.var 2) (.var 3))) itear_5
def itear_3 : ISs := .cons (.set 3 (.ix (.var 0) (.bin .Mod (.bin .Add (.var 1) (.int 1)) (.bi .len (.var 0) .nil)))) itear_4
def itear_2 : ISs := .cons (.set 2 (.ix (.var 0) (.var 1))) itear_3
def itear_1 : ISs := .cons (.for_ (.nm 1) (.rng (.bi .len (.var 0) .nil)) itear_2) itear_8
def itear_0 : ISs := .cons (.expr (.call 1 (.var 0) .nil)) itear_1
abbrev ir_tear : ISs := itear_0
def G_tear : GI := { bl := GB, gl := GL, fns := ["amid", "refuse_no_code"] }
theorem ck_tear : chkSs G_tear (defScope s_tear) ["code", "k", "old", "new", "unlike", "others"] ir_tear (defBody s_tear) = true := by decide +kernel
def i_law_cell_at_2 : ISs := .cons (.ret (.int 0)) .nil
def i_law_cell_at_1 : ISs := .cons (.ret (.ix (.var 0) (.var 1))) .nil
def i_law_cell_at_0 : ISs := .cons (.ite (.cmp .Lt (.var 1) (.bi .len (.var 0) .nil)) i_law_cell_at_1 .nil) i_law_cell_at_2
abbrev ir__law_cell_at : ISs := i_law_cell_at_0
def G__law_cell_at : GI := { bl := GB, gl := GL, fns := [] }
theorem ck__law_cell_at : chkSs G__law_cell_at (defScope s__law_cell_at) ["script", "k"] ir__law_cell_at (defBody s__law_cell_at) = true := by decide +kernel
def i_law_whole_0 : ISs := .cons (.ret (.and (.bi .isinst (.var 0) (.cons (.ty .int) .nil)) (.not (.bi .isinst (.var 0) (.cons (.ty .bool) .nil))))) .nil
abbrev ir__law_whole : ISs := i_law_whole_0
def G__law_whole : GI := { bl := GB, gl := GL, fns := [] }
theorem ck__law_whole : chkSs G__law_whole (defScope s__law_whole) ["found"] ir__law_whole (defBody s__law_whole) = true := by decide +kernel
def i_law_stream_5 : ISs := .cons (.ret (.sl (.var 2) (.some (.int 3)) .none)) .nil
def i_law_stream_4 : ISs := .cons (.expr (.mt .append (.var 2) (.cons (.var 3) .nil))) .nil
def i_law_stream_3 : ISs := .cons (.set 3 (.bin .Mod (.bin .Add (.bin .Add (.bin .Add (.bin .Mult (.var 3) (.var 3)) (.bin .Mult (.int 48271) (.var 3))) (.var 4)) (.int 1)) (.int 2305843009213693951))) i_law_stream_4
def i_law_stream_2 : ISs := .cons (.for_ (.nm 4) (.rng (.bin .Add (.var 1) (.int 3))) i_law_stream_3) i_law_stream_5
def i_law_stream_1 : ISs := .cons (.set 3 (.bin .Mod (.var 0) (.int 2305843009213693951))) i_law_stream_2
def i_law_stream_0 : ISs := .cons (.set 2 (.lst .nil)) i_law_stream_1
abbrev ir__law_stream : ISs := i_law_stream_0
def G__law_stream : GI := { bl := GB, gl := GL, fns := [] }
theorem ck__law_stream : chkSs G__law_stream (defScope s__law_stream) ["cell", "many", "found", "number", "k"] ir__law_stream (defBody s__law_stream) = true := by decide +kernel
def i_law_plain_code_5 : ISs := .cons (.ret (.bin .Add (.var 2) (.comp ["n"] [1] (.rng2 (.int 1) (.bin .Add (.var 1) (.int 2))) (.nm 0) .none (.bin .Sub (.bin .LShift (.int 1) (.bin .Add (.var 1) (.int 2))) (.bin .LShift (.int 1) (.var 0)))))) .nil
def i_law_plain_code_4 : ISs := .cons (.set 2 (.comp ["n"] [] (.rng (.bin .Add (.var 1) (.int 3))) (.nm 0) .none (.bin .Sub (.bin .LShift (.int 1) (.var 0)) (.int 1)))) i_law_plain_code_5
def i_law_plain_code_3 : ISs := .cons (.ret (.b2 .lrng (.bin .LShift (.int 1) (.var 1)))) .nil
def i_law_plain_code_2 : ISs := .cons (.ite (.cmp .Eq (.var 0) (.int 1)) i_law_plain_code_3 .nil) i_law_plain_code_4
def i_law_plain_code_1 : ISs := .cons (.ret (.comp ["n"] [] (.rng (.bin .LShift (.int 1) (.var 1))) (.nm 0) .none (.bin .BitXor (.var 0) (.bin .FloorDiv (.var 0) (.int 2))))) .nil
def i_law_plain_code_0 : ISs := .cons (.ite (.cmp .Eq (.var 0) (.int 0)) i_law_plain_code_1 .nil) i_law_plain_code_2
abbrev ir__law_plain_code : ISs := i_law_plain_code_0
def G__law_plain_code : GI := { bl := GB, gl := GL, fns := [] }
theorem ck__law_plain_code : chkSs G__law_plain_code (defScope s__law_plain_code) ["kind", "m", "rising"] ir__law_plain_code (defBody s__law_plain_code) = true := by decide +kernel
def i_law_turned_6 : ISs := .cons (.ret (.var 3)) .nil
def i_law_turned_5 : ISs := .cons (.expr (.mt .append (.var 3) (.cons (.bin .BitXor (.var 5) (.var 2)) .nil))) .nil
def i_law_turned_4 : ISs := .cons (.set 5 (.bin .Add (.var 5) (.bin .Mult (.bin .Mod (.bin .FloorDiv (.var 4) (.bin .LShift (.int 1) (.var 6))) (.int 2)) (.bin .LShift (.int 1) (.bin .Mod (.bin .Add (.bin .Mult (.var 6) (.int 3)) (.var 1)) (.int 16)))))) .nil
def i_law_turned_3 : ISs := .cons (.for_ (.nm 6) (.rng (.int 8)) i_law_turned_4) i_law_turned_5
def i_law_turned_2 : ISs := .cons (.set 5 (.int 0)) i_law_turned_3
def i_law_turned_1 : ISs := .cons (.for_ (.nm 4) (.seq (.var 0)) i_law_turned_2) i_law_turned_6
def i_law_turned_0 : ISs := .cons (.set 3 (.lst .nil)) i_law_turned_1
abbrev ir__law_turned : ISs := i_law_turned_0
def G__law_turned : GI := { bl := GB, gl := GL, fns := [] }
theorem ck__law_turned : chkSs G__law_turned (defScope s__law_turned) ["code", "by", "mask", "found", "word", "spread", "place"] ir__law_turned (defBody s__law_turned) = true := by decide +kernel
def i_law_drawn_6 : ISs := .cons (.ret (.var 2)) .nil
def i_law_drawn_5 : ISs := .cons (.expr (.mt .append (.var 2) (.cons (.var 4) .nil))) .nil
def i_law_drawn_4 : ISs := .cons (.set 4 (.bin .Mod (.bin .Add (.var 4) (.int 1)) (.int 65536))) .nil
def i_law_drawn_3 : ISs := .cons (.while_ (.cmp .In (.var 4) (.var 2)) i_law_drawn_4) i_law_drawn_5
def i_law_drawn_2 : ISs := .cons (.set 4 (.bin .Mod (.var 3) (.int 65536))) i_law_drawn_3
def i_law_drawn_1 : ISs := .cons (.for_ (.nm 3) (.seq (.call 0 (.var 0) (.cons (.var 1) .nil))) i_law_drawn_2) i_law_drawn_6
def i_law_drawn_0 : ISs := .cons (.set 2 (.lst .nil)) i_law_drawn_1
abbrev ir__law_drawn : ISs := i_law_drawn_0
def G__law_drawn : GI := { bl := GB, gl := GL, fns := ["_law_stream"] }
theorem ck__law_drawn : chkSs G__law_drawn (defScope s__law_drawn) ["cell", "many", "code", "number", "word"] ir__law_drawn (defBody s__law_drawn) = true := by decide +kernel
def i_law_code_17 : ISs := .cons (.ret (.var 3)) .nil
def i_law_code_16 : ISs := .cons (.expr (.mt .popAt (.var 3) (.cons (.var 5) .nil))) .nil
def i_law_code_15 : ISs := .cons (.ite (.and (.cmp .Eq (.bin .Mod (.ix (.var 2) (.int 5)) (.int 4)) (.int 1)) (.cmp .Gt (.bi .len (.var 3) .nil) (.int 2))) i_law_code_16 .nil) i_law_code_17
def i_law_code_14 : ISs := .cons (.put (.var 3) (.var 6) (.var 7)) .nil
def i_law_code_13 : ISs := .cons (.put (.var 3) (.var 5) (.ix (.var 3) (.var 6))) i_law_code_14
def i_law_code_12 : ISs := .cons (.set 7 (.ix (.var 3) (.var 5))) i_law_code_13
def i_law_code_11 : ISs := .cons (.ite (.cmp .Eq (.bin .Mod (.ix (.var 2) (.int 5)) (.int 4)) (.int 0)) i_law_code_12 .nil) i_law_code_15
def i_law_code_10 : ISs := .cons (.set 6 (.bin .Mod (.ix (.var 2) (.int 4)) (.bi .len (.var 3) .nil))) i_law_code_11
def i_law_code_9 : ISs := .cons (.set 5 (.bin .Mod (.ix (.var 2) (.int 3)) (.bi .len (.var 3) .nil))) i_law_code_10
def i_law_code_8 : ISs := .cons (.expr (.mt .reverse (.var 3) .nil)) .nil
def i_law_code_7 : ISs := .cons (.ite (.cmp .Eq (.bin .Mod (.bin .FloorDiv (.ix (.var 2) (.int 2)) (.int 64)) (.int 2)) (.int 1)) i_law_code_8 .nil) i_law_code_9
def i_law_code_6 : ISs := .cons (.set 3 (.bin .Add (.sl (.var 3) (.some (.var 4)) .none) (.sl (.var 3) .none (.some (.var 4))))) i_law_code_7
def i_law_code_5 : ISs := .cons (.set 4 (.bin .Mod (.ix (.var 2) (.int 2)) (.bi .len (.var 3) .nil))) i_law_code_6
def i_law_code_4 : ISs := .cons (.set 3 (.call 0 (.var 1) (.cons (.bin .Add (.int 2) (.bin .Mod (.bin .FloorDiv (.var 0) (.int 4)) (.int 63))) .nil))) .nil
def i_law_code_3 : ISs := .cons (.ite (.cmp .Eq (.bin .Mod (.var 0) (.int 4)) (.int 3)) i_law_code_4 .nil) i_law_code_5
def i_law_code_2 : ISs := .cons (.set 3 (.call 3 (.var 3) (.cons (.bin .Mod (.ix (.var 2) (.int 0)) (.int 16)) (.cons (.bin .Mod (.ix (.var 2) (.int 1)) (.int 65536)) .nil)))) i_law_code_3
def i_law_code_1 : ISs := .cons (.set 3 (.call 1 (.bin .Mod (.bin .Mod (.var 0) (.int 4)) (.int 3)) (.cons (.bin .Add (.int 1) (.bin .Mod (.bin .FloorDiv (.var 0) (.int 4)) (.int 6))) .nil))) i_law_code_2
def i_law_code_0 : ISs := .cons (.set 2 (.call 2 (.var 1) (.cons (.int 6) .nil))) i_law_code_1
abbrev ir__law_code : ISs := i_law_code_0
def G__law_code : GI := { bl := GB, gl := GL, fns := ["_law_drawn", "_law_plain_code", "_law_stream", "_law_turned"] }
theorem ck__law_code : chkSs G__law_code (defScope s__law_code) ["first", "second", "numbers", "code", "at", "one", "other", "word"] ir__law_code (defBody s__law_code) = true := by decide +kernel
def i_law_ones_0 : ISs := .cons (.ret (.bi .len (.comp ["place"] [0] (.rng (.int 16)) (.nm 0) (.some (.cmp .Eq (.bin .Mod (.bin .FloorDiv (.var 1) (.bin .LShift (.int 1) (.var 0))) (.int 2)) (.int 1))) (.var 0)) .nil)) .nil
abbrev ir__law_ones : ISs := i_law_ones_0
def G__law_ones : GI := { bl := GB, gl := GL, fns := [] }
theorem ck__law_ones : chkSs G__law_ones (defScope s__law_ones) ["word"] ir__law_ones (defBody s__law_ones) = true := by decide +kernel
def i_law_good_10 : ISs := .cons (.ret (.cmp .Is (.var 0) .non)) .nil
def i_law_good_9 : ISs := .cons (.ret (.and (.cmp .Eq (.ix (.var 0) (.int 0)) (.var 2)) (.and (.cmp .Eq (.bin .BitXor (.ix (.var 0) (.int 1)) (.var 3)) (.var 5)) (.cmp .Eq (.bin .BitAnd (.bin .BitAnd (.ix (.var 0) (.int 1)) (.var 3)) (.var 4)) (.bin .BitAnd (.var 3) (.var 4)))))) .nil
def i_law_good_8 : ISs := .cons (.ret (.bl false)) .nil
def i_law_good_7 : ISs := .cons (.ite (.or (.cmp .Eq (.ix (.var 0) (.int 1)) (.var 3)) (.or (.cmp .Eq (.ix (.var 0) (.int 1)) (.var 4)) (.cmp .NotEq (.bin .BitOr (.bin .BitOr (.ix (.var 0) (.int 1)) (.var 3)) (.var 4)) (.bin .BitOr (.var 3) (.var 4))))) i_law_good_8 .nil) i_law_good_9
def i_law_good_6 : ISs := .cons (.set 5 (.bi .min (.comp ["place"] [3, 4] (.rng (.int 16)) (.nm 0) (.some (.cmp .Eq (.bin .Mod (.bin .FloorDiv (.bin .BitXor (.var 1) (.var 2)) (.bin .LShift (.int 1) (.var 0))) (.int 2)) (.int 1))) (.bin .LShift (.int 1) (.var 0))) .nil)) i_law_good_7
def i_law_good_5 : ISs := .cons (.ret (.bl false)) .nil
def i_law_good_4 : ISs := .cons (.ite (.or (.not (.bi .isinst (.var 0) (.cons (.ty .tuple) .nil))) (.or (.cmp .NotEq (.bi .len (.var 0) .nil) (.int 2)) (.or (.not (.call 1 (.ix (.var 0) (.int 0)) .nil)) (.not (.call 1 (.ix (.var 0) (.int 1)) .nil))))) i_law_good_5 .nil) i_law_good_6
def i_law_good_3 : ISs := .cons (.ite (.cmp .Gt (.call 0 (.bin .BitXor (.var 3) (.var 4)) .nil) (.int 1)) i_law_good_4 .nil) .nil
def i_law_good_2 : ISs := .cons (.set 4 (.ix (.var 1) (.bin .Mod (.bin .Add (.var 2) (.int 1)) (.bi .len (.var 1) .nil)))) i_law_good_3
def i_law_good_1 : ISs := .cons (.set 3 (.ix (.var 1) (.var 2))) i_law_good_2
def i_law_good_0 : ISs := .cons (.for_ (.nm 2) (.rng (.bi .len (.var 1) .nil)) i_law_good_1) i_law_good_10
abbrev ir__law_good : ISs := i_law_good_0
def G__law_good : GI := { bl := GB, gl := GL, fns := ["_law_ones", "_law_whole"] }
theorem ck__law_good : chkSs G__law_good (defScope s__law_good) ["found", "code", "k", "old", "new", "low"] ir__law_good (defBody s__law_good) = true := by decide +kernel
def ilaw_5 : ISs := .cons (.ret (.bl true)) .nil
def ilaw_4 : ISs := .cons (.ret (.bl false)) .nil
def ilaw_3 : ISs := .cons (.ite (.or (.not (.call 2 (.call 3 (.var 3) .nil) (.cons (.var 2) .nil))) (.cmp .NotEq (.var 3) (.var 2))) ilaw_4 .nil) .nil
def ilaw_2 : ISs := .cons (.set 3 (.bi .list (.var 2) .nil)) ilaw_3
def ilaw_1 : ISs := .cons (.set 2 (.call 1 (.call 0 (.var 0) (.cons (.var 1) .nil)) (.cons (.call 0 (.var 0) (.cons (.bin .Add (.var 1) (.int 1)) .nil)) .nil))) ilaw_2
def ilaw_0 : ISs := .cons (.for_ (.nm 1) (.rng3 (.int 0) (.bi .max (.int 1) (.cons (.bi .min (.int 16) (.cons (.bi .len (.var 0) .nil) .nil)) .nil)) (.int 2)) ilaw_1) ilaw_5
abbrev ir_law : ISs := ilaw_0
def G_law : GI := { bl := GB, gl := GL, fns := ["_law_cell_at", "_law_code", "_law_good", "tear"] }
theorem ck_law : chkSs G_law (defScope s_law) ["script", "k", "code", "handed"] ir_law (defBody s_law) = true := by decide +kernel
theorem szl : sizeLine = 16777216 := by decide
theorem na10 : Int.natAbs 10 = 10 := rfl
theorem na1 : Int.natAbs 1 = 1 := rfl
theorem na2 : Int.natAbs 2 = 2 := rfl
theorem at0 {α : Type} {x : α} {xs : List α} : atI (x :: xs) 0 = some x := by unfold atI ixN; simp
theorem at1 {α : Type} {x y : α} {xs : List α} : atI (x :: y :: xs) 1 = some y := atI_nat (j := 1) (by rfl)
theorem ite_i {c A B : Prop} [Decidable c] (h1 : c → A) (h2 : ¬ c → B) : if c then A else B := by
  split
  · exact h1 ‹_›
  · exact h2 ‹_›
theorem ex_call {a : Str} {b : SpM} {R : SpM → Prop} : (∃ f sp, (a = f ∧ b = sp) ∧ R sp) ↔ R b := ⟨fun ⟨_, _, ⟨_, e⟩, h⟩ => e ▸ h, fun h => ⟨a, b, ⟨rfl, rfl⟩, h⟩⟩
theorem isN0 : isNon .non = true := rfl
theorem isN1 {b : Bool} : isNon (.bl b) = false := rfl
theorem isN2 {b : Int} : isNon (.int b) = false := rfl
theorem isN3 {b : Str} : isNon (.str b) = false := rfl
theorem isN4 {b : List MV} : isNon (.tup b) = false := rfl
theorem isN5 {b : Addr} : isNon (.ref b) = false := rfl
theorem isN6 {b : List MV} : isNon (.frl b) = false := rfl
theorem isB0 {c : Bool} : isBl c .non = false := rfl
theorem isB1 {b c : Bool} : isBl c (.bl b) = decide (b = c) := rfl
theorem isB2 {c : Bool} {b : Int} : isBl c (.int b) = false := rfl
theorem isB3 {c : Bool} {b : Str} : isBl c (.str b) = false := rfl
theorem isB4 {c : Bool} {b : List MV} : isBl c (.tup b) = false := rfl
theorem isB5 {c : Bool} {b : Addr} : isBl c (.ref b) = false := rfl
local macro_rules | `(tactic| walk_at "s") => `(tactic| simp only [szl, na10, na1, na2, Nat.zero_add, Nat.reduceAdd, Nat.zero_le, at0, at1, ex_call, updM_same, s_nil, s_cons, s_pass, s_brk, s_cnt, s_never, s_ret, s_retN, s_set, s_asg, s_put, s_fset, s_expr, s_ite, s_for, s_while, e_var, e_int, e_str, e_bl, e_non, e_glb, e_ty, e_bin, e_neg, e_not, e_cmp, e_chn, e_and, e_or, e_ife, e_tup, e_lst, e_dic, e_ix, e_sl, e_call, e_bi, e_b2, e_mt, e_fld, e_mcall, e_make, e_disp, ps_nil, ps_cons, es_nil, es_cons, o_none, o_some, i_none, i_some, q_tg1, isN0, isN1, isN2, isN3, isN4, isN5, isN6, isTy, q_add, q_sub, q_mul, q_fdiv, q_mod, q_shl, q_and, q_or, q_xor, q_adds, q_muls, q_addt, q_mult, q_addl, q_lt, q_le, q_gt, q_eqi, q_nei, q_eqs, q_nes, q_eqb, q_neb, q_is, isB0, isB1, isB2, isB3, isB4, isB5, q_mulr, q_isoi2, q_th5, q_ot5, q_eqr, q_ner, q_eqt, q_net, q_in, q_ixr, q_ixol, q_ixt, q_ixf, q_slr, q_slol, q_slf, q_slt, q_sls, q_lent, q_lenf, q_lens, q_lenr, q_lenol, q_lenod, q_isi, q_isoi, q_tyi, q_tyb, q_tys, q_tyn, q_tyt, q_tyol, q_tyod, q_max1, q_min1, q_listt, q_listf, q_listr, q_tupt, q_tupr, q_app, q_apol, q_okl1, q_okl3, q_okl6, q_addf, q_put, q_puol, q_seq, q_srr, q_srol, q_srod, q_th1, q_th2, q_th3, q_th4, q_ot1, q_ot2, q_ot3, q_ot4, q_rng, q_rgi, q_rng2, q_rng3, q_th6, q_ot6, q_lrng, q_rgi2, q_max2, q_min2, q_inti, q_intb, CDivB, CMul, CPow, List.getElem?_cons_zero, List.getElem?_cons_succ, Option.some.injEq,
  MV.int.injEq, MV.str.injEq, MV.bl.injEq, MV.tup.injEq, MV.frl.injEq, MV.ref.injEq, MV.ty.injEq, MO.lst.injEq, MO.dic.injEq, MO.ins.injEq, Prod.mk.injEq, exists_eq_left', exists_eq_left, exists_eq_right, exists_eq_right', exists_and_left, exists_eq, exists_const, true_and, and_true, false_and, and_false, true_or, or_true, false_or, or_false, reduceCtorEq, ne_eq, not_false_eq_true, not_true_eq_false,
  List.set_cons_zero, List.set_cons_succ, decide_eq_true_eq, Bool.not_eq_true', decide_eq_false_iff_not, if_true, if_false, Bool.false_eq_true, ite_true, ite_false, reduceIte, List.length_cons, List.length_nil, and_self, String.reduceEq, String.reduceNe, Int.reduceLT, Int.reduceLE, Int.reducePow, Int.reduceNeg, Int.reduceToNat, Int.reduceSub, Int.reduceAdd, Int.reduceMul, Nat.reduceLT, Nat.reducePow, Nat.reduceLeDiff])
def SameM (M M' : MH) : Prop := ∀ a o, M a = some o → M' a = some o
theorem SameM.refl (M : MH) : SameM M M := fun _ _ h => h
theorem SameM.trans {M M1 M2 : MH} (a : SameM M M1) (b : SameM M1 M2) : SameM M M2 := fun c o h => b c o (a c o h)
theorem neM {M : MH} {a p : Addr} {o : MO} (h : M a = some o) (hp : M p = none) : a ≠ p := by intro e; subst e; rw [h] at hp; cases hp
theorem SameM.new {M : MH} {p : Addr} (h : M p = none) (o : MO) : SameM M (updM M p o) := fun a u e => by rw [updM_ne (neM e h)]; exact e
theorem SameM.free {M M' : MH} (s : SameM M M') {p : Addr} (h : M' p = none) : M p = none := by
  cases e : M p with
  | none => rfl
  | some o => rw [s _ _ e] at h; cases h
theorem SameM.upd {M M' : MH} (s : SameM M M') {p : Addr} (h : M p = none) (o : MO) : SameM M (updM M' p o) := fun a u e => by rw [updM_ne (neM e h)]; exact s a u e
theorem rng_item {lo : Int} {n i : Nat} {x : MV} (h : (Src.rng lo n).items[i]? = some x) : i < n ∧ x = .int (lo + (i : Nat)) := by
  have hi := (List.getElem?_eq_some_iff.mp h).1
  rw [Src.items_len] at hi
  refine ⟨hi, ?_⟩
  have h' : ((List.range n).map fun i => MV.int (lo + (i : Nat)))[i]? = some x := h
  rw [List.getElem?_map, List.getElem?_eq_getElem (by simpa using (show i < n from hi))] at h'
  simpa using h'.symm
theorem map_item {α : Type} {f : α → MV} {xs : List α} {i : Nat} {x : MV} (h : (xs.map f)[i]? = some x) : ∃ hi : i < xs.length, x = f xs[i] := by
  have hi := (List.getElem?_eq_some_iff.mp h).1
  rw [List.length_map] at hi
  refine ⟨hi, ?_⟩
  rw [List.getElem?_map, List.getElem?_eq_getElem hi] at h
  exact (Option.some.inj h).symm
theorem mkMon {Φ : List (Str × SpM)} (hm : ∀ p ∈ Φ, MonW p.2) : ∀ (j : Nat) f sp, Φ[j]? = some (f, sp) → MonW sp := fun j f sp h => hm (f, sp) (List.mem_of_getElem? h)
theorem cutM_upto0 (xs : List MV) (k : Nat) : cutM xs none (some (k : Int)) = xs.take k := by
  unfold cutM
  rw [HT.sIx_none, HT.sIx_nat]
  simp
theorem cutM_from0 (xs : List MV) (k : Nat) : cutM xs (some (k : Int)) none = xs.drop k := by
  unfold cutM
  rw [HT.sIx_none, HT.sIx_nat]
  by_cases h : k ≤ xs.length
  · rw [Nat.min_eq_left h, List.take_of_length_le (by rw [List.length_drop]; exact Nat.le_refl _)]
  · rw [Nat.min_eq_right (by omega), List.drop_eq_nil_of_le (Nat.le_refl _), List.drop_eq_nil_of_le (by omega)]
    simp
section
variable {P : Program} {w : World} {K : PySem.W.Frag} {mg : Str → Option Value} {base : Heap} {t : Adr}
abbrev sp_two_to : SpM := fun vs M Q => ∃ k : Nat, vs = [.int k] ∧ k ≤ 64 ∧ Q (.int (2 ^ k)) M
theorem mon_sp_two_to : MonW sp_two_to := fun hq ⟨k, e, h, q⟩ => ⟨k, e, h, hq _ _ q⟩
theorem ok_two_to (T : Txt K mg t) : FnOk P w K mg base CX0 1 t.f_two_to t.d_two_to ["exponent"] (liSp K sp_two_to) := by
  refine T.F_two_to.okM sc_two_to (mkFts (Φ := []) (gb_of T) (gl_of' T) rfl (fun _ h => nomatch h) (fun _ h => nomatch h) : Fts P w K mg base 0 G_two_to []) ir_two_to ck_two_to (fun vs M Q h => ?_) (fun vs M Q h => ?_)
  · obtain ⟨k, rfl, _⟩ := h; rfl
  obtain ⟨k, rfl, hk, q⟩ := h
  show wSs _ _ _ [some (.int k), none, none] M
  rw [ir_two_to, itwo_to_0]
  walk_at "s"
  rw [itwo_to_1]
  walk_at "s"
  refine ⟨by omega, by omega, fun i σ M' => M' = M ∧ ∃ v, σ = [some (.int k), some (.int (2 ^ i)), v], ⟨rfl, _, rfl⟩, fun _ _ _ _ => trivial, ?_, ?_⟩
  · rintro i x σ M' hx ⟨rfl, v, rfl⟩
    obtain ⟨hi, rfl⟩ := rng_item hx
    rw [itwo_to_2]
    walk_at "s"
    exact ⟨_, by rw [Int.pow_succ]⟩
  · rintro σ M' ⟨rfl, v, rfl⟩
    rw [itwo_to_3]
    walk_at "s"
    exact q
theorem nat_xor_add (m : Nat) : ∀ n : Nat, (m ^^^ n) + 2 * (m &&& n) = m + n := by
  induction m using Nat.strongRecOn with
  | ind m ih =>
    intro n
    by_cases h0 : m = 0
    · subst h0; simp
    · have ih' := ih (m / 2) (by omega) (n / 2)
      rw [← Nat.xor_div_two, ← Nat.and_div_two] at ih'
      have x1 := @Nat.xor_mod_two_eq_one m n
      have a1 := @Nat.and_mod_two_eq_one m n
      omega
def seen (o n c : Nat) : Nat := o ^^^ ((o ^^^ n) &&& c)
theorem bxor_nat (m n : Nat) : Builtin.bitXor (m : Int) (n : Int) = ((m ^^^ n : Nat) : Int) := by
  rw [PyProof.Rows.bitXor_and, PyProof.Rows.bitAnd_pp (Int.natCast_nonneg m) (Int.natCast_nonneg n), Int.toNat_natCast, Int.toNat_natCast]
  have := nat_xor_add m n
  omega
theorem band_nat (m n : Nat) : Builtin.bitAnd (m : Int) (n : Int) = ((m &&& n : Nat) : Int) := by
  rw [PyProof.Rows.bitAnd_pp (Int.natCast_nonneg m) (Int.natCast_nonneg n), Int.toNat_natCast, Int.toNat_natCast]
abbrev sp_amid : SpM := fun vs M Q => ∃ (o n c : Nat), vs = [.int o, .int n, .int c] ∧ Q (.int (seen o n c : Nat)) M
theorem mon_sp_amid : MonW sp_amid := fun hq ⟨o, n, c, e, q⟩ => ⟨o, n, c, e, hq _ _ q⟩
theorem ok_amid (T : Txt K mg t) : FnOk P w K mg base CX0 1 t.f_amid t.d_amid ["old", "new", "choice"] (liSp K sp_amid) := by
  refine T.F_amid.okM sc_amid (mkFts (Φ := []) (gb_of T) (gl_of' T) rfl (fun _ h => nomatch h) (fun _ h => nomatch h) : Fts P w K mg base 0 G_amid []) ir_amid ck_amid (fun vs M Q h => ?_) (fun vs M Q h => ?_)
  · obtain ⟨o, n, c, rfl, _⟩ := h; rfl
  obtain ⟨o, n, c, rfl, q⟩ := h
  show wSs _ _ _ [some (.int o), some (.int n), some (.int c)] M
  rw [ir_amid, iamid_0]
  walk_at "s"
  rw [bxor_nat, band_nat, bxor_nat]
  exact q
abbrev sp_is_whole : SpM := fun vs M Q => ∃ i : Int, vs = [.int i] ∧ Q (.bl true) M
theorem mon_sp_is_whole : MonW sp_is_whole := fun hq ⟨i, e, q⟩ => ⟨i, e, hq _ _ q⟩
theorem ok_is_whole (T : Txt K mg t) : FnOk P w K mg base CX0 1 t.f_is_whole t.d_is_whole ["value"] (liSp K sp_is_whole) := by
  refine T.F_is_whole.okM sc_is_whole (mkFts (Φ := []) (gb_of T) (gl_of' T) rfl (fun _ h => nomatch h) (fun _ h => nomatch h) : Fts P w K mg base 0 G_is_whole []) ir_is_whole ck_is_whole (fun vs M Q h => ?_) (fun vs M Q h => ?_)
  · obtain ⟨i, rfl, _⟩ := h; rfl
  obtain ⟨i, rfl, q⟩ := h
  show wSs _ _ _ [some (.int i)] M
  rw [ir_is_whole, iis_whole_0]
  walk_at "s"
  simpa using q
abbrev sp_fits : SpM := fun vs M Q => ∃ (k : Nat) (i : Int), vs = [.int k, .int i] ∧ k ≤ 64 ∧ 0 ≤ i ∧ i < 2 ^ k ∧ Q (.bl true) M
theorem mon_sp_fits : MonW sp_fits := fun hq ⟨k, i, e, h1, h2, h3, q⟩ => ⟨k, i, e, h1, h2, h3, hq _ _ q⟩
theorem ok_fits (T : Txt K mg t) : FnOk P w K mg base CX0 2 t.f_fits t.d_fits ["width", "number"] (liSp K sp_fits) := by
  refine T.F_fits.okM sc_fits (mkFts (Φ := [("is_whole", sp_is_whole), ("two_to", sp_two_to)]) (gb_of T) (gl_of' T) rfl (List.forall_mem_cons.2 ⟨mon_sp_is_whole, (List.forall_mem_cons.2 ⟨mon_sp_two_to, (fun _ h => nomatch h)⟩)⟩) (List.forall_mem_cons.2 ⟨⟨_, _, _, (FnOk.mono (ok_is_whole T) (by decide)), T.m_is_whole, T.F_is_whole.kp, T.b_is_whole⟩, (List.forall_mem_cons.2 ⟨⟨_, _, _, (FnOk.mono (ok_two_to T) (by decide)), T.m_two_to, T.F_two_to.kp, T.b_two_to⟩, (fun _ h => nomatch h)⟩)⟩) : Fts P w K mg base 1 G_fits [("is_whole", sp_is_whole), ("two_to", sp_two_to)]) ir_fits ck_fits (fun vs M Q h => ?_) (fun vs M Q h => ?_)
  · obtain ⟨k, i, rfl, _⟩ := h; rfl
  obtain ⟨k, i, rfl, h1, h2, h3, q⟩ := h
  show wSs _ _ _ [some (.int k), some (.int i)] M
  rw [ir_fits, ifits_0]
  walk_at "s"
  refine ⟨i, rfl, ?_⟩
  walk_at "s"
  rw [if_pos h2]
  refine ⟨k, rfl, h1, ?_⟩
  walk_at "s"
  rw [decide_eq_true h3]
  exact q
def natI (c : Nat) : MV := .int c
structure Good (cs : List Nat) : Prop where
  lo : 2 ≤ cs.length
  hi : cs.length ≤ 64
  lt : ∀ c ∈ cs, c < 65536
  nd : cs.Nodup
theorem nat_ints (cs : List Nat) : cs.map natI = (cs.map fun c : Nat => (c : Int)).map MV.int := by rw [List.map_map]; rfl
theorem nat_at {cs : List Nat} {k : Nat} {c : Nat} (h : cs[k]? = some c) : atI (cs.map natI) (k : Int) = some (.int c) := atI_nat (by rw [List.getElem?_map, h]; rfl)
abbrev sp_refuse_no_code : SpM := fun vs M Q => ∃ (p : Addr) (cs : List Nat), vs = [.ref p] ∧ M p = some (.lst (cs.map natI)) ∧ Good cs ∧ Q .non M
theorem mon_sp_refuse_no_code : MonW sp_refuse_no_code := fun hq ⟨p, cs, e, h, g, q⟩ => ⟨p, cs, e, h, g, hq _ _ q⟩
theorem ok_refuse_no_code (T : Txt K mg t) : FnOk P w K mg base CX0 3 t.f_refuse_no_code t.d_refuse_no_code ["code"] (liSp K sp_refuse_no_code) := by
  refine T.F_refuse_no_code.okM sc_refuse_no_code (mkFts (Φ := [("fits", sp_fits)]) (gb_of T) (gl_of' T) rfl (List.forall_mem_cons.2 ⟨mon_sp_fits, (fun _ h => nomatch h)⟩) (List.forall_mem_cons.2 ⟨⟨_, _, _, (FnOk.mono (ok_fits T) (by decide)), T.m_fits, T.F_fits.kp, T.b_fits⟩, (fun _ h => nomatch h)⟩) : Fts P w K mg base 2 G_refuse_no_code [("fits", sp_fits)]) ir_refuse_no_code ck_refuse_no_code (fun vs M Q h => ?_) (fun vs M Q h => ?_)
  · obtain ⟨p, cs, rfl, _⟩ := h; rfl
  obtain ⟨p, cs, rfl, hp, g, q⟩ := h
  show wSs _ _ _ [some (.ref p), none] M
  have glo := g.lo
  have ghi := g.hi
  rw [ir_refuse_no_code, irefuse_no_code_0]
  repeat (first | walk_at "s" | simp only [hp, List.length_map])
  rw [if_pos (by omega)]
  rw [if_neg (by omega), irefuse_no_code_2]
  repeat (first | walk_at "s" | simp only [hp])
  obtain ⟨J, hJ⟩ : ∃ J : Nat → Sm → MH → Prop, ∀ j σ M', J j σ M' ↔ M' = M ∧ ∃ v, σ = [some (.ref p), v] := ⟨_, fun _ _ _ => Iff.rfl⟩
  refine ⟨J, (hJ _ _ _).mpr ⟨rfl, _, rfl⟩, fun j σ M' h => by rw [((hJ _ _ _).mp h).1]; exact hp, ?_, ?_⟩
  · rintro j y σ M' hy h
    obtain ⟨rfl, v, rfl⟩ := (hJ _ _ _).mp h
    obtain ⟨hj, rfl⟩ := map_item (show (cs.map natI)[j]? = some y from hy)
    have := g.lt _ (List.getElem_mem hj)
    rw [irefuse_no_code_3]
    walk_at "s"
    refine ⟨16, (cs[j] : Nat), rfl, by decide, by omega, by omega, ?_⟩
    walk_at "s"
    exact (hJ _ _ _).mpr ⟨rfl, _, rfl⟩
  · rintro σ M' h
    obtain ⟨rfl, v, rfl⟩ := (hJ _ _ _).mp h
    rw [irefuse_no_code_5]
    walk_at "s"
    refine ⟨p, cs.map fun c : Nat => (c : Int), rfl, by rw [← nat_ints]; exact hp, by rw [List.length_map]; exact Nat.lt_of_le_of_lt (Nat.succ_le_succ ghi) (by decide +kernel), fun k hk _ => ?_⟩
    have hk : k = cs.length := by
      have := hk.mpr (by
        unfold List.Nodup
        rw [List.pairwise_map]
        exact List.Pairwise.imp (fun h e => h (Int.ofNat.inj e)) g.nd)
      rw [List.length_map] at this
      exact this
    repeat (first | walk_at "s" | simp only [hp, List.length_map])
    rw [if_neg (by omega)]
    exact q
theorem xor_eq_zero {a b : Nat} (h : a ^^^ b = 0) : a = b := by
  have : a ^^^ (a ^^^ b) = a := by rw [h, Nat.xor_zero]
  rw [← Nat.xor_assoc, Nat.xor_self, Nat.zero_xor] at this
  exact this.symm
theorem next_ne {n k : Nat} (hn : 2 ≤ n) (hk : k < n) : (k + 1) % n ≠ k ∧ (k + 1) % n < n := by
  by_cases h : k + 1 < n
  · rw [Nat.mod_eq_of_lt h]; omega
  · have : k + 1 = n := by omega
    rw [this, Nat.mod_self]; omega
def old (cs : List Nat) (k : Nat) : Nat := cs.getD k 0
def new (cs : List Nat) (k : Nat) : Nat := cs.getD ((k + 1) % cs.length) 0
def unl (cs : List Nat) (k : Nat) : Nat := old cs k ^^^ new cs k
def sgl (u : Nat) : Prop := u &&& (u - 1) = 0
theorem old_at {cs : List Nat} {k : Nat} (hk : k < cs.length) : cs[k]? = some (old cs k) := by unfold old; rw [List.getD_eq_getElem?_getD, List.getElem?_eq_getElem hk]; rfl
theorem new_at {cs : List Nat} (g : Good cs) {k : Nat} (hk : k < cs.length) : cs[(k + 1) % cs.length]? = some (new cs k) := by
  unfold new; rw [List.getD_eq_getElem?_getD, List.getElem?_eq_getElem (next_ne g.lo hk).2]; rfl
theorem unl_pos {cs : List Nat} (g : Good cs) {k : Nat} (hk : k < cs.length) : 1 ≤ unl cs k := by
  have ⟨h1, h2⟩ := next_ne g.lo hk
  refine Nat.one_le_iff_ne_zero.mpr fun z => h1 ?_
  have e := xor_eq_zero z
  have a := old_at hk
  have b := new_at g hk
  rw [e] at a
  exact (List.getElem?_inj h2 g.nd).mp (b.trans a.symm)
def tornM (cs : List Nat) (k : Nat) : MV := .tup [.int k, .int (seen (old cs k) (new cs k) (unl cs k - (unl cs k &&& (unl cs k - 1))) : Nat)]
abbrev sp_tear : SpM := fun vs M Q => ∃ (p : Addr) (cs : List Nat), vs = [.ref p] ∧ M p = some (.lst (cs.map natI)) ∧ Good cs ∧
  ((∀ k, k < cs.length → sgl (unl cs k)) → Q .non M) ∧ ∀ k, k < cs.length → (∀ j, j < k → sgl (unl cs j)) → ¬ sgl (unl cs k) → Q (tornM cs k) M
theorem mon_sp_tear : MonW sp_tear := fun hq ⟨p, cs, e, h, g, q1, q2⟩ => ⟨p, cs, e, h, g, fun a => hq _ _ (q1 a), fun k a b c => hq _ _ (q2 k a b c)⟩
theorem ok_tear (T : Txt K mg t) : FnOk P w K mg base CX0 4 t.f_tear t.d_tear ["code"] (liSp K sp_tear) := by
  refine T.F_tear.okM sc_tear (mkFts (Φ := [("amid", sp_amid), ("refuse_no_code", sp_refuse_no_code)]) (gb_of T) (gl_of' T) rfl (List.forall_mem_cons.2 ⟨mon_sp_amid, (List.forall_mem_cons.2 ⟨mon_sp_refuse_no_code, (fun _ h => nomatch h)⟩)⟩) (List.forall_mem_cons.2 ⟨⟨_, _, _, (FnOk.mono (ok_amid T) (by decide)), T.m_amid, T.F_amid.kp, T.b_amid⟩, (List.forall_mem_cons.2 ⟨⟨_, _, _, (FnOk.mono (ok_refuse_no_code T) (by decide)), T.m_refuse_no_code, T.F_refuse_no_code.kp, T.b_refuse_no_code⟩, (fun _ h => nomatch h)⟩)⟩) : Fts P w K mg base 3 G_tear [("amid", sp_amid), ("refuse_no_code", sp_refuse_no_code)]) ir_tear ck_tear (fun vs M Q h => ?_) (fun vs M Q h => ?_)
  · obtain ⟨p, cs, rfl, _⟩ := h; rfl
  obtain ⟨p, cs, rfl, hp, g, q1, q2⟩ := h
  show wSs _ _ _ [some (.ref p), none, none, none, none, none] M
  have glo := g.lo
  have ghi := g.hi
  rw [ir_tear, itear_0]
  walk_at "s"
  refine ⟨p, cs, rfl, hp, g, ?_⟩
  rw [itear_1]
  repeat (first | walk_at "s" | simp only [hp, List.length_map])
  obtain ⟨J, hJ⟩ : ∃ J : Nat → Sm → MH → Prop, ∀ j σ M', J j σ M' ↔ M' = M ∧ (∀ i, i < j → sgl (unl cs i)) ∧ ∃ v1 v2 v3 v4 v5, σ = [some (.ref p), v1, v2, v3, v4, v5] := ⟨_, fun _ _ _ => Iff.rfl⟩
  refine ⟨by omega, by omega, J, (hJ _ _ _).mpr ⟨rfl, fun i h => by omega, _, _, _, _, _, rfl⟩, fun j σ M' h => trivial, ?_, ?_⟩
  · rintro j y σ M' hy h
    obtain ⟨rfl, hs, v1, v2, v3, v4, v5, rfl⟩ := (hJ _ _ _).mp h
    obtain ⟨hj, rfl⟩ := rng_item hy
    have hj : j < cs.length := by simpa using hj
    have hu := unl_pos g hj
    have ei : ((j : Int) + 1) % (cs.length : Int) = (((j + 1) % cs.length : Nat) : Int) := by rw [Int.natCast_emod, Int.natCast_add]; rfl
    rw [itear_2, Int.zero_add]
    repeat (first | walk_at "s" | simp only [hp])
    refine ⟨_, nat_at (old_at hj), ?_⟩
    rw [itear_3]
    repeat (first | walk_at "s" | simp only [hp, List.length_map])
    refine ⟨by omega, ?_⟩
    rw [ei]
    refine ⟨_, nat_at (new_at g hj), ?_⟩
    rw [itear_4]
    walk_at "s"
    rw [bxor_nat, itear_5]
    walk_at "s"
    have e1 : ((old cs j ^^^ new cs j : Nat) : Int) - 1 = ((unl cs j - 1 : Nat) : Int) := by
      have : 1 ≤ old cs j ^^^ new cs j := hu
      unfold unl
      omega
    rw [e1, band_nat, itear_6]
    walk_at "s"
    refine ite_i (fun c => ?_) (fun c => ?_)
    · rw [itear_7]
      walk_at "s"
      have le : unl cs j &&& (unl cs j - 1) ≤ unl cs j := Nat.and_le_left
      refine ⟨old cs j, new cs j, unl cs j - (unl cs j &&& (unl cs j - 1)), ?_, ?_⟩
      · have e4 : ((old cs j ^^^ new cs j : Nat) : Int) - (((old cs j ^^^ new cs j) &&& (unl cs j - 1) : Nat) : Int) = ((unl cs j - (unl cs j &&& (unl cs j - 1)) : Nat) : Int) := by
          rw [Int.ofNat_sub le]; rfl
        rw [e4]
      · exact q2 j hj hs fun z => c (by have z : (old cs j ^^^ new cs j) &&& (unl cs j - 1) = 0 := z; rw [z]; rfl)
    · refine (hJ _ _ _).mpr ⟨rfl, fun i hi => ?_, _, _, _, _, _, rfl⟩
      rcases Nat.lt_succ_iff_lt_or_eq.mp hi with z | z
      · exact hs i z
      · subst z
        have c : (((old cs i ^^^ new cs i) &&& (unl cs i - 1) : Nat) : Int) = 0 := Classical.not_not.mp c
        exact Int.ofNat.inj c
  · rintro σ M' h
    obtain ⟨rfl, hs, v1, v2, v3, v4, v5, rfl⟩ := (hJ _ _ _).mp h
    rw [itear_8]
    walk_at "s"
    exact q1 fun k hk => hs k hk
abbrev sp__law_cell_at : SpM := fun vs M Q => ∃ (ns : List Int) (k : Nat), vs = [.frl (ns.map .int), .int k] ∧ Q (.int (ns.getD k 0)) M
theorem mon_sp__law_cell_at : MonW sp__law_cell_at := fun hq ⟨ns, k, e, q⟩ => ⟨ns, k, e, hq _ _ q⟩
theorem ok__law_cell_at (T : Txt K mg t) : FnOk P w K mg base CX0 1 t.f__law_cell_at t.d__law_cell_at ["script", "k"] (liSp K sp__law_cell_at) := by
  refine T.F__law_cell_at.okM sc__law_cell_at (mkFts (Φ := []) (gb_of T) (gl_of' T) rfl (fun _ h => nomatch h) (fun _ h => nomatch h) : Fts P w K mg base 0 G__law_cell_at []) ir__law_cell_at ck__law_cell_at (fun vs M Q h => ?_) (fun vs M Q h => ?_)
  · obtain ⟨ns, k, rfl, _⟩ := h; rfl
  obtain ⟨ns, k, rfl, q⟩ := h
  show wSs _ _ _ [some (.frl (ns.map .int)), some (.int k)] M
  rw [ir__law_cell_at, i_law_cell_at_0]
  walk_at "s"
  refine ite_i (fun c => ?_) (fun c => ?_)
  · rw [List.length_map] at c
    have hk : k < ns.length := by omega
    rw [i_law_cell_at_1]
    walk_at "s"
    have e : ns.getD k 0 = ns[k] := by simp [List.getD_eq_getElem?_getD, hk]
    rw [e] at q
    exact ⟨_, atI_nat (by rw [List.getElem?_map, List.getElem?_eq_getElem hk]; rfl), q⟩
  · rw [List.length_map] at c
    have e : ns.getD k 0 = 0 := by simp [List.getD_eq_getElem?_getD, List.getElem?_eq_none_iff.mpr (show ns.length ≤ k by omega)]
    rw [e] at q
    rw [i_law_cell_at_2]
    walk_at "s"
    exact q
abbrev sp__law_whole : SpM := fun vs M Q => ∃ i, vs = [.int i] ∧ Q (.bl true) M
theorem mon_sp__law_whole : MonW sp__law_whole := fun hq ⟨i, e, q⟩ => ⟨i, e, hq _ _ q⟩
theorem ok__law_whole (T : Txt K mg t) : FnOk P w K mg base CX0 1 t.f__law_whole t.d__law_whole ["found"] (liSp K sp__law_whole) := by
  refine T.F__law_whole.okM sc__law_whole (mkFts (Φ := []) (gb_of T) (gl_of' T) rfl (fun _ h => nomatch h) (fun _ h => nomatch h) : Fts P w K mg base 0 G__law_whole []) ir__law_whole ck__law_whole (fun vs M Q h => ?_) (fun vs M Q h => ?_)
  · obtain ⟨i, rfl, _⟩ := h; rfl
  obtain ⟨i, rfl, q⟩ := h
  show wSs _ _ _ [some (.int i)] M
  rw [ir__law_whole, i_law_whole_0]
  walk_at "s"
  simpa using q
abbrev sp__law_stream : SpM := fun vs M Q => ∃ (c : Int) (m : Nat), vs = [.int c, .int m] ∧ m ≤ 100 ∧ ∀ p (xs : List Nat) M', SameM M M' → M p = none → M' p = some (.lst (xs.map natI)) → xs.length = m → Q (.ref p) M'
theorem mon_sp__law_stream : MonW sp__law_stream := fun hq ⟨c, m, e, h, q⟩ => ⟨c, m, e, h, fun p xs M' a b d f => hq _ _ (q p xs M' a b d f)⟩
theorem ok__law_stream (T : Txt K mg t) : FnOk P w K mg base CX0 1 t.f__law_stream t.d__law_stream ["cell", "many"] (liSp K sp__law_stream) := by
  refine T.F__law_stream.okM sc__law_stream (mkFts (Φ := []) (gb_of T) (gl_of' T) rfl (fun _ h => nomatch h) (fun _ h => nomatch h) : Fts P w K mg base 0 G__law_stream []) ir__law_stream ck__law_stream (fun vs M Q h => ?_) (fun vs M Q h => ?_)
  · obtain ⟨c, m, rfl, _⟩ := h; rfl
  obtain ⟨c, m, rfl, hm, q⟩ := h
  show wSs _ _ _ [some (.int c), some (.int m), none, none, none] M
  rw [ir__law_stream, i_law_stream_0]
  walk_at "s"
  intro p hp
  have s0 := SameM.new hp (.lst [])
  have h0 : updM M p (.lst []) p = some (.lst []) := updM_same
  generalize updM M p _ = M0 at *
  rw [i_law_stream_1]
  walk_at "s"
  rw [i_law_stream_2]
  walk_at "s"
  obtain ⟨J, hJ⟩ : ∃ J : Nat → Sm → MH → Prop, ∀ j σ M', J j σ M' ↔ SameM M M' ∧ (∃ (xs : List Nat) (x : Nat), xs.length = j ∧ x < 2305843009213693951 ∧ M' p = some (.lst (xs.map natI)) ∧ ∃ v, σ = [some (.int c), some (.int m), some (.ref p), some (.int x), v]) := ⟨_, fun _ _ _ => Iff.rfl⟩
  refine ⟨by omega, by omega, J, (hJ _ _ _).mpr ⟨s0, [], (c % 2305843009213693951).toNat, rfl, by omega, h0, _, by rw [Int.toNat_of_nonneg (by omega)]⟩, fun j σ M' h => trivial, ?_, ?_⟩
  · rintro j y σ M' hy h
    obtain ⟨s, xs, x, hl, hx, hd, v, rfl⟩ := (hJ _ _ _).mp h
    obtain ⟨hj, rfl⟩ := rng_item hy
    rw [i_law_stream_3]
    walk_at "s"
    refine ⟨.inl ⟨by omega, by omega⟩, ?_⟩
    obtain ⟨x', hx', hx2⟩ : ∃ x' : Nat, ((x : Int) * (x : Int) + 48271 * (x : Int) + (0 + (j : Int)) + 1) % 2305843009213693951 = (x' : Int) ∧ x' < 2305843009213693951 :=
      ⟨(((x : Int) * (x : Int) + 48271 * (x : Int) + (0 + (j : Int)) + 1) % 2305843009213693951).toNat, by omega, by omega⟩
    rw [hx', i_law_stream_4]
    repeat (first | walk_at "s" | simp only [hd, List.length_map])
    refine ⟨⟨_, rfl⟩, by simp at hj; omega, ?_⟩
    refine (hJ _ _ _).mpr ⟨s.upd hp _, xs ++ [x'], x', by simp [hl], hx2, ?_, _, rfl⟩
    rw [updM_same, List.map_append]; rfl
  · rintro σ M' h
    obtain ⟨s, xs, x, hl, hx, hd, v, rfl⟩ := (hJ _ _ _).mp h
    have el : (Src.rng 0 ((m : Int) + 3).toNat).len = m + 3 := by show ((m : Int) + 3).toNat = _; omega
    rw [el] at hl
    rw [i_law_stream_5]
    repeat (first | walk_at "s" | simp only [hd])
    intro p2 hp2
    have ec : cutM (xs.map natI) (some 3) none = (xs.drop 3).map natI := by
      have := cutM_from0 (xs.map natI) 3
      rw [List.map_drop]; exact this
    rw [ec]
    exact q p2 (xs.drop 3) _ (s.trans (SameM.new hp2 _)) (s.free hp2) updM_same (by rw [List.length_drop]; omega)
def codeP (k m : Nat) : List Nat := if k = 0 then (List.range (2 ^ m)).map fun n => n ^^^ n / 2 else if k = 1 then List.range (2 ^ m) else ((List.range (m + 3)).map fun n => 2 ^ n - 1) ++ (List.range (m + 1)).map fun n => 2 ^ (m + 2) - 2 ^ (1 + n)
def checkP (k m : Nat) : Bool := decide (codeP k m).Nodup && (codeP k m).all (fun c => decide (c < 256)) && decide (2 ≤ (codeP k m).length) && decide ((codeP k m).length ≤ 64)
theorem check_p : (List.range 3).all (fun k => (List.range 7).all fun m => m == 0 || checkP k m) = true := by decide +kernel
structure Small (cs : List Nat) : Prop where
  lo : 2 ≤ cs.length
  hi : cs.length ≤ 64
  lt : ∀ c ∈ cs, c < 256
  nd : cs.Nodup
theorem codeP_ok {k m : Nat} (hk : k < 3) (h1 : 1 ≤ m) (h6 : m ≤ 6) : Small (codeP k m) := by
  have := (List.all_eq_true.mp ((List.all_eq_true.mp check_p) k (List.mem_range.mpr hk))) m (List.mem_range.mpr (by omega))
  rw [Bool.or_eq_true] at this
  rcases this with z | z
  · rw [beq_iff_eq] at z; omega
  · unfold checkP at z
    simp only [Bool.and_eq_true, decide_eq_true_eq, List.all_eq_true] at z
    exact ⟨z.1.2, z.2, z.1.1.2, z.1.1.1⟩
theorem pow_le_six {m : Nat} (h6 : m ≤ 8) : 2 ^ m ≤ 256 := Nat.pow_le_pow_right (n := 2) (by decide) h6
theorem shl_nat (m : Nat) : (1 : Int) * 2 ^ ((m : Nat) : Int).toNat = ((2 ^ m : Nat) : Int) := by rw [Int.toNat_natCast, Int.one_mul, Int.natCast_pow]; rfl
abbrev sp__law_plain_code : SpM := fun vs M Q => ∃ k m : Nat, vs = [.int k, .int m] ∧ k < 3 ∧ 1 ≤ m ∧ m ≤ 6 ∧ ∀ p M', SameM M M' → M p = none → M' p = some (.lst ((codeP k m).map natI)) → Q (.ref p) M'
theorem mon_sp__law_plain_code : MonW sp__law_plain_code := fun hq ⟨k, m, e, a, b, c, q⟩ => ⟨k, m, e, a, b, c, fun p M' d f g => hq _ _ (q p M' d f g)⟩
theorem ok__law_plain_code (T : Txt K mg t) : FnOk P w K mg base CX0 1 t.f__law_plain_code t.d__law_plain_code ["kind", "m"] (liSp K sp__law_plain_code) := by
  refine T.F__law_plain_code.okM sc__law_plain_code (mkFts (Φ := []) (gb_of T) (gl_of' T) rfl (fun _ h => nomatch h) (fun _ h => nomatch h) : Fts P w K mg base 0 G__law_plain_code []) ir__law_plain_code ck__law_plain_code (fun vs M Q h => ?_) (fun vs M Q h => ?_)
  · obtain ⟨k, m, rfl, _⟩ := h; rfl
  obtain ⟨k, m, rfl, hk, h1, h6, q⟩ := h
  show wSs _ _ _ [some (.int k), some (.int m), none] M
  have hΦ := (mkMon (Φ := []) (fun _ h => nomatch h))
  have p6 := pow_le_six (m := m) (by omega)
  have ew := shl_nat m
  rw [ir__law_plain_code, i_law_plain_code_0]
  walk_at "s"
  refine ite_i (fun c => ?_) (fun c => ?_)
  · have k0 : k = 0 := by omega
    subst k0
    rw [i_law_plain_code_1]
    walk_at "s"
    refine comp_pure (List.range (2 ^ m)) (fun i => .int (0 + (i : Nat))) (fun i => natI (i ^^^ i / 2)) ?_ ?_ hΦ fun D hD => ?_
    · walk_at "s"
      rw [ew]
      refine ⟨⟨by omega, by omega⟩, Int.le_trans (by decide) (Int.natCast_nonneg (2 ^ m)), Int.lt_of_le_of_lt (Int.ofNat_le.mpr p6) (by decide), ?_⟩
      rw [Int.toNat_natCast]
      exact ⟨rfl, by rw [List.length_range]; omega, trivial⟩
    · intro i hi M' s
      have hi : i < 2 ^ m := by simpa using hi
      simp only [sCm, List.map_cons, List.map_nil, List.getD_cons_succ, List.getD_cons_zero, List.cons_append, List.nil_append]
      walk_at "s"
      have e2 : (i : Int) / 2 = ((i / 2 : Nat) : Int) := by omega
      rw [Int.zero_add, e2, bxor_nat]; rfl
    · exact q D _ (SameM.new hD _) hD (by rw [updM_same]; unfold codeP; rw [if_pos rfl, List.map_map]; rfl)
  rw [i_law_plain_code_2]
  walk_at "s"
  refine ite_i (fun c1 => ?_) (fun c1 => ?_)
  · have k1 : k = 1 := by omega
    subst k1
    rw [i_law_plain_code_3]
    walk_at "s"
    rw [ew]
    refine ⟨⟨by omega, by omega⟩, 2 ^ m, rfl, by omega, fun D hD => ?_⟩
    exact q D _ (SameM.new hD _) hD (by rw [updM_same]; unfold codeP; rw [if_neg (by omega), if_pos rfl]; rfl)
  · have k2 : k = 2 := by omega
    subst k2
    rw [i_law_plain_code_4]
    walk_at "s"
    refine comp_pure (List.range (m + 3)) (fun i => .int (0 + (i : Nat))) (fun i => natI (2 ^ i - 1)) ?_ ?_ hΦ fun D hD => ?_
    · walk_at "s"
      refine ⟨by omega, by omega, ?_⟩
      have e : ((m : Int) + 3).toNat = m + 3 := by omega
      rw [e]
      exact ⟨rfl, by rw [List.length_range]; omega, trivial⟩
    · intro i hi M' s
      have hi : i < m + 3 := by simpa using hi
      simp only [sCm, List.map_cons, List.map_nil, List.getD_cons_succ, List.getD_cons_zero, List.cons_append, List.nil_append]
      walk_at "s"
      have e3 := shl_nat i
      have := Nat.two_pow_pos i
      rw [Int.zero_add, e3]
      refine ⟨⟨by omega, by omega⟩, ?_⟩
      show MV.int _ = MV.int _
      congr 1
      omega
    have s1 := SameM.new hD (.lst ((List.range (m + 3)).map fun i => natI (2 ^ i - 1)))
    have hd1 : updM M D (.lst ((List.range (m + 3)).map fun i => natI (2 ^ i - 1))) D = some (.lst ((List.range (m + 3)).map fun i => natI (2 ^ i - 1))) := updM_same
    generalize updM M D _ = M1 at *
    rw [i_law_plain_code_5]
    walk_at "s"
    refine comp_pure (List.range (m + 1)) (fun i => .int (1 + (i : Nat))) (fun i => natI (2 ^ (m + 2) - 2 ^ (1 + i))) ?_ ?_ hΦ fun D2 hD2 => ?_
    · walk_at "s"
      refine ⟨⟨by omega, by omega⟩, ?_⟩
      have e : ((m : Int) + 2 - 1).toNat = m + 1 := by omega
      rw [e]
      exact ⟨rfl, by rw [List.length_range]; omega, trivial⟩
    · intro i hi M' s
      have hi : i < m + 1 := by simpa using hi
      simp only [sCm, List.map_cons, List.map_nil, List.getD_cons_succ, List.getD_cons_zero, List.cons_append, List.nil_append]
      walk_at "s"
      have e3 := shl_nat (1 + i)
      have e4 := shl_nat (m + 2)
      have le : 2 ^ (1 + i) ≤ 2 ^ (m + 2) := Nat.pow_le_pow_right (by decide) (by omega)
      have e5 : (1 : Int) + (i : Int) = ((1 + i : Nat) : Int) := by omega
      have e6 : (m : Int) + 2 = ((m + 2 : Nat) : Int) := by omega
      rw [e5, e6, e3, e4]
      refine ⟨⟨by omega, by omega⟩, ⟨by omega, by omega⟩, ?_⟩
      show MV.int _ = MV.int _
      congr 1
      omega
    have s2 := SameM.new hD2 (.lst ((List.range (m + 1)).map fun i => natI (2 ^ (m + 2) - 2 ^ (1 + i))))
    have hd2 : updM M1 D2 (.lst ((List.range (m + 1)).map fun i => natI (2 ^ (m + 2) - 2 ^ (1 + i)))) D2 = some (.lst ((List.range (m + 1)).map fun i => natI (2 ^ (m + 2) - 2 ^ (1 + i)))) := updM_same
    generalize updM M1 D2 _ = M2 at *
    rw [q_addl]
    refine ⟨_, _, s2 _ _ hd1, hd2, by simp only [List.length_map, List.length_range]; rw [szl]; omega, fun p hp => ?_⟩
    refine q p _ ((s1.trans s2).trans (SameM.new hp _)) ((s1.trans s2).free hp) ?_
    rw [updM_same]
    unfold codeP
    rw [if_neg (by omega), if_neg (by omega), List.map_append, List.map_map, List.map_map]; rfl
def sprd (b w : Nat) : Nat → Nat
  | 0 => 0
  | k + 1 => sprd b w k + w / 2 ^ k % 2 * 2 ^ ((k * 3 + b) % 16)
def unsp (b v : Nat) : Nat → Nat
  | 0 => 0
  | k + 1 => unsp b v k + v / 2 ^ ((k * 3 + b) % 16) % 2 * 2 ^ k
theorem check_sp : (List.range 16).all (fun b => (List.range 256).all fun w => decide (unsp b (sprd b w 8) 8 = w) && decide (sprd b w 8 < 65536)) = true := by decide +kernel
theorem sp_ok {b w : Nat} (hb : b < 16) (hw : w < 256) : unsp b (sprd b w 8) 8 = w ∧ sprd b w 8 < 65536 := by
  have := (List.all_eq_true.mp ((List.all_eq_true.mp check_sp) b (List.mem_range.mpr hb))) w (List.mem_range.mpr hw)
  simpa using this
def turnC (b k : Nat) (cs : List Nat) : List Nat := cs.map fun w => sprd b w 8 ^^^ k
theorem turn_good {b k : Nat} {cs : List Nat} (hb : b < 16) (hk : k < 65536) (g : Small cs) : Good (turnC b k cs) := by
  refine ⟨by unfold turnC; rw [List.length_map]; exact g.lo, by unfold turnC; rw [List.length_map]; exact g.hi, fun c hc => ?_, ?_⟩
  · obtain ⟨w, hw, rfl⟩ := List.mem_map.mp hc
    exact Nat.xor_lt_two_pow (n := 16) (sp_ok hb (g.lt w hw)).2 hk
  · unfold turnC List.Nodup
    rw [List.pairwise_map]
    have aux : ∀ cs : List Nat, (∀ c ∈ cs, c < 256) → cs.Nodup → cs.Pairwise fun a b' => sprd b a 8 ^^^ k ≠ sprd b b' 8 ^^^ k := by
      intro cs
      induction cs with
      | nil => intro _ _; exact .nil
      | cons c r ih =>
        intro h nd
        rw [List.nodup_cons] at nd
        refine .cons (fun x hx e => nd.1 ?_) (ih (fun y hy => h y (List.mem_cons_of_mem _ hy)) nd.2)
        have e2 : sprd b c 8 = sprd b x 8 := by
          have := congrArg (· ^^^ k) e
          simpa [Nat.xor_assoc] using this
        have h1 := (sp_ok hb (h c (List.mem_cons_self ..))).1
        have h2 := (sp_ok hb (h x (List.mem_cons_of_mem _ hx))).1
        rw [e2, h2] at h1
        rw [← h1]; exact hx
    exact aux cs g.lt g.nd
abbrev sp__law_turned : SpM := fun vs M Q => ∃ (p : Addr) (cs : List Nat) (b k : Nat), vs = [.ref p, .int b, .int k] ∧ M p = some (.lst (cs.map natI)) ∧ cs.length ≤ 64 ∧ b < 16 ∧ k < 65536 ∧ ∀ p' M', SameM M M' → M p' = none → M' p' = some (.lst ((turnC b k cs).map natI)) → Q (.ref p') M'
theorem mon_sp__law_turned : MonW sp__law_turned := fun hq ⟨p, cs, b, k, e, a1, a2, a3, a4, q⟩ => ⟨p, cs, b, k, e, a1, a2, a3, a4, fun p' M' x y z => hq _ _ (q p' M' x y z)⟩
theorem ok__law_turned (T : Txt K mg t) : FnOk P w K mg base CX0 1 t.f__law_turned t.d__law_turned ["code", "by", "mask"] (liSp K sp__law_turned) := by
  refine T.F__law_turned.okM sc__law_turned (mkFts (Φ := []) (gb_of T) (gl_of' T) rfl (fun _ h => nomatch h) (fun _ h => nomatch h) : Fts P w K mg base 0 G__law_turned []) ir__law_turned ck__law_turned (fun vs M Q h => ?_) (fun vs M Q h => ?_)
  · obtain ⟨p, cs, b, k, rfl, _⟩ := h; rfl
  obtain ⟨p, cs, b, k, rfl, hp, hl, hb, hk, q⟩ := h
  show wSs _ _ _ [some (.ref p), some (.int b), some (.int k), none, none, none, none] M
  rw [ir__law_turned, i_law_turned_0]
  walk_at "s"
  intro D hD
  have s0 := SameM.new hD (.lst [])
  have h0 : updM M D (.lst []) D = some (.lst []) := updM_same
  generalize updM M D _ = M0 at *
  rw [i_law_turned_1]
  repeat (first | walk_at "s" | simp only [s0 _ _ hp])
  obtain ⟨J, hJ⟩ : ∃ J : Nat → Sm → MH → Prop, ∀ j σ M', J j σ M' ↔ SameM M M' ∧ M' D = some (.lst ((turnC b k (cs.take j)).map natI)) ∧ ∃ v4 v5 v6, σ = [some (.ref p), some (.int b), some (.int k), some (.ref D), v4, v5, v6] := ⟨_, fun _ _ _ => Iff.rfl⟩
  refine ⟨J, (hJ _ _ _).mpr ⟨s0, h0, _, _, _, rfl⟩, fun j σ M' h => ((hJ _ _ _).mp h).1 _ _ hp, ?_, ?_⟩
  · rintro j y σ M' hy h
    obtain ⟨s, hd, v4, v5, v6, rfl⟩ := (hJ _ _ _).mp h
    obtain ⟨hj, rfl⟩ := map_item (show (cs.map natI)[j]? = some y from hy)
    rw [i_law_turned_2]
    walk_at "s"
    rw [i_law_turned_3]
    walk_at "s"
    obtain ⟨J', hJ'⟩ : ∃ J' : Nat → Sm → MH → Prop, ∀ i σ M'', J' i σ M'' ↔ M'' = M' ∧ i ≤ 8 ∧ ∃ v6, σ = [some (.ref p), some (.int b), some (.int k), some (.ref D), some (.int (cs[j] : Nat)), some (.int (sprd b cs[j] i : Nat)), v6] := ⟨_, fun _ _ _ => Iff.rfl⟩
    refine ⟨J', (hJ' _ _ _).mpr ⟨rfl, by decide, _, rfl⟩, fun j σ M' h => trivial, ?_, ?_⟩
    · rintro i y σ M'' hy h
      obtain ⟨rfl, _, v6, rfl⟩ := (hJ' _ _ _).mp h
      obtain ⟨hi, rfl⟩ := rng_item hy
      have hi : i < 8 := hi
      rw [i_law_turned_4]
      walk_at "s"
      have e1 := shl_nat i
      have e2 : ((i : Int) * 3 + (b : Int)) % 16 = (((i * 3 + b) % 16 : Nat) : Int) := by omega
      have e3 := shl_nat ((i * 3 + b) % 16)
      have p1 := Nat.two_pow_pos i
      have p2 := pow_le_six (m := i) (by omega)
      have ev : ((sprd b cs[j] (i + 1) : Nat) : Int) = ((sprd b cs[j] i : Nat) : Int) + ((cs[j] : Nat) : Int) / ((2 ^ i : Nat) : Int) % 2 * ((2 ^ ((i * 3 + b) % 16) : Nat) : Int) := by
        show ((sprd b cs[j] i + cs[j] / 2 ^ i % 2 * 2 ^ ((i * 3 + b) % 16) : Nat) : Int) = _
        rw [Int.natCast_add, Int.natCast_mul, Int.natCast_emod, Int.natCast_ediv]; rfl
      simp only [Int.zero_add, e2]
      rw [e1, e3, ← ev]
      refine ⟨⟨by omega, by omega⟩, ⟨Int.ofNat_lt.mpr p1, Int.lt_of_le_of_lt (Int.ofNat_le.mpr p2) (by decide)⟩, ⟨by omega, by omega⟩, .inl ⟨by omega, by omega⟩, ?_⟩
      exact (hJ' _ _ _).mpr ⟨rfl, by omega, _, rfl⟩
    · rintro σ M'' h
      obtain ⟨rfl, _, v6, rfl⟩ := (hJ' _ _ _).mp h
      rw [i_law_turned_5]
      repeat (first | walk_at "s" | simp only [hd, List.length_map])
      have e8 : (Src.rng 0 8).len = 8 := rfl
      rw [e8, bxor_nat]
      refine ⟨⟨_, rfl⟩, ?_, ?_⟩
      · unfold turnC
        rw [List.length_map, List.length_take]; omega
      · refine (hJ _ _ _).mpr ⟨s.upd hD _, ?_, _, _, _, rfl⟩
        rw [updM_same, List.take_add_one, List.getElem?_eq_getElem hj]
        unfold turnC
        rw [List.map_append, List.map_append]; rfl
  · rintro σ M' h
    obtain ⟨s, hd, v4, v5, v6, rfl⟩ := (hJ _ _ _).mp h
    rw [i_law_turned_6]
    walk_at "s"
    have el : (Src.lst p (cs.map natI)).len = cs.length := List.length_map _
    rw [el, List.take_length] at hd
    exact q D M' s hD hd
theorem sub_len : ∀ {L cs : List Nat}, L.Nodup → (∀ x ∈ L, x ∈ cs) → L.length ≤ cs.length
  | [], _, _, _ => Nat.zero_le _
  | a :: L, cs, nd, h => by
    rw [List.nodup_cons] at nd
    have ha := h a (List.mem_cons_self ..)
    have := sub_len (cs := cs.erase a) nd.2 fun x hx => by
      have hne : x ≠ a := fun e => nd.1 (e ▸ hx)
      exact (List.mem_erase_of_ne hne).mpr (h x (List.mem_cons_of_mem _ hx))
    rw [List.length_erase_of_mem ha] at this
    have hp : 0 < cs.length := List.length_pos_of_mem ha
    rw [List.length_cons]; omega
theorem free_at {cs : List Nat} (h : cs.length ≤ 64) (w : Nat) : ∃ m, (w + m) % 65536 ∉ cs := by
  refine Classical.byContradiction fun z => ?_
  have z : ∀ m, (w + m) % 65536 ∈ cs := fun m => Classical.byContradiction fun y => z ⟨m, y⟩
  have nd : ((List.range 65).map fun m => (w + m) % 65536).Nodup := by
    unfold List.Nodup
    rw [List.pairwise_map]
    refine List.Pairwise.imp_of_mem (R := fun a b => a ≠ b) (fun ha hb ne e => ?_) List.nodup_range
    have ha := List.mem_range.mp ha
    have hb := List.mem_range.mp hb
    omega
  have := sub_len nd fun x hx => by
    obtain ⟨m, _, rfl⟩ := List.mem_map.mp hx
    exact z m
  rw [List.length_map, List.length_range] at this
  omega
theorem in_nat (w : Nat) : ∀ cs : List Nat, inV (toV (.int w)) ((cs.map natI).map toV) = decide (w ∈ cs)
  | [] => rfl
  | c :: r => by
    have ih := in_nat w r
    have e : inV (toV (.int w)) (((c :: r).map natI).map toV) = (((c : Int) == (w : Int)) || inV (toV (.int w)) ((r.map natI).map toV)) := rfl
    rw [e, ih]
    by_cases h : w = c
    · subst h; simp
    · have : ((c : Int) == (w : Int)) = false := by rw [beq_eq_false_iff_ne]; exact fun z => h (Int.ofNat.inj z).symm
      rw [this, Bool.false_or]
      simp [h]
theorem flat_nat (cs : List Nat) : (cs.map natI).all flatM = true := by
  rw [List.all_eq_true]
  intro x hx
  obtain ⟨c, _, rfl⟩ := List.mem_map.mp hx
  rfl
abbrev sp__law_drawn : SpM := fun vs M Q => ∃ (c : Int) (m : Nat), vs = [.int c, .int m] ∧ 2 ≤ m ∧ m ≤ 64 ∧ ∀ p cs M', SameM M M' → M p = none → M' p = some (.lst (cs.map natI)) → Good cs → Q (.ref p) M'
theorem mon_sp__law_drawn : MonW sp__law_drawn := fun hq ⟨c, m, e, h1, h2, q⟩ => ⟨c, m, e, h1, h2, fun p cs M' a b d f => hq _ _ (q p cs M' a b d f)⟩
theorem ok__law_drawn (T : Txt K mg t) : FnOk P w K mg base CX0 2 t.f__law_drawn t.d__law_drawn ["cell", "many"] (liSp K sp__law_drawn) := by
  refine T.F__law_drawn.okM sc__law_drawn (mkFts (Φ := [("_law_stream", sp__law_stream)]) (gb_of T) (gl_of' T) rfl (List.forall_mem_cons.2 ⟨mon_sp__law_stream, (fun _ h => nomatch h)⟩) (List.forall_mem_cons.2 ⟨⟨_, _, _, (FnOk.mono (ok__law_stream T) (by decide)), T.m__law_stream, T.F__law_stream.kp, T.b__law_stream⟩, (fun _ h => nomatch h)⟩) : Fts P w K mg base 1 G__law_drawn [("_law_stream", sp__law_stream)]) ir__law_drawn ck__law_drawn (fun vs M Q h => ?_) (fun vs M Q h => ?_)
  · obtain ⟨c, m, rfl, _⟩ := h; rfl
  obtain ⟨c, m, rfl, h1, h2, q⟩ := h
  show wSs _ _ _ [some (.int c), some (.int m), none, none, none] M
  rw [ir__law_drawn, i_law_drawn_0]
  walk_at "s"
  intro D hD
  have s0 := SameM.new hD (.lst [])
  have h0 : updM M D (.lst []) D = some (.lst []) := updM_same
  generalize updM M D _ = M0 at *
  rw [i_law_drawn_1]
  walk_at "s"
  refine ⟨c, m, rfl, by omega, fun px xs M1 s1 hpx hx hl => ?_⟩
  have s01 := s0.trans s1
  have hd1 := s1 _ _ h0
  have dpx : D ≠ px := neM h0 hpx
  repeat (first | walk_at "s" | simp only [hx])
  obtain ⟨J, hJ⟩ : ∃ J : Nat → Sm → MH → Prop, ∀ j σ M', J j σ M' ↔ SameM M M' ∧ M' px = some (.lst (xs.map natI)) ∧ (∃ cs : List Nat, cs.length = j ∧ cs.Nodup ∧ (∀ c ∈ cs, c < 65536) ∧ M' D = some (.lst (cs.map natI))) ∧ ∃ v3 v4, σ = [some (.int c), some (.int m), some (.ref D), v3, v4] := ⟨_, fun _ _ _ => Iff.rfl⟩
  refine ⟨J, (hJ _ _ _).mpr ⟨s01, hx, ⟨[], rfl, List.nodup_nil, fun c h => (nomatch h), hd1⟩, _, _, rfl⟩, fun j σ M' h => ((hJ _ _ _).mp h).2.1, ?_, ?_⟩
  · rintro j y σ M' hy h
    obtain ⟨s, hx, ⟨cs, hl2, nd, lt, hd⟩, v3, v4, rfl⟩ := (hJ _ _ _).mp h
    obtain ⟨hj, rfl⟩ := map_item (show (xs.map natI)[j]? = some y from hy)
    rw [i_law_drawn_2]
    repeat (first | walk_at "s" | simp only [natI])
    rw [i_law_drawn_3]
    walk_at "s"
    obtain ⟨J', hJ'⟩ : ∃ J' : Nat → Sm → MH → Prop, ∀ k σ M'', J' k σ M'' ↔ M'' = M' ∧ ∃ w : Nat, w < 65536 ∧ (w + k) % 65536 ∉ cs ∧ σ = [some (.int c), some (.int m), some (.ref D), some (.int (xs[j] : Nat)), some (.int w)] := ⟨_, fun _ _ _ => Iff.rfl⟩
    obtain ⟨k0, hk0⟩ := free_at (cs := cs) (by omega) (xs[j] % 65536)
    refine ⟨J', ⟨k0, (hJ' _ _ _).mpr ⟨rfl, xs[j] % 65536, by omega, hk0, ?_⟩⟩, ?_⟩
    · have : ((xs[j] : Nat) : Int) % 65536 = ((xs[j] % 65536 : Nat) : Int) := by omega
      rw [this]
    · rintro k σ M'' h
      obtain ⟨rfl, w, hw, hk, rfl⟩ := (hJ' _ _ _).mp h
      walk_at "s"
      refine .inl ⟨_, hd, rfl, flat_nat cs, ?_⟩
      rw [in_nat]
      by_cases hin : w ∈ cs
      · rw [decide_eq_true hin]
        dsimp only
        rw [if_pos rfl, i_law_drawn_4]
        walk_at "s"
        have hk0 : k ≠ 0 := fun e => hk (by rw [e, Nat.add_zero, Nat.mod_eq_of_lt hw]; exact hin)
        have e1 : ((w : Int) + 1) % 65536 = (((w + 1) % 65536 : Nat) : Int) := by omega
        refine ⟨k - 1, by omega, (hJ' _ _ _).mpr ⟨rfl, (w + 1) % 65536, by omega, ?_, by rw [e1]⟩⟩
        have e2 : ((w + 1) % 65536 + (k - 1)) % 65536 = (w + k) % 65536 := by omega
        rw [e2]; exact hk
      · rw [decide_eq_false hin]
        dsimp only
        rw [if_neg (by simp), i_law_drawn_5]
        repeat (first | walk_at "s" | simp only [hd, List.length_map])
        refine ⟨⟨_, rfl⟩, by omega, ?_⟩
        refine (hJ _ _ _).mpr ⟨s.upd hD _, ?_, ⟨cs ++ [w], by simp [hl2], ?_, fun c hc => ?_, ?_⟩, _, _, rfl⟩
        · rw [updM_ne dpx.symm]; exact hx
        · rw [List.nodup_append]
          refine ⟨nd, by simp, fun a ha b hb e => ?_⟩
          rw [List.mem_singleton] at hb
          subst hb e
          exact hin ha
        · rcases List.mem_append.mp hc with hc | hc
          · exact lt c hc
          · rw [List.mem_singleton] at hc; subst hc; exact hw
        · rw [updM_same, List.map_append]; rfl
  · rintro σ M' h
    obtain ⟨s, hx, ⟨cs, hl2, nd, lt, hd⟩, v3, v4, rfl⟩ := (hJ _ _ _).mp h
    rw [i_law_drawn_6]
    walk_at "s"
    have el : (Src.lst px (xs.map natI)).len = xs.length := List.length_map _
    rw [el] at hl2
    exact q D cs M' s hD hd ⟨by omega, by omega, lt, nd⟩
theorem Good.rot {cs : List Nat} (g : Good cs) (a : Nat) : Good (cs.drop a ++ cs.take a) := by
  have pm : (cs.drop a ++ cs.take a).Perm cs := by
    have := List.perm_append_comm (l₁ := cs.drop a) (l₂ := cs.take a)
    rwa [List.take_append_drop] at this
  exact ⟨by rw [pm.length_eq]; exact g.lo, by rw [pm.length_eq]; exact g.hi, fun c hc => g.lt c (pm.mem_iff.mp hc), pm.nodup_iff.mpr g.nd⟩
theorem Good.rev {cs : List Nat} (g : Good cs) : Good cs.reverse :=
  ⟨by rw [List.length_reverse]; exact g.lo, by rw [List.length_reverse]; exact g.hi, fun c hc => g.lt c (List.mem_reverse.mp hc), (List.reverse_perm cs).nodup_iff.mpr g.nd⟩
theorem Good.pop {cs : List Nat} (g : Good cs) {k : Nat} (hk : k < cs.length) (h : 2 < cs.length) : Good (cs.eraseIdx k) := by
  have l := List.length_eraseIdx_of_lt hk
  have ghi := g.hi
  exact ⟨by omega, by omega, fun c hc => g.lt c (List.mem_of_mem_eraseIdx hc), g.nd.sublist (List.eraseIdx_sublist ..)⟩
theorem Good.swap {cs : List Nat} (g : Good cs) {i j : Nat} (hi : i < cs.length) (hj : j < cs.length) : Good ((cs.set i cs[j]).set j cs[i]) := by
  have at' : ∀ (k : Nat) (hk : k < ((cs.set i cs[j]).set j cs[i]).length), ∃ k', ∃ hk' : k' < cs.length, ((cs.set i cs[j]).set j cs[i])[k] = cs[k'] ∧ ((k = j ∧ k' = i) ∨ (k ≠ j ∧ k = i ∧ k' = j) ∨ (k ≠ j ∧ k ≠ i ∧ k' = k)) := by
    intro k hk
    have hk2 : k < cs.length := by simpa using hk
    rw [List.getElem_set]
    by_cases e : j = k
    · rw [if_pos e]; exact ⟨i, hi, rfl, .inl ⟨e.symm, rfl⟩⟩
    · rw [if_neg e, List.getElem_set]
      by_cases e2 : i = k
      · rw [if_pos e2]; exact ⟨j, hj, rfl, .inr (.inl ⟨fun z => e z.symm, e2.symm, rfl⟩)⟩
      · rw [if_neg e2]; exact ⟨k, hk2, rfl, .inr (.inr ⟨fun z => e z.symm, fun z => e2 z.symm, rfl⟩)⟩
  refine ⟨by simp; exact g.lo, by simp; exact g.hi, fun c hc => ?_, ?_⟩
  · obtain ⟨k, hk, rfl⟩ := List.getElem_of_mem hc
    obtain ⟨k', hk', e, _⟩ := at' k hk
    rw [e]; exact g.lt _ (List.getElem_mem hk')
  · unfold List.Nodup
    rw [List.pairwise_iff_getElem]
    intro a b ha hb hab e
    obtain ⟨a', ha', ea, ca⟩ := at' a ha
    obtain ⟨b', hb', eb, cb⟩ := at' b hb
    rw [ea, eb] at e
    have := (List.getElem_inj g.nd).mp e
    omega
theorem ixN_nat {n k : Nat} (h : k < n) : ixN n (k : Int) = some k := by
  unfold ixN
  rw [if_pos (by omega), if_pos (by omega)]
  simp
abbrev sp__law_code : SpM := fun vs M Q => ∃ f s : Int, vs = [.int f, .int s] ∧ ∀ p cs M', SameM M M' → M p = none → M' p = some (.lst (cs.map natI)) → Good cs → Q (.ref p) M'
theorem mon_sp__law_code : MonW sp__law_code := fun hq ⟨f, s, e, q⟩ => ⟨f, s, e, fun p cs M' a b d g => hq _ _ (q p cs M' a b d g)⟩
theorem ok__law_code (T : Txt K mg t) : FnOk P w K mg base CX0 3 t.f__law_code t.d__law_code ["first", "second"] (liSp K sp__law_code) := by
  refine T.F__law_code.okM sc__law_code (mkFts (Φ := [("_law_drawn", sp__law_drawn), ("_law_plain_code", sp__law_plain_code), ("_law_stream", sp__law_stream), ("_law_turned", sp__law_turned)]) (gb_of T) (gl_of' T) rfl (List.forall_mem_cons.2 ⟨mon_sp__law_drawn, (List.forall_mem_cons.2 ⟨mon_sp__law_plain_code, (List.forall_mem_cons.2 ⟨mon_sp__law_stream, (List.forall_mem_cons.2 ⟨mon_sp__law_turned, (fun _ h => nomatch h)⟩)⟩)⟩)⟩) (List.forall_mem_cons.2 ⟨⟨_, _, _, (FnOk.mono (ok__law_drawn T) (by decide)), T.m__law_drawn, T.F__law_drawn.kp, T.b__law_drawn⟩, (List.forall_mem_cons.2 ⟨⟨_, _, _, (FnOk.mono (ok__law_plain_code T) (by decide)), T.m__law_plain_code, T.F__law_plain_code.kp, T.b__law_plain_code⟩, (List.forall_mem_cons.2 ⟨⟨_, _, _, (FnOk.mono (ok__law_stream T) (by decide)), T.m__law_stream, T.F__law_stream.kp, T.b__law_stream⟩, (List.forall_mem_cons.2 ⟨⟨_, _, _, (FnOk.mono (ok__law_turned T) (by decide)), T.m__law_turned, T.F__law_turned.kp, T.b__law_turned⟩, (fun _ h => nomatch h)⟩)⟩)⟩)⟩) : Fts P w K mg base 2 G__law_code [("_law_drawn", sp__law_drawn), ("_law_plain_code", sp__law_plain_code), ("_law_stream", sp__law_stream), ("_law_turned", sp__law_turned)]) ir__law_code ck__law_code (fun vs M Q h => ?_) (fun vs M Q h => ?_)
  · obtain ⟨f, s, rfl, _⟩ := h; rfl
  obtain ⟨f, s, rfl, q⟩ := h
  show wSs _ _ _ [some (.int f), some (.int s), none, none, none, none, none, none] M
  rw [ir__law_code, i_law_code_0]
  walk_at "s"
  refine ⟨s, 6, rfl, by decide, fun pn xs M1 s1 hpn hx hl => ?_⟩
  have nat6 : ∀ k, k < 6 → ∃ x : Nat, xs[k]? = some x := fun k hk => ⟨_, List.getElem?_eq_getElem (by omega)⟩
  obtain ⟨x0, e0⟩ := nat6 0 (by decide)
  obtain ⟨x1, e1⟩ := nat6 1 (by decide)
  obtain ⟨x2, e2⟩ := nat6 2 (by decide)
  obtain ⟨x3, e3⟩ := nat6 3 (by decide)
  obtain ⟨x4, e4⟩ := nat6 4 (by decide)
  obtain ⟨x5, e5⟩ := nat6 5 (by decide)
  have n0 : atI (xs.map natI) 0 = some (.int x0) := nat_at (k := 0) e0
  have n1 : atI (xs.map natI) 1 = some (.int x1) := nat_at (k := 1) e1
  have n2 : atI (xs.map natI) 2 = some (.int x2) := nat_at (k := 2) e2
  have n3 : atI (xs.map natI) 3 = some (.int x3) := nat_at (k := 3) e3
  have n4 : atI (xs.map natI) 4 = some (.int x4) := nat_at (k := 4) e4
  have n5 : atI (xs.map natI) 5 = some (.int x5) := nat_at (k := 5) e5
  have r15 : ∀ (M' : MH) (p : Addr) (cs : List Nat) (v4 v6 v7 : Option MV) (o : Nat), SameM M M' → M p = none → pn ≠ p → M' pn = some (.lst (xs.map natI)) → M' p = some (.lst (cs.map natI)) → Good cs → o < cs.length →
      wSs ([("_law_drawn", sp__law_drawn), ("_law_plain_code", sp__law_plain_code), ("_law_stream", sp__law_stream), ("_law_turned", sp__law_turned)] : List (Str × SpM)) i_law_code_15 { nx := fun _ M' => Q .non M', rt := Q } [some (.int f), some (.int s), some (.ref pn), some (.ref p), v4, some (.int o), v6, v7] M' := by
    intro M' p cs v4 v6 v7 o s' fp np hpn' hp g ho
    have glo := g.lo
    have ghi := g.hi
    rw [i_law_code_15]
    repeat (first | walk_at "s" | simp only [hpn'])
    refine ⟨_, n5, ?_⟩
    walk_at "s"
    refine ite_i (fun c => ?_) (fun c => ?_)
    · repeat (first | walk_at "s" | simp only [hp, List.length_map])
      refine ite_i (fun c2 => ?_) (fun c2 => ?_)
      · rw [i_law_code_16]
        repeat (first | walk_at "s" | simp only [hp])
        have hc : 2 < cs.length := by omega
        refine ⟨⟨_, rfl⟩, show ∃ ys, M' p = some (.lst ys) ∧ ∃ k y, -(2 ^ 63) ≤ (o : Int) ∧ (o : Int) < 2 ^ 63 ∧ seqIndex? (o : Int) ys.length = some k ∧ ys[k]? = some y ∧ _ from ⟨_, hp, o, .int (cs[o] : Nat), by omega, by omega, ?_, by rw [List.getElem?_map, List.getElem?_eq_getElem ho]; rfl, ?_⟩⟩
        · rw [List.length_map]
          have := seqIndex_of (k := (o : Int)) (n := cs.length) (by omega) (by simpa using ho)
          simpa using this
        · rw [i_law_code_17]
          walk_at "s"
          refine q p (cs.eraseIdx o) _ (s'.upd fp _) fp ?_ (g.pop ho hc)
          rw [updM_same]
          congr 2
          rw [List.eraseIdx_eq_take_drop_succ, List.eraseIdx_eq_take_drop_succ, List.map_append, List.map_take, List.map_drop]
      · rw [i_law_code_17]
        walk_at "s"
        exact q p cs M' s' fp hp g
    · rw [i_law_code_17]
      walk_at "s"
      exact q p cs M' s' fp hp g
  have r9 : ∀ (M' : MH) (p : Addr) (cs : List Nat) (v4 : Option MV), SameM M M' → M p = none → pn ≠ p → M' pn = some (.lst (xs.map natI)) → M' p = some (.lst (cs.map natI)) → Good cs →
      wSs ([("_law_drawn", sp__law_drawn), ("_law_plain_code", sp__law_plain_code), ("_law_stream", sp__law_stream), ("_law_turned", sp__law_turned)] : List (Str × SpM)) i_law_code_9 { nx := fun _ M' => Q .non M', rt := Q } [some (.int f), some (.int s), some (.ref pn), some (.ref p), v4, none, none, none] M' := by
    intro M' p cs v4 s' fp np hpn' hp g
    have glo := g.lo
    have ghi := g.hi
    have o3 : x3 % cs.length < cs.length := Nat.mod_lt _ (by omega)
    have o4 : x4 % cs.length < cs.length := Nat.mod_lt _ (by omega)
    have c3 : (x3 : Int) % (cs.length : Int) = ((x3 % cs.length : Nat) : Int) := (Int.natCast_emod ..).symm
    have c4 : (x4 : Int) % (cs.length : Int) = ((x4 % cs.length : Nat) : Int) := (Int.natCast_emod ..).symm
    rw [i_law_code_9]
    repeat (first | walk_at "s" | simp only [hpn'])
    refine ⟨_, n3, ?_⟩
    repeat (first | walk_at "s" | simp only [hp, List.length_map])
    refine ⟨by omega, ?_⟩
    rw [c3, i_law_code_10]
    repeat (first | walk_at "s" | simp only [hpn'])
    refine ⟨_, n4, ?_⟩
    repeat (first | walk_at "s" | simp only [hp, List.length_map])
    refine ⟨by omega, ?_⟩
    rw [c4, i_law_code_11]
    repeat (first | walk_at "s" | simp only [hpn'])
    refine ⟨_, n5, ?_⟩
    walk_at "s"
    refine ite_i (fun c => ?_) (fun c => ?_)
    · rw [i_law_code_12]
      repeat (first | walk_at "s" | simp only [hp])
      refine ⟨_, nat_at (List.getElem?_eq_getElem o3), ?_⟩
      rw [i_law_code_13]
      repeat (first | walk_at "s" | simp only [hp])
      refine ⟨_, nat_at (List.getElem?_eq_getElem o4), ?_⟩
      repeat (first | walk_at "s" | simp only [hp, List.length_map])
      refine ⟨_, ixN_nat o3, ?_⟩
      have hp2 : updM M' p (.lst ((cs.map natI).set (x3 % cs.length) (.int (cs[x4 % cs.length] : Nat)))) p = some (.lst ((cs.set (x3 % cs.length) cs[x4 % cs.length]).map natI)) := by rw [updM_same, List.map_set]; rfl
      have s2 := s'.upd fp (.lst ((cs.map natI).set (x3 % cs.length) (.int (cs[x4 % cs.length] : Nat))))
      have hpn2 : updM M' p (.lst ((cs.map natI).set (x3 % cs.length) (.int (cs[x4 % cs.length] : Nat)))) pn = some (.lst (xs.map natI)) := by rw [updM_ne np]; exact hpn'
      generalize updM M' p _ = M2 at *
      rw [i_law_code_14]
      repeat (first | walk_at "s" | simp only [hp2, List.length_map, List.length_set])
      refine ⟨_, ixN_nat o4, ?_⟩
      refine r15 _ p ((cs.set (x3 % cs.length) cs[x4 % cs.length]).set (x4 % cs.length) cs[x3 % cs.length]) _ _ _ _ (s2.upd fp _) fp np ?_ ?_ (g.swap o3 o4) (by simpa using o3)
      · rw [updM_ne np]; exact hpn2
      · rw [updM_same]; exact congrArg (fun z => some (MO.lst z)) List.map_set.symm
    · exact r15 M' p cs _ _ _ _ s' fp np hpn' hp g o3
  have r5 : ∀ (M' : MH) (p : Addr) (cs : List Nat), SameM M M' → M' pn = some (.lst (xs.map natI)) → M' p = some (.lst (cs.map natI)) → Good cs →
      wSs ([("_law_drawn", sp__law_drawn), ("_law_plain_code", sp__law_plain_code), ("_law_stream", sp__law_stream), ("_law_turned", sp__law_turned)] : List (Str × SpM)) i_law_code_5 { nx := fun _ M' => Q .non M', rt := Q } [some (.int f), some (.int s), some (.ref pn), some (.ref p), none, none, none, none] M' := by
    intro M' p cs s' hpn' hp g
    have glo := g.lo
    have ghi := g.hi
    have o2 : x2 % cs.length < cs.length := Nat.mod_lt _ (by omega)
    have c2 : (x2 : Int) % (cs.length : Int) = ((x2 % cs.length : Nat) : Int) := (Int.natCast_emod ..).symm
    rw [i_law_code_5]
    repeat (first | walk_at "s" | simp only [hpn'])
    refine ⟨_, n2, ?_⟩
    repeat (first | walk_at "s" | simp only [hp, List.length_map])
    refine ⟨by omega, ?_⟩
    rw [c2, i_law_code_6]
    generalize x2 % cs.length = a at *
    repeat (first | walk_at "s" | simp only [hp])
    have ec1 : cutM (cs.map natI) (some (a : Int)) none = (cs.drop a).map natI := by rw [cutM_from0, List.map_drop]
    have ec2 : cutM (cs.map natI) none (some (a : Int)) = (cs.take a).map natI := by rw [cutM_upto0, List.map_take]
    rw [ec1]
    intro p1 hp1
    have t1 := SameM.new hp1 (.lst ((cs.drop a).map natI))
    have h1 : updM M' p1 (.lst ((cs.drop a).map natI)) p1 = some (.lst ((cs.drop a).map natI)) := updM_same
    generalize updM M' p1 _ = Ma at *
    repeat (first | walk_at "s" | simp only [t1 _ _ hp])
    rw [ec2]
    intro p2 hp2
    have t2 := SameM.new hp2 (.lst ((cs.take a).map natI))
    have h2 : updM Ma p2 (.lst ((cs.take a).map natI)) p2 = some (.lst ((cs.take a).map natI)) := updM_same
    generalize updM Ma p2 _ = Mb at *
    refine ⟨_, t2 _ _ h1, by simp only [List.length_map, List.length_drop, List.length_take]; omega, fun p3 hp3 => ?_⟩
    have t3 := SameM.new hp3 (.lst ((cs.drop a).map natI ++ (cs.take a).map natI))
    have h3 : updM Mb p3 (.lst ((cs.drop a).map natI ++ (cs.take a).map natI)) p3 = some (.lst ((cs.drop a ++ cs.take a).map natI)) := by rw [updM_same, List.map_append]
    have hpn3 := (t2.trans t3) _ _ (t1 _ _ hpn')
    have sM := s'.trans (t1.trans (t2.trans t3))
    have f3 := s'.free (t1.free (t2.free hp3))
    have np3 : pn ≠ p3 := neM ((t1.trans t2) _ _ hpn') hp3
    generalize updM Mb p3 _ = Mc at *
    rw [i_law_code_7]
    repeat (first | walk_at "s" | simp only [hpn3])
    refine ⟨_, n2, ?_⟩
    walk_at "s"
    refine ite_i (fun c => ?_) (fun c => ?_)
    · rw [i_law_code_8]
      repeat (first | walk_at "s" | simp only [h3])
      refine ⟨⟨_, rfl⟩, show ∃ ys, Mc p3 = some (.lst ys) ∧ _ from ⟨_, h3, ?_⟩⟩
      refine r9 _ p3 (cs.drop a ++ cs.take a).reverse _ (sM.upd f3 _) f3 np3 (by rw [updM_ne np3]; exact hpn3) (by rw [updM_same, List.map_reverse]) (g.rot a).rev
    · exact r9 Mc p3 _ _ sM f3 np3 hpn3 h3 (g.rot a)
  obtain ⟨k, hk, hk3⟩ : ∃ k : Nat, f % 4 % 3 = (k : Int) ∧ k < 3 := ⟨(f % 4 % 3).toNat, by omega, by omega⟩
  obtain ⟨m, hm, hm1, hm6⟩ : ∃ m : Nat, 1 + f / 4 % 6 = (m : Int) ∧ 1 ≤ m ∧ m ≤ 6 := ⟨(1 + f / 4 % 6).toNat, by omega, by omega, by omega⟩
  have g0 := codeP_ok hk3 hm1 hm6
  have gl := g0.hi
  rw [i_law_code_1]
  walk_at "s"
  refine ⟨k, m, by rw [hk, hm], hk3, hm1, hm6, fun pc M2 s2 hpc hc => ?_⟩
  have s02 := s1.trans s2
  have hx2 := s2 _ _ hx
  have y0 : ((x0 : Int) % 16) = ((x0 % 16 : Nat) : Int) := by omega
  have y1 : ((x1 : Int) % 65536) = ((x1 % 65536 : Nat) : Int) := by omega
  rw [i_law_code_2]
  repeat (first | walk_at "s" | simp only [hx2])
  refine ⟨_, n0, ?_⟩
  repeat (first | walk_at "s" | simp only [hx2])
  refine ⟨_, n1, ?_⟩
  walk_at "s"
  refine ⟨pc, codeP k m, x0 % 16, x1 % 65536, by rw [y0, y1], hc, gl, by omega, by omega, fun pd M3 s3 hpd hd => ?_⟩
  have s03 := s02.trans s3
  have hx3 := s3 _ _ hx2
  have g1 := turn_good (b := x0 % 16) (k := x1 % 65536) (by omega) (by omega) g0
  rw [i_law_code_3]
  walk_at "s"
  refine ite_i (fun c => ?_) (fun c => ?_)
  · rw [i_law_code_4]
    walk_at "s"
    obtain ⟨n, hn, hn1, hn2⟩ : ∃ n : Nat, 2 + f / 4 % 63 = (n : Int) ∧ 2 ≤ n ∧ n ≤ 64 := ⟨(2 + f / 4 % 63).toNat, by omega, by omega, by omega⟩
    refine ⟨s, n, by rw [hn], hn1, hn2, fun pe cs M4 s4 hpe he ge => ?_⟩
    exact r5 M4 pe cs (s03.trans s4) (s4 _ _ hx3) he ge
  · exact r5 M3 pd _ s03 hx3 hd g1
theorem nat_or_and (m : Nat) : ∀ n : Nat, (m ||| n) + (m &&& n) = m + n := by
  induction m using Nat.strongRecOn with
  | ind m ih =>
    intro n
    by_cases h0 : m = 0
    · subst h0; simp
    · have ih' := ih (m / 2) (by omega) (n / 2)
      rw [← Nat.or_div_two, ← Nat.and_div_two] at ih'
      have x1 := @Nat.or_mod_two_eq_one m n
      have a1 := @Nat.and_mod_two_eq_one m n
      omega
def onesN : Nat → Nat → Nat
  | 0, _ => 0
  | n + 1, u => u % 2 + onesN n (u / 2)
def low (u : Nat) : Nat := u - (u &&& (u - 1))
theorem and_odd (v : Nat) : (2 * v + 1) &&& (2 * v) = 2 * v := by
  have h1 : (2 * v + 1) &&& (2 * v) = 2 * (((2 * v + 1) &&& (2 * v)) / 2) + ((2 * v + 1) &&& (2 * v)) % 2 := by omega
  have a1 := @Nat.and_mod_two_eq_one (2 * v + 1) (2 * v)
  have e : ((2 * v + 1) &&& (2 * v)) / 2 = v := by
    rw [Nat.and_div_two]
    have : (2 * v + 1) / 2 = v := by omega
    rw [this]
    have : 2 * v / 2 = v := by omega
    rw [this, Nat.and_self]
  omega
theorem and_even {u : Nat} (h : 1 ≤ u) : (2 * u) &&& (2 * u - 1) = 2 * (u &&& (u - 1)) := by
  have a1 := @Nat.and_mod_two_eq_one (2 * u) (2 * u - 1)
  have e : ((2 * u) &&& (2 * u - 1)) / 2 = u &&& (u - 1) := by
    rw [Nat.and_div_two]
    have e1 : 2 * u / 2 = u := by omega
    have e2 : (2 * u - 1) / 2 = u - 1 := by omega
    rw [e1, e2]
  omega
theorem onesN_zero : ∀ n : Nat, onesN n 0 = 0
  | 0 => rfl
  | n + 1 => by show 0 % 2 + onesN n (0 / 2) = 0; rw [onesN_zero n]
theorem onesN_pos : ∀ (n : Nat) {u : Nat}, 1 ≤ u → u < 2 ^ n → 1 ≤ onesN n u
  | 0, u, h, l => by simp at l; omega
  | n + 1, u, h, l => by
    show 1 ≤ u % 2 + onesN n (u / 2)
    by_cases e : u % 2 = 1
    · omega
    · have := onesN_pos n (u := u / 2) (by omega) (by rw [Nat.pow_succ] at l; omega)
      omega
theorem ones_sgl : ∀ (n : Nat) {u : Nat}, 1 ≤ u → u < 2 ^ n → (1 < onesN n u ↔ ¬ sgl u)
  | 0, u, h, l => by simp at l; omega
  | n + 1, u, h, l => by
    have l2 : u / 2 < 2 ^ n := by rw [Nat.pow_succ] at l; omega
    show 1 < u % 2 + onesN n (u / 2) ↔ _
    by_cases e : u % 2 = 1
    · have hu : u = 2 * (u / 2) + 1 := by omega
      generalize u / 2 = v at *
      subst hu
      have hs : sgl (2 * v + 1) ↔ v = 0 := by
        unfold sgl
        have : 2 * v + 1 - 1 = 2 * v := by omega
        rw [this, and_odd]; omega
      rw [hs, e]
      by_cases hv : v = 0
      · subst hv; rw [onesN_zero]; simp
      · have := onesN_pos n (u := v) (by omega) l2
        omega
    · have hu : u = 2 * (u / 2) := by omega
      have h1 : 1 ≤ u / 2 := by omega
      have ih := ones_sgl n h1 l2
      generalize u / 2 = v at *
      subst hu
      have hs : sgl (2 * v) ↔ sgl v := by
        unfold sgl
        rw [and_even h1]; omega
      rw [hs, ← ih]
      omega
theorem low_at : ∀ (n : Nat) {u : Nat}, 1 ≤ u → u < 2 ^ n → ∃ t, t < n ∧ u / 2 ^ t % 2 = 1 ∧ low u = 2 ^ t ∧ ∀ k, k < t → u / 2 ^ k % 2 = 0
  | 0, u, h, l => by simp at l; omega
  | n + 1, u, h, l => by
    by_cases e : u % 2 = 1
    · refine ⟨0, by omega, by simpa using e, ?_, fun k hk => by omega⟩
      have hu : u = 2 * (u / 2) + 1 := by omega
      generalize u / 2 = v at *
      subst hu
      unfold low
      have : 2 * v + 1 - 1 = 2 * v := by omega
      rw [this, and_odd]; simp
    · have h1 : 1 ≤ u / 2 := by omega
      obtain ⟨t, ht, b1, b2, b3⟩ := low_at n h1 (by rw [Nat.pow_succ] at l; omega)
      have hu : u = 2 * (u / 2) := by omega
      generalize u / 2 = v at *
      subst hu
      have dv : ∀ k, 2 * v / 2 ^ (k + 1) = v / 2 ^ k := fun k => by
        rw [Nat.pow_succ, Nat.mul_comm (2 ^ k) 2, ← Nat.div_div_eq_div_mul]; congr 1; omega
      refine ⟨t + 1, by omega, by rw [dv]; exact b1, ?_, fun k hk => ?_⟩
      · unfold low at b2 ⊢
        rw [and_even h1, Nat.pow_succ]
        have : v &&& (v - 1) ≤ v := Nat.and_le_left
        omega
      · cases k with
        | zero => simp
        | succ k => rw [dv]; exact b3 k (by omega)
theorem ones_filter : ∀ (n u : Nat), ((List.range n).filter fun k => decide (u / 2 ^ k % 2 = 1)).length = onesN n u
  | 0, u => rfl
  | n + 1, u => by
    rw [List.range_succ_eq_map, List.filter_cons]
    have ih := ones_filter n (u / 2)
    have e : (((List.range n).map Nat.succ).filter fun k => decide (u / 2 ^ k % 2 = 1)).length = onesN n (u / 2) := by
      rw [List.filter_map, List.length_map, ← ih]
      congr 1
      apply List.filter_congr
      intro k _
      have : u / 2 ^ (k + 1) = u / 2 / 2 ^ k := by rw [Nat.pow_succ, Nat.mul_comm (2 ^ k) 2, ← Nat.div_div_eq_div_mul]
      show decide (u / 2 ^ (k + 1) % 2 = 1) = _
      rw [this]
    show _ = u % 2 + onesN n (u / 2)
    by_cases h : u % 2 = 1
    · rw [if_pos (by simpa using h), List.length_cons, e]; omega
    · rw [if_neg (by simpa using h), e]; omega
theorem torn_word {o n : Nat} (h : 1 ≤ o ^^^ n) (hl : o ^^^ n < 2 ^ 16) (ns : ¬ sgl (o ^^^ n)) : ∃ t, low (o ^^^ n) = 2 ^ t ∧ seen o n (low (o ^^^ n)) = o ^^^ low (o ^^^ n) ∧ seen o n (low (o ^^^ n)) ≠ o ∧ seen o n (low (o ^^^ n)) ≠ n ∧
    (seen o n (low (o ^^^ n)) ||| o) ||| n = o ||| n ∧ seen o n (low (o ^^^ n)) ^^^ o = low (o ^^^ n) ∧ (seen o n (low (o ^^^ n)) &&& o) &&& n = o &&& n := by
  obtain ⟨t, ht, b1, b2, b3⟩ := low_at 16 h hl
  have tb : (o ^^^ n).testBit t = true := by rw [Nat.testBit_eq_decide_div_mod_eq]; simpa using b1
  have la : (o ^^^ n) &&& 2 ^ t = 2 ^ t := by
    apply Nat.eq_of_testBit_eq
    intro i
    rw [Nat.testBit_and, Nat.testBit_two_pow]
    by_cases e : t = i
    · subst e; rw [tb]; simp
    · simp [e]
  have sn : seen o n (2 ^ t) = o ^^^ 2 ^ t := by unfold seen; rw [la]
  rw [b2]
  have bit : ∀ i, (2 ^ t).testBit i = true → (o.testBit i).xor (n.testBit i) = true := fun i hi => by
    rw [Nat.testBit_two_pow] at hi
    have : t = i := by simpa using hi
    subst this
    rw [← Nat.testBit_xor]; exact tb
  have pp := Nat.two_pow_pos t
  refine ⟨t, rfl, sn, ?_, ?_, ?_, ?_, ?_⟩
  · rw [sn]; intro e
    have := congrArg (o ^^^ ·) e
    simp only [← Nat.xor_assoc, Nat.xor_self, Nat.zero_xor] at this
    omega
  · rw [sn]; intro e
    have := congrArg (o ^^^ ·) e
    simp only [← Nat.xor_assoc, Nat.xor_self, Nat.zero_xor] at this
    apply ns
    have b2 : (o ^^^ n) - ((o ^^^ n) &&& ((o ^^^ n) - 1)) = 2 ^ t := b2
    unfold sgl
    have le : (o ^^^ n) &&& ((o ^^^ n) - 1) ≤ o ^^^ n := Nat.and_le_left
    omega
  · rw [sn]
    apply Nat.eq_of_testBit_eq
    intro i
    have := bit i
    simp only [Nat.testBit_or, Nat.testBit_xor]
    revert this
    cases (2 ^ t).testBit i <;> cases o.testBit i <;> cases n.testBit i <;> simp
  · rw [sn, Nat.xor_comm, ← Nat.xor_assoc, Nat.xor_self, Nat.zero_xor]
  · rw [sn]
    apply Nat.eq_of_testBit_eq
    intro i
    have := bit i
    simp only [Nat.testBit_and, Nat.testBit_xor]
    revert this
    cases (2 ^ t).testBit i <;> cases o.testBit i <;> cases n.testBit i <;> simp
theorem comp_pick {Φ : List (Str × SpM)} {own : List Str} {fr : List Nat} {src : ISr} {tg : ITg} {test elt : IE} {σ : Sm} {M : MH} {Q : QM} {α : Type} (xs : List α) (f g : α → MV) (b : α → Bool)
    (hs : wSr Φ src σ M fun S M1 => S.items = xs.map f ∧ xs.length < sizeLine ∧ S.okF M1 ∧ M1 = M)
    (ht : ∀ x ∈ xs, ∀ M', SameM M M' → wTg tg (f x) (sCm own fr σ) fun σ2 => wE Φ test σ2 M' fun v M2 => v = .bl (b x) ∧ M2 = M' ∧ (b x = true → wE Φ elt σ2 M' fun y M2 => y = g x ∧ M2 = M'))
    (hΦ : ∀ (j : Nat) f sp, Φ[j]? = some (f, sp) → MonW sp) (q : ∀ D, M D = none → Q (.ref D) (updM M D (.lst ((xs.filter b).map g)))) : wE Φ (.comp own fr src tg (.some test) elt) σ M Q := by
  rw [e_comp]
  refine mon_sr hΦ src (fun S M1 ⟨h1, h2, h3, h4⟩ => ?_) hs
  subst h4
  have hl : S.len = xs.length := by rw [← S.items_len, h1, List.length_map]
  refine ⟨by rw [hl]; exact h2, fun D hD => ⟨fun i ys M2 => M2 = updM M1 D (.lst ys) ∧ ys = ((xs.take i).filter b).map g, ⟨rfl, by simp⟩, ?_, ?_, ?_⟩⟩
  · rintro i ys M2 ⟨rfl, rfl⟩
    refine ⟨updM_same, ?_, ?_⟩
    · rw [List.length_map]
      have h1 := List.length_filter_le b (xs.take i)
      rw [List.length_take] at h1
      omega
    cases S with
    | tup _ => trivial
    | rng _ _ => trivial
    | rst _ _ _ => trivial
    | dic _ _ _ => exact h3.elim
    | str _ => trivial
    | lst a zs => exact SameM.new hD _ _ _ h3
  · rintro i x ys M2 hx ⟨rfl, rfl⟩
    rw [h1] at hx
    obtain ⟨hi, rfl⟩ := map_item hx
    refine mon_tg tg (fun σ2 h => ?_) (ht xs[i] (List.getElem_mem hi) _ (SameM.new hD (.lst (((xs.take i).filter b).map g))))
    rw [wI]
    refine mon_e hΦ test (fun v M2 ⟨e1, e2, e3⟩ => ?_) h
    subst e1 e2
    have et : xs.take (i + 1) = xs.take i ++ [xs[i]] := by rw [List.take_add_one, List.getElem?_eq_getElem hi]; rfl
    refine ⟨b xs[i], rfl, ?_⟩
    by_cases hb : b xs[i] = true
    · rw [if_pos hb]
      refine mon_e hΦ elt (fun y M2 ⟨e1, e2⟩ => ?_) (e3 hb)
      subst e1 e2
      refine ⟨updM_same, updM_updM, ?_⟩
      rw [et, List.filter_append, List.map_append, List.filter_cons_of_pos hb]
      rfl
    · rw [if_neg hb]
      refine ⟨rfl, ?_⟩
      rw [et, List.filter_append, List.map_append, List.filter_cons_of_neg hb]
      simp
  · rintro ys M2 ⟨rfl, rfl⟩
    rw [hl, List.take_of_length_le (Nat.le_refl _), thaw_F h3]
    exact q D hD
theorem bor_nat (m n : Nat) : Builtin.bitOr (m : Int) (n : Int) = ((m ||| n : Nat) : Int) := by
  rw [PyProof.Rows.bitOr_and, PyProof.Rows.bitAnd_pp (Int.natCast_nonneg m) (Int.natCast_nonneg n), Int.toNat_natCast, Int.toNat_natCast]
  have := nat_or_and m n
  omega
theorem bit_test (u i : Nat) : ((u : Int) / ((2 ^ i : Nat) : Int) % 2 = 1) ↔ u / 2 ^ i % 2 = 1 := by
  have : (u : Int) / ((2 ^ i : Nat) : Int) = ((u / 2 ^ i : Nat) : Int) := (Int.natCast_ediv ..).symm
  rw [this]; omega
theorem bits16 {i : Nat} (h : i < 16) : 0 < 2 ^ i ∧ 2 ^ i ≤ 65536 := ⟨Nat.two_pow_pos i, Nat.pow_le_pow_right (n := 2) (by decide) (by omega : i ≤ 16)⟩
abbrev sp__law_ones : SpM := fun vs M Q => ∃ u : Nat, vs = [.int u] ∧ ∀ M', SameM M M' → Q (.int (onesN 16 u : Nat)) M'
theorem mon_sp__law_ones : MonW sp__law_ones := fun hq ⟨u, e, q⟩ => ⟨u, e, fun M' s => hq _ _ (q M' s)⟩
theorem ok__law_ones (T : Txt K mg t) : FnOk P w K mg base CX0 1 t.f__law_ones t.d__law_ones ["word"] (liSp K sp__law_ones) := by
  refine T.F__law_ones.okM sc__law_ones (mkFts (Φ := []) (gb_of T) (gl_of' T) rfl (fun _ h => nomatch h) (fun _ h => nomatch h) : Fts P w K mg base 0 G__law_ones []) ir__law_ones ck__law_ones (fun vs M Q h => ?_) (fun vs M Q h => ?_)
  · obtain ⟨u, rfl, _⟩ := h; rfl
  obtain ⟨u, rfl, q⟩ := h
  show wSs _ _ _ [some (.int u)] M
  have hΦ := (mkMon (Φ := []) (fun _ h => nomatch h))
  rw [ir__law_ones, i_law_ones_0]
  walk_at "s"
  refine comp_pick (List.range 16) (fun i => .int (0 + (i : Nat))) natI (fun i => decide (u / 2 ^ i % 2 = 1)) ?_ ?_ hΦ fun D hD => ?_
  · walk_at "s"
    exact ⟨rfl, by decide, trivial⟩
  · intro i hi M' s
    have hi : i < 16 := by simpa using hi
    have b16 := bits16 hi
    simp only [sCm, List.map_cons, List.map_nil, List.getD_cons_succ, List.getD_cons_zero, List.cons_append, List.nil_append]
    walk_at "s"
    have e1 := shl_nat i
    rw [Int.zero_add, e1]
    exact ⟨⟨by omega, by omega⟩, ⟨Int.ofNat_lt.mpr b16.1, Int.lt_of_le_of_lt (Int.ofNat_le.mpr b16.2) (by decide)⟩, decide_eq_decide.mpr (bit_test u i), fun _ => rfl⟩
  · have hd : updM M D (.lst (((List.range 16).filter fun i => decide (u / 2 ^ i % 2 = 1)).map natI)) D = some (.lst (((List.range 16).filter fun i => decide (u / 2 ^ i % 2 = 1)).map natI)) := updM_same
    repeat (first | walk_at "s" | simp only [hd, List.length_map])
    rw [ones_filter]
    exact q _ (SameM.new hD _)
def TornIs (cs : List Nat) (v : MV) : Prop := (v = .non ∧ ∀ k, k < cs.length → sgl (unl cs k)) ∨ ∃ k, k < cs.length ∧ (∀ j, j < k → sgl (unl cs j)) ∧ ¬ sgl (unl cs k) ∧ v = tornM cs k
theorem unl_lt {cs : List Nat} (g : Good cs) {k : Nat} (hk : k < cs.length) : unl cs k < 2 ^ 16 :=
  Nat.xor_lt_two_pow (g.lt _ (List.mem_of_getElem? (old_at hk))) (g.lt _ (List.mem_of_getElem? (new_at g hk)))
abbrev sp__law_good : SpM := fun vs M Q => ∃ (v : MV) (p : Addr) (cs : List Nat), vs = [v, .ref p] ∧ M p = some (.lst (cs.map natI)) ∧ Good cs ∧ TornIs cs v ∧ ∀ M', SameM M M' → Q (.bl true) M'
theorem mon_sp__law_good : MonW sp__law_good := fun hq ⟨v, p, cs, e, a, b, c, q⟩ => ⟨v, p, cs, e, a, b, c, fun M' s => hq _ _ (q M' s)⟩
theorem ok__law_good (T : Txt K mg t) : FnOk P w K mg base CX0 2 t.f__law_good t.d__law_good ["found", "code"] (liSp K sp__law_good) := by
  refine T.F__law_good.okM sc__law_good (mkFts (Φ := [("_law_ones", sp__law_ones), ("_law_whole", sp__law_whole)]) (gb_of T) (gl_of' T) rfl (List.forall_mem_cons.2 ⟨mon_sp__law_ones, (List.forall_mem_cons.2 ⟨mon_sp__law_whole, (fun _ h => nomatch h)⟩)⟩) (List.forall_mem_cons.2 ⟨⟨_, _, _, (FnOk.mono (ok__law_ones T) (by decide)), T.m__law_ones, T.F__law_ones.kp, T.b__law_ones⟩, (List.forall_mem_cons.2 ⟨⟨_, _, _, (FnOk.mono (ok__law_whole T) (by decide)), T.m__law_whole, T.F__law_whole.kp, T.b__law_whole⟩, (fun _ h => nomatch h)⟩)⟩) : Fts P w K mg base 1 G__law_good [("_law_ones", sp__law_ones), ("_law_whole", sp__law_whole)]) ir__law_good ck__law_good (fun vs M Q h => ?_) (fun vs M Q h => ?_)
  · obtain ⟨v, p, cs, rfl, _⟩ := h; rfl
  obtain ⟨v, p, cs, rfl, hp, g, hv, q⟩ := h
  show wSs _ _ _ [some v, some (.ref p), none, none, none, none] M
  have glo := g.lo
  have ghi := g.hi
  have hΦ := (mkMon (Φ := [("_law_ones", sp__law_ones), ("_law_whole", sp__law_whole)]) (List.forall_mem_cons.2 ⟨mon_sp__law_ones, (List.forall_mem_cons.2 ⟨mon_sp__law_whole, (fun _ h => nomatch h)⟩)⟩))
  rw [ir__law_good, i_law_good_0]
  repeat (first | walk_at "s" | simp only [hp, List.length_map])
  obtain ⟨J, hJ⟩ : ∃ J : Nat → Sm → MH → Prop, ∀ j σ M', J j σ M' ↔ SameM M M' ∧ (∀ i, i < j → sgl (unl cs i)) ∧ ∃ v2 v3 v4 v5, σ = [some v, some (.ref p), v2, v3, v4, v5] := ⟨_, fun _ _ _ => Iff.rfl⟩
  refine ⟨by omega, by omega, J, (hJ _ _ _).mpr ⟨SameM.refl M, fun i h => by omega, _, _, _, _, rfl⟩, fun j σ M' h => trivial, ?_, ?_⟩
  · rintro j y σ M' hy h
    obtain ⟨s, hs, v2, v3, v4, v5, rfl⟩ := (hJ _ _ _).mp h
    obtain ⟨hj, rfl⟩ := rng_item hy
    have hj : j < cs.length := by simpa using hj
    have hu := unl_pos g hj
    have hul := unl_lt g hj
    have hp' := s _ _ hp
    have ei : ((j : Int) + 1) % (cs.length : Int) = (((j + 1) % cs.length : Nat) : Int) := by rw [Int.natCast_emod, Int.natCast_add]; rfl
    rw [i_law_good_1, Int.zero_add]
    repeat (first | walk_at "s" | simp only [hp'])
    refine ⟨_, nat_at (old_at hj), ?_⟩
    rw [i_law_good_2]
    repeat (first | walk_at "s" | simp only [hp', List.length_map])
    refine ⟨by omega, ?_⟩
    rw [ei]
    refine ⟨_, nat_at (new_at g hj), ?_⟩
    rw [i_law_good_3]
    walk_at "s"
    rw [bxor_nat]
    refine ⟨unl cs j, rfl, fun M2 s2 => ?_⟩
    have sM2 := s.trans s2
    walk_at "s"
    have os := ones_sgl 16 hu hul
    refine ite_i (fun c => ?_) (fun c => ?_)
    · have ns : ¬ sgl (unl cs j) := os.mp (by omega)
      rcases hv with ⟨_, ha⟩ | ⟨k, hk, hkj, hks, rfl⟩
      · exact (ns (ha j hj)).elim
      have hkj2 : k = j := by
        rcases Nat.lt_trichotomy k j with z | z | z
        · exact (hks (hs k z)).elim
        · exact z
        · exact (ns (hkj j z)).elim
      subst hkj2
      obtain ⟨t, lo1, sn, w1, w2, w3, w4, w5⟩ := torn_word (o := old cs k) (n := new cs k) hu hul ns
      have eT : tornM cs k = .tup [.int k, .int (seen (old cs k) (new cs k) (low (old cs k ^^^ new cs k)) : Nat)] := rfl
      rw [eT]
      generalize seen (old cs k) (new cs k) (low (old cs k ^^^ new cs k)) = x at *
      rw [i_law_good_4]
      walk_at "s"
      refine ⟨_, rfl, ?_⟩
      walk_at "s"
      refine ⟨_, rfl, ?_⟩
      walk_at "s"
      rw [i_law_good_6]
      walk_at "s"
      refine comp_pick (List.range 16) (fun i => .int (0 + (i : Nat))) (fun i => natI (2 ^ i)) (fun i => decide ((old cs k ^^^ new cs k) / 2 ^ i % 2 = 1)) ?_ ?_ hΦ fun D hD => ?_
      · walk_at "s"
        exact ⟨rfl, by decide, trivial⟩
      · intro i hi M' s
        have hi : i < 16 := by simpa using hi
        have b16 := bits16 hi
        simp only [sCm, List.map_cons, List.map_nil, List.getD_cons_succ, List.getD_cons_zero, List.cons_append, List.nil_append]
        walk_at "s"
        have e1 := shl_nat i
        rw [Int.zero_add, e1, bxor_nat]
        refine ⟨⟨by omega, by omega⟩, ⟨Int.ofNat_lt.mpr b16.1, Int.lt_of_le_of_lt (Int.ofNat_le.mpr b16.2) (by decide)⟩, decide_eq_decide.mpr (bit_test _ i), fun _ => ?_⟩
        exact ⟨⟨by omega, by omega⟩, rfl⟩
      obtain ⟨t', ht', c1, c2, c3⟩ := low_at 16 (show 1 ≤ old cs k ^^^ new cs k from hu) hul
      have sM3 := sM2.trans (SameM.new hD (.lst (((List.range 16).filter fun i => decide ((old cs k ^^^ new cs k) / 2 ^ i % 2 = 1)).map fun i => natI (2 ^ i))))
      have hd : updM M2 D (.lst (((List.range 16).filter fun i => decide ((old cs k ^^^ new cs k) / 2 ^ i % 2 = 1)).map fun i => natI (2 ^ i))) D = some (.lst ((((List.range 16).filter fun i => decide ((old cs k ^^^ new cs k) / 2 ^ i % 2 = 1)).map fun i => ((2 ^ i : Nat) : Int)).map MV.int)) := by
        rw [updM_same, List.map_map]; rfl
      generalize updM M2 D _ = M3 at *
      have mt : t' ∈ (List.range 16).filter fun i => decide ((old cs k ^^^ new cs k) / 2 ^ i % 2 = 1) := List.mem_filter.mpr ⟨List.mem_range.mpr ht', by simpa using c1⟩
      rw [q_min1]
      refine ⟨_, hd, List.length_pos_of_mem (List.mem_map.mpr ⟨t', mt, rfl⟩), fun m hm hmin => ?_⟩
      have em : m = ((low (old cs k ^^^ new cs k) : Nat) : Int) := by
        have h1 := hmin _ (List.mem_map.mpr ⟨t', mt, rfl⟩)
        obtain ⟨i, hi, rfl⟩ := List.mem_map.mp hm
        have hb := (List.mem_filter.mp hi).2
        have hti : t' ≤ i := by
          refine Nat.le_of_not_lt fun z => ?_
          have := c3 i z
          simp [this] at hb
        have h2 : 2 ^ t' ≤ 2 ^ i := Nat.pow_le_pow_right (by decide) hti
        rw [c2]
        have h1 : ((2 ^ i : Nat) : Int) ≤ ((2 ^ t' : Nat) : Int) := h1
        have := Int.ofNat_le.mp h1
        exact congrArg Int.ofNat (Nat.le_antisymm this h2)
      rw [em, i_law_good_7]
      walk_at "s"
      have d1 : ¬ ((x : Int) = (old cs k : Int)) := fun e => w1 (Int.ofNat.inj e)
      have d2 : ¬ ((x : Int) = (new cs k : Int)) := fun e => w2 (Int.ofNat.inj e)
      rw [bor_nat, bor_nat, bor_nat, w3, if_neg d1, if_neg d2, if_neg (fun z => z rfl), i_law_good_9]
      walk_at "s"
      rw [bxor_nat, band_nat, band_nat, band_nat, w4, w5]
      walk_at "s"
      exact q M3 sM3
    · refine (hJ _ _ _).mpr ⟨sM2, fun i hi => ?_, _, _, _, _, rfl⟩
      rcases Nat.lt_succ_iff_lt_or_eq.mp hi with z | z
      · exact hs i z
      · subst z
        exact Classical.byContradiction fun z => c (by have := os.mpr z; omega)
  · rintro σ M' h
    obtain ⟨s, hs, v2, v3, v4, v5, rfl⟩ := (hJ _ _ _).mp h
    rw [i_law_good_10]
    rcases hv with ⟨rfl, _⟩ | ⟨k, hk, _, hks, _⟩
    · walk_at "s"
      exact q M' s
    · exact (hks (hs k hk)).elim
theorem rst_item {lo st : Int} {n i : Nat} {x : MV} (h : (Src.rst lo st n).items[i]? = some x) : i < n ∧ x = .int (lo + (i : Nat) * st) := by
  have hi := (List.getElem?_eq_some_iff.mp h).1
  rw [Src.items_len] at hi
  refine ⟨hi, ?_⟩
  have h' : ((List.range n).map fun i => MV.int (lo + (i : Nat) * st))[i]? = some x := h
  rw [List.getElem?_map, List.getElem?_eq_getElem (by simpa using (show i < n from hi))] at h'
  simpa using h'.symm
theorem ok_law (T : Txt K mg t) : FnOk P w K mg base CX0 60 t.f_law t.d_law ["script"] (liSp K spLawM) := by
  refine T.F_law.okM sc_law (mkFts (Φ := [("_law_cell_at", sp__law_cell_at), ("_law_code", sp__law_code), ("_law_good", sp__law_good), ("tear", sp_tear)]) (gb_of T) (gl_of' T) rfl (List.forall_mem_cons.2 ⟨mon_sp__law_cell_at, (List.forall_mem_cons.2 ⟨mon_sp__law_code, (List.forall_mem_cons.2 ⟨mon_sp__law_good, (List.forall_mem_cons.2 ⟨mon_sp_tear, (fun _ h => nomatch h)⟩)⟩)⟩)⟩) (List.forall_mem_cons.2 ⟨⟨_, _, _, (FnOk.mono (ok__law_cell_at T) (by decide)), T.m__law_cell_at, T.F__law_cell_at.kp, T.b__law_cell_at⟩, (List.forall_mem_cons.2 ⟨⟨_, _, _, (FnOk.mono (ok__law_code T) (by decide)), T.m__law_code, T.F__law_code.kp, T.b__law_code⟩, (List.forall_mem_cons.2 ⟨⟨_, _, _, (FnOk.mono (ok__law_good T) (by decide)), T.m__law_good, T.F__law_good.kp, T.b__law_good⟩, (List.forall_mem_cons.2 ⟨⟨_, _, _, (FnOk.mono (ok_tear T) (by decide)), T.m_tear, T.F_tear.kp, T.b_tear⟩, (fun _ h => nomatch h)⟩)⟩)⟩)⟩) : Fts P w K mg base 59 G_law [("_law_cell_at", sp__law_cell_at), ("_law_code", sp__law_code), ("_law_good", sp__law_good), ("tear", sp_tear)]) ir_law ck_law (fun vs M Q h => ?_) (fun vs M Q h => ?_)
  · obtain ⟨ns, rfl, _⟩ := h; rfl
  obtain ⟨ns, rfl, h63, q⟩ := h
  have hΦ := (mkMon (Φ := [("_law_cell_at", sp__law_cell_at), ("_law_code", sp__law_code), ("_law_good", sp__law_good), ("tear", sp_tear)]) (List.forall_mem_cons.2 ⟨mon_sp__law_cell_at, (List.forall_mem_cons.2 ⟨mon_sp__law_code, (List.forall_mem_cons.2 ⟨mon_sp__law_good, (List.forall_mem_cons.2 ⟨mon_sp_tear, (fun _ h => nomatch h)⟩)⟩)⟩)⟩))
  show wSs _ _ _ [some (.frl (ns.map .int)), none, none, none] M
  rw [ir_law, ilaw_0]
  walk_at "s"
  obtain ⟨E, hE, hE1, hE2⟩ : ∃ E : Int, (if (if ((ns.map MV.int).length : Int) < 16 then ((ns.map MV.int).length : Int) else 16) > 1 then (if ((ns.map MV.int).length : Int) < 16 then ((ns.map MV.int).length : Int) else 16) else 1) = E ∧ 0 ≤ E ∧ E ≤ 16 := by
    refine ⟨_, rfl, ?_, ?_⟩
    · split
      · split <;> omega
      · omega
    · split
      · split <;> omega
      · omega
  rw [hE]
  obtain ⟨J, hJ⟩ : ∃ J : Nat → Sm → MH → Prop, ∀ j σ M', J j σ M' ↔ ∃ v1 v2 v3, σ = [some (.frl (ns.map MV.int)), v1, v2, v3] := ⟨_, fun _ _ _ => Iff.rfl⟩
  refine ⟨⟨hE1, by omega⟩, J, (hJ _ _ _).mpr ⟨_, _, _, rfl⟩, fun j σ M' h => trivial, ?_, ?_⟩
  · rintro j y σ M' hy h
    obtain ⟨v1, v2, v3, rfl⟩ := (hJ _ _ _).mp h
    obtain ⟨hj, rfl⟩ := rst_item hy
    have e1 : (0 : Int) + (j : Int) * 2 = ((2 * j : Nat) : Int) := by omega
    have e2 : ((2 * j : Nat) : Int) + 1 = ((2 * j + 1 : Nat) : Int) := by omega
    rw [e1, ilaw_1]
    walk_at "s"
    refine ⟨ns, 2 * j, rfl, ?_⟩
    walk_at "s"
    rw [e2]
    refine ⟨ns, 2 * j + 1, rfl, ?_⟩
    walk_at "s"
    refine ⟨_, _, rfl, fun pc cs M1 s1 hpc hc g => ?_⟩
    rw [ilaw_2]
    repeat (first | walk_at "s" | simp only [hc])
    intro ph hph
    have s2 := SameM.new hph (.lst (cs.map natI))
    have hh : updM M1 ph (.lst (cs.map natI)) ph = some (.lst (cs.map natI)) := updM_same
    have hc2 := s2 _ _ hc
    generalize updM M1 ph _ = M2 at *
    rw [ilaw_3]
    walk_at "s"
    have fe : ∀ v ∈ cs.map natI, flatM v = true := fun v hv => by obtain ⟨c, _, rfl⟩ := List.mem_map.mp hv; rfl
    refine ⟨ph, cs, rfl, hh, g, fun ha => ⟨_, pc, cs, rfl, hc2, g, .inl ⟨rfl, ha⟩, fun M3 s3 => ?_⟩, fun k hk hkj hks => ⟨_, pc, cs, rfl, hc2, g, .inr ⟨k, hk, hkj, hks, rfl⟩, fun M3 s3 => ?_⟩⟩
    · walk_at "s"
      refine eq_alike rfl (Alike.lstFlat 0 (.inr ⟨_, rfl, s3 _ _ hh⟩) (.inr ⟨_, rfl, s3 _ _ hc2⟩) fe) (by decide) ?_
      try walk_at "s"
      exact (hJ _ _ _).mpr ⟨_, _, _, rfl⟩
    · walk_at "s"
      refine eq_alike rfl (Alike.lstFlat 0 (.inr ⟨_, rfl, s3 _ _ hh⟩) (.inr ⟨_, rfl, s3 _ _ hc2⟩) fe) (by decide) ?_
      try walk_at "s"
      exact (hJ _ _ _).mpr ⟨_, _, _, rfl⟩
  · rintro σ M' h
    obtain ⟨v1, v2, v3, rfl⟩ := (hJ _ _ _).mp h
    rw [ilaw_5]
    walk_at "s"
    exact q _
end
theorem all_mk {l : PySem.W.OpenLaw} {w : World} {K : PySem.W.Frag} {h : Heap} {mg : Str → Option Value} {fa : Addr} (X : K.In h) (G : h.Ns mainGlobals mg) (hfa : mg "law" = some (.ref fa))
    {f1 : Addr} {od1 an1 : Option Addr} {sl1 : Array (Option Value)} {oc1 kV1 dc1 pm1 cd1 ct1 : Value}
    {f2 : Addr} {od2 an2 : Option Addr} {sl2 : Array (Option Value)} {oc2 kV2 dc2 pm2 cd2 ct2 : Value}
    {f3 : Addr} {od3 an3 : Option Addr} {sl3 : Array (Option Value)} {oc3 kV3 dc3 pm3 cd3 ct3 : Value}
    {f4 : Addr} {od4 an4 : Option Addr} {sl4 : Array (Option Value)} {oc4 kV4 dc4 pm4 cd4 ct4 : Value}
    {f5 : Addr} {od5 an5 : Option Addr} {sl5 : Array (Option Value)} {oc5 kV5 dc5 pm5 cd5 ct5 : Value}
    {f6 : Addr} {od6 an6 : Option Addr} {sl6 : Array (Option Value)} {oc6 kV6 dc6 pm6 cd6 ct6 : Value}
    {f7 : Addr} {od7 an7 : Option Addr} {sl7 : Array (Option Value)} {oc7 kV7 dc7 pm7 cd7 ct7 : Value}
    {f8 : Addr} {od8 an8 : Option Addr} {sl8 : Array (Option Value)} {oc8 kV8 dc8 pm8 cd8 ct8 : Value}
    {f9 : Addr} {od9 an9 : Option Addr} {sl9 : Array (Option Value)} {oc9 kV9 dc9 pm9 cd9 ct9 : Value}
    {f10 : Addr} {od10 an10 : Option Addr} {sl10 : Array (Option Value)} {oc10 kV10 dc10 pm10 cd10 ct10 : Value}
    {f11 : Addr} {od11 an11 : Option Addr} {sl11 : Array (Option Value)} {oc11 kV11 dc11 pm11 cd11 ct11 : Value}
    {f12 : Addr} {od12 an12 : Option Addr} {sl12 : Array (Option Value)} {oc12 kV12 dc12 pm12 cd12 ct12 : Value}
    {f13 : Addr} {od13 an13 : Option Addr} {sl13 : Array (Option Value)} {oc13 kV13 dc13 pm13 cd13 ct13 : Value}
    {f14 : Addr} {od14 an14 : Option Addr} {sl14 : Array (Option Value)} {oc14 kV14 dc14 pm14 cd14 ct14 : Value}
    {f15 : Addr} {od15 an15 : Option Addr} {sl15 : Array (Option Value)} {oc15 kV15 dc15 pm15 cd15 ct15 : Value}
    {f16 : Addr} {od16 an16 : Option Addr} {sl16 : Array (Option Value)} {oc16 kV16 dc16 pm16 cd16 ct16 : Value}
    {tk1 : Tok}
    {tk2 : Tok}
    {tk3 : Tok}
    (a1 : PySem.W.nsIn K mainGlobals "is_whole" = some (some (.ref f1))) (l1 : K.lookup f1 = some ⟨oc1, od1, .func (PySem.W.fnOf "is_whole" "is_whole" (defArgs s_is_whole) (defBody s_is_whole) (defScope s_is_whole) .none kV1 dc1 pm1 an1 cd1 ct1), sl1⟩) (c1 : PySem.W.codeIn K cd1 "is_whole" = true) (k1 : PySem.W.keepIn K (.ref f1) = true)
    (a2 : PySem.W.nsIn K mainGlobals "two_to" = some (some (.ref f2))) (l2 : K.lookup f2 = some ⟨oc2, od2, .func (PySem.W.fnOf "two_to" "two_to" (defArgs s_two_to) (defBody s_two_to) (defScope s_two_to) .none kV2 dc2 pm2 an2 cd2 ct2), sl2⟩) (c2 : PySem.W.codeIn K cd2 "two_to" = true) (k2 : PySem.W.keepIn K (.ref f2) = true)
    (a3 : PySem.W.nsIn K mainGlobals "fits" = some (some (.ref f3))) (l3 : K.lookup f3 = some ⟨oc3, od3, .func (PySem.W.fnOf "fits" "fits" (defArgs s_fits) (defBody s_fits) (defScope s_fits) .none kV3 dc3 pm3 an3 cd3 ct3), sl3⟩) (c3 : PySem.W.codeIn K cd3 "fits" = true) (k3 : PySem.W.keepIn K (.ref f3) = true)
    (a4 : PySem.W.nsIn K mainGlobals "amid" = some (some (.ref f4))) (l4 : K.lookup f4 = some ⟨oc4, od4, .func (PySem.W.fnOf "amid" "amid" (defArgs s_amid) (defBody s_amid) (defScope s_amid) .none kV4 dc4 pm4 an4 cd4 ct4), sl4⟩) (c4 : PySem.W.codeIn K cd4 "amid" = true) (k4 : PySem.W.keepIn K (.ref f4) = true)
    (a5 : PySem.W.nsIn K mainGlobals "refuse_no_code" = some (some (.ref f5))) (l5 : K.lookup f5 = some ⟨oc5, od5, .func (PySem.W.fnOf "refuse_no_code" "refuse_no_code" (defArgs s_refuse_no_code) (defBody s_refuse_no_code) (defScope s_refuse_no_code) .none kV5 dc5 pm5 an5 cd5 ct5), sl5⟩) (c5 : PySem.W.codeIn K cd5 "refuse_no_code" = true) (k5 : PySem.W.keepIn K (.ref f5) = true)
    (a6 : PySem.W.nsIn K mainGlobals "tear" = some (some (.ref f6))) (l6 : K.lookup f6 = some ⟨oc6, od6, .func (PySem.W.fnOf "tear" "tear" (defArgs s_tear) (defBody s_tear) (defScope s_tear) .none kV6 dc6 pm6 an6 cd6 ct6), sl6⟩) (c6 : PySem.W.codeIn K cd6 "tear" = true) (k6 : PySem.W.keepIn K (.ref f6) = true)
    (a7 : PySem.W.nsIn K mainGlobals "_law_cell_at" = some (some (.ref f7))) (l7 : K.lookup f7 = some ⟨oc7, od7, .func (PySem.W.fnOf "_law_cell_at" "_law_cell_at" (defArgs s__law_cell_at) (defBody s__law_cell_at) (defScope s__law_cell_at) .none kV7 dc7 pm7 an7 cd7 ct7), sl7⟩) (c7 : PySem.W.codeIn K cd7 "_law_cell_at" = true) (k7 : PySem.W.keepIn K (.ref f7) = true)
    (a8 : PySem.W.nsIn K mainGlobals "_law_whole" = some (some (.ref f8))) (l8 : K.lookup f8 = some ⟨oc8, od8, .func (PySem.W.fnOf "_law_whole" "_law_whole" (defArgs s__law_whole) (defBody s__law_whole) (defScope s__law_whole) .none kV8 dc8 pm8 an8 cd8 ct8), sl8⟩) (c8 : PySem.W.codeIn K cd8 "_law_whole" = true) (k8 : PySem.W.keepIn K (.ref f8) = true)
    (a9 : PySem.W.nsIn K mainGlobals "_law_stream" = some (some (.ref f9))) (l9 : K.lookup f9 = some ⟨oc9, od9, .func (PySem.W.fnOf "_law_stream" "_law_stream" (defArgs s__law_stream) (defBody s__law_stream) (defScope s__law_stream) .none kV9 dc9 pm9 an9 cd9 ct9), sl9⟩) (c9 : PySem.W.codeIn K cd9 "_law_stream" = true) (k9 : PySem.W.keepIn K (.ref f9) = true)
    (a10 : PySem.W.nsIn K mainGlobals "_law_plain_code" = some (some (.ref f10))) (l10 : K.lookup f10 = some ⟨oc10, od10, .func (PySem.W.fnOf "_law_plain_code" "_law_plain_code" (defArgs s__law_plain_code) (defBody s__law_plain_code) (defScope s__law_plain_code) .none kV10 dc10 pm10 an10 cd10 ct10), sl10⟩) (c10 : PySem.W.codeIn K cd10 "_law_plain_code" = true) (k10 : PySem.W.keepIn K (.ref f10) = true)
    (a11 : PySem.W.nsIn K mainGlobals "_law_turned" = some (some (.ref f11))) (l11 : K.lookup f11 = some ⟨oc11, od11, .func (PySem.W.fnOf "_law_turned" "_law_turned" (defArgs s__law_turned) (defBody s__law_turned) (defScope s__law_turned) .none kV11 dc11 pm11 an11 cd11 ct11), sl11⟩) (c11 : PySem.W.codeIn K cd11 "_law_turned" = true) (k11 : PySem.W.keepIn K (.ref f11) = true)
    (a12 : PySem.W.nsIn K mainGlobals "_law_drawn" = some (some (.ref f12))) (l12 : K.lookup f12 = some ⟨oc12, od12, .func (PySem.W.fnOf "_law_drawn" "_law_drawn" (defArgs s__law_drawn) (defBody s__law_drawn) (defScope s__law_drawn) .none kV12 dc12 pm12 an12 cd12 ct12), sl12⟩) (c12 : PySem.W.codeIn K cd12 "_law_drawn" = true) (k12 : PySem.W.keepIn K (.ref f12) = true)
    (a13 : PySem.W.nsIn K mainGlobals "_law_code" = some (some (.ref f13))) (l13 : K.lookup f13 = some ⟨oc13, od13, .func (PySem.W.fnOf "_law_code" "_law_code" (defArgs s__law_code) (defBody s__law_code) (defScope s__law_code) .none kV13 dc13 pm13 an13 cd13 ct13), sl13⟩) (c13 : PySem.W.codeIn K cd13 "_law_code" = true) (k13 : PySem.W.keepIn K (.ref f13) = true)
    (a14 : PySem.W.nsIn K mainGlobals "_law_ones" = some (some (.ref f14))) (l14 : K.lookup f14 = some ⟨oc14, od14, .func (PySem.W.fnOf "_law_ones" "_law_ones" (defArgs s__law_ones) (defBody s__law_ones) (defScope s__law_ones) .none kV14 dc14 pm14 an14 cd14 ct14), sl14⟩) (c14 : PySem.W.codeIn K cd14 "_law_ones" = true) (k14 : PySem.W.keepIn K (.ref f14) = true)
    (a15 : PySem.W.nsIn K mainGlobals "_law_good" = some (some (.ref f15))) (l15 : K.lookup f15 = some ⟨oc15, od15, .func (PySem.W.fnOf "_law_good" "_law_good" (defArgs s__law_good) (defBody s__law_good) (defScope s__law_good) .none kV15 dc15 pm15 an15 cd15 ct15), sl15⟩) (c15 : PySem.W.codeIn K cd15 "_law_good" = true) (k15 : PySem.W.keepIn K (.ref f15) = true)
    (a16 : PySem.W.nsIn K mainGlobals "law" = some (some (.ref f16))) (l16 : K.lookup f16 = some ⟨oc16, od16, .func (PySem.W.fnOf "law" "law" (defArgs s_law) (defBody s_law) (defScope s_law) .none kV16 dc16 pm16 an16 cd16 ct16), sl16⟩) (c16 : PySem.W.codeIn K cd16 "law" = true) (k16 : PySem.W.keepIn K (.ref f16) = true)
    (z1 : PySem.W.nsIn K mainGlobals "bool" = some none)
    (z2 : PySem.W.nsIn K mainGlobals "int" = some none)
    (z3 : PySem.W.nsIn K mainGlobals "isinstance" = some none)
    (z4 : PySem.W.nsIn K mainGlobals "len" = some none)
    (z5 : PySem.W.nsIn K mainGlobals "list" = some none)
    (z6 : PySem.W.nsIn K mainGlobals "max" = some none)
    (z7 : PySem.W.nsIn K mainGlobals "min" = some none)
    (z8 : PySem.W.nsIn K mainGlobals "range" = some none)
    (z9 : PySem.W.nsIn K mainGlobals "set" = some none)
    (z10 : PySem.W.nsIn K mainGlobals "tuple" = some none)
    (g1 : PySem.W.nsIn K mainGlobals "CODE_WIDTH" = some (some (.int 16 tk1)))
    (g2 : PySem.W.nsIn K mainGlobals "FEWEST_WORDS" = some (some (.int 2 tk2)))
    (g3 : PySem.W.nsIn K mainGlobals "MOST_WORDS" = some (some (.int 64 tk3))) :
    ∃ fd : FuncData, (∀ (s : Shared) (v : Value), BindsTo s fd ⟨[v], []⟩ [("script", v)]) ∧ ∀ base : Heap, K.In base → base.Ns mainGlobals mg → FnOk l.prog w K mg base CX0 60 fa fd ["script"] (spLawV K) := by
  have e := hfa.symm.trans (PySem.W.mg_of X G a16)
  cases e
  have T : Txt K mg ⟨f1, PySem.W.fnOf "is_whole" "is_whole" (defArgs s_is_whole) (defBody s_is_whole) (defScope s_is_whole) .none kV1 dc1 pm1 an1 cd1 ct1, f2, PySem.W.fnOf "two_to" "two_to" (defArgs s_two_to) (defBody s_two_to) (defScope s_two_to) .none kV2 dc2 pm2 an2 cd2 ct2, f3, PySem.W.fnOf "fits" "fits" (defArgs s_fits) (defBody s_fits) (defScope s_fits) .none kV3 dc3 pm3 an3 cd3 ct3, f4, PySem.W.fnOf "amid" "amid" (defArgs s_amid) (defBody s_amid) (defScope s_amid) .none kV4 dc4 pm4 an4 cd4 ct4, f5, PySem.W.fnOf "refuse_no_code" "refuse_no_code" (defArgs s_refuse_no_code) (defBody s_refuse_no_code) (defScope s_refuse_no_code) .none kV5 dc5 pm5 an5 cd5 ct5, f6, PySem.W.fnOf "tear" "tear" (defArgs s_tear) (defBody s_tear) (defScope s_tear) .none kV6 dc6 pm6 an6 cd6 ct6, f7, PySem.W.fnOf "_law_cell_at" "_law_cell_at" (defArgs s__law_cell_at) (defBody s__law_cell_at) (defScope s__law_cell_at) .none kV7 dc7 pm7 an7 cd7 ct7, f8, PySem.W.fnOf "_law_whole" "_law_whole" (defArgs s__law_whole) (defBody s__law_whole) (defScope s__law_whole) .none kV8 dc8 pm8 an8 cd8 ct8, f9, PySem.W.fnOf "_law_stream" "_law_stream" (defArgs s__law_stream) (defBody s__law_stream) (defScope s__law_stream) .none kV9 dc9 pm9 an9 cd9 ct9, f10, PySem.W.fnOf "_law_plain_code" "_law_plain_code" (defArgs s__law_plain_code) (defBody s__law_plain_code) (defScope s__law_plain_code) .none kV10 dc10 pm10 an10 cd10 ct10, f11, PySem.W.fnOf "_law_turned" "_law_turned" (defArgs s__law_turned) (defBody s__law_turned) (defScope s__law_turned) .none kV11 dc11 pm11 an11 cd11 ct11, f12, PySem.W.fnOf "_law_drawn" "_law_drawn" (defArgs s__law_drawn) (defBody s__law_drawn) (defScope s__law_drawn) .none kV12 dc12 pm12 an12 cd12 ct12, f13, PySem.W.fnOf "_law_code" "_law_code" (defArgs s__law_code) (defBody s__law_code) (defScope s__law_code) .none kV13 dc13 pm13 an13 cd13 ct13, f14, PySem.W.fnOf "_law_ones" "_law_ones" (defArgs s__law_ones) (defBody s__law_ones) (defScope s__law_ones) .none kV14 dc14 pm14 an14 cd14 ct14, f15, PySem.W.fnOf "_law_good" "_law_good" (defArgs s__law_good) (defBody s__law_good) (defScope s__law_good) .none kV15 dc15 pm15 an15 cd15 ct15, fa, PySem.W.fnOf "law" "law" (defArgs s_law) (defBody s_law) (defScope s_law) .none kV16 dc16 pm16 an16 cd16 ct16⟩ := {
    F_is_whole := fun_mk (st := s_is_whole) l1 c1 k1
    b_is_whole := (fun_mk (st := s_is_whole) l1 c1 k1).binds (ps := ["value"]) fun _ _ _ _ _ _ us hl => match us, hl with | [_], _ => rfl
    m_is_whole := PySem.W.mg_of X G a1
    F_two_to := fun_mk (st := s_two_to) l2 c2 k2
    b_two_to := (fun_mk (st := s_two_to) l2 c2 k2).binds (ps := ["exponent"]) fun _ _ _ _ _ _ us hl => match us, hl with | [_], _ => rfl
    m_two_to := PySem.W.mg_of X G a2
    F_fits := fun_mk (st := s_fits) l3 c3 k3
    b_fits := (fun_mk (st := s_fits) l3 c3 k3).binds (ps := ["width", "number"]) fun _ _ _ _ _ _ us hl => match us, hl with | [_, _], _ => rfl
    m_fits := PySem.W.mg_of X G a3
    F_amid := fun_mk (st := s_amid) l4 c4 k4
    b_amid := (fun_mk (st := s_amid) l4 c4 k4).binds (ps := ["old", "new", "choice"]) fun _ _ _ _ _ _ us hl => match us, hl with | [_, _, _], _ => rfl
    m_amid := PySem.W.mg_of X G a4
    F_refuse_no_code := fun_mk (st := s_refuse_no_code) l5 c5 k5
    b_refuse_no_code := (fun_mk (st := s_refuse_no_code) l5 c5 k5).binds (ps := ["code"]) fun _ _ _ _ _ _ us hl => match us, hl with | [_], _ => rfl
    m_refuse_no_code := PySem.W.mg_of X G a5
    F_tear := fun_mk (st := s_tear) l6 c6 k6
    b_tear := (fun_mk (st := s_tear) l6 c6 k6).binds (ps := ["code"]) fun _ _ _ _ _ _ us hl => match us, hl with | [_], _ => rfl
    m_tear := PySem.W.mg_of X G a6
    F__law_cell_at := fun_mk (st := s__law_cell_at) l7 c7 k7
    b__law_cell_at := (fun_mk (st := s__law_cell_at) l7 c7 k7).binds (ps := ["script", "k"]) fun _ _ _ _ _ _ us hl => match us, hl with | [_, _], _ => rfl
    m__law_cell_at := PySem.W.mg_of X G a7
    F__law_whole := fun_mk (st := s__law_whole) l8 c8 k8
    b__law_whole := (fun_mk (st := s__law_whole) l8 c8 k8).binds (ps := ["found"]) fun _ _ _ _ _ _ us hl => match us, hl with | [_], _ => rfl
    m__law_whole := PySem.W.mg_of X G a8
    F__law_stream := fun_mk (st := s__law_stream) l9 c9 k9
    b__law_stream := (fun_mk (st := s__law_stream) l9 c9 k9).binds (ps := ["cell", "many"]) fun _ _ _ _ _ _ us hl => match us, hl with | [_, _], _ => rfl
    m__law_stream := PySem.W.mg_of X G a9
    F__law_plain_code := fun_mk (st := s__law_plain_code) l10 c10 k10
    b__law_plain_code := (fun_mk (st := s__law_plain_code) l10 c10 k10).binds (ps := ["kind", "m"]) fun _ _ _ _ _ _ us hl => match us, hl with | [_, _], _ => rfl
    m__law_plain_code := PySem.W.mg_of X G a10
    F__law_turned := fun_mk (st := s__law_turned) l11 c11 k11
    b__law_turned := (fun_mk (st := s__law_turned) l11 c11 k11).binds (ps := ["code", "by", "mask"]) fun _ _ _ _ _ _ us hl => match us, hl with | [_, _, _], _ => rfl
    m__law_turned := PySem.W.mg_of X G a11
    F__law_drawn := fun_mk (st := s__law_drawn) l12 c12 k12
    b__law_drawn := (fun_mk (st := s__law_drawn) l12 c12 k12).binds (ps := ["cell", "many"]) fun _ _ _ _ _ _ us hl => match us, hl with | [_, _], _ => rfl
    m__law_drawn := PySem.W.mg_of X G a12
    F__law_code := fun_mk (st := s__law_code) l13 c13 k13
    b__law_code := (fun_mk (st := s__law_code) l13 c13 k13).binds (ps := ["first", "second"]) fun _ _ _ _ _ _ us hl => match us, hl with | [_, _], _ => rfl
    m__law_code := PySem.W.mg_of X G a13
    F__law_ones := fun_mk (st := s__law_ones) l14 c14 k14
    b__law_ones := (fun_mk (st := s__law_ones) l14 c14 k14).binds (ps := ["word"]) fun _ _ _ _ _ _ us hl => match us, hl with | [_], _ => rfl
    m__law_ones := PySem.W.mg_of X G a14
    F__law_good := fun_mk (st := s__law_good) l15 c15 k15
    b__law_good := (fun_mk (st := s__law_good) l15 c15 k15).binds (ps := ["found", "code"]) fun _ _ _ _ _ _ us hl => match us, hl with | [_, _], _ => rfl
    m__law_good := PySem.W.mg_of X G a15
    F_law := fun_mk (st := s_law) l16 c16 k16
    b_law := (fun_mk (st := s_law) l16 c16 k16).binds (ps := ["script"]) fun _ _ _ _ _ _ us hl => match us, hl with | [_], _ => rfl
    m_law := PySem.W.mg_of X G a16
    z_bool := PySem.W.mg_none_of X G z1
    z_int := PySem.W.mg_none_of X G z2
    z_isinstance := PySem.W.mg_none_of X G z3
    z_len := PySem.W.mg_none_of X G z4
    z_list := PySem.W.mg_none_of X G z5
    z_max := PySem.W.mg_none_of X G z6
    z_min := PySem.W.mg_none_of X G z7
    z_range := PySem.W.mg_none_of X G z8
    z_set := PySem.W.mg_none_of X G z9
    z_tuple := PySem.W.mg_none_of X G z10
    c_CODE_WIDTH := ⟨_, PySem.W.mg_of X G g1⟩
    c_FEWEST_WORDS := ⟨_, PySem.W.mg_of X G g2⟩
    c_MOST_WORDS := ⟨_, PySem.W.mg_of X G g3⟩
  }
  exact ⟨PySem.W.fnOf "law" "law" (defArgs s_law) (defBody s_law) (defScope s_law) .none kV16 dc16 pm16 an16 cd16 ct16, fun s v => .of_eq rfl, fun base _ _ => law_imp (FnOk.mono (ok_law T) (by decide))⟩
theorem walk {l : PySem.W.OpenLaw} {q : Program} {loose : List Str} {XP : (Str → Option Value) → Heap → Prop} {YP : World → Heap → Prop} {d : DefRec} {K : Params → PySem.W.Frag} (hn : l.most = some 63) (hdf : d.params.defaults = [])
    (hY : ∀ (w : World) (h : Heap), YP w h → (K w.params).In h)
    (F : ∀ (w : World) (mg : Str → Option Value) (fa : Addr) (h : Heap), (K w.params).In h → h.Ns mainGlobals mg → mg d.name = some (.ref fa) →
      ∃ fd : FuncData, (∀ (s : Shared) (u : Value), BindsTo s fd ⟨[u], []⟩ [("script", u)]) ∧ ∀ base : Heap, (K w.params).In base → base.Ns mainGlobals mg → FnOk l.prog w (K w.params) mg base CX0 60 fa fd ["script"] (spLawV (K w.params))) :
    PySem.W.WalkO q loose XP YP l.row.toRowW d [] (fun f vs => PySem.call f vs) :=
  L2.walk_of (n := 63) (k := 60) (x := "script") (CX := fun _ => CX0) (sp := fun w => spLawV (K w.params)) hn (by decide) hdf ⟨rfl, by decide, by decide⟩ hY F (fun _ H a ns hl hO hS => ⟨a, ns, rfl, frl_of hO hS, hl, fun _ => rfl⟩) fun _ _ _ _ _ z => z
end My
open PySem PySem.W PyProof.Rows
set_option maxRecDepth 100000 in
set_option maxHeartbeats 0 in
theorem PySem.Challenge.cw_bellferry_k05_a_tear_holds : PySem.Challenge.rw_bellferry_k05_a_tear.Holds := by
  w_on; o_law; k_head; (case hw => w_witness2)
  k_fill
  refine My.walk (l := PySem.Challenge.rw_bellferry_k05_a_tear) rfl rfl (fun w h Y => PySem.W.kIn_of Y) ?F
  case F =>
    intro w mg fa h KX G hmg
    refine' My.all_mk KX G hmg ?a1 ?l1 ?c1 ?k1 ?a2 ?l2 ?c2 ?k2 ?a3 ?l3 ?c3 ?k3 ?a4 ?l4 ?c4 ?k4 ?a5 ?l5 ?c5 ?k5 ?a6 ?l6 ?c6 ?k6 ?a7 ?l7 ?c7 ?k7 ?a8 ?l8 ?c8 ?k8 ?a9 ?l9 ?c9 ?k9 ?a10 ?l10 ?c10 ?k10 ?a11 ?l11 ?c11 ?k11 ?a12 ?l12 ?c12 ?k12 ?a13 ?l13 ?c13 ?k13 ?a14 ?l14 ?c14 ?k14 ?a15 ?l15 ?c15 ?k15 ?a16 ?l16 ?c16 ?k16 ?z1 ?z2 ?z3 ?z4 ?z5 ?z6 ?z7 ?z8 ?z9 ?z10 ?g1 ?g2 ?g3
    (case a1 => k_is)
    (case l1 => k_is)
    (case c1 => k_is)
    (case k1 => k_is)
    (case a2 => k_is)
    (case l2 => k_is)
    (case c2 => k_is)
    (case k2 => k_is)
    (case a3 => k_is)
    (case l3 => k_is)
    (case c3 => k_is)
    (case k3 => k_is)
    (case a4 => k_is)
    (case l4 => k_is)
    (case c4 => k_is)
    (case k4 => k_is)
    (case a5 => k_is)
    (case l5 => k_is)
    (case c5 => k_is)
    (case k5 => k_is)
    (case a6 => k_is)
    (case l6 => k_is)
    (case c6 => k_is)
    (case k6 => k_is)
    (case a7 => k_is)
    (case l7 => k_is)
    (case c7 => k_is)
    (case k7 => k_is)
    (case a8 => k_is)
    (case l8 => k_is)
    (case c8 => k_is)
    (case k8 => k_is)
    (case a9 => k_is)
    (case l9 => k_is)
    (case c9 => k_is)
    (case k9 => k_is)
    (case a10 => k_is)
    (case l10 => k_is)
    (case c10 => k_is)
    (case k10 => k_is)
    (case a11 => k_is)
    (case l11 => k_is)
    (case c11 => k_is)
    (case k11 => k_is)
    (case a12 => k_is)
    (case l12 => k_is)
    (case c12 => k_is)
    (case k12 => k_is)
    (case a13 => k_is)
    (case l13 => k_is)
    (case c13 => k_is)
    (case k13 => k_is)
    (case a14 => k_is)
    (case l14 => k_is)
    (case c14 => k_is)
    (case k14 => k_is)
    (case a15 => k_is)
    (case l15 => k_is)
    (case c15 => k_is)
    (case k15 => k_is)
    (case a16 => k_is)
    (case l16 => k_is)
    (case c16 => k_is)
    (case k16 => k_is)
    (case z1 => k_is)
    (case z2 => k_is)
    (case z3 => k_is)
    (case z4 => k_is)
    (case z5 => k_is)
    (case z6 => k_is)
    (case z7 => k_is)
    (case z8 => k_is)
    (case z9 => k_is)
    (case z10 => k_is)
    (case g1 => k_is)
    (case g2 => k_is)
    (case g3 => k_is)
#print axioms PySem.Challenge.cw_bellferry_k05_a_tear_holds
