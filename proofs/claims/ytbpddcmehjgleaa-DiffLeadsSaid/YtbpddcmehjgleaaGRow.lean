/- Rows of records of any one type: read, one's own, cut, appended to, written. -/
import Derived.Test.YtbpddcmehjgleaaRec
import Derived.Test.YtbpddcmehjgleaaRd
import Derived.Maps.AppendAt
import Derived.Laws.AppendOwnNone
namespace Go.Proofs.Ytbpddcmehjgleaa
open Go.RowKit
set_option linter.unusedVariables false
set_option linter.unusedSimpArgs false
set_option linter.unnecessarySimpa false

/-- How records of one type lie in cells: a record's cells, how many, what its numbers keep to; the type's number, and its slices'. -/
structure RT (α : Type) where
  V : α → List Value
  sz : Nat
  B : α → Prop
  E : TypeId
  S : TypeId
structure RT.Ok {α : Type} (R : RT α) : Prop where
  len : ∀ t, (R.V t).length = R.sz
  one : ∀ t, ∀ u ∈ R.V t, u.oneCell' = true
  pos : 0 < R.sz
  und : Try.prog.underlying R.S = some (.slice R.E)
  info : ∃ i z, Try.prog.info? R.E = some i ∧ i.zero = some z ∧ i.size = R.sz ∧ i.bytes ≤ 1024 ∧ z.cells.size = R.sz
theorem RT.Ok.of {α : Type} {R : RT α} (len : ∀ t, (R.V t).length = R.sz) (one : ∀ t, ∀ u ∈ R.V t, u.oneCell' = true) (pos : 0 < R.sz) (und : Try.prog.underlying R.S = some (.slice R.E)) {z : Value} {sz bytes : Nat}
    (h : (Try.prog.info? R.E).map (fun i => (i.zero, i.size, i.bytes)) = some (some z, sz, bytes)) (hs : sz = R.sz) (hb : bytes ≤ 1024) (hz : z.cells.size = R.sz) : R.Ok := by
  obtain ⟨i0, hi, hz0, hz1, hz2⟩ := info_parts h
  exact ⟨len, one, pos, und, i0, z, hi, hz0, hz1.trans hs, by omega, hz⟩

variable {α : Type} {R : RT α}

/-! ### a row that one reads -/
def GRow (R : RT α) (w : World) (a : Option Addr) (cap : Nat) (ts : List α) : Prop :=
  ts.length ≤ cap ∧ cap ≤ maxLen ∧ (a = none → cap = 0) ∧ (∀ t ∈ ts, R.B t) ∧ ∀ x, a = some x → ∀ (i : Nat) t, ts[i]? = some t → x.spot = .none ∧ ∀ (k : Nat) v, (R.V t)[k]? = some v → w.cell? ⟨x.block, x.off + i * R.sz + k, .none⟩ = some v
theorem RowE.grow {w : World} {E : List Value → α → Prop} {sz : Nat} {a : Option Addr} {cap : Nat} {ts : List α} (h : RowE w sz E a cap ts) (hsz : sz = R.sz) (hp : 0 < sz) (hl : ∀ t, (R.V t).length = R.sz) (hE : ∀ cs t, E cs t → cs = R.V t ∧ R.B t) : GRow R w a cap ts := by
  subst hsz
  refine ⟨h.1, h.2.1, h.2.2.1, fun t ht => ?_, fun x hx i e he => ?_⟩
  · obtain ⟨i, hi⟩ := List.mem_iff_getElem?.1 ht
    cases ha : a with
    | none =>
      have := h.2.2.1 ha
      have := h.1
      have := (List.getElem?_eq_some_iff.1 hi).1
      omega
    | some x =>
      obtain ⟨cs, h1, h2, h3⟩ := h.2.2.2 x ha i t hi
      exact (hE _ _ h3).2
  · have hsp : x.spot = none := by
      have hi := (List.getElem?_eq_some_iff.1 he).1
      obtain ⟨cs, h1, h2, h3⟩ := h.2.2.2 x hx 0 ts[0] (List.getElem?_eq_getElem (by omega))
      have c0 := h2 0 hp
      rw [List.getElem?_eq_getElem (by omega), Nat.zero_mul] at c0
      exact World.cell?_spot c0
    obtain ⟨cs, h1, h2, h3⟩ := h.2.2.2 x hx i e he
    obtain ⟨rfl, _⟩ := hE _ _ h3
    refine ⟨hsp, fun k v hv => ?_⟩
    have hk := (List.getElem?_eq_some_iff.1 hv).1
    have c0 := h2 k (by omega)
    rw [add_add hsp] at c0
    rw [c0, hv]
theorem GRow.later {w w' : World} {a : Option Addr} {cap : Nat} {ts : List α} (h : GRow R w a cap ts) (hb : Below w.heap.size w w') : GRow R w' a cap ts := by
  refine ⟨h.1, h.2.1, h.2.2.1, h.2.2.2.1, fun x hx i e he => ?_⟩
  obtain ⟨hs, c⟩ := h.2.2.2.2 x hx i e he
  refine ⟨hs, fun k v hv => ?_⟩
  have c0 := c k v hv
  rw [hb.cell (World.block_lt_of_cell? w _ c0)]; exact c0
theorem GRow.at {w : World} {a : Option Addr} {cap : Nat} {ts : List α} (h : GRow R w a cap ts) {i : Nat} {t : α} (he : ts[i]? = some t) :
    ∃ b off, a = some ⟨b, off, .none⟩ ∧ ∀ (k : Nat) v, (R.V t)[k]? = some v → w.cell? ⟨b, off + i * R.sz + k, .none⟩ = some v := by
  cases a with
  | none =>
    have := h.2.2.1 rfl
    have := h.1
    have := (List.getElem?_eq_some_iff.1 he).1
    omega
  | some x =>
    obtain ⟨hs, c⟩ := h.2.2.2.2 x rfl i t he
    obtain ⟨b, off, sp⟩ := x
    simp only at hs
    subst hs
    exact ⟨b, off, rfl, c⟩
theorem GRow.b {w : World} {a : Option Addr} {cap : Nat} {ts : List α} (h : GRow R w a cap ts) {i : Nat} {t : α} (he : ts[i]? = some t) : R.B t := h.2.2.2.1 t (List.mem_of_getElem? he)
theorem GRow.nil (R : RT α) (w : World) : GRow R w .none 0 [] := ⟨by simp, by simp [maxLen], fun _ => rfl, fun t h => (by cases h), fun x h => by cases h⟩
theorem GRow.take {w : World} {a : Option Addr} {cap : Nat} {ts : List α} (h : GRow R w a cap ts) (k : Nat) : GRow R w a cap (ts.take k) := by
  refine ⟨by have := h.1; simp; omega, h.2.1, h.2.2.1, fun t ht => h.2.2.2.1 t (List.mem_of_mem_take ht), fun x hx i e he => h.2.2.2.2 x hx i e ?_⟩
  rw [List.getElem?_take] at he
  split at he
  · exact he
  · cases he
theorem GRow.none_nil {w : World} {cap : Nat} {ts : List α} (h : GRow R w none cap ts) : ts = [] ∧ cap = 0 := by
  have h1 := h.2.2.1 rfl
  exact ⟨List.length_eq_zero_iff.1 (by have := h.1; omega), h1⟩
/-- Where 's[lo:]' lies. -/
def cutA (sz : Nat) (a : Option Addr) (lo cap : Nat) : Option Addr := if cap = lo then a else a.map (·.add (lo * sz))
theorem GRow.drop {w : World} {a : Option Addr} {cap : Nat} {ts : List α} (h : GRow R w a cap ts) {lo : Nat} (hl : lo ≤ ts.length) : GRow R w (cutA R.sz a lo cap) (cap - lo) (ts.drop lo) := by
  refine ⟨by have := h.1; simp; omega, by have := h.2.1; omega, fun e => ?_, fun t ht => h.2.2.2.1 t (List.mem_of_mem_drop ht), fun x hx i e he => ?_⟩
  · unfold cutA at e
    split at e
    · omega
    · have := h.2.2.1 (by simpa using e); omega
  · rw [List.getElem?_drop] at he
    obtain ⟨b, off, ha, c⟩ := h.at he
    have hi := (List.getElem?_eq_some_iff.1 he).1
    have h1 := h.1
    unfold cutA at hx
    rw [if_neg (by omega), ha] at hx
    simp only [Option.map_some, Option.some.injEq] at hx
    have e0 : (⟨b, off, none⟩ : Addr).add (lo * R.sz) = ⟨b, off + lo * R.sz, none⟩ := by unfold Addr.add; split <;> simp_all
    rw [e0] at hx
    subst hx
    refine ⟨rfl, fun k v hv => ?_⟩
    rw [← c k v hv]
    congr 2
    simp only
    rw [Nat.add_mul]; omega
theorem flat_lenG (hR : R.Ok) (ts : List α) : (ts.flatMap R.V).length = ts.length * R.sz := by
  induction ts with
  | nil => simp
  | cons t ts ih => rw [List.flatMap_cons, List.length_append, ih, List.length_cons, hR.len, Nat.add_mul]; omega
theorem flat_getG (hR : R.Ok) {ts : List α} {i : Nat} {t : α} (h : ts[i]? = some t) : ∀ k, k < R.sz → (ts.flatMap R.V)[i * R.sz + k]? = (R.V t)[k]? := by
  induction ts generalizing i with
  | nil => simp at h
  | cons s ts ih =>
    intro k hk
    rw [List.flatMap_cons]
    cases i with
    | zero =>
      simp at h; subst h
      rw [List.getElem?_append_left (by rw [hR.len]; omega)]
      simp
    | succ i =>
      rw [List.getElem?_append_right (by rw [hR.len, Nat.add_mul]; omega), hR.len, show (i + 1) * R.sz + k - R.sz = i * R.sz + k by rw [Nat.add_mul]; omega]
      exact ih (by simpa using h) k hk
theorem flat_oneG (hR : R.Ok) {ts : List α} : ∀ u ∈ ts.flatMap R.V, u.oneCell' = true := by
  intro u hu
  obtain ⟨t, _, h⟩ := List.mem_flatMap.1 hu
  exact hR.one t u h
theorem flat_takeG (hR : R.Ok) (ts : List α) (k : Nat) : (ts.flatMap R.V).take (k * R.sz) = (ts.take k).flatMap R.V := by
  induction ts generalizing k with
  | nil => simp
  | cons t ts ih =>
    cases k with
    | zero => simp
    | succ k =>
      rw [List.flatMap_cons, List.take_append, List.take_succ_cons, List.flatMap_cons, hR.len, List.take_of_length_le (by rw [hR.len, Nat.add_mul]; omega), show (k + 1) * R.sz - R.sz = k * R.sz by rw [Nat.add_mul]; omega, ih]
theorem flat_setG (hR : R.Ok) {ts : List α} {i k : Nat} {t t' : α} {v : Value} (h : ts[i]? = some t) (hk : k < R.sz) (ht : R.V t' = (R.V t).set k v) : (ts.flatMap R.V).set (i * R.sz + k) v = (ts.set i t').flatMap R.V := by
  induction ts generalizing i with
  | nil => simp at h
  | cons s ts ih =>
    cases i with
    | zero =>
      simp at h; subst h
      rw [List.flatMap_cons, List.set_cons_zero, List.flatMap_cons, ht, List.set_append_left _ _ (by rw [hR.len]; omega)]
      simp
    | succ i =>
      rw [List.flatMap_cons, List.set_cons_succ, List.flatMap_cons, List.set_append_right _ _ (by rw [hR.len, Nat.add_mul]; omega), hR.len, show (i + 1) * R.sz + k - R.sz = i * R.sz + k by rw [Nat.add_mul]; omega, ih (by simpa using h)]
/-- Its cells, one behind the other. -/
theorem GRow.flat {w : World} {x : Addr} {cap : Nat} {ts : List α} (hR : R.Ok) (h : GRow R w (some x) cap ts) {j : Nat} {u : Value} (hj : (ts.flatMap R.V)[j]? = some u) : w.cell? (x.add j) = some u := by
  have hlt := (List.getElem?_eq_some_iff.1 hj).1
  rw [flat_lenG hR] at hlt
  have hp := hR.pos
  have hdm := Nat.div_add_mod j R.sz
  have hi : j / R.sz < ts.length := Nat.div_lt_of_lt_mul (by rw [Nat.mul_comm]; exact hlt)
  have hk : j % R.sz < R.sz := Nat.mod_lt _ hp
  have ht : ts[j / R.sz]? = some ts[j / R.sz] := List.getElem?_eq_getElem hi
  have := flat_getG hR ht _ hk
  rw [show j / R.sz * R.sz + j % R.sz = j by rw [Nat.mul_comm]; exact hdm, hj] at this
  obtain ⟨hs, c⟩ := h.2.2.2.2 x rfl _ _ ht
  have c0 := c _ _ this.symm
  obtain ⟨b, off, sp⟩ := x
  simp only at hs
  subst hs
  have e : (⟨b, off, none⟩ : Addr).add j = ⟨b, off + j, none⟩ := by unfold Addr.add; split <;> simp_all
  rw [e, ← c0]
  congr 2
  simp only
  rw [Nat.mul_comm] at hdm; omega

/-! ### a row of one's own -/
def GOwn (R : RT α) (W0 w : World) (v : Value) (ts : List α) : Prop := w.ownsRow W0.heap.size R.E R.sz v ts.length (ts.flatMap R.V) ∧ Below W0.heap.size W0 w ∧ ∀ t ∈ ts, R.B t
theorem GOwn.nil (R : RT α) (w : World) : GOwn R w w (.slice .none 0 0) [] := ⟨World.ownsRow_nil _ _ _ _, Below.refl _ _, fun t h => by cases h⟩
theorem GOwn.nil' {W0 w : World} (h : Below W0.heap.size W0 w) : GOwn R W0 w (.slice .none 0 0) [] := ⟨World.ownsRow_nil _ _ _ _, h, fun t h => by cases h⟩
theorem GOwn.below {W0 w : World} {v : Value} {ts : List α} (h : GOwn R W0 w v ts) : Below W0.heap.size W0 w := h.2.1
theorem GOwn.later {W0 w w' : World} {v : Value} {ts : List α} (h : GOwn R W0 w v ts) (hb : Below w.heap.size w w') : GOwn R W0 w' v ts := ⟨ownsRow_later h.1 hb, h.2.1.trans (hb.mono h.2.1.size), h.2.2⟩
theorem GOwn.back {W0 W1 w : World} {v : Value} {ts : List α} (h : GOwn R W1 w v ts) (hb : Below W0.heap.size W0 W1) : GOwn R W0 w v ts := by
  refine ⟨⟨h.1.1, ?_⟩, hb.trans (h.2.1.mono hb.size), h.2.2⟩
  rcases h.1.2 with hv | ⟨g, cap, cur, hv, hb2, rest⟩
  · exact .inl hv
  · exact .inr ⟨g, cap, cur, hv, Nat.le_trans hb.size hb2, rest⟩
theorem GOwn.row (hR : R.Ok) {W0 w : World} {v : Value} {ts : List α} (h : GOwn R W0 w v ts) : ∃ a cap, v = .slice a ts.length cap ∧ GRow R w a cap ts := by
  rcases h.1.2 with ⟨hv, hn⟩ | ⟨g, cap, cur, hv, hb, hg, hn, hc, hs, ht⟩
  · have : ts = [] := List.length_eq_zero_iff.1 hn
    subst this
    exact ⟨.none, 0, hv, GRow.nil R w⟩
  · refine ⟨_, cap, hv, hn, hc, fun e => (by cases e), h.2.2, fun x hx i t he => ?_⟩
    cases hx
    have hi := (List.getElem?_eq_some_iff.1 he).1
    have hr1 := h.1
    rw [hv] at hr1
    refine ⟨rfl, fun k v hk => ?_⟩
    have hks : k < R.sz := by have := (List.getElem?_eq_some_iff.1 hk).1; rw [hR.len] at this; exact this
    have hlt : i * R.sz + k < ts.length * R.sz := by
      have := Nat.mul_le_mul_right R.sz (show i + 1 ≤ ts.length from hi)
      rw [Nat.add_mul] at this; omega
    have := hr1.cellAt (i * R.sz + k) hlt
    simp only [Nat.zero_add]
    rw [this, flat_getG hR he k hks]; exact hk
theorem GOwn.row_n (hR : R.Ok) {W0 w : World} {v : Value} {ts : List α} {n : Nat} (h : GOwn R W0 w v ts) (hn : ts.length = n) : ∃ a cap, v = .slice a n cap ∧ GRow R w a cap ts := by subst hn; exact h.row hR
theorem GOwn.empty {W0 w : World} (h : Below W0.heap.size W0 w) {E : TypeId} (hE : E = R.E) : GOwn R W0 (w.alloc (.cells #[] E)) (.slice (some ⟨w.heap.size, 0, none⟩) 0 0) [] := by
  subst hE
  exact ⟨World.ownsRow_made w #[] 0 h.size (by simp [maxLen]) (by simp), h.alloc h.size _, fun t h => by cases h⟩
theorem GOwn.empty_at {W0 w : World} (h : Below W0.heap.size W0 w) {E : TypeId} (hE : E = R.E) (x : Nat) (hx : x = w.heap.size) : GOwn R W0 (w.alloc (.cells #[] E)) (.slice (some ⟨x, 0, none⟩) 0 0) [] := by
  subst hx; exact GOwn.empty h hE
/-- A row of one record, laid as a literal. -/
theorem GOwn.one (hR : R.Ok) {W0 w : World} {t : α} (hb : Below W0.heap.size W0 w) (h : R.B t) {cs : Array Value} (hc : cs.toList = R.V t) {E : TypeId} (hE : E = R.E) : GOwn R W0 (w.alloc (.cells cs E)) (.slice (some ⟨w.heap.size, 0, none⟩) 1 1) [t] := by
  subst hE
  have h0 : cs.size = R.sz := by rw [← Array.length_toList, hc, hR.len]
  exact ⟨⟨by simp [hR.len], .inr ⟨w.heap.size, 1, _, rfl, hb.size, heap_alloc_new w _, Nat.le_refl _, by simp [maxLen], by rw [h0]; simp, by rw [hc]; simp only [List.length_singleton, Nat.one_mul, List.flatMap_cons, List.flatMap_nil, List.append_nil]; exact List.take_of_length_le (Nat.le_of_eq (hR.len t))⟩⟩, hb.alloc hb.size _, fun s hs => by simp at hs; subst hs; exact h⟩
/-- A row of one's own of one record and more is a block's beginning. -/
theorem GOwn.at {W0 w : World} {v : Value} {ts : List α} {n : Nat} (h : GOwn R W0 w v ts) (hn : ts.length = n) (h0 : 0 < n) : ∃ g cap, v = .slice (some ⟨g, 0, none⟩) n cap ∧ n ≤ cap ∧ cap ≤ maxLen ∧ W0.heap.size ≤ g ∧ g < w.heap.size := by
  subst hn
  rcases h.1.2 with ⟨hv, hz⟩ | ⟨g, cap, cur, hv, hb, hg, hn, hc, hs, ht⟩
  · omega
  · exact ⟨g, cap, hv, hn, hc, hb, (Array.getElem?_eq_some_iff.1 hg).1⟩
/-- Its beginning is one's own too. -/
theorem GOwn.take (hR : R.Ok) {W0 w : World} {g n cap : Nat} {ts : List α} (h : GOwn R W0 w (.slice (some ⟨g, 0, none⟩) n cap) ts) (hn : ts.length = n) {k : Nat} (hk : k ≤ n) : GOwn R W0 w (.slice (some ⟨g, 0, none⟩) k cap) (ts.take k) := by
  subst hn
  have hl : (ts.take k).length = k := by rw [List.length_take]; omega
  refine ⟨⟨by rw [flat_lenG hR], ?_⟩, h.2.1, fun t ht => h.2.2 t (List.mem_of_mem_take ht)⟩
  rcases h.1.2 with ⟨hv, _⟩ | ⟨g', cap', cur, hv, hb, hg, hn, hc, hs, ht⟩
  · cases hv
  · obtain ⟨e1, e2⟩ : g = g' ∧ cap = cap' := by simp only [Value.slice.injEq, Option.some.injEq, Addr.mk.injEq, and_true, true_and] at hv; exact hv
    subst e1; subst e2
    refine .inr ⟨g, cap, cur, by rw [hl], hb, hg, by omega, hc, hs, ?_⟩
    rw [← flat_takeG hR, ← ht, List.take_take, hl, Nat.min_eq_left (Nat.mul_le_mul_right _ hk)]
theorem GOwn.frozenAt {W0 w : World} {g n cap : Nat} {ts : List α} (h : GOwn R W0 w (.slice (some ⟨g, 0, none⟩) n cap) ts) (hn : ts.length = n) (j : Nat) : w.frozen? ⟨g, j, none⟩ = false := by
  subst hn; exact h.1.frozenAt j
/-- One cell of a record is written. -/
theorem GOwn.stored (hR : R.Ok) {W0 w : World} {g n cap : Nat} {ts : List α} (h : GOwn R W0 w (.slice (some ⟨g, 0, none⟩) n cap) ts) (hn : ts.length = n) {i k : Nat} {t t' : α} {v : Value} (hi : ts[i]? = some t) (hk : k < R.sz) (ht : R.V t' = (R.V t).set k v) (hB : R.B t') :
    GOwn R W0 (w.setCell ⟨g, i * R.sz + k, none⟩ v) (.slice (some ⟨g, 0, none⟩) n cap) (ts.set i t') := by
  subst hn
  have h1 := h.1.stored (i * R.sz + k) v
  have hg := (h.1.lt g rfl).1
  refine ⟨?_, h.2.1.grown h1.2 h.2.1.size (fun q hq => ?_), fun s hs => ?_⟩
  · rw [List.length_set, ← flat_setG hR hi hk ht]; exact h1.1
  · cases hq; exact hg
  · rcases List.mem_or_eq_of_mem_set hs with hs | rfl
    · exact h.2.2 s hs
    · exact hB

theorem GRow.kept {w w' : World} {x : Addr} {cap : Nat} {ts : List α} {row : Option Nat} (h : GRow R w (some x) cap ts) (hg : w.grownBy w' row) (hne : some x.block ≠ row) : GRow R w' (some x) cap ts := by
  refine ⟨h.1, h.2.1, h.2.2.1, h.2.2.2.1, fun y hy i e he => ?_⟩
  obtain ⟨hs, c⟩ := h.2.2.2.2 y hy i e he
  cases hy
  exact ⟨hs, fun k v hv => hg.cell (c k v hv) hne⟩

theorem ne_own {x g n c : Nat} (h : x ≠ g) : some (⟨x, 0, none⟩ : Addr).block ≠ (Value.slice (some ⟨g, 0, none⟩) n c).ownBlock := by simp [Value.ownBlock]; exact h
/-! ### operations -/
/-- 's[:hi]' and 's[lo:]'. -/
theorem run_slG (hR : R.Ok) {W : World} {a : Option Addr} {n cap hi : Nat} {S : TypeId} (hS : S = R.S) (ha : a = none → cap = 0) (hn : n ≤ cap) (h2 : hi ≤ n) :
    (Instr.slice S (.slice a n cap) none (some (.int .i64 hi)) none).run Try.prog W = .ok (.slice a hi cap) W := by
  subst hS
  have h3 : hi ≤ cap := by omega
  obtain ⟨i0, z, hi0, _, hi2, _⟩ := hR.info
  cases a with
  | none =>
    have := ha rfl
    obtain rfl : hi = 0 := by omega
    subst this
    simp [Instr.slice, Instr.sliceBounds, Instr.sliceBound, asIntOf, run_underlying hR.und, Result.andThen, sizeOf, typeInfo, hi0]
  | some x =>
    by_cases h0 : cap = 0
    · obtain rfl : hi = 0 := by omega
      subst h0
      simp [Instr.slice, Instr.sliceBounds, Instr.sliceBound, asIntOf, run_underlying hR.und, Result.andThen, sizeOf, typeInfo, hi0]
    · have e0 : x.add 0 = x := by unfold Addr.add; obtain ⟨b, o, s⟩ := x; cases s <;> simp_all
      simp [Instr.slice, Instr.sliceBounds, Instr.sliceBound, asIntOf, run_underlying hR.und, Result.andThen, h3, sizeOf, typeInfo, hi0]
      simp [show ¬ cap = 0 by omega, e0]
theorem run_slG_end (hR : R.Ok) {W : World} {a : Option Addr} {n cap lo : Nat} {S : TypeId} (hS : S = R.S) (hn : n ≤ cap) (h2 : lo ≤ n) :
    (Instr.slice S (.slice a n cap) (some (.int .i64 lo)) none none).run Try.prog W = .ok (.slice (cutA R.sz a lo cap) (n - lo) (cap - lo)) W := by
  subst hS
  obtain ⟨i0, z, hi0, _, hi2, _⟩ := hR.info
  simp [Instr.slice, Instr.sliceBounds, Instr.sliceBound, asIntOf, run_underlying hR.und, Result.andThen, h2, sizeOf, typeInfo, hi0, hi2, cutA]
section
variable {ops : Array Oper} {rest : List Oper} {o : Oper} {a : Act} {Q : Exit → Act → World → Prop}
/-- 'make([]T, 0, n)'. -/
theorem wp_gmake (hR : R.Ok) {w : World} (hgd : o.guard = none) (l c : Operand) {S : TypeId} (ho : o.op = Op.makeSlice S l c) (hS : S = R.S) (W0 : World) (hb : Below W0.heap.size W0 w) (kl kc : IntKind) (C : Int) (n : Nat)
    (hl : a.eval l = .int kl 0) (hc : a.eval c = .int kc C) (hC : C = n) (hn : n ≤ 1000000)
    (h : ∀ w', GOwn R W0 w' (.slice (some ⟨w.heap.size, 0, none⟩) 0 n) [] → Below w.heap.size w w' → wpList Try.prog ops Q rest (a.put o.dst (.slice (some ⟨w.heap.size, 0, none⟩) 0 n)) w') : wpList Try.prog ops Q (o :: rest) a w := by
  subst hS
  obtain ⟨i0, z, hi, hz0, hz1, hz2, hz3⟩ := hR.info
  have hm := Nat.mul_le_mul hz2 hn
  refine wpList_make_own w hgd l c R.S ho W0.heap.size R.E i0 z R.sz hR.und hi hz0 hz1 kl kc C n hl hc hC (by omega) (by unfold maxLen; omega) hb.size ?_
  intro w' ho' hg
  exact h w' ⟨ho', hb.grown hg hb.size (fun k hk => by cases hk), fun t h => by cases h⟩ ((Below.refl _ _).grown hg (Nat.le_refl _) (fun k hk => by cases hk))
/-- 'append(s, l...)', s the call's own, l whatever reads as records, s's own block too. -/
theorem run_gapp (hR : R.Ok) {w : World} (v : Value) (ts : List α) (W0 : World) (hown : GOwn R W0 w v ts) (ad : Option Addr) (cap n : Nat) (us : List α) (hr : GRow R w ad cap us) (hn : us.length = n) (ty : TypeId) (hlen : ts.length + us.length ≤ 1000000) :
    ∃ v' w', (Builtin.append_ #[R.S, R.S] ty #[v, .slice ad n cap]).run Try.prog w = .ok v' w' ∧ GOwn R W0 w' v' (ts ++ us) ∧ w.grownBy w' v.ownBlock ∧ (v'.ownBlock = v.ownBlock ∨ v'.ownBlock = some w.heap.size) := by
  subst hn
  obtain ⟨i0, z, hi, hz0, hz1, hz2, hz3⟩ := hR.info
  cases ad with
  | none =>
    obtain ⟨rfl, rfl⟩ := hr.none_nil
    have hrun := run_append_owned_none (P := Try.prog) (w := w) W0.heap.size R.S ty R.E i0 R.sz hR.und hi v _ _ hown.1
    exact ⟨v, w, hrun, by simpa using hown, ⟨rfl, rfl, rfl, Nat.le_refl _, fun _ _ _ => rfl⟩, .inl rfl⟩
  | some y =>
    have hm := Nat.mul_le_mul hlen hz2
    obtain ⟨v', w', h1, h2, h3, h4, h5⟩ := run_append_own_at (P := Try.prog) w W0.heap.size R.S ty R.E i0 z R.sz i0.bytes hR.und hi hz0 hz1 rfl hz3 hR.pos v _ _ hown.1 y us.length cap (us.flatMap R.V) (flat_lenG hR us) (fun j u hu => hr.flat hR hu) (fun u hu => flat_oneG hR u hu) (by unfold maxLen; omega) (by omega) hown.2.1.size
    refine ⟨v', w', h1, ⟨by simpa using h2, hown.2.1.grown h3 hown.2.1.size (fun k hk => (World.ownsRow.lt hown.1 k hk).1), fun s hs => ?_⟩, h3, h5⟩
    rcases List.mem_append.1 hs with hs | hs
    · exact hown.2.2 s hs
    · exact hr.2.2.2.1 s hs
theorem wp_gapp (hR : R.Ok) {w : World} (hgd : o.guard = none) (s x : Operand) {S : TypeId} (ho : o.op = .call { callee := .builtin .append, args := #[s, x], argTypes := #[S, S] }) (hS : S = R.S)
    (v : Value) (ts : List α) (hs : a.eval s = v) (W0 : World) (hown : GOwn R W0 w v ts) (ad : Option Addr) (cap n : Nat) (us : List α) (hr : GRow R w ad cap us) (hn : us.length = n) (hx : a.eval x = .slice ad n cap) (hlen : ts.length + us.length ≤ 1000000)
    (h : ∀ v' w', GOwn R W0 w' v' (ts ++ us) → w.grownBy w' v.ownBlock → (v'.ownBlock = v.ownBlock ∨ v'.ownBlock = some w.heap.size) → wpList Try.prog ops Q rest (a.put o.dst v') w') : wpList Try.prog ops Q (o :: rest) a w := by
  subst hS
  obtain ⟨v', w', h1, h2, h3, h4⟩ := run_gapp hR v ts W0 hown ad cap n us hr hn o.type hlen
  refine wpList_plain hgd fun K hK => ?_
  unfold Oper.wp execOp
  simp only [ho, resolve, invoke, builtin, Sem.run_bind, Sem.run_pure, Result.andThen_ok, List.map_toArray, List.map_cons, List.map_nil, hs, hx, h1]
  exact hK _ _ (h v' w' h2 h3 h4)
/-- A record in the block that the statement has just laid. -/
theorem grow_new (hR : R.Ok) (w0 : World) {t : α} (ht : R.B t) {cs : Array Value} (hc : cs.toList = R.V t) (E : TypeId) : GRow R (w0.alloc (.cells cs E)) (some ⟨w0.heap.size, 0, none⟩) 1 [t] := by
  have hrec := RecAt.new w0 cs E
  refine ⟨by simp, by simp [maxLen], fun e => (by cases e), fun s hs => (by simp at hs; subst hs; exact ht), fun x hx i s hs => ?_⟩
  cases hx
  match i, hs with
  | 0, hs =>
    simp at hs; subst hs
    refine ⟨rfl, fun k v hv => ?_⟩
    rw [← hc] at hv
    have := hrec.cell (i := k) (v := v) (by simpa using hv)
    simpa using this
theorem grow_new_at (hR : R.Ok) (w0 : World) {t : α} (ht : R.B t) {cs : Array Value} (hc : cs.toList = R.V t) (E : TypeId) (x : Nat) (hx : x = w0.heap.size) : GRow R (w0.alloc (.cells cs E)) (some ⟨x, 0, none⟩) 1 [t] := by
  subst hx; exact grow_new hR w0 ht hc E
/-- 'append(s, t)', s the call's own: the record lies in the block that the statement has just laid. -/
theorem wp_gone (hR : R.Ok) {w0 : World} (hgd : o.guard = none) (s x : Operand) {S E : TypeId} {cs : Array Value} (ho : o.op = .call { callee := .builtin .append, args := #[s, x], argTypes := #[S, S] }) (hS : S = R.S)
    (v : Value) (ts : List α) (hs : a.eval s = v) (W0 : World) (hown : GOwn R W0 w0 v ts) (t : α) (ht : R.B t) (hc : cs.toList = R.V t) (hx : a.eval x = .slice (some ⟨w0.heap.size, 0, none⟩) 1 1) (hlen : ts.length + 1 ≤ 1000000)
    (h : ∀ v' w', GOwn R W0 w' v' (ts ++ [t]) → (w0.alloc (.cells cs E)).grownBy w' v.ownBlock → (v'.ownBlock = v.ownBlock ∨ v'.ownBlock = some (w0.heap.size + 1)) → wpList Try.prog ops Q rest (a.put o.dst v') w') :
    wpList Try.prog ops Q (o :: rest) a (w0.alloc (.cells cs E)) := by
  have h1 := hown.later ((Below.refl _ _).alloc (Nat.le_refl _) (.cells cs E))
  refine wp_gapp hR hgd s x ho hS v ts hs W0 h1 _ 1 1 [t] (grow_new hR w0 ht hc E) rfl hx (by simpa using hlen) fun v' w' o2 g2 h2 => h v' w' o2 g2 ?_
  rw [show (w0.alloc (.cells cs E)).heap.size = w0.heap.size + 1 by simp] at h2
  exact h2
/-- 'make([]T, 0, n)', run: for a region's walk lay it ahead, at 'w.drew'. -/
theorem run_gmake (hR : R.Ok) (w : World) {S : TypeId} (hS : S = R.S) (W0 : World) (hb : Below W0.heap.size W0 w) (kl kc : IntKind) (n : Nat) (hn : n ≤ 1000000) :
    ∃ w', (Instr.makeSlice S (.int kl 0) (.int kc (n : Nat))).run Try.prog w = .ok (.slice (some ⟨w.heap.size, 0, none⟩) 0 n) w' ∧ GOwn R W0 w' (.slice (some ⟨w.heap.size, 0, none⟩) 0 n) [] ∧ Below w.heap.size w w' := by
  subst hS
  obtain ⟨i0, z, hi, hz0, hz1, hz2, hz3⟩ := hR.info
  have hm := Nat.mul_le_mul hz2 hn
  obtain ⟨w', hrun, r1, r2⟩ := run_make_own (P := Try.prog) w W0.heap.size R.S R.E i0 z R.sz hR.und hi hz0 hz1 kl kc n (by omega) (by unfold maxLen; omega) hb.size
  exact ⟨w', hrun, ⟨r1, hb.grown r2 hb.size (fun k hk => by cases hk), fun t h => by cases h⟩, (Below.refl _ _).grown r2 (Nat.le_refl _) (fun k hk => by cases hk)⟩
/-- 'append', as an operation that a region's walk stands at. -/
theorem step_gapp (hR : R.Ok) {w0 : World} {K : Act → World → Prop} {E : Prop} (hgd : o.guard = none) (s x : Operand) {S : TypeId} (ho : o.op = .call { callee := .builtin .append, args := #[s, x], argTypes := #[S, S] }) (hS : S = R.S)
    (v : Value) (ts : List α) (hs : a.eval s = v) (W0 : World) (hown : GOwn R W0 w0 v ts) (ad : Option Addr) (cap n : Nat) (us : List α) (hr : GRow R w0 ad cap us) (hn : us.length = n) (hx : a.eval x = .slice ad n cap) (hlen : ts.length + us.length ≤ 1000000)
    (hK : ∀ v' w', GOwn R W0 w' v' (ts ++ us) → w0.grownBy w' v.ownBlock → (v'.ownBlock = v.ownBlock ∨ v'.ownBlock = some w0.heap.size) → K (a.put o.dst v') w') :
    if Region.wanted o (yielded ops a.tmps) = true then Oper.wp Try.prog o a w0 K Q else E := by
  have hw : Region.wanted o (yielded ops a.tmps) = true := by simp [Region.wanted, hgd]
  rw [if_pos hw]
  subst hS
  obtain ⟨v', w', h1, h2, h3, h4⟩ := run_gapp hR v ts W0 hown ad cap n us hr hn o.type hlen
  unfold Oper.wp execOp
  simp only [ho, resolve, invoke, builtin, Sem.run_bind, Sem.run_pure, Result.andThen_ok, List.map_toArray, List.map_cons, List.map_nil, hs, hx, h1]
  exact hK _ _ h2 h3 h4
end
theorem GOwn.keptBy {α : Type} {R : RT α} {W0 w w' : World} {v : Value} {ts : List α} {g : Option Nat} (h : GOwn R W0 w v ts) (hg : w.grownBy w' g) (hne : v.ownBlock = none ∨ v.ownBlock ≠ g) (hge : ∀ k, g = some k → W0.heap.size ≤ k) : GOwn R W0 w' v ts :=
  ⟨h.1.kept hg hne, h.2.1.grown hg h.2.1.size hge, h.2.2⟩
theorem RecAt.grown {w w' : World} {x : Nat} {cs : Array Value} {t : TypeId} {row : Option Nat} (h : RecAt w x cs t) (hg : w.grownBy w' row) (hne : some x ≠ row) : RecAt w' x cs t := by
  have hl := h.lt
  unfold RecAt at *
  rw [← h]
  exact hg.block x hl hne
theorem GOwn.besides {α : Type} {R : RT α} {W0 w : World} {v : Value} {ts : List α} (h : GOwn R W0 w v ts) {g : Nat} (hg : W0.heap.size ≤ g) (hne : v.ownBlock ≠ some g) (j : Nat) (u : Value) : GOwn R W0 (w.setCell ⟨g, j, none⟩ u) v ts :=
  ⟨Go.ownsRow_setCell_other h.1 hne u, h.2.1.setCell (by simpa using hg) u, h.2.2⟩
/-- One's own row lies in no block of another type. -/
theorem GOwn.ne {α : Type} {R : RT α} {W0 w : World} {v : Value} {ts : List α} (h : GOwn R W0 w v ts) {P : Nat} {cs : Array Value} {T : TypeId} (hr : RecAt w P cs T) (hE : R.E ≠ T) : v.ownBlock ≠ some P := by
  rcases h.1.2 with ⟨hv, hn⟩ | ⟨g, cap, cur, hv, hb, hg, rest⟩
  · rw [hv]; simp [Value.ownBlock]
  · rw [hv]
    intro e
    simp only [Value.ownBlock, Option.some.injEq] at e
    subst e
    unfold RecAt at hr
    rw [hg] at hr
    simp only [Option.some.injEq, Obj.cells.injEq] at hr
    exact hE hr.2.1
end Go.Proofs.Ytbpddcmehjgleaa
