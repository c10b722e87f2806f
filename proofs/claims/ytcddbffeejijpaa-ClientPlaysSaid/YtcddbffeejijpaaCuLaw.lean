/- Clients: what the laws ask; no program in sight. -/
import Derived.Test.YtcddbffeejijpaaCuPlain
namespace Go.Proofs.Ytcddbffeejijpaa
set_option linter.unusedVariables false
set_option linter.unnecessarySimpa false
set_option linter.unusedSimpArgs false

/-! ### a call leaves a list that may be -/
theorem pair_take {l : List Cu} {x : Cu} {b : Nat} (hb : b ≤ l.length) {i : Nat} {t u : Cu} (hu : (l.take b ++ [x] ++ l.drop b)[i]? = some u) (ht : (l.take b ++ [x] ++ l.drop b)[i + 1]? = some t) :
    (i + 1 < b ∧ l[i]? = some u ∧ l[i + 1]? = some t) ∨ (i + 1 = b ∧ l[i]? = some u ∧ t = x) ∨ (i = b ∧ u = x ∧ l[b]? = some t) ∨ (b < i ∧ l[i - 1]? = some u ∧ l[i]? = some t) := by
  have hl : (l.take b).length = b := by rw [List.length_take]; omega
  have get : ∀ k, (l.take b ++ [x] ++ l.drop b)[k]? = if k < b then l[k]? else if k = b then some x else l[k - 1]? := by
    intro k
    by_cases h1 : k < b
    · rw [if_pos h1, List.append_assoc, List.getElem?_append_left (by omega), List.getElem?_take, if_pos h1]
    · rw [if_neg h1]
      by_cases h2 : k = b
      · rw [if_pos h2, List.getElem?_append_left (by simp [hl]; omega), List.getElem?_append_right (by omega), hl, h2, Nat.sub_self]; rfl
      · rw [if_neg h2, List.getElem?_append_right (by simp [hl]; omega), List.getElem?_drop]
        congr 1
        simp only [List.length_append, hl, List.length_singleton]; omega
  rw [get] at hu ht
  by_cases h1 : i + 1 < b
  · rw [if_pos (by omega)] at hu ht
    exact .inl ⟨h1, hu, ht⟩
  · by_cases h2 : i + 1 = b
    · rw [if_pos (by omega)] at hu
      rw [if_neg (by omega), if_pos h2] at ht
      cases ht
      exact .inr (.inl ⟨h2, hu, rfl⟩)
    · rw [if_neg (by omega), if_neg h2, Nat.add_sub_cancel] at ht
      by_cases h3 : i = b
      · rw [if_neg (by omega), if_pos h3] at hu
        cases hu
        exact .inr (.inr (.inl ⟨h3, rfl, by rw [← h3]; exact ht⟩))
      · rw [if_neg (by omega), if_neg h3] at hu
        exact .inr (.inr (.inr ⟨by omega, hu, ht⟩))
theorem addU_len (l : List Cu) (k p : Int) : (addU l k p).length = l.length + 1 := by
  have := belowU_le l k
  unfold addU
  simp only [List.length_append, List.length_take, List.length_drop, List.length_singleton]; omega
theorem addU_mem {l : List Cu} {k p : Int} {t : Cu} (h : t ∈ addU l k p) : t = ⟨k, p, false⟩ ∨ t ∈ l := by
  unfold addU at h
  simp only [List.mem_append, List.mem_singleton] at h
  rcases h with (h | h) | h
  · exact .inr (List.mem_of_mem_take h)
  · exact .inl h
  · exact .inr (List.mem_of_mem_drop h)
theorem addU_ok {l : List Cu} {k p : Int} (h : CuOk l) (hk : IdOk k) (hp : PosOk p) (hn : placeU l k = none) (hl : l.length ≠ 4) : CuOk (addU l k p) := by
  have hno := placeU_none.1 hn
  refine cuOk_of (by rw [addU_len]; have := h.1; omega) (fun t ht => ?_) (fun i t u hu ht => ?_)
  · rcases addU_mem ht with rfl | ht
    · exact ⟨hk, hp⟩
    · exact h.mem ht
  · have hb := belowU_le l k
    rcases pair_take hb hu ht with ⟨h1, h2, h3⟩ | ⟨h1, h2, rfl⟩ | ⟨h1, rfl, h3⟩ | ⟨h1, h2, h3⟩
    · exact h.rise h2 h3
    · exact belowU_lt (by omega : i < belowU l k) h2
    · have h4 := belowU_at h3
      have h5 := hno t (List.mem_of_getElem? h3)
      simp only at *; omega
    · obtain ⟨m, rfl⟩ : ∃ m, i = m + 1 := ⟨i - 1, by omega⟩
      exact h.rise (by simpa using h2) h3
theorem dropU_ok {l : List Cu} (h : CuOk l) (i : Nat) : CuOk (l.take i ++ l.drop (i + 1)) := by
  have get : ∀ (k : Nat) (t : Cu), (l.take i ++ l.drop (i + 1))[k]? = some t → (k < i ∧ l[k]? = some t) ∨ (i ≤ k ∧ l[k + 1]? = some t) := by
    intro k t ht
    by_cases hk : k < (l.take i).length
    · rw [List.getElem?_append_left hk, List.getElem?_take] at ht
      rw [List.length_take] at hk
      rw [if_pos (by omega)] at ht
      exact .inl ⟨by omega, ht⟩
    · rw [List.getElem?_append_right (by omega), List.getElem?_drop] at ht
      have := (List.getElem?_eq_some_iff.1 ht).1
      rw [List.length_take] at hk ht
      have hi : min i l.length = i := by omega
      rw [hi] at ht hk
      exact .inr ⟨by omega, by rw [← ht]; congr 1; omega⟩
  refine cuOk_of (by have := h.1; simp only [List.length_append, List.length_take, List.length_drop]; omega) (fun t ht => ?_) (fun k t u hu ht => ?_)
  · obtain ⟨k, hk⟩ := List.mem_iff_getElem?.1 ht
    rcases get k t hk with ⟨_, h1⟩ | ⟨_, h1⟩
    · exact h.cu h1
    · exact h.cu h1
  · rcases get k u hu with ⟨a1, a2⟩ | ⟨a1, a2⟩
    · rcases get (k + 1) t ht with ⟨b1, b2⟩ | ⟨b1, b2⟩
      · exact h.rise a2 b2
      · exact h.rises a2 (by omega) b2
    · rcases get (k + 1) t ht with ⟨b1, b2⟩ | ⟨b1, b2⟩
      · omega
      · exact h.rises a2 (by omega) b2
theorem setU_ok {l : List Cu} (h : CuOk l) {i : Nat} {t t' : Cu} (hi : l[i]? = some t) (he : t'.id = t.id) (ht' : t'.Ok) : CuOk (l.set i t') := by
  have get : ∀ (k : Nat) (u : Cu), (l.set i t')[k]? = some u → ∃ v, l[k]? = some v ∧ u.id = v.id := by
    intro k u hu
    rw [List.getElem?_set] at hu
    split at hu
    · rename_i e
      subst e
      split at hu
      · cases hu; exact ⟨t, hi, he⟩
      · cases hu
    · exact ⟨u, hu, rfl⟩
  refine cuOk_of (by rw [List.length_set]; exact h.1) (fun u hu => ?_) (fun k u v hv hu => ?_)
  · rcases List.mem_or_eq_of_mem_set hu with hu | rfl
    · exact h.mem hu
    · exact ht'
  · obtain ⟨a, a1, a2⟩ := get k v hv
    obtain ⟨b, b1, b2⟩ := get (k + 1) u hu
    have := h.rise a1 b1
    omega
theorem moved_ok {t : Cu} {p : Int} (h : t.Ok) (hp : PosOk p) : (t.moved p).Ok := by
  unfold Cu.Ok at *
  refine ⟨h.1, ?_⟩
  unfold PosOk at *
  unfold Cu.moved; simp only; omega
theorem actU_two {ts : List Cu} {what : Nat} {k p : Int} {b : Bool} : ((rightU ts && inU what k p) = true ∧ actU ts what k p b = actW ts what k p b) ∨ ((rightU ts && inU what k p) = false ∧ actU ts what k p b = ([], 1)) := by
  cases h : (rightU ts && inU what k p)
  · exact .inr ⟨rfl, by unfold actU; rw [if_neg (by rw [h]; simp)]⟩
  · exact .inl ⟨rfl, by unfold actU; rw [if_pos h]⟩
theorem actU_ok {ts : List Cu} {what : Nat} {k p : Int} {b : Bool} (hw : what ≤ 3) : CuOk (actU ts what k p b).1 := by
  rcases actU_two (ts := ts) (what := what) (k := k) (p := p) (b := b) with ⟨h, e⟩ | ⟨_, e⟩
  · rw [e]
    have h1 : rightU ts = true := by simp only [Bool.and_eq_true] at h; exact h.1
    have h2 : inU what k p = true := by simp only [Bool.and_eq_true] at h; exact h.2
    have hok := rightU_iff.1 h1
    have hk : IdOk k := by unfold inU at h2; simp only [Bool.and_eq_true, decide_eq_true_eq] at h2; exact h2.1
    have hp : what = 1 ∨ what = 3 ∨ PosOk p := by
      unfold inU at h2; simp only [Bool.and_eq_true, Bool.or_eq_true, decide_eq_true_eq] at h2
      rcases h2.2 with (h | h) | h
      · exact .inl h
      · exact .inr (.inl h)
      · exact .inr (.inr h)
    rcases (show what = 0 ∨ what = 1 ∨ what = 2 ∨ what = 3 by omega) with rfl | rfl | rfl | rfl
    · have hp2 : PosOk p := by rcases hp with h | h | h <;> first | omega | exact h
      unfold actW
      cases hpl : placeU ts k with
      | some i => exact cuOk_nil
      | none =>
        simp only
        split
        · exact cuOk_nil
        · rename_i h4
          exact addU_ok hok hk hp2 hpl h4
    · unfold actW
      cases hpl : placeU ts k with
      | none => exact cuOk_nil
      | some i => exact dropU_ok hok i
    · have hp2 : PosOk p := by rcases hp with h | h | h <;> first | omega | exact h
      unfold actW
      cases hpl : placeU ts k with
      | none => exact cuOk_nil
      | some i =>
        obtain ⟨t, ht, _⟩ := placeU_some hpl
        simp only [ht]
        exact setU_ok hok ht rfl (moved_ok (hok.cu ht) hp2)
    · unfold actW
      cases hpl : placeU ts k with
      | none => exact cuOk_nil
      | some i =>
        obtain ⟨t, ht, _⟩ := placeU_some hpl
        simp only [ht]
        exact setU_ok hok ht rfl (by have := hok.cu ht; exact this)
  · rw [e]; exact cuOk_nil

/-! ### the slowest -/
def SlowIs (l : List Cu) (r : Int × Bool) : Prop := (∀ t ∈ l, t.off = false → r.2 = true ∧ r.1 ≤ t.pos) ∧ (r.2 = true → ∃ t ∈ l, t.off = false ∧ t.pos = r.1) ∧ (r.2 = false → r.1 = 0)
theorem slow_step {l : List Cu} {r : Int × Bool} {t : Cu} (h : SlowIs l r) : SlowIs (l ++ [t]) (if !t.off && (!r.2 || decide (t.pos < r.1)) then (t.pos, true) else r) := by
  obtain ⟨a, s⟩ := r
  obtain ⟨h1, h2, h3⟩ := h
  simp only at h1 h2 h3 ⊢
  cases ho : t.off with
  | true =>
    simp only [Bool.not_true, Bool.false_and, Bool.false_eq_true, if_false]
    refine ⟨fun u hu hf => ?_, fun hs => ?_, h3⟩
    · rcases List.mem_append.1 hu with hu | hu
      · exact h1 u hu hf
      · simp at hu; subst hu; rw [ho] at hf; cases hf
    · obtain ⟨u, h4, h5⟩ := h2 hs
      exact ⟨u, List.mem_append_left _ h4, h5⟩
  | false =>
    cases s with
    | false =>
      simp only [Bool.not_false, Bool.true_or, Bool.and_self, if_true]
      refine ⟨fun u hu hf => ?_, fun _ => ⟨t, by simp, ho, rfl⟩, fun h => by cases h⟩
      rcases List.mem_append.1 hu with hu | hu
      · have := (h1 u hu hf).1; cases this
      · simp at hu; subst hu; exact ⟨rfl, Int.le_refl _⟩
    | true =>
      simp only [Bool.not_false, Bool.not_true, Bool.false_or, Bool.true_and]
      split
      · rename_i hlt
        rw [decide_eq_true_eq] at hlt
        refine ⟨fun u hu hf => ?_, fun _ => ⟨t, by simp, ho, rfl⟩, fun h => by cases h⟩
        rcases List.mem_append.1 hu with hu | hu
        · have := (h1 u hu hf).2; exact ⟨rfl, by simp only; omega⟩
        · simp at hu; subst hu; exact ⟨rfl, Int.le_refl _⟩
      · rename_i hlt
        rw [decide_eq_true_eq] at hlt
        refine ⟨fun u hu hf => ?_, fun _ => ?_, fun h => by cases h⟩
        · rcases List.mem_append.1 hu with hu | hu
          · exact h1 u hu hf
          · simp at hu; subst hu; exact ⟨rfl, by simp only; omega⟩
        · obtain ⟨u, h4, h5⟩ := h2 rfl
          exact ⟨u, List.mem_append_left _ h4, h5⟩
theorem slow_is (l : List Cu) : SlowIs l (slowU l) := by
  have key : ∀ (m l : List Cu) (r : Int × Bool), SlowIs l r → SlowIs (l ++ m) (m.foldl (fun m t => if !t.off && (!m.2 || decide (t.pos < m.1)) then (t.pos, true) else m) r) := by
    intro m
    induction m with
    | nil => intro l r h; simpa using h
    | cons t m ih =>
      intro l r h
      rw [List.foldl_cons, show l ++ t :: m = (l ++ [t]) ++ m by simp]
      exact ih _ _ (slow_step h)
  have := key l [] (0, false) ⟨fun t h => (by cases h), fun h => (by cases h), fun _ => rfl⟩
  simpa [slowU] using this
theorem slow_some (l : List Cu) : (slowU l).2 = l.any (fun t => !t.off) := by
  obtain ⟨h1, h2, h3⟩ := slow_is l
  cases h : l.any (fun t => !t.off) with
  | true =>
    obtain ⟨t, ht, ho⟩ := List.any_eq_true.1 h
    exact (h1 t ht (by simpa using ho)).1
  | false =>
    rw [List.any_eq_false] at h
    cases hs : (slowU l).2 with
    | false => rfl
    | true =>
      obtain ⟨t, ht, ho, _⟩ := h2 hs
      have := h t ht
      rw [ho] at this; simp at this
theorem commit_is {ts : List Cu} {k p : Int} {b : Bool} (h : CuOk ts) (hk : IdOk k) (hp : PosOk p) :
    (∃ i t, ts[i]? = some t ∧ actU ts 2 k p b = (ts.set i (t.moved p), 0) ∧ actU ts 3 k 0 true = (ts.set i (t.turned true), 0)) ∨ (actU ts 2 k p b = ([], 4) ∧ actU ts 3 k 0 true = ([], 4)) := by
  have e2 : actU ts 2 k p b = actW ts 2 k p b := by
    unfold actU; rw [if_pos]; rw [rightU_iff.2 h]; unfold inU; simp [hk, hp]
  have e3 : actU ts 3 k 0 true = actW ts 3 k 0 true := by
    unfold actU; rw [if_pos]; rw [rightU_iff.2 h]; unfold inU; simp [hk]
  rw [e2, e3]
  unfold actW
  cases hpl : placeU ts k with
  | none => exact .inr ⟨rfl, rfl⟩
  | some i =>
    obtain ⟨t, ht, _⟩ := placeU_some hpl
    refine .inl ⟨i, t, ht, ?_, ?_⟩
    · simp only [ht]
    · simp only [ht]
theorem set_mem {l : List Cu} {i : Nat} {t t' u : Cu} (hi : l[i]? = some t) (hu : u ∈ l.set i t') : u ∈ l ∨ u = t' := List.mem_or_eq_of_mem_set hu
theorem mem_set_some {l : List Cu} {i : Nat} {t t' u : Cu} (hi : l[i]? = some t) (hu : u ∈ l) : u ∈ l.set i t' ∨ u = t := by
  obtain ⟨k, hk⟩ := List.mem_iff_getElem?.1 hu
  by_cases e : i = k
  · subst e; rw [hi] at hk; cases hk; exact .inr rfl
  · exact .inl (List.mem_iff_getElem?.2 ⟨k, by rw [List.getElem?_set_ne e]; exact hk⟩)
/-- A Commit never takes the slowest back. -/
theorem commit_slow {ts : List Cu} {i : Nat} {t : Cu} {p : Int} (hi : ts[i]? = some t) : (slowU (ts.set i (t.moved p))).2 = (slowU ts).2 ∧ (slowU ts).1 ≤ (slowU (ts.set i (t.moved p))).1 := by
  obtain ⟨a1, a2, a3⟩ := slow_is ts
  obtain ⟨b1, b2, b3⟩ := slow_is (ts.set i (t.moved p))
  have htm : t ∈ ts := List.mem_of_getElem? hi
  have hmm : t.moved p ∈ ts.set i (t.moved p) := by
    refine List.mem_iff_getElem?.2 ⟨i, ?_⟩
    rw [List.getElem?_set_self (List.getElem?_eq_some_iff.1 hi).1]
  have e : (slowU (ts.set i (t.moved p))).2 = (slowU ts).2 := by
    cases hs : (slowU ts).2 with
    | true =>
      obtain ⟨u, hu, ho, _⟩ := a2 hs
      rcases mem_set_some (t' := t.moved p) hi hu with h | rfl
      · exact (b1 u h ho).1
      · exact (b1 _ hmm ho).1
    | false =>
      cases hs2 : (slowU (ts.set i (t.moved p))).2 with
      | false => rfl
      | true =>
        obtain ⟨u, hu, ho, _⟩ := b2 hs2
        rcases set_mem hi hu with h | rfl
        · have := (a1 u h ho).1; rw [hs] at this; cases this
        · have := (a1 t htm ho).1; rw [hs] at this; cases this
  refine ⟨e, ?_⟩
  cases hs : (slowU ts).2 with
  | true =>
    obtain ⟨u, hu, ho, hp⟩ := b2 (e.trans hs)
    rw [← hp]
    rcases set_mem hi hu with h | rfl
    · exact (a1 u h ho).2
    · have := (a1 t htm ho).2
      unfold Cu.moved; simp only; omega
  | false => rw [a3 hs, b3 (e.trans hs)]; exact Int.le_refl _
/-- Of those that aren't Off when one is turned Off, the slowest isn't slower. -/
theorem turn_slow {ts : List Cu} {i : Nat} {t : Cu} (hi : ts[i]? = some t) (h : (slowU (ts.set i (t.turned true))).2 = true) : (slowU ts).1 ≤ (slowU (ts.set i (t.turned true))).1 := by
  obtain ⟨a1, a2, a3⟩ := slow_is ts
  obtain ⟨b1, b2, b3⟩ := slow_is (ts.set i (t.turned true))
  obtain ⟨u, hu, ho, hp⟩ := b2 h
  rw [← hp]
  rcases set_mem hi hu with h | rfl
  · exact (a1 u h ho).2
  · cases ho
/-! ### an Add is found -/
theorem add_found {l : List Cu} {k p : Int} (hn : placeU l k = none) : findU (addU l k p) k = (⟨k, p, false⟩, true) := by
  have hno := placeU_none.1 hn
  have hb := belowU_le l k
  have hl : (l.take (belowU l k)).length = belowU l k := by rw [List.length_take]; omega
  have h1 : (addU l k p)[belowU l k]? = some ⟨k, p, false⟩ := by
    unfold addU
    rw [List.getElem?_append_left (by simp [hl]), List.getElem?_append_right (by omega), hl, Nat.sub_self]; rfl
  have h2 : placeU (addU l k p) k = some (belowU l k) := placeU_is h1 rfl fun j u hj hu => by
    unfold addU at hu
    rw [List.append_assoc, List.getElem?_append_left (by omega), List.getElem?_take, if_pos hj] at hu
    exact hno u (List.mem_of_getElem? hu)
  unfold findU
  rw [h2]
  simp only [h1]
theorem findU_two (l : List Cu) (k : Int) : (findU l k).2 = (placeU l k).isSome := by
  unfold findU
  cases placeU l k <;> rfl
theorem add_is {l : List Cu} {k p : Int} {b : Bool} (h : CuOk l) (hk : IdOk k) (hp : PosOk p) : actU l 0 k p b = if (findU l k).2 then ([], 5) else if l.length = 4 then ([], 6) else (addU l k p, 0) := by
  have e : actU l 0 k p b = actW l 0 k p b := by
    unfold actU; rw [if_pos]; rw [rightU_iff.2 h]; unfold inU; simp [hk, hp]
  rw [e, findU_two]
  unfold actW
  cases placeU l k <;> rfl
end Go.Proofs.Ytcddbffeejijpaa
