/- Records of an image: what the laws want of them (no program). -/
import Derived.Test.YtfjplhjlmilcfaaHdP
import Derived.Test.YtfjplhjlmilcfaaCrcBurst
namespace Go.Proofs.Ytfjplhjlmilcfaa
open Go.RowKit Go.Proofs
set_option linter.unusedVariables false
set_option linter.unusedSimpArgs false
set_option linter.unnecessarySimpa false

/-! ### a byte turned, a byte less -/
theorem bitAt_byte (F : List UInt8) (k : Nat) (u x : UInt8) (hu : F[k]? = some u) (p : Nat) : bitAt (bv (F.set k (u ^^^ x))) p = Bool.xor (bitAt (bv F) p) (decide (8 * k ≤ p ∧ p < 8 * k + 32) && (BitVec.setWidth 32 x.toBitVec).getLsbD (p - 8 * k)) := by
  have hl := (List.getElem?_eq_some_iff.1 hu).1
  unfold bitAt bv
  rw [List.getElem?_map, List.getElem?_map, List.getElem?_set, BitVec.getLsbD_setWidth]
  by_cases c : k = p / 8
  · rw [if_pos c, if_pos hl, ← c, hu]
    have h1 : 8 * k ≤ p ∧ p < 8 * k + 32 := by omega
    have h2 : p - 8 * k = p % 8 := by omega
    have h3 : p % 8 < 32 := by omega
    rw [decide_eq_true h1, h2, decide_eq_true h3]
    simp only [Option.map_some, Option.getD_some, UInt8.toBitVec_xor, BitVec.getLsbD_xor, Bool.true_and]
  · rw [if_neg c]
    by_cases h1 : 8 * k ≤ p ∧ p < 8 * k + 32
    · have h2 : 8 ≤ p - 8 * k := by omega
      rw [BitVec.getLsbD_of_ge _ _ h2]; simp
    · rw [decide_eq_false h1]; simp
theorem byte_open {l : List UInt8} {k : Nat} {u : UInt8} (x : UInt8) (hu : (sealL l)[k]? = some u) : openL ((sealL l).set k (u ^^^ x)) = if x = 0 then some l else none := by
  have hl := (List.getElem?_eq_some_iff.1 hu).1
  rw [sealL_len] at hl
  by_cases hx : x = 0
  · subst hx
    rw [if_pos rfl]
    have e : (sealL l).set k (u ^^^ 0) = sealL l := by
      obtain ⟨h1, h2⟩ := List.getElem?_eq_some_iff.1 hu
      rw [show u ^^^ 0 = (sealL l)[k] by rw [h2]; simp]
      exact List.set_getElem_self h1
    rw [e, open_seal]
  · rw [if_neg hx]
    obtain ⟨i, hi, hxi⟩ : ∃ i, i < 8 ∧ x.toBitVec.getLsbD i = true := by
      by_cases hne : ∃ i, i < 8 ∧ x.toBitVec.getLsbD i = true
      · exact hne
      · refine (hx ?_).elim
        rw [← UInt8.toBitVec_inj]
        refine BitVec.eq_of_getLsbD_eq fun i hi => ?_
        cases h : x.toBitVec.getLsbD i with
        | true => exact (hne ⟨i, hi, h⟩).elim
        | false => simp
    refine turned_none (k := 8 * k) (t := BitVec.setWidth 32 x.toBitVec) (by rw [List.length_set, sealL_len]) (by omega) (fun p hp => bitAt_byte _ _ _ _ hu p) (i := i) (by omega) (by omega) ?_
    rw [BitVec.getLsbD_setWidth, decide_eq_true (by omega : i < 32), hxi]; rfl
theorem getHd_less {d : Hd} (h : HdOk d) {n : Nat} (hn : (sealL (bodyH d)).length = n) : ∃ k, getHd ((sealL (bodyH d)).take (n - 1)) = (noHd, k) ∧ k ≠ 0 := by
  cases ho : openL ((sealL (bodyH d)).take (n - 1)) with
  | none => exact ⟨13, getHd_sum ho, by decide⟩
  | some p =>
    refine ⟨2, getHd_none ho (fun e he hb => ?_), by decide⟩
    have h1 := open_is ho
    have h2 := congrArg List.length h1
    rw [sealL_len] at hn
    rw [List.length_take, sealL_len, sealL_len] at h2
    have h3 : p = (bodyH d).take p.length := by
      have h4 := congrArg (List.take p.length) h1
      unfold sealL at h4
      rw [List.take_take, List.take_left, List.take_append_of_le_length (by omega), Nat.min_eq_left (by omega)] at h4
      exact h4.symm
    have h5 : bodyH e ++ (bodyH d).drop p.length = bodyH d ++ [] := by
      rw [hb, List.append_nil]
      conv => lhs; lhs; rw [h3]
      exact List.take_append_drop _ _
    have h6 := (bodyH_inj he h h5).1
    subst h6
    rw [hb] at hn h2
    omega
/-! ### what is seen, by its name -/
theorem seen_at {ms : List Mk} {i : Nat} {t : Mk} (h : ms[i]? = some t) (hs : t.seen = true) : (seenL ms)[(seenL (ms.take i)).length]? = some t := by
  obtain ⟨hi, rfl⟩ := List.getElem?_eq_some_iff.1 h
  have e : ms = ms.take i ++ ms[i] :: ms.drop (i + 1) := by rw [List.getElem_cons_drop, List.take_append_drop]
  have e2 : seenL ms = seenL (ms.take i) ++ ms[i] :: seenL (ms.drop (i + 1)) := by
    conv => lhs; rw [e]
    unfold seenL
    rw [List.filter_append, List.filter_cons_of_pos hs]
  rw [e2, List.getElem?_append_right (Nat.le_refl _), Nat.sub_self]; rfl
theorem seen_upto {ms : List Mk} {i : Nat} {t : Mk} (h : ms[i]? = some t) : (seenL (ms.take (i + 1))).length = (seenL (ms.take i)).length + (if t.seen then 1 else 0) := by
  obtain ⟨hi, rfl⟩ := List.getElem?_eq_some_iff.1 h
  rw [List.take_succ_eq_append_getElem hi]
  unfold seenL
  rw [List.filter_append, List.length_append]
  congr 1
  cases hs : (ms[i]).seen <;> simp [hs]
theorem apart_ne {ms : List Mk} (h : Apart ms) {i j : Nat} {t u : Mk} (hi : ms[i]? = some t) (hj : ms[j]? = some u) (hne : i ≠ j) : t.name ≠ u.name := by
  rcases Nat.lt_or_gt_of_ne hne with hl | hl
  · exact h j (List.getElem?_eq_some_iff.1 hj).1 u hj i t hl hi
  · exact fun e => h i (List.getElem?_eq_some_iff.1 hi).1 t hi j u hl hj e.symm
theorem found_seen {ms : List Mk} (ha : Apart ms) {i : Nat} {t : Mk} (h : ms[i]? = some t) (hs : t.seen = true) : findM ms t.name = some t := by
  unfold findM
  rw [List.find?_eq_some_iff_getElem]
  obtain ⟨hi, e⟩ := List.getElem?_eq_some_iff.1 h
  refine ⟨by rw [hs]; simp, i, hi, e, fun j hj => ?_⟩
  have h2 : ms[j]? = some ms[j] := List.getElem?_eq_getElem (by omega)
  have := apart_ne ha h2 h (by omega)
  simp [this]
theorem found_hid {ms : List Mk} (ha : Apart ms) {i : Nat} {t : Mk} (h : ms[i]? = some t) (hs : t.seen = false) : findM ms t.name = none := by
  unfold findM
  rw [List.find?_eq_none]
  intro u hu
  obtain ⟨j, hj⟩ := List.mem_iff_getElem?.1 hu
  by_cases e : j = i
  · subst e; rw [h] at hj; cases hj; rw [hs]; simp
  · have := apart_ne ha hj h e
    simp [this]
theorem foundM_some {ms : List Mk} {s : ByteArray} {t : Mk} (h : findM ms s = some t) : foundM ms s = (t, true) := by unfold foundM; rw [h]
theorem foundM_none {ms : List Mk} {s : ByteArray} (h : findM ms s = none) : foundM ms s = (noMk, false) := by unfold foundM; rw [h]
theorem findM_is {ms : List Mk} {s : ByteArray} {t : Mk} (h : findM ms s = some t) : t.name = s ∧ t.gone = false ∧ t ∈ ms := by
  unfold findM at h
  have h1 := List.find?_some h
  have h2 := List.mem_of_find?_eq_some h
  simp only [Bool.and_eq_true, decide_eq_true_eq] at h1
  refine ⟨h1.2, ?_, h2⟩
  have := h1.1
  unfold Mk.seen at this
  simp only [Bool.and_eq_true, Bool.not_eq_true'] at this
  exact this.1
theorem newest_less {d : Hd} (h : HdOk d) : newestM d.marks < d.next := by
  have h1 : 1 ≤ d.next := h.1.2.2.2.1
  have h2 : ∀ t ∈ d.marks, t.id < d.next := by
    intro t ht
    obtain ⟨i, hi⟩ := List.mem_iff_getElem?.1 ht
    exact (h.2.2.1 i (List.getElem?_eq_some_iff.1 hi).1 t hi).2
  unfold newestM
  generalize d.marks = l at *
  cases l with
  | nil => simp only; omega
  | cons t r =>
    simp only
    have hg : ∀ (l : List Mk) (m : Int), m < d.next → (∀ t ∈ l, t.id < d.next) → l.foldl (fun m u => max m u.id) m < d.next := by
      intro l
      induction l with
      | nil => intro m hm _; exact hm
      | cons u l ih =>
        intro m hm hl
        rw [List.foldl_cons]
        exact ih _ (by have := hl u (by simp); omega) (fun v hv => hl v (by simp [hv]))
    exact hg _ _ (h2 t (by simp)) h2
theorem name_pos {d : Hd} (h : HdOk d) {t : Mk} (ht : t ∈ d.marks) : 1 ≤ t.name.size ∧ t.name.size ≤ 13 := by
  have := markL_len (h.2.2.2.2.1 t ht).1
  unfold Mk.nm at this
  rwa [← Lib.size_eq] at this
/-! ### what a guest sees, from the end -/
def findS (l : List Mk) (s : ByteArray) : Mk × Bool := match l.find? (fun t => decide (t.name = s)) with | some t => (t, true) | none => (noMk, false)
theorem findS_seen (ms : List Mk) (s : ByteArray) : findS (seenL ms) s = foundM ms s := by
  unfold findS foundM findM seenL
  rw [List.find?_filter]
  simp only [Bool.decide_and, Bool.decide_eq_true]
  rfl
theorem findS_nil (s : ByteArray) : findS [] s = (noMk, false) := rfl
theorem findS_drop {l : List Mk} {k : Nat} {t : Mk} (h : l[k]? = some t) (s : ByteArray) : findS (l.drop k) s = if t.name = s then (t, true) else findS (l.drop (k + 1)) s := by
  obtain ⟨hk, rfl⟩ := List.getElem?_eq_some_iff.1 h
  rw [List.drop_eq_getElem_cons hk]
  unfold findS
  rw [List.find?_cons]
  by_cases e : (l[k]).name = s
  · rw [if_pos e]; simp [e]
  · rw [if_neg e]; simp [e]
theorem newest_snoc {l : List Mk} (t : Mk) (h : l ≠ []) : newestM (l ++ [t]) = max (newestM l) t.id := by
  cases l with
  | nil => exact (h rfl).elim
  | cons u r =>
    show (u :: (r ++ [t])).foldl (fun m u => max m u.id) u.id = max ((u :: r).foldl (fun m u => max m u.id) u.id) t.id
    rw [← List.cons_append, List.foldl_append]
    rfl
theorem newest_step {l : List Mk} {i : Nat} {t : Mk} (h : l[i]? = some t) : newestM (l.take (i + 1)) = if i = 0 ∨ newestM (l.take i) < t.id then t.id else newestM (l.take i) := by
  obtain ⟨hi, e⟩ := List.getElem?_eq_some_iff.1 h
  rw [List.take_succ_eq_append_getElem hi, e]
  by_cases h0 : i = 0
  · subst h0
    rw [if_pos (.inl rfl), List.take_zero, List.nil_append]
    show max t.id t.id = t.id
    omega
  · rw [newest_snoc t (fun e => h0 (by have := congrArg List.length e; rw [List.length_take, List.length_nil] at this; omega))]
    generalize newestM (l.take i) = M
    by_cases c : M < t.id
    · rw [if_pos (.inr c)]; omega
    · rw [if_neg (by omega)]; omega
end Go.Proofs.Ytfjplhjlmilcfaa
