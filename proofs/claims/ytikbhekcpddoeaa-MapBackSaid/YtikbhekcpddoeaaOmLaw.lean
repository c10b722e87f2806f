/- Maps of objects: what the laws want of turned, frozen, unlike ones; no program. -/
import Derived.Test.YtikbhekcpddoeaaOmPlain
namespace Go.Proofs.Ytikbhekcpddoeaa
set_option linter.unusedVariables false
set_option linter.unnecessarySimpa false
set_option linter.unusedSimpArgs false

abbrev gO (l : List Int) (i : Nat) : Int := l[i]?.getD 0
theorem gO_end {l : List Int} {i : Nat} (h : l.length ≤ i) : gO l i = 0 := by unfold gO; rw [List.getElem?_eq_none h]; rfl
theorem atO_nat (l : List Int) (i : Nat) : atO l (i : Int) = gO l i := by
  have h0 : ¬ (i : Int) < 0 := by omega
  simp only [atO, if_neg h0, Int.toNat_natCast]
theorem turnO_len {l : List Int} {i : Nat} {to : Int} (hi : i < 512) (ht : stOk to) : (turnO l (i : Int) to).length = max l.length (i + 1) := by
  unfold turnO
  rw [if_pos ⟨by omega, by omega, ht⟩, List.length_set, List.length_append, List.length_replicate, Int.toNat_natCast]; omega
theorem turnO_get {l : List Int} {i : Nat} {to : Int} (hi : i < 512) (ht : stOk to) (k : Nat) : gO (turnO l (i : Int) to) k = if k = i then to else gO l k := by
  unfold gO turnO
  rw [if_pos ⟨by omega, by omega, ht⟩, Int.toNat_natCast, List.getElem?_set]
  by_cases h : i = k
  · subst h
    rw [if_pos rfl, if_pos rfl, List.length_append, List.length_replicate, if_pos (by omega)]; rfl
  · rw [if_neg h, if_neg (fun e => h e.symm), List.getElem?_append]
    split
    · rfl
    · rename_i h2
      rw [List.getElem?_replicate, List.getElem?_eq_none (l := l) (by omega)]
      split <;> rfl
theorem filter_one {n I : Nat} {p : Nat → Bool} (hI : I < n) (h : ∀ i, i < n → p i = decide (i = I)) : (List.range n).filter p = [I] := by
  have e : (List.range n).filter p = (List.range n).filter (fun i => decide (i = I)) := List.filter_congr fun i hi => h i (List.mem_range.1 hi)
  rw [e]
  clear e h
  induction n with
  | zero => omega
  | succ n ih =>
    rw [List.range_succ, List.filter_append]
    by_cases c : I = n
    · subst c
      have h0 : (List.range I).filter (fun i => decide (i = I)) = [] := by
        rw [List.filter_eq_nil_iff]; intro a ha; have := List.mem_range.1 ha; simp; omega
      rw [h0]; simp
    · rw [ih (by omega)]
      simp; omega
theorem filter_none' {n : Nat} {p : Nat → Bool} (h : ∀ i, i < n → p i = false) : (List.range n).filter p = [] := by
  rw [List.filter_eq_nil_iff]; intro a ha; rw [h a (List.mem_range.1 ha)]; simp
theorem diffO_one {a b : List Int} {I : Nat} (hI : I < max a.length b.length) (h : ∀ i, mayO (gO a i) (gO b i) = decide (i = I)) : diffO a b = [(I : Int)] := by
  unfold diffO diffN
  rw [filter_one hI (fun i _ => h i)]; rfl
theorem diffO_none {a b : List Int} (h : ∀ i, mayO (gO a i) (gO b i) = false) : diffO a b = [] := by
  unfold diffO diffN
  rw [filter_none' (fun i _ => h i)]; rfl
/-- Frozen: no state is Live. -/
def Froz (l : List Int) : Prop := ∀ x ∈ l, x = 0 ∨ x = 2
theorem freezeO_froz {l : List Int} (h : ∀ x ∈ l, stOk x) : Froz (freezeO l) := by
  intro x hx
  unfold freezeO at hx
  obtain ⟨y, hy, rfl⟩ := List.mem_map.1 hx
  have := h y hy
  unfold stOk at this
  split <;> omega
theorem freezeO_len (l : List Int) : (freezeO l).length = l.length := by unfold freezeO; simp
theorem freezeO_same {l : List Int} (h : Froz l) : freezeO l = l := by
  unfold freezeO
  conv => rhs; rw [← List.map_id l]
  apply List.map_congr_left
  intro x hx
  have := h x hx
  rw [if_neg (by omega)]; rfl
theorem Froz.get {l : List Int} (h : Froz l) (i : Nat) : gO l i = 0 ∨ gO l i = 2 := by
  unfold gO
  cases hi : l[i]? with
  | none => left; rfl
  | some x => exact h x (List.mem_of_getElem? hi)
theorem mayO_same {x : Int} (h : x = 0 ∨ x = 2) : mayO x x = false := by rcases h with rfl | rfl <;> decide
theorem froz_diff {l : List Int} (h : Froz l) : diffO l l = [] := diffO_none fun i => mayO_same (h.get i)
theorem froz_live {l : List Int} (h : Froz l) {I : Nat} (hI : I < 512) : diffO l (turnO l (I : Int) 1) = [(I : Int)] := by
  have h1 : stOk 1 := by unfold stOk; omega
  refine diffO_one (by rw [turnO_len hI h1]; omega) fun i => ?_
  rw [turnO_get hI h1]
  by_cases c : i = I
  · rw [if_pos c, decide_eq_true c]
    rcases h.get i with e | e <;> rw [e] <;> decide
  · rw [if_neg c, decide_eq_false c, mayO_same (h.get i)]
theorem froz_gone {l : List Int} (h : Froz l) {I : Nat} (hI : I < 512) (hz : gO l I = 0) : diffO l (turnO l (I : Int) 0) = [] ∧ diffO (turnO l (I : Int) 0) l = [] := by
  have h1 : stOk 0 := by unfold stOk; omega
  constructor
  all_goals
    refine diffO_none fun i => ?_
    rw [turnO_get hI h1]
    by_cases c : i = I
    · subst c; rw [if_pos rfl, hz]; decide
    · rw [if_neg c, mayO_same (h.get i)]
theorem froz_come {l : List Int} (h : Froz l) {I : Nat} (hI : I < 512) (hz : gO l I ≠ 0) : diffO l (turnO l (I : Int) 0) = [(I : Int)] ∧ diffO (turnO l (I : Int) 0) l = [(I : Int)] := by
  have h1 : stOk 0 := by unfold stOk; omega
  have h2 : gO l I = 2 := by have := h.get I; omega
  constructor
  all_goals
    refine diffO_one (by rw [turnO_len hI h1]; omega) fun i => ?_
    rw [turnO_get hI h1]
    by_cases c : i = I
    · subst c; rw [if_pos rfl, h2, decide_eq_true rfl]; decide
    · rw [if_neg c, decide_eq_false c, mayO_same (h.get i)]
/-! ### where two may be unlike, one place after another -/
def mayB (a b : List Int) (i : Nat) : Bool := mayO (gO a i) (gO b i)
def diffK (a b : List Int) (k : Nat) : List Int := ((List.range k).filter (mayB a b)).map fun (i : Nat) => (i : Int)
theorem diffK_zero (a b : List Int) : diffK a b 0 = [] := rfl
theorem diffK_yes {a b : List Int} {k : Nat} (h : mayB a b k = true) : diffK a b (k + 1) = diffK a b k ++ [(k : Int)] := by
  unfold diffK; rw [List.range_succ, List.filter_append]; simp [h]
theorem diffK_no {a b : List Int} {k : Nat} (h : mayB a b k = false) : diffK a b (k + 1) = diffK a b k := by
  unfold diffK; rw [List.range_succ, List.filter_append]; simp [h]
theorem diffK_all (a b : List Int) : diffO a b = diffK a b (max a.length b.length) := rfl
theorem diffK_pre (a b : List Int) : ∀ {k n : Nat}, k ≤ n → ∃ r, diffK a b n = diffK a b k ++ r
  | k, 0, h => ⟨[], by rw [show k = 0 by omega]; simp⟩
  | k, n + 1, h => by
    by_cases c : k = n + 1
    · exact ⟨[], by rw [c]; simp⟩
    · obtain ⟨r, hr⟩ := diffK_pre a b (k := k) (n := n) (by omega)
      by_cases d : mayB a b n = true
      · exact ⟨r ++ [(n : Int)], by rw [diffK_yes d, hr, List.append_assoc]⟩
      · exact ⟨r, by rw [diffK_no (by simpa using d), hr]⟩
theorem diffK_len (a b : List Int) : ∀ k, (diffK a b k).length ≤ k
  | 0 => by simp [diffK]
  | k + 1 => by
    have ih := diffK_len a b k
    by_cases d : mayB a b k = true
    · rw [diffK_yes d, List.length_append, List.length_singleton]; omega
    · rw [diffK_no (by simpa using d)]; omega
/-- The next place that may be unlike stands at its own place in the whole row. -/
theorem diffK_next {a b : List Int} {k n : Nat} (hk : k < n) (h : mayB a b k = true) : (diffK a b n)[(diffK a b k).length]? = some (k : Int) := by
  obtain ⟨r, hr⟩ := diffK_pre a b (k := k + 1) (n := n) hk
  rw [hr, diffK_yes h, List.append_assoc, List.getElem?_append_right (Nat.le_refl _), Nat.sub_self]; rfl
theorem mayB_eq (a b : List Int) (i : Nat) : mayB a b i = (decide (gO b i = 1) || ((decide (gO a i = 0) && !decide (gO b i = 0)) || (!decide (gO a i = 0) && decide (gO b i = 0)))) := by
  unfold mayB mayO
  by_cases h1 : gO b i = 1 <;> by_cases h2 : gO a i = 0 <;> by_cases h3 : gO b i = 0 <;> simp [h1, h2, h3]
end Go.Proofs.Ytikbhekcpddoeaa
