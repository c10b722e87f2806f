/- Shapes of layouts. -/
import Derived.Test.YtalgjoeinllllaaHdPlain
import Derived.Test.YtalgjoeinllllaaGRow
import Derived.Test.YtalgjoeinllllaaInts
namespace Go.Proofs.Ytalgjoeinllllaa
open Go.RowKit Go.Proofs
set_option linter.unusedVariables false
set_option linter.unusedSimpArgs false
set_option linter.unnecessarySimpa false

theorem hdbetween_any (n a b : Int) (w : World) : Calls Try.prog 28 #[.int .i64 n, .int .i64 a, .int .i64 b] w fun e w' => e = .returned (.bool (decide (a ≤ n ∧ n ≤ b))) ∧ w = w' := by
  by_cases h1 : a ≤ n <;> by_cases h2 : n ≤ b
  all_goals
    go_enter Try.func28, Try.ntmps28
    go_wp2
    go_ret
    exact ⟨ret_bool (by simp [h1, h2]), rfl⟩

/-! ### shapes -/
theorem shape_bool (o u c : Int) : decide (ShapeOk o u c) = (decide (3 ≤ o ∧ o ≤ 6) && (decide (2 ≤ u ∧ u ≤ o) && decide (1 ≤ c ∧ c ≤ 4))) := by
  rw [Bool.eq_iff_iff]; simp only [Bool.and_eq_true, decide_eq_true_eq]; unfold ShapeOk; omega
set_option maxHeartbeats 1600000 in
theorem shape_any (o u c : Int) (w : World) : Calls Try.prog 21 #[.agg #[.int .i64 o, .int .i64 u, .int .i64 c]] w fun e w' => e = .returned (.bool (decide (ShapeOk o u c))) ∧ Below w.heap.size w w' := by
  have hb : Below w.heap.size w (w.alloc (.cells #[.int .i64 o, .int .i64 u, .int .i64 c] 23)) := (Below.refl _ _).alloc (Nat.le_refl _) _
  have HB := Lib.hid hb
  clear hb
  rw [shape_bool]
  cases h1 : decide (3 ≤ o ∧ o ≤ 6) <;> cases h2 : decide (2 ≤ u ∧ u ≤ o) <;> cases h3 : decide (1 ≤ c ∧ c ≤ 4)
  all_goals
    go_enter Try.func21, Try.ntmps21
    go_wp2_with (go_at_call 28; refine (hdbetween_any _ _ _ _).mono ?_; (first | rw [h1] | rw [h2] | rw [h3]); rintro e w1 ⟨rfl, rfl⟩)
    go_ret
    exact ⟨rfl, HB.out⟩
set_option maxHeartbeats 3200000 in
theorem rshape_any (o u c : Int) (w : World) : Calls Try.prog 24 #[.agg #[.int .i64 o, .int .i64 u, .int .i64 c]] w fun e w' => e = .returned (.bool (decide (ShapeOk o u c))) ∧ Below w.heap.size w w' := by
  have hb : Below w.heap.size w (w.alloc (.cells #[.int .i64 o, .int .i64 u, .int .i64 c] 23)) := (Below.refl _ _).alloc (Nat.le_refl _) _
  have HB := Lib.hid hb
  clear hb
  rcases (show ¬ 3 ≤ o ∨ (3 ≤ o ∧ ¬ o ≤ 6) ∨ ((3 ≤ o ∧ o ≤ 6) ∧ ¬ 2 ≤ u) ∨ ((3 ≤ o ∧ o ≤ 6) ∧ 2 ≤ u ∧ ¬ u ≤ o) ∨ ((3 ≤ o ∧ o ≤ 6) ∧ (2 ≤ u ∧ u ≤ o) ∧ ¬ 1 ≤ c) ∨ ((3 ≤ o ∧ o ≤ 6) ∧ (2 ≤ u ∧ u ≤ o) ∧ 1 ≤ c ∧ ¬ c ≤ 4) ∨ ((3 ≤ o ∧ o ≤ 6) ∧ (2 ≤ u ∧ u ≤ o) ∧ 1 ≤ c ∧ c ≤ 4) by omega) with h | h | h | h | h | h | h
  all_goals
    have HF : Hid (decide (ShapeOk o u c) = decide (ShapeOk o u c)) := Lib.hid rfl
    first | obtain ⟨⟨h1, h2⟩, ⟨h3, h4⟩, h5, h6⟩ := h | obtain ⟨⟨h1, h2⟩, ⟨h3, h4⟩, h5⟩ := h | obtain ⟨⟨h1, h2⟩, h3, h4⟩ := h | obtain ⟨⟨h1, h2⟩, h3⟩ := h | obtain ⟨h1, h2⟩ := h | skip
    go_enter Try.func24, Try.ntmps24
    go_wp2
    go_ret
    exact ⟨ret_bool (by symm; first | exact decide_eq_true (by unfold ShapeOk; omega) | exact decide_eq_false (by unfold ShapeOk; omega)), HB.out⟩
end Go.Proofs.Ytalgjoeinllllaa
