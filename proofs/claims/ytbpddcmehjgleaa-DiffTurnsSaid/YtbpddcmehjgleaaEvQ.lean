/- Events: the document's RightEvent. -/
import Derived.Test.YtbpddcmehjgleaaEvR
namespace Go.Proofs.Ytbpddcmehjgleaa
open Go.RowKit
set_option linter.unusedVariables false
set_option linter.unusedSimpArgs false
section
variable (o m : Int) (a : Option Addr) (n c : Nat) (l : List UInt8) (s : ByteArray) (w : World)

/-! ### the document's own -/
theorem nil_len {l : List UInt8} {n : Nat} (h : l.length = n) : l = [] ↔ n = 0 := by subst h; exact List.length_eq_zero_iff.symm
set_option maxHeartbeats 1000000 in
theorem rright_w (hr : Row w a c l) (hn : l.length = n) (hs : s.size ≤ 9223372036854775807) :
    Calls Try.prog 47 #[.agg #[.int .i64 1, .int .i64 o, .int .i64 m, .slice a n c, .string s]] w fun e w' => e = .returned (.bool (Ev.right ⟨1, o, m, l, s.data.toList⟩)) ∧ Below w.heap.size w w' := by
  have HE : Hid ((Ev.mk 1 o m l s.data.toList).right = (withinM o n 64 && decide (m = 0 ∧ s.data.toList = []))) := Lib.hid (by rw [right_w, hn])
  rw [HE.out]
  clear hr hn HE
  go_enter Try.func47, Try.ntmps47
  go_wp2_with (go_at_call 60; refine (rwithin_any _ _ _).mono ?_; rintro e w1 ⟨rfl, rfl⟩)
  all_goals
    go_ret
    refine ⟨ret_bool ?_, (Below.refl _ _).alloc (Nat.le_refl _) _⟩
  all_goals
    refine Bool.eq_iff_iff.2 ?_
    try rw [ByteArray.toList_eq]
    cases hN : nameOk s.data.toList <;> cases hD : s.data.toList <;> simp [withinM_iff, within_iff] at * <;> first | omega | (intros; omega) | skip
set_option maxHeartbeats 1000000 in
theorem rright_d2 (hr : Row w a c l) (hn : l.length = n) (hs : s.size ≤ 9223372036854775807) :
    Calls Try.prog 47 #[.agg #[.int .i64 2, .int .i64 o, .int .i64 m, .slice a n c, .string s]] w fun e w' => e = .returned (.bool (Ev.right ⟨2, o, m, l, s.data.toList⟩)) ∧ Below w.heap.size w w' := by
  have HE : Hid ((Ev.mk 2 o m l s.data.toList).right = (withinM o m 512 && decide (n = 0 ∧ s.data.toList = []))) := Lib.hid (by simp only [right_d (show (2 : Int) = 2 ∨ (2 : Int) = 3 by omega), nil_len hn])
  rw [HE.out]
  clear hr hn HE
  go_enter Try.func47, Try.ntmps47
  go_wp2_with (go_at_call 60; refine (rwithin_any _ _ _).mono ?_; rintro e w1 ⟨rfl, rfl⟩)
  all_goals
    go_ret
    refine ⟨ret_bool ?_, (Below.refl _ _).alloc (Nat.le_refl _) _⟩
  all_goals
    refine Bool.eq_iff_iff.2 ?_
    try rw [ByteArray.toList_eq]
    cases hN : nameOk s.data.toList <;> cases hD : s.data.toList <;> simp [withinM_iff, within_iff] at * <;> first | omega | (intros; omega) | skip
set_option maxHeartbeats 1000000 in
theorem rright_d3 (hr : Row w a c l) (hn : l.length = n) (hs : s.size ≤ 9223372036854775807) :
    Calls Try.prog 47 #[.agg #[.int .i64 3, .int .i64 o, .int .i64 m, .slice a n c, .string s]] w fun e w' => e = .returned (.bool (Ev.right ⟨3, o, m, l, s.data.toList⟩)) ∧ Below w.heap.size w w' := by
  have HE : Hid ((Ev.mk 3 o m l s.data.toList).right = (withinM o m 512 && decide (n = 0 ∧ s.data.toList = []))) := Lib.hid (by simp only [right_d (show (3 : Int) = 2 ∨ (3 : Int) = 3 by omega), nil_len hn])
  rw [HE.out]
  clear hr hn HE
  go_enter Try.func47, Try.ntmps47
  go_wp2_with (go_at_call 60; refine (rwithin_any _ _ _).mono ?_; rintro e w1 ⟨rfl, rfl⟩)
  all_goals
    go_ret
    refine ⟨ret_bool ?_, (Below.refl _ _).alloc (Nat.le_refl _) _⟩
  all_goals
    refine Bool.eq_iff_iff.2 ?_
    try rw [ByteArray.toList_eq]
    cases hN : nameOk s.data.toList <;> cases hD : s.data.toList <;> simp [withinM_iff, within_iff] at * <;> first | omega | (intros; omega) | skip
set_option maxHeartbeats 1000000 in
theorem rright_r (hr : Row w a c l) (hn : l.length = n) (hs : s.size ≤ 9223372036854775807) :
    Calls Try.prog 47 #[.agg #[.int .i64 4, .int .i64 o, .int .i64 m, .slice a n c, .string s]] w fun e w' => e = .returned (.bool (Ev.right ⟨4, o, m, l, s.data.toList⟩)) ∧ Below w.heap.size w w' := by
  have HE : Hid ((Ev.mk 4 o m l s.data.toList).right = (decide (0 ≤ m ∧ m ≤ 512) && decide (o = 0 ∧ n = 0 ∧ s.data.toList = []))) := Lib.hid (by simp only [right_r, nil_len hn])
  rw [HE.out]
  clear hr hn HE
  go_enter Try.func47, Try.ntmps47
  go_wp2_with fail
  all_goals
    go_ret
    refine ⟨ret_bool ?_, (Below.refl _ _).alloc (Nat.le_refl _) _⟩
  all_goals
    refine Bool.eq_iff_iff.2 ?_
    try rw [ByteArray.toList_eq]
    cases hN : nameOk s.data.toList <;> cases hD : s.data.toList <;> simp [withinM_iff, within_iff] at * <;> first | omega | (intros; omega) | skip
set_option maxHeartbeats 1000000 in
theorem rright_n5 (hr : Row w a c l) (hn : l.length = n) (hs : s.size ≤ 9223372036854775807) :
    Calls Try.prog 47 #[.agg #[.int .i64 5, .int .i64 o, .int .i64 m, .slice a n c, .string s]] w fun e w' => e = .returned (.bool (Ev.right ⟨5, o, m, l, s.data.toList⟩)) ∧ Below w.heap.size w w' := by
  have HE : Hid ((Ev.mk 5 o m l s.data.toList).right = (nameOk s.data.toList && decide (o = 0 ∧ m = 0 ∧ n = 0))) := Lib.hid (by simp only [right_n (show (5 : Int) = 5 ∨ (5 : Int) = 6 ∨ (5 : Int) = 7 by omega), nil_len hn])
  rw [HE.out]
  clear hr hn HE
  go_enter Try.func47, Try.ntmps47
  go_wp2_with (go_at_call 54; refine (rname_any _ _ (by omega)).mono ?_; rintro e w1 ⟨rfl, rfl⟩)
  all_goals
    go_ret
    refine ⟨ret_bool ?_, (Below.refl _ _).alloc (Nat.le_refl _) _⟩
  all_goals
    refine Bool.eq_iff_iff.2 ?_
    try rw [ByteArray.toList_eq]
    cases hN : nameOk s.data.toList <;> cases hD : s.data.toList <;> simp [withinM_iff, within_iff] at * <;> first | omega | (intros; omega) | skip
set_option maxHeartbeats 1000000 in
theorem rright_n6 (hr : Row w a c l) (hn : l.length = n) (hs : s.size ≤ 9223372036854775807) :
    Calls Try.prog 47 #[.agg #[.int .i64 6, .int .i64 o, .int .i64 m, .slice a n c, .string s]] w fun e w' => e = .returned (.bool (Ev.right ⟨6, o, m, l, s.data.toList⟩)) ∧ Below w.heap.size w w' := by
  have HE : Hid ((Ev.mk 6 o m l s.data.toList).right = (nameOk s.data.toList && decide (o = 0 ∧ m = 0 ∧ n = 0))) := Lib.hid (by simp only [right_n (show (6 : Int) = 5 ∨ (6 : Int) = 6 ∨ (6 : Int) = 7 by omega), nil_len hn])
  rw [HE.out]
  clear hr hn HE
  go_enter Try.func47, Try.ntmps47
  go_wp2_with (go_at_call 54; refine (rname_any _ _ (by omega)).mono ?_; rintro e w1 ⟨rfl, rfl⟩)
  all_goals
    go_ret
    refine ⟨ret_bool ?_, (Below.refl _ _).alloc (Nat.le_refl _) _⟩
  all_goals
    refine Bool.eq_iff_iff.2 ?_
    try rw [ByteArray.toList_eq]
    cases hN : nameOk s.data.toList <;> cases hD : s.data.toList <;> simp [withinM_iff, within_iff] at * <;> first | omega | (intros; omega) | skip
set_option maxHeartbeats 1000000 in
theorem rright_n7 (hr : Row w a c l) (hn : l.length = n) (hs : s.size ≤ 9223372036854775807) :
    Calls Try.prog 47 #[.agg #[.int .i64 7, .int .i64 o, .int .i64 m, .slice a n c, .string s]] w fun e w' => e = .returned (.bool (Ev.right ⟨7, o, m, l, s.data.toList⟩)) ∧ Below w.heap.size w w' := by
  have HE : Hid ((Ev.mk 7 o m l s.data.toList).right = (nameOk s.data.toList && decide (o = 0 ∧ m = 0 ∧ n = 0))) := Lib.hid (by simp only [right_n (show (7 : Int) = 5 ∨ (7 : Int) = 6 ∨ (7 : Int) = 7 by omega), nil_len hn])
  rw [HE.out]
  clear hr hn HE
  go_enter Try.func47, Try.ntmps47
  go_wp2_with (go_at_call 54; refine (rname_any _ _ (by omega)).mono ?_; rintro e w1 ⟨rfl, rfl⟩)
  all_goals
    go_ret
    refine ⟨ret_bool ?_, (Below.refl _ _).alloc (Nat.le_refl _) _⟩
  all_goals
    refine Bool.eq_iff_iff.2 ?_
    try rw [ByteArray.toList_eq]
    cases hN : nameOk s.data.toList <;> cases hD : s.data.toList <;> simp [withinM_iff, within_iff] at * <;> first | omega | (intros; omega) | skip
set_option maxHeartbeats 1000000 in
theorem rright_f (hr : Row w a c l) (hn : l.length = n) (hs : s.size ≤ 9223372036854775807) :
    Calls Try.prog 47 #[.agg #[.int .i64 8, .int .i64 o, .int .i64 m, .slice a n c, .string s]] w fun e w' => e = .returned (.bool (Ev.right ⟨8, o, m, l, s.data.toList⟩)) ∧ Below w.heap.size w w' := by
  have HE : Hid ((Ev.mk 8 o m l s.data.toList).right = decide (o = 0 ∧ m = 0 ∧ n = 0 ∧ s.data.toList = [])) := Lib.hid (by simp only [right_f, nil_len hn])
  rw [HE.out]
  clear hr hn HE
  go_enter Try.func47, Try.ntmps47
  go_wp2_with fail
  all_goals
    go_ret
    refine ⟨ret_bool ?_, (Below.refl _ _).alloc (Nat.le_refl _) _⟩
  all_goals
    refine Bool.eq_iff_iff.2 ?_
    try rw [ByteArray.toList_eq]
    cases hN : nameOk s.data.toList <;> cases hD : s.data.toList <;> simp [withinM_iff, within_iff] at * <;> first | omega | (intros; omega) | skip
set_option maxHeartbeats 1000000 in
theorem rright_x (k : Int) (hk : k < 1 ∨ 8 < k) (hr : Row w a c l) (hn : l.length = n) (hs : s.size ≤ 9223372036854775807) :
    Calls Try.prog 47 #[.agg #[.int .i64 k, .int .i64 o, .int .i64 m, .slice a n c, .string s]] w fun e w' => e = .returned (.bool (Ev.right ⟨k, o, m, l, s.data.toList⟩)) ∧ Below w.heap.size w w' := by
  have HE : Hid ((Ev.mk k o m l s.data.toList).right = false) := Lib.hid (right_x hk)
  rw [HE.out]
  clear hr hn HE
  have t1 : (k == 1) = false := by simp; omega
  have t2 : (k == 2) = false := by simp; omega
  have t3 : (k == 3) = false := by simp; omega
  have t4 : (k == 4) = false := by simp; omega
  have t5 : (k == 5) = false := by simp; omega
  have t6 : (k == 6) = false := by simp; omega
  have t7 : (k == 7) = false := by simp; omega
  have t8 : (k == 8) = false := by simp; omega
  clear hk
  go_enter Try.func47, Try.ntmps47
  go_wp2_with fail
  all_goals
    go_ret
    refine ⟨ret_bool ?_, (Below.refl _ _).alloc (Nat.le_refl _) _⟩
  all_goals
    refine Bool.eq_iff_iff.2 ?_
    try rw [ByteArray.toList_eq]
    cases hN : nameOk s.data.toList <;> cases hD : s.data.toList <;> simp [withinM_iff, within_iff] at * <;> first | omega | (intros; omega) | skip
theorem evrright_any (k : Int) (hr : Row w a c l) (hn : l.length = n) (hs : s.size ≤ 9223372036854775807) :
    Calls Try.prog 47 #[.agg #[.int .i64 k, .int .i64 o, .int .i64 m, .slice a n c, .string s]] w fun e w' => e = .returned (.bool (Ev.right ⟨k, o, m, l, s.data.toList⟩)) ∧ Below w.heap.size w w' := by
  rcases (show k = 1 ∨ k = 2 ∨ k = 3 ∨ k = 4 ∨ k = 5 ∨ k = 6 ∨ k = 7 ∨ k = 8 ∨ (k < 1 ∨ 8 < k) by omega) with rfl | rfl | rfl | rfl | rfl | rfl | rfl | rfl | h
  · exact rright_w o m a n c l s w hr hn hs
  · exact rright_d2 o m a n c l s w hr hn hs
  · exact rright_d3 o m a n c l s w hr hn hs
  · exact rright_r o m a n c l s w hr hn hs
  · exact rright_n5 o m a n c l s w hr hn hs
  · exact rright_n6 o m a n c l s w hr hn hs
  · exact rright_n7 o m a n c l s w hr hn hs
  · exact rright_f o m a n c l s w hr hn hs
  · exact rright_x o m a n c l s w k h hr hn hs
end
end Go.Proofs.Ytbpddcmehjgleaa
