/- The law BitsSigns, walked. -/
import Derived.Test.YtdijlglbhddcaaaKnown
namespace Go.Proofs.Ytdijlglbhddcaaa
open Go.RowKit
set_option linter.unusedVariables false

theorem wf_i64 {n : Int} (h : (Lit.int .i64 n).wf = true) : -9223372036854775808 ≤ n ∧ n ≤ 9223372036854775807 := by
  simp [Lit.wf, IntKind.min, IntKind.max, IntKind.signed, IntKind.bits] at h; omega
theorem wf_u64 {n : Int} (h : (Lit.int .u64 n).wf = true) : ∃ m : Nat, n = m ∧ m < 18446744073709551616 := by
  simp [Lit.wf, IntKind.min, IntKind.max, IntKind.signed, IntKind.bits] at h
  exact ⟨n.toNat, by omega, by omega⟩

theorem zig_inj {n m : Int} : (((zigN n : Nat) : Int) == ((zigN m : Nat) : Int)) = (n == m) := by
  by_cases h : n = m
  · subst h; simp
  · have : zigN n ≠ zigN m := fun e => h (by rw [← zag_zig n, e, zag_zig])
    have a : ((zigN n : Nat) : Int) ≠ (zigN m : Nat) := fun e => this (by omega)
    rw [beq_eq_false_iff_ne.2 a, beq_eq_false_iff_ne.2 h]

theorem zig_par {n : Int} (h : zigN n < 18446744073709551616) : (bits .and .u64 ((zigN n : Nat) : Int) 1 == 1) = decide (n < 0) := by
  have e : bits .and .u64 ((zigN n : Nat) : Int) 1 = ((zigN n % 2 : Nat) : Int) := by
    have := u64_and_nat (zigN n) 1 h (by decide)
    rw [nat_mask1] at this; exact this
  rw [e]
  by_cases c : n < 0
  · have := zig_neg c
    rw [show zigN n % 2 = 1 by omega, decide_eq_true c]; rfl
  · have := zig_pos (n := n) (by omega)
    rw [show zigN n % 2 = 0 by omega, decide_eq_false c]; rfl

set_option maxRecDepth 100000 in
set_option maxHeartbeats 1600000 in
theorem bitsSigns_walk (n m u : Int) (w : World) (w0 : (Lit.int .i64 n).wf = true) (w1 : (Lit.int .i64 m).wf = true) (w2 : (Lit.int .u64 u).wf = true) :
    Calls Try.prog 7 #[.int .i64 n, .int .i64 m, .int .u64 u] w fun e w' => e = .returned (.bool true) ∧ Below w.heap.size w w' := by
  obtain ⟨n1, n2⟩ := wf_i64 w0
  obtain ⟨m1, m2⟩ := wf_i64 w1
  obtain ⟨u, rfl, hu⟩ := wf_u64 w2
  clear w0 w1 w2
  have hzn := zigN_lt n1 n2
  have hzm := zigN_lt m1 m2
  have hzu : -9223372036854775808 ≤ zagI u ∧ zagI u ≤ 9223372036854775807 := by unfold zagI; split <;> omega
  have z1 := Lib.hid (zag_zig n)
  have z2 := Lib.hid (zig_zag u)
  go_enter Try.func7, Try.ntmps7
  go_wp2_with fail
  refine (zig_any n n1 n2 w).mono ?_
  rintro e w1 ⟨rfl, rfl⟩
  go_wp2_with fail
  refine (zig_any m m1 m2 w).mono ?_
  rintro e w1 ⟨rfl, rfl⟩
  go_wp2_with fail
  refine (zag_any (zigN n) hzn w).mono ?_
  rintro e w1 ⟨rfl, rfl⟩
  rw [z1.out]
  go_wp2_with fail
  refine (zag_any u hu w).mono ?_
  rintro e w1 ⟨rfl, rfl⟩
  go_wp2_with fail
  refine (zig_any (zagI u) hzu.1 hzu.2 w).mono ?_
  rintro e w1 ⟨rfl, rfl⟩
  rw [z2.out]
  have hinj := zig_inj (n := n) (m := m)
  have hpar := zig_par hzn
  clear z1 z2 hzu
  rcases (show (0 ≤ n ∧ n < m) ∨ (0 ≤ n ∧ m ≤ n) ∨ (n < 0 ∧ m < n) ∨ (n < 0 ∧ n ≤ m) by omega) with ⟨h1, h2⟩ | ⟨h1, h2⟩ | ⟨h1, h2⟩ | ⟨h1, h2⟩
  · have h3 : zigN n < zigN m := by have := zig_pos h1; have := zig_pos (n := m) (by omega); omega
    have h4 : (bits .and .u64 ((zigN n : Nat) : Int) 1 == 1) = false := by rw [hpar]; simp; omega
    clear hpar
    go_wp2_with (go_at_call 18; refine (known_any _).mono ?_; rintro e w1 ⟨rfl, hb⟩)
    go_ret
    exact ⟨rfl, hb⟩
  · have h4 : (bits .and .u64 ((zigN n : Nat) : Int) 1 == 1) = false := by rw [hpar]; simp; omega
    clear hpar
    go_wp2_with (go_at_call 18; refine (known_any _).mono ?_; rintro e w1 ⟨rfl, hb⟩)
    go_ret
    exact ⟨rfl, hb⟩
  · have h3 : zigN n < zigN m := by have := zig_neg h1; have := zig_neg (n := m) (by omega); omega
    have h4 : (bits .and .u64 ((zigN n : Nat) : Int) 1 == 1) = true := by rw [hpar]; simp; omega
    clear hpar
    go_wp2_with (go_at_call 18; refine (known_any _).mono ?_; rintro e w1 ⟨rfl, hb⟩)
    go_ret
    exact ⟨rfl, hb⟩
  · have h4 : (bits .and .u64 ((zigN n : Nat) : Int) 1 == 1) = true := by rw [hpar]; simp; omega
    clear hpar
    go_wp2_with (go_at_call 18; refine (known_any _).mono ?_; rintro e w1 ⟨rfl, hb⟩)
    go_ret
    exact ⟨rfl, hb⟩
end Go.Proofs.Ytdijlglbhddcaaa
