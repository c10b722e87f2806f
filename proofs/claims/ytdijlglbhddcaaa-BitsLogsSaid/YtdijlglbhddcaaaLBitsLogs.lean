/- The law BitsLogs, walked. -/
import Derived.Test.YtdijlglbhddcaaaKnown
namespace Go.Proofs.Ytdijlglbhddcaaa
open Go.RowKit
set_option linter.unusedVariables false

theorem wf_i64l {n : Int} (h : (Lit.int .i64 n).wf = true) : -9223372036854775808 ≤ n ∧ n ≤ 9223372036854775807 := by
  simp [Lit.wf, IntKind.min, IntKind.max, IntKind.signed, IntKind.bits] at h; omega
theorem log_bound {n : Nat} (h : 1 ≤ n) (h2 : n < 9223372036854775808) : Nat.log2 n ≤ 62 := by
  have := (Nat.log2_lt (n := n) (k := 63) (by omega)).2 h2
  omega
theorem shr_log {n : Nat} (h : 1 ≤ n) : n / 2 ^ Nat.log2 n = 1 := by
  have h1 := Nat.log2_self_le (n := n) (by omega)
  have h2 := Nat.lt_log2_self (n := n)
  rw [Nat.pow_succ] at h2
  have hp := Nat.two_pow_pos (Nat.log2 n)
  exact Nat.div_eq_of_lt_le (by omega) (by omega)

set_option maxRecDepth 100000 in
set_option maxHeartbeats 1600000 in
theorem bitsLogs_walk (n : Int) (w : World) (w0 : (Lit.int .i64 n).wf = true) :
    Calls Try.prog 8 #[.int .i64 n] w fun e w' => e = .returned (.bool true) ∧ Below w.heap.size w w' := by
  obtain ⟨n1, n2⟩ := wf_i64l w0
  clear w0
  by_cases h : n < 1
  · have hl : logI n = -1 := by unfold logI; rw [if_pos h]
    have hv : n.toNat = 0 := by omega
    have HL := Lib.hid hl
    have HV := Lib.hid hv
    clear hl hv
    go_enter Try.func8, Try.ntmps8
    go_wp2_with fail
    refine (log_any n n2 w).mono ?_
    rintro e w1 ⟨rfl, rfl⟩
    rw [HL.out]
    go_wp2_with fail
    refine (var_any none 0 0 [] n w (Row.none w) rfl (by omega) n2).mono ?_
    rintro e w1 ⟨v1, rfl, hown⟩
    obtain ⟨a1, c1, rfl, hr1⟩ := hown.row
    have hb := hown.below
    clear hown
    have hlen : ([] ++ varL n.toNat).length = 1 := by rw [HV.out, varL_lo (by decide)]; rfl
    rw [hlen]
    clear hlen
    go_wp2_with fail
    refine (known_any _).mono ?_
    rintro e w2 ⟨rfl, hb2⟩
    go_wp2
    go_ret
    exact ⟨rfl, hb.trans (hb2.mono hb.size)⟩
  · obtain ⟨N, rfl⟩ := Int.eq_ofNat_of_zero_le (show 0 ≤ n by omega)
    have hl : logI N = (Nat.log2 N : Nat) := by unfold logI; rw [if_neg h]; rfl
    have HL := Lib.hid hl
    have hb62 := log_bound (n := N) (by omega) (by omega)
    have hs := shr_log (n := N) (by omega)
    have hs2 : ((N : Int) / 2 ^ Nat.log2 N == 1) = true := by
      have : (N : Int) / 2 ^ Nat.log2 N = ((N / 2 ^ Nat.log2 N : Nat) : Int) := by simp
      rw [this, hs]; rfl
    have hvl := varL_len N
    have HV := Lib.hid hvl
    clear hl hs hvl
    go_enter Try.func8, Try.ntmps8
    go_wp2_with fail
    refine (log_any N n2 w).mono ?_
    rintro e w1 ⟨rfl, rfl⟩
    rw [HL.out]
    go_wp2_with fail
    refine (var_any none 0 0 [] N w (Row.none w) rfl (by omega) n2).mono ?_
    rintro e w1 ⟨v1, rfl, hown⟩
    obtain ⟨a1, c1, rfl, hr1⟩ := hown.row
    have hb := hown.below
    clear hown
    have hlen : ([] ++ varL (N : Int).toNat).length = Nat.log2 N / 7 + 1 := by rw [← HV.out]; simp
    rw [hlen]
    clear hlen
    go_wp2_with fail
    refine (known_any _).mono ?_
    rintro e w2 ⟨rfl, hb2⟩
    go_wp2
    go_ret
    exact ⟨rfl, hb.trans (hb2.mono hb.size)⟩
end Go.Proofs.Ytdijlglbhddcaaa
