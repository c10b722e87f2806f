/- The law BitsParts, walked. -/
import Derived.Test.YtdijlglbhddcaaaKnown
namespace Go.Proofs.Ytdijlglbhddcaaa
open Go.RowKit
set_option linter.unusedVariables false

theorem wf_i64p {n : Int} (h : (Lit.int .i64 n).wf = true) : -9223372036854775808 ≤ n ∧ n ≤ 9223372036854775807 := by
  simp [Lit.wf, IntKind.min, IntKind.max, IntKind.signed, IntKind.bits] at h; omega
theorem wf_u64p {n : Int} (h : (Lit.int .u64 n).wf = true) : ∃ m : Nat, n = m ∧ m < 18446744073709551616 := by
  simp [Lit.wf, IntKind.min, IntKind.max, IntKind.signed, IntKind.bits] at h
  exact ⟨n.toNat, by omega, by omega⟩
theorem and63 (n : Int) : ∃ q : Nat, bits .and .i64 n 63 = q ∧ q < 64 := by
  have e : (BitVec.ofInt 64 n &&& BitVec.ofInt 64 63).toNat < 64 := by
    rw [BitVec.toNat_and]
    exact Nat.lt_of_le_of_lt Nat.and_le_right (by decide)
  refine ⟨(BitVec.ofInt 64 n &&& BitVec.ofInt 64 63).toNat, ?_, e⟩
  show IntKind.i64.wrap (((BitVec.ofInt 64 n &&& BitVec.ofInt 64 63).toNat : Nat) : Int) = _
  exact i64_small _ (by omega)
theorem heldN_nat {q : Nat} (h : q ≤ 64) : heldN q = q := by unfold heldN; omega
theorem cut_low {n q : Nat} (h : q ≤ 64) : cutN n 0 q = n % 2 ^ q := by unfold cutN; rw [heldN_nat h, heldN_0]; simp
theorem cut_high {n q : Nat} (hn : n < 18446744073709551616) (h : q ≤ 64) : cutN n q 64 = n / 2 ^ q := by
  unfold cutN; rw [heldN_nat h, heldN_64]
  exact Nat.mod_eq_of_lt (by rw [two64]; exact Nat.lt_of_le_of_lt (Nat.div_le_self _ _) hn)
theorem parts_join {n q : Nat} (hn : n < 18446744073709551616) (h : q < 64) :
    bits .or .u64 ((cutN n 0 q : Nat) : Int) (IntKind.u64.wrap (((cutN n q 64 : Nat) : Int) * 2 ^ q)) = (n : Int) := by
  rw [cut_low (by omega), cut_high hn (by omega), pow_cast]
  have h1 := Nat.div_add_mod n (2 ^ q)
  have h2 : n / 2 ^ q * 2 ^ q ≤ n := Nat.div_mul_le_self _ _
  have h3 := Nat.mod_lt n (Nat.two_pow_pos q)
  rw [show ((n / 2 ^ q : Nat) : Int) * ((2 ^ q : Nat) : Int) = ((n / 2 ^ q * 2 ^ q : Nat) : Int) by simp, wrap_u64', show ((n / 2 ^ q * 2 ^ q : Nat) : Int) % 18446744073709551616 = ((n / 2 ^ q * 2 ^ q : Nat) : Int) by omega]
  rw [u64_or_nat _ _ (by omega) (by omega), Nat.or_comm, nat_join q _ _ (Nat.mul_mod_left _ _) h3, Nat.mul_comm, h1]
theorem cut_64 {n : Nat} (hn : n < 18446744073709551616) : cutN n 64 64 = 0 := by
  unfold cutN; rw [heldN_64, two64, Nat.div_eq_of_lt hn]
theorem cut_neg1 {n : Nat} (hn : n < 18446744073709551616) : cutN n (-1) 64 = n := by
  unfold cutN; rw [heldN_64, heldN_neg1, two64]; simp; omega
theorem low_le {n q : Nat} (h : q < 64) : cutN n 0 q ≤ maskN q := by
  rw [cut_low (by omega)]; unfold maskN; rw [heldN_nat (by omega)]
  have := Nat.mod_lt n (Nat.two_pow_pos q); omega

set_option maxRecDepth 100000 in
set_option maxHeartbeats 1600000 in
theorem bitsParts_walk (n p : Int) (w : World) (w0 : (Lit.int .u64 n).wf = true) (w1 : (Lit.int .i64 p).wf = true) :
    Calls Try.prog 6 #[.int .u64 n, .int .i64 p] w fun e w' => e = .returned (.bool true) ∧ Below w.heap.size w w' := by
  obtain ⟨n, rfl, hn⟩ := wf_u64p w0
  obtain ⟨q, hq, hq2⟩ := and63 p
  clear w0 w1
  have HJ := parts_join hn hq2
  have h64 := cut_64 hn
  have hm1 := cut_neg1 hn
  have hlo := low_le (n := n) hq2
  go_enter Try.func6, Try.ntmps6
  go_wp2_with fail
  refine (cut_any n hn 0 q w).mono ?_
  rintro e w1 ⟨rfl, k1, rfl⟩
  go_wp2_with fail
  refine (cut_any n hn q 64 _).mono ?_
  rintro e w1 ⟨rfl, k2, rfl⟩
  go_wp2_with fail
  refine (mask_any q _).mono ?_
  rintro e w1 ⟨rfl, rfl⟩
  go_wp2_with fail
  refine (cut_any n hn 64 64 _).mono ?_
  rintro e w1 ⟨rfl, k3, rfl⟩
  go_wp2_with fail
  refine (cut_any n hn (-1) 64 _).mono ?_
  rintro e w1 ⟨rfl, k4, rfl⟩
  go_wp2_with fail
  refine (known_any _).mono ?_
  rintro e w1 ⟨rfl, hb⟩
  go_wp2
  go_ret
  exact ⟨rfl, (below_drewN w _).trans hb⟩
end Go.Proofs.Ytdijlglbhddcaaa
