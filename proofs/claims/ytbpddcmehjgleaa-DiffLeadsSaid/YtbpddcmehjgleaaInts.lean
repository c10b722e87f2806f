/- What the functions of numbers alone come to: package bits' and the document's own. -/
import Derived.Test.YtbpddcmehjgleaaRows
import Derived.Test.YtbpddcmehjgleaaPlain
import Derived.WalkKit
import Derived.WalkSpells
import Derived.WalkLawsBesides
import Derived.Handy
import Derived.Lib.Hide
import Derived.Lib.Zigzag
import Derived.BigQuiet
import Derived.Deep.QuietTactic
namespace Go.Proofs.Ytbpddcmehjgleaa
open Go.RowKit

/-- A bool that is a chain of tests. -/
theorem ret_bool {a b : Bool} (h : a = b) : Ending.returned (.bool a) = .returned (.bool b) := by rw [h]
theorem ret_int {k : IntKind} {a b : Int} (h : a = b) : Ending.returned (.int k a) = .returned (.int k b) := by rw [h]

theorem wrap_u64' (n : Int) : IntKind.u64.wrap n = n % 18446744073709551616 := IntKind.wrap_u64 n
theorem pow_cast (h : Nat) : ((2 : Int) ^ h) = ((2 ^ h : Nat) : Int) := by simp
theorem mask_eq (k : Int) : IntKind.u64.wrap (IntKind.u64.wrap (2 ^ (min (max k 0) 64).toNat) - 1) = (maskN k : Int) := by
  have e : (min (max k 0) 64).toNat = heldN k := rfl
  have h1 := heldN_le k
  rw [e, wrap_u64', wrap_u64', pow_cast]
  have hp := Nat.two_pow_pos (heldN k)
  unfold maskN
  rcases Nat.lt_or_ge (heldN k) 64 with c | c
  · have := pow_lt64 c; omega
  · have : heldN k = 64 := by omega
    rw [this, two64]; omega

theorem shr_u64 (n : Nat) (k : Int) : ((n : Int) / 2 ^ (min (max k 0) 64).toNat) = ((n / 2 ^ heldN k : Nat) : Int) := by
  rw [show (min (max k 0) 64).toNat = heldN k from rfl, pow_cast]; omega
theorem cut_eq (n : Nat) (h : n < 18446744073709551616) (p k : Int) :
    bits .and .u64 ((n / 2 ^ heldN p : Nat) : Int) (maskN k : Nat) = (cutN n p k : Nat) := by
  rw [u64_and_nat _ _ (Nat.lt_of_le_of_lt (Nat.div_le_self _ _) h) (maskN_lt k)]
  unfold cutN maskN
  rw [Nat.and_two_pow_sub_one_eq_mod]

/-! ### signs -/
theorem u64max : IntKind.u64.max = 18446744073709551615 := by decide
theorem xor_ones (x : Nat) (hx : x < 18446744073709551616) : bits .xor .u64 IntKind.u64.max (x : Int) = 18446744073709551615 - (x : Int) := by
  have := u64_xor_nat 18446744073709551615 x (by decide) hx
  rw [u64max, show (18446744073709551615 : Int) = ((18446744073709551615 : Nat) : Int) from rfl, this]
  have e : 18446744073709551615 ^^^ x = 18446744073709551615 - x := by
    have := Lib.xor_ones64 x (by rw [two64]; exact hx)
    rw [two64] at this; exact this
  rw [e]; omega
theorem zig_hi {k : Int} (h0 : k < 0) (h1 : -9223372036854775808 ≤ k) : bits .xor .u64 IntKind.u64.max (IntKind.u64.wrap (IntKind.u64.wrap k * 2)) = (zigN k : Nat) := by
  rw [wrap_u64', wrap_u64', zig_neg h0]
  obtain ⟨x, hx⟩ : ∃ x : Nat, k % 18446744073709551616 * 2 % 18446744073709551616 = x := ⟨(k % 18446744073709551616 * 2 % 18446744073709551616).toNat, by omega⟩
  rw [hx, xor_ones x (by omega)]; omega
/-! ### the highest bit -/
/-- Where the search for the highest bit stands: of K the q lowest bits are gone, what is left is m, below 2 ^ (2 ^ j); the next step is half of 2 ^ j. -/
def LogAt (K : Nat) (m q j : Nat) : Prop := K / 2 ^ q = m ∧ 1 ≤ m ∧ m < 2 ^ (2 ^ j) ∧ q + 2 ^ j ≤ 64
theorem LogAt.up {K m q j : Nat} (h : LogAt K m q (j + 1)) (h2 : 0 < m / 2 ^ (2 ^ j)) : LogAt K (m / 2 ^ (2 ^ j)) (q + 2 ^ j) j := by
  obtain ⟨a, b, c, d⟩ := h
  refine ⟨by rw [← a, Nat.div_div_eq_div_mul, ← Nat.pow_add], by omega, ?_, by rw [Nat.pow_succ] at d; omega⟩
  rw [Nat.pow_succ, show 2 ^ j * 2 = 2 ^ j + 2 ^ j by omega, Nat.pow_add] at c
  exact Nat.div_lt_of_lt_mul c
theorem LogAt.stay {K m q j : Nat} (h : LogAt K m q (j + 1)) (h2 : m / 2 ^ (2 ^ j) = 0) : LogAt K m q j := by
  obtain ⟨a, b, c, d⟩ := h
  refine ⟨a, b, ?_, by rw [Nat.pow_succ] at d; omega⟩
  have := Nat.two_pow_pos (2 ^ j)
  rcases (Nat.div_eq_zero_iff).1 h2 with e | e
  · omega
  · exact e
theorem LogAt.done {K m q : Nat} (h : LogAt K m q 0) : Nat.log2 K = q := by
  obtain ⟨a, b, c, d⟩ := h
  exact log2_of (by simp at c; omega)

/-! ### the document's own, which go bit by bit -/
theorem maskN_of {k : Int} {i : Nat} (h : ¬ ((i : Int) < k ∧ i < 64)) (h1 : (i : Int) ≤ k ∨ i = 0) (h2 : i ≤ 64) : 2 ^ i - 1 = maskN k := by
  unfold maskN heldN
  congr 2
  omega
theorem two_mul_pow (i : Nat) : (2 ^ i - 1) * 2 + 1 = 2 ^ (i + 1) - 1 := by
  have := Nat.two_pow_pos i
  rw [Nat.pow_succ]; omega
theorem mask_step (i : Nat) (h : i < 64) : bits .or .u64 (IntKind.u64.wrap (((2 ^ i - 1 : Nat) : Int) * 2)) 1 = ((2 ^ (i + 1) - 1 : Nat) : Int) := by
  have h1 := pow_le64 (show i + 1 ≤ 64 by omega)
  have h2 := two_mul_pow i
  have hp := Nat.two_pow_pos i
  rw [wrap_u64', show ((2 ^ i - 1 : Nat) : Int) * 2 % 18446744073709551616 = (((2 ^ i - 1) * 2 : Nat) : Int) by omega]
  rw [show (1 : Int) = ((1 : Nat) : Int) from rfl, u64_or_nat _ _ (by omega) (by decide), ← h2]
  rw [nat_join 1 _ 1 (by omega) (by decide)]

theorem cutN_of {n : Nat} {p : Int} {i : Nat} (h : ¬ ((i : Int) < p ∧ i < 64)) (h1 : (i : Int) ≤ p ∨ i = 0) (h2 : i ≤ 64) : (n : Int) / 2 ^ i = ((n / 2 ^ heldN p : Nat) : Int) := by
  have e : i = heldN p := by unfold heldN; omega
  subst e
  simp

/-! ### ints' bits -/
theorem i64_small (n : Nat) (h : n < 9223372036854775808) : IntKind.i64.wrap (n : Int) = n := IntWalk.i64_in _ (by omega)
theorem i64_and_nat (a b : Nat) (ha : a < 9223372036854775808) (hb : b < 9223372036854775808) : bits .and .i64 (a : Int) (b : Int) = ((a &&& b : Nat) : Int) := by
  have e : (BitVec.ofInt 64 (a : Int) &&& BitVec.ofInt 64 (b : Int)).toNat = a &&& b := by rw [BitVec.toNat_and, ofInt_u64 a (by omega), ofInt_u64 b (by omega)]
  show IntKind.i64.wrap (((BitVec.ofInt 64 (a : Int) &&& BitVec.ofInt 64 (b : Int)).toNat : Nat) : Int) = _
  rw [e]
  exact i64_small _ (Nat.lt_of_le_of_lt Nat.and_le_left ha)
theorem i64_or_nat (a b : Nat) (ha : a < 9223372036854775808) (hb : b < 9223372036854775808) : bits .or .i64 (a : Int) (b : Int) = ((a ||| b : Nat) : Int) := by
  have e : (BitVec.ofInt 64 (a : Int) ||| BitVec.ofInt 64 (b : Int)).toNat = a ||| b := by rw [BitVec.toNat_or, ofInt_u64 a (by omega), ofInt_u64 b (by omega)]
  show IntKind.i64.wrap (((BitVec.ofInt 64 (a : Int) ||| BitVec.ofInt 64 (b : Int)).toNat : Nat) : Int) = _
  rw [e]
  exact i64_small _ (Nat.or_lt_two_pow (n := 63) ha hb)
end Go.Proofs.Ytbpddcmehjgleaa
