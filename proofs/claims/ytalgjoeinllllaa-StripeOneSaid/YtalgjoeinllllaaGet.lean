/- What is got: package bits' and the document's own. -/
import Derived.Test.YtalgjoeinllllaaRows
import Derived.Test.YtalgjoeinllllaaPlain
import Derived.Test.YtalgjoeinllllaaInts
import Derived.Test.YtalgjoeinllllaaSl
import Derived.WalkKit
import Derived.WalkSpells
import Derived.WalkLawsBesides
import Derived.Handy
import Derived.Lib.Hide
namespace Go.Proofs.Ytalgjoeinllllaa
open Go.RowKit
set_option linter.unusedVariables false

/-- Get's answer. -/
def getA (l : List UInt8) (p k : Int) : Nat × Bool := if 1 ≤ k ∧ k ≤ 8 ∧ 0 ≤ p ∧ p ≤ (l.length : Int) - k then (getL ((l.drop p.toNat).take k.toNat), true) else (0, false)

theorem ret2_ub {a b : Int} {c d : Bool} (h : a = b) (h2 : c = d) : Ending.returned (.tuple #[.int .u64 a, .bool c]) = .returned (.tuple #[.int .u64 b, .bool d]) := by rw [h, h2]

theorem take_snoc {l : List UInt8} {j : Nat} {u : UInt8} (hu : l[j]? = some u) : l.take (j + 1) = l.take j ++ [u] := by
  obtain ⟨h, rfl⟩ := List.getElem?_eq_some_iff.1 hu
  exact List.take_succ_eq_append_getElem h
theorem or_step (n j c : Nat) (hn : n < 256 ^ j) (hj : j < 8) (hc : c < 256) : bits .or .u64 (n : Int) (IntKind.u64.wrap ((c : Int) * 2 ^ (8 * j))) = ((n + 256 ^ j * c : Nat) : Int) := by
  have e : ((2 : Int) ^ (8 * j)) = ((256 ^ j : Nat) : Int) := by rw [pow_cast, Nat.pow_mul]
  have hle : 256 ^ j ≤ 256 ^ 7 := Nat.pow_le_pow_right (by decide) (by omega)
  have hle2 : 256 ^ j * c ≤ 256 ^ 7 * 255 := Nat.mul_le_mul hle (by omega)
  have hmul : (c : Int) * ((256 ^ j : Nat) : Int) = ((256 ^ j * c : Nat) : Int) := by rw [Nat.mul_comm]; simp
  have h7 : (256 : Nat) ^ 7 = 72057594037927936 := by decide
  rw [e, hmul, wrap_u64', show ((256 ^ j * c : Nat) : Int) % 18446744073709551616 = ((256 ^ j * c : Nat) : Int) by omega, u64_or_nat _ _ (by omega) (by omega)]
  have h8 : 256 ^ j = 2 ^ (8 * j) := by rw [Nat.pow_mul]
  rw [Nat.or_comm, nat_join (8 * j) _ n (by rw [h8]; exact Nat.mul_mod_right _ _) (by rw [← h8]; exact hn), Nat.add_comm]
theorem get_step (l : List UInt8) (j : Nat) (u : UInt8) (hu : l[j]? = some u) (hj : j < 8) :
    bits .or .u64 ((getL (l.take j) : Nat) : Int) (IntKind.u64.wrap ((u.toNat : Int) * 2 ^ (8 * j))) = ((getL (l.take (j + 1)) : Nat) : Int) := by
  have hl : j < l.length := (List.getElem?_eq_some_iff.1 hu).1
  have h1 := getL_lt (l.take j)
  have h2 : (l.take j).length = j := by simp; omega
  rw [h2] at h1
  rw [take_snoc hu, getL_snoc, h2, or_step _ j _ h1 hj u.toNat_lt]

theorem drop_step {l : List UInt8} {j : Nat} {u : UInt8} (hu : l[j]? = some u) : l.drop j = u :: l.drop (j + 1) := by
  obtain ⟨h, rfl⟩ := List.getElem?_eq_some_iff.1 hu
  exact List.drop_eq_getElem_cons h
theorem rget_step (l : List UInt8) (j : Nat) (u : UInt8) (hu : l[j]? = some u) (hl : l.length ≤ 8) :
    bits .or .u64 (IntKind.u64.wrap (((getL (l.drop (j + 1)) : Nat) : Int) * 256)) (u.toNat : Int) = ((getL (l.drop j) : Nat) : Int) := by
  have hj : j < l.length := (List.getElem?_eq_some_iff.1 hu).1
  have h1 := getL_lt (l.drop (j + 1))
  have h2 : (l.drop (j + 1)).length ≤ 7 := by simp; omega
  have h3 : 256 ^ (l.drop (j + 1)).length ≤ 256 ^ 7 := Nat.pow_le_pow_right (by decide) h2
  have h7 : (256 : Nat) ^ 7 = 72057594037927936 := by decide
  have hb := u.toNat_lt
  rw [wrap_u64', show (((getL (l.drop (j + 1)) : Nat) : Int) * 256) % 18446744073709551616 = ((getL (l.drop (j + 1)) * 256 : Nat) : Int) by omega, u64_or_nat _ _ (by omega) (by omega)]
  rw [nat_join 8 _ _ (by omega) hb, drop_step hu, getL]
  omega

/-- GetVar's answer. -/
def gvA (l : List UInt8) (p : Int) : Option (Nat × Nat) := if 0 ≤ p ∧ p ≤ l.length then getV (l.drop p.toNat) else none
def getVA (l : List UInt8) (p : Int) : Int × Int × Bool := match gvA l p with
  | some (n, j) => ((n : Int), p + (j : Int), true)
  | none => (0, 0, false)
theorem getVA_none {l : List UInt8} {p : Int} (h : gvA l p = none) : getVA l p = (0, 0, false) := by unfold getVA; rw [h]
theorem getVA_some {l : List UInt8} {p : Int} {n j : Nat} (h : gvA l p = some (n, j)) : getVA l p = ((n : Int), p + (j : Int), true) := by unfold getVA; rw [h]
def Got3 (x : Int × Int × Bool) : Value := .tuple #[.int .i64 x.1, .int .i64 x.2.1, .bool x.2.2]

theorem vor_step (n j c : Nat) (hn : n < 128 ^ j) (hj : j < 9) (hc : c < 256) :
    bits .or .u64 (n : Int) (IntKind.u64.wrap (IntKind.u64.wrap (bits .and .u8 (c : Int) 127) * 2 ^ (7 * j))) = ((n + c % 128 * 128 ^ j : Nat) : Int) ∧ n + c % 128 * 128 ^ j < 128 ^ (j + 1) := by
  have e : ((2 : Int) ^ (7 * j)) = ((128 ^ j : Nat) : Int) := by rw [pow_cast, Nat.pow_mul]
  have hle : 128 ^ j ≤ 128 ^ 8 := Nat.pow_le_pow_right (by decide) (by omega)
  have hle2 : c % 128 * 128 ^ j ≤ 127 * 128 ^ j := Nat.mul_le_mul_right _ (by omega)
  have h8 : (128 : Nat) ^ 8 = 72057594037927936 := by decide
  have ha : bits .and .u8 (c : Int) 127 = ((c % 128 : Nat) : Int) := by
    have := u8_and_nat c 127 hc (by decide)
    rw [nat_mask7] at this; exact this
  have hmul : ((c % 128 : Nat) : Int) * ((128 ^ j : Nat) : Int) = ((c % 128 * 128 ^ j : Nat) : Int) := by simp
  refine ⟨?_, by rw [Nat.pow_succ]; omega⟩
  rw [ha, wrap_u64' ((c % 128 : Nat) : Int), show ((c % 128 : Nat) : Int) % 18446744073709551616 = ((c % 128 : Nat) : Int) by omega, e, hmul, wrap_u64', show ((c % 128 * 128 ^ j : Nat) : Int) % 18446744073709551616 = ((c % 128 * 128 ^ j : Nat) : Int) by omega, u64_or_nat _ _ (by omega) (by omega)]
  have h9 : 128 ^ j = 2 ^ (7 * j) := by rw [Nat.pow_mul]
  rw [Nat.or_comm, nat_join (7 * j) _ n (by rw [h9]; exact Nat.mul_mod_left _ _) (by rw [← h9]; exact hn), Nat.add_comm]
theorem pow128_le {j : Nat} (h : j ≤ 9) : 128 ^ j ≤ 9223372036854775808 := by
  have : 128 ^ j ≤ 128 ^ 9 := Nat.pow_le_pow_right (by decide) h
  have e : (128 : Nat) ^ 9 = 9223372036854775808 := by decide
  omega

theorem gv_step {l : List UInt8} {p j : Nat} (N : Nat) {u : UInt8} (hu : l[p + j]? = some u) (hj : j < 9) :
    gv (9 - j) j N (l.drop (p + j)) = if u.toNat < 128 then (if u.toNat = 0 ∧ 0 < j then none else some (N + u.toNat * 128 ^ j, j + 1)) else gv (9 - (j + 1)) (j + 1) (N + u.toNat % 128 * 128 ^ j) (l.drop (p + (j + 1))) := by
  rw [drop_step hu, show 9 - j = (9 - (j + 1)) + 1 by omega, gv]
  rfl
theorem gv_end {l : List UInt8} {p j : Nat} (N : Nat) (h : ¬ (j < l.length - p ∧ j < 9)) : gv (9 - j) j N (l.drop (p + j)) = none := by
  by_cases h9 : j < 9
  · rw [List.drop_of_length_le (by omega), show 9 - j = (9 - (j + 1)) + 1 by omega]; rfl
  · rw [show 9 - j = 0 by omega]; rfl
theorem triple {a b c d : Int} (h : a = c) (h2 : b = d) : (a, b, true) = (c, d, true) := by rw [h, h2]
theorem got_fin {N c j : Nat} {x : Int} (hx : x = ((N + c % 128 * 128 ^ j : Nat) : Int)) (h3 : N + c % 128 * 128 ^ j < 9223372036854775808) (hc : c < 128) : ((N + c * 128 ^ j : Nat) : Int) = wrap64 x := by
  rw [Nat.mod_eq_of_lt hc] at hx h3
  rw [hx]; unfold wrap64; omega
theorem ret3 {x : Int × Int × Bool} {a b : Int} {c : Bool} (h : x = (a, b, c)) : Ending.returned (.tuple #[.int .i64 a, .int .i64 b, .bool c]) = .returned (Got3 x) := by rw [h]; rfl

theorem rvor_step (n j c : Nat) (hn : n < 128 ^ j) (hj : j < 9) (hc : c < 256) :
    bits .or .i64 (n : Int) (wrap64 (bits .and .i64 (c : Int) 127 * 2 ^ (7 * j))) = ((n + c % 128 * 128 ^ j : Nat) : Int) ∧ n + c % 128 * 128 ^ j < 128 ^ (j + 1) := by
  have e : ((2 : Int) ^ (7 * j)) = ((128 ^ j : Nat) : Int) := by rw [pow_cast, Nat.pow_mul]
  have hle : 128 ^ j ≤ 128 ^ 8 := Nat.pow_le_pow_right (by decide) (by omega)
  have hle2 : c % 128 * 128 ^ j ≤ 127 * 128 ^ j := Nat.mul_le_mul_right _ (by omega)
  have h8 : (128 : Nat) ^ 8 = 72057594037927936 := by decide
  have ha : bits .and .i64 (c : Int) 127 = ((c % 128 : Nat) : Int) := by
    have := i64_and_nat c 127 (by omega) (by decide)
    rw [nat_mask7] at this; exact this
  have hmul : ((c % 128 : Nat) : Int) * ((128 ^ j : Nat) : Int) = ((c % 128 * 128 ^ j : Nat) : Int) := by simp
  refine ⟨?_, by rw [Nat.pow_succ]; omega⟩
  rw [ha, e, hmul, IntWalk.wrap64_in _ (by omega), i64_or_nat _ _ (by omega) (by omega)]
  have h9 : 128 ^ j = 2 ^ (7 * j) := by rw [Nat.pow_mul]
  rw [Nat.or_comm, nat_join (7 * j) _ n (by rw [h9]; exact Nat.mul_mod_left _ _) (by rw [← h9]; exact hn), Nat.add_comm]
theorem rgot_fin {N c j : Nat} {x : Int} (hx : x = ((N + c % 128 * 128 ^ j : Nat) : Int)) (hc : c < 128) : ((N + c * 128 ^ j : Nat) : Int) = x := by
  rw [Nat.mod_eq_of_lt hc] at hx; rw [hx]

/-- GetText's answer. -/
def gtA (l : List UInt8) (p most : Int) : Option (List UInt8 × Nat) := match gvA l p with
  | some (n, j) => if (n : Int) ≤ most ∧ p.toNat + j + n ≤ l.length then some ((l.drop (p.toNat + j)).take n, p.toNat + j + n) else none
  | none => none
def GotT : Option (List UInt8 × Nat) → Value
  | some (t, e) => .tuple #[.string ⟨t.toArray⟩, .int .i64 e, .bool true]
  | none => .tuple #[.string ⟨#[]⟩, .int .i64 0, .bool false]

theorem gvA_bound {l : List UInt8} {p : Int} {n j : Nat} (h : gvA l p = some (n, j)) : 0 ≤ p ∧ n < 9223372036854775808 ∧ 1 ≤ j ∧ p.toNat + j ≤ l.length ∧ j ≤ 9 := by
  unfold gvA at h
  split at h
  · rename_i hc
    have := getV_bound h
    rw [List.length_drop] at this
    omega
  · cases h

end Go.Proofs.Ytalgjoeinllllaa
