/- The law CrcTurns, walked. -/
import Derived.Test.YtnecbhioekmcgaaCrcKnown
import Derived.Test.YtnecbhioekmcgaaCrcBurst
import Derived.Deep.DeepCutAuto
namespace Go.Proofs.Ytnecbhioekmcgaa
open Go.RowKit
set_option linter.unusedVariables false

/-- Is a bit turned among the first j. -/
def turnB (t : W32) (j : Nat) : Bool := (List.range j).any fun i => t.getLsbD i
theorem turnB_succ (t : W32) (j : Nat) : turnB t (j + 1) = (turnB t j || t.getLsbD j) := by
  unfold turnB; rw [List.range_succ, List.any_append]; simp
theorem turnB_some {t : W32} {j : Nat} (h : turnB t j = true) : ∃ i, i < j ∧ t.getLsbD i = true := by
  unfold turnB at h
  rw [List.any_eq_true] at h
  obtain ⟨i, hi, h⟩ := h
  exact ⟨i, by simpa using hi, h⟩
/-- F is S, the bits from k on turned where t has ones, the first j of them. -/
def TurnTo (S F : List UInt8) (k : Nat) (t : W32) (j : Nat) : Prop :=
  F.length = S.length ∧ (turnB t j = false → F = S) ∧ ∀ p, p < 8 * S.length → bitAt (bv F) p = Bool.xor (bitAt (bv S) p) (decide (k ≤ p ∧ p < k + j) && t.getLsbD (p - k))
theorem turnTo_0 (S : List UInt8) (k : Nat) (t : W32) : TurnTo S S k t 0 := by
  refine ⟨rfl, fun _ => rfl, fun p hp => ?_⟩
  have : ¬ (k ≤ p ∧ p < k + 0) := by omega
  rw [decide_eq_false this]; simp
theorem turnTo_skip {S F : List UInt8} {k j : Nat} {t : W32} (h : TurnTo S F k t j) (hj : t.getLsbD j = false) : TurnTo S F k t (j + 1) := by
  obtain ⟨h1, h2, h3⟩ := h
  refine ⟨h1, fun e => h2 (by rw [turnB_succ, hj] at e; simpa using e), fun p hp => ?_⟩
  rw [h3 p hp]
  congr 1
  by_cases c : p = k + j
  · subst c
    rw [show k + j - k = j by omega, hj]; simp
  · have : (k ≤ p ∧ p < k + (j + 1)) ↔ (k ≤ p ∧ p < k + j) := by omega
    rw [decide_eq_decide.2 this]
theorem pow_bit : ∀ r, r < 8 → ∀ i, i < 8 → (UInt8.ofNat (2 ^ r)).toBitVec.getLsbD i = decide (i = r) := by decide
theorem bitAt_set (F : List UInt8) (q : Nat) (u : UInt8) (hq : q < 8 * F.length) (hu : F[q / 8]? = some u) (p : Nat) : bitAt (bv (F.set (q / 8) (u ^^^ UInt8.ofNat (2 ^ (q % 8))))) p = Bool.xor (bitAt (bv F) p) (decide (p = q)) := by
  unfold bitAt bv
  rw [List.getElem?_map, List.getElem?_map, List.getElem?_set]
  by_cases c : q / 8 = p / 8
  · rw [if_pos c, if_pos (by omega), ← c, hu]
    simp only [Option.map_some, Option.getD_some, UInt8.toBitVec_xor, BitVec.getLsbD_xor]
    rw [pow_bit _ (by omega) _ (by omega)]
    congr 1
    rw [decide_eq_decide]; omega
  · rw [if_neg c]
    have : ¬ p = q := fun e => c (by rw [e])
    simp [this]
theorem turnTo_turn {S F : List UInt8} {k j : Nat} {t : W32} {u : UInt8} (h : TurnTo S F k t j) (hj : t.getLsbD j = true) (hk : k + j < 8 * S.length) (hu : F[(k + j) / 8]? = some u) : TurnTo S (F.set ((k + j) / 8) (u ^^^ UInt8.ofNat (2 ^ ((k + j) % 8)))) k t (j + 1) := by
  obtain ⟨h1, h2, h3⟩ := h
  refine ⟨by simpa using h1, fun e => (by rw [turnB_succ, hj] at e; simp at e), fun p hp => ?_⟩
  rw [bitAt_set F (k + j) u (by rw [h1]; exact hk) hu p, h3 p hp, Bool.xor_assoc]
  congr 1
  by_cases c : p = k + j
  · subst c
    have a : ¬ (k ≤ k + j ∧ k + j < k + j) := by omega
    have b : k ≤ k + j ∧ k + j < k + (j + 1) := by omega
    rw [decide_eq_false a, decide_eq_true b, show k + j - k = j by omega, hj]; simp
  · have : (k ≤ p ∧ p < k + (j + 1)) ↔ (k ≤ p ∧ p < k + j) := by omega
    rw [decide_eq_decide.2 this, decide_eq_false c, Bool.xor_false]
theorem turnTo_open {l F : List UInt8} {k j : Nat} {t : W32} (h : TurnTo (sealL l) F k t j) (hk : k < 8 * (l.length + 4)) (hj : j ≤ 32) (hend : j = 32 ∨ k + j = 8 * (l.length + 4)) (hkj : k + j ≤ 8 * (l.length + 4)) : openL F = if turnB t j then none else some l := by
  obtain ⟨h1, h2, h3⟩ := h
  cases ht : turnB t j with
  | false => rw [h2 ht, open_seal]; rfl
  | true =>
    obtain ⟨i, hi, hti⟩ := turnB_some ht
    rw [sealL_len] at h1 h3
    refine turned_none h1 hk (fun p hp => ?_) (i := i) (by omega) (by omega) hti
    rw [h3 p hp]
    congr 1
    have : (k ≤ p ∧ p < k + 32) ↔ (k ≤ p ∧ p < k + j) := by omega
    rw [decide_eq_decide.2 this]

theorem shr_bit (t : W32) (j : Nat) : bits .and .u32 (cI t / 2 ^ j) 1 = if t.getLsbD j then 1 else 0 := by
  have e : cI t / 2 ^ j = cI (t >>> j) := by
    unfold cI
    rw [BitVec.toNat_ushiftRight, Nat.shiftRight_eq_div_pow, pow_cast]; omega
  rw [e, and_one, BitVec.getLsbD_ushiftRight, Nat.add_zero]

theorem pow_byte (r : Nat) : (2 : Int) ^ (r % 8) % 256 = ((UInt8.ofNat (2 ^ (r % 8))).toNat : Int) := by
  rw [pow_cast, UInt8.toNat_ofNat']; omega

end Go.Proofs.Ytnecbhioekmcgaa
