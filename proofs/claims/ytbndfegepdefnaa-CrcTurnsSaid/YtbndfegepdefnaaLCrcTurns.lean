/- The law CrcTurns, walked. -/
import Derived.Test.YtbndfegepdefnaaCrcKnown
import Derived.Test.YtbndfegepdefnaaCrcBurst
import Derived.Deep.DeepCutAuto
namespace Go.Proofs.Ytbndfegepdefnaa
open Go.RowKit
set_option linter.unusedVariables false

/-- Is a bit turned among the first j. -/
def turnB (t : W32) (j : Nat) : Bool := (List.range j).any fun i => t.getLsbD i
theorem turnB_succ (t : W32) (j : Nat) : turnB t (j + 1) = (turnB t j || t.getLsbD j) := by
  unfold turnB; rw [List.range_succ, List.any_append]; simp
theorem turnB_some {t : W32} {j : Nat} (h : turnB t j = true) : ∃ i, i < j ∧ t.getLsbD i = true := by
  unfold turnB at h
  rw [List.any_eq_true] at h
  obtain ⟨i, hi, h⟩ := h
  exact ⟨i, by simpa using hi, h⟩
/-- F is S, the bits from k on turned where t has ones, the first j of them. -/
def TurnTo (S F : List UInt8) (k : Nat) (t : W32) (j : Nat) : Prop :=
  F.length = S.length ∧ (turnB t j = false → F = S) ∧ ∀ p, p < 8 * S.length → bitAt (bv F) p = Bool.xor (bitAt (bv S) p) (decide (k ≤ p ∧ p < k + j) && t.getLsbD (p - k))
theorem turnTo_0 (S : List UInt8) (k : Nat) (t : W32) : TurnTo S S k t 0 := by
  refine ⟨rfl, fun _ => rfl, fun p hp => ?_⟩
  have : ¬ (k ≤ p ∧ p < k + 0) := by omega
  rw [decide_eq_false this]; simp
theorem turnTo_skip {S F : List UInt8} {k j : Nat} {t : W32} (h : TurnTo S F k t j) (hj : t.getLsbD j = false) : TurnTo S F k t (j + 1) := by
  obtain ⟨h1, h2, h3⟩ := h
  refine ⟨h1, fun e => h2 (by rw [turnB_succ, hj] at e; simpa using e), fun p hp => ?_⟩
  rw [h3 p hp]
  congr 1
  by_cases c : p = k + j
  · subst c
    rw [show k + j - k = j by omega, hj]; simp
  · have : (k ≤ p ∧ p < k + (j + 1)) ↔ (k ≤ p ∧ p < k + j) := by omega
    rw [decide_eq_decide.2 this]
theorem pow_bit : ∀ r, r < 8 → ∀ i, i < 8 → (UInt8.ofNat (2 ^ r)).toBitVec.getLsbD i = decide (i = r) := by decide
theorem bitAt_set (F : List UInt8) (q : Nat) (u : UInt8) (hq : q < 8 * F.length) (hu : F[q / 8]? = some u) (p : Nat) : bitAt (bv (F.set (q / 8) (u ^^^ UInt8.ofNat (2 ^ (q % 8))))) p = Bool.xor (bitAt (bv F) p) (decide (p = q)) := by
  unfold bitAt bv
  rw [List.getElem?_map, List.getElem?_map, List.getElem?_set]
  by_cases c : q / 8 = p / 8
  · rw [if_pos c, if_pos (by omega), ← c, hu]
    simp only [Option.map_some, Option.getD_some, UInt8.toBitVec_xor, BitVec.getLsbD_xor]
    rw [pow_bit _ (by omega) _ (by omega)]
    congr 1
    rw [decide_eq_decide]; omega
  · rw [if_neg c]
    have : ¬ p = q := fun e => c (by rw [e])
    simp [this]
theorem turnTo_turn {S F : List UInt8} {k j : Nat} {t : W32} {u : UInt8} (h : TurnTo S F k t j) (hj : t.getLsbD j = true) (hk : k + j < 8 * S.length) (hu : F[(k + j) / 8]? = some u) : TurnTo S (F.set ((k + j) / 8) (u ^^^ UInt8.ofNat (2 ^ ((k + j) % 8)))) k t (j + 1) := by
  obtain ⟨h1, h2, h3⟩ := h
  refine ⟨by simpa using h1, fun e => (by rw [turnB_succ, hj] at e; simp at e), fun p hp => ?_⟩
  rw [bitAt_set F (k + j) u (by rw [h1]; exact hk) hu p, h3 p hp, Bool.xor_assoc]
  congr 1
  by_cases c : p = k + j
  · subst c
    have a : ¬ (k ≤ k + j ∧ k + j < k + j) := by omega
    have b : k ≤ k + j ∧ k + j < k + (j + 1) := by omega
    rw [decide_eq_false a, decide_eq_true b, show k + j - k = j by omega, hj]; simp
  · have : (k ≤ p ∧ p < k + (j + 1)) ↔ (k ≤ p ∧ p < k + j) := by omega
    rw [decide_eq_decide.2 this, decide_eq_false c, Bool.xor_false]
theorem turnTo_open {l F : List UInt8} {k j : Nat} {t : W32} (h : TurnTo (sealL l) F k t j) (hk : k < 8 * (l.length + 4)) (hj : j ≤ 32) (hend : j = 32 ∨ k + j = 8 * (l.length + 4)) (hkj : k + j ≤ 8 * (l.length + 4)) : openL F = if turnB t j then none else some l := by
  obtain ⟨h1, h2, h3⟩ := h
  cases ht : turnB t j with
  | false => rw [h2 ht, open_seal]; rfl
  | true =>
    obtain ⟨i, hi, hti⟩ := turnB_some ht
    rw [sealL_len] at h1 h3
    refine turned_none h1 hk (fun p hp => ?_) (i := i) (by omega) (by omega) hti
    rw [h3 p hp]
    congr 1
    have : (k ≤ p ∧ p < k + 32) ↔ (k ≤ p ∧ p < k + j) := by omega
    rw [decide_eq_decide.2 this]

theorem shr_bit (t : W32) (j : Nat) : bits .and .u32 (cI t / 2 ^ j) 1 = if t.getLsbD j then 1 else 0 := by
  have e : cI t / 2 ^ j = cI (t >>> j) := by
    unfold cI
    rw [BitVec.toNat_ushiftRight, Nat.shiftRight_eq_div_pow, pow_cast]; omega
  rw [e, and_one, BitVec.getLsbD_ushiftRight, Nat.add_zero]

theorem pow_byte (r : Nat) : (2 : Int) ^ (r % 8) % 256 = ((UInt8.ofNat (2 ^ (r % 8))).toNat : Int) := by
  rw [pow_cast, UInt8.toNat_ofNat']; omega

set_option maxRecDepth 100000 in
set_option maxHeartbeats 1600000 in
theorem turns_known (a0 : Option Addr) (m cap : Nat) (n t : Int) (w : World) (hb : 200 < m ∨ n < 0) :
    Calls Try.prog 5 #[.slice a0 m cap, .int .i64 n, .int .u32 t] w fun e w' => e = .returned (.bool true) ∧ Below w.heap.size w w' := by
  rcases (show 200 < m ∨ (m ≤ 200 ∧ n < 0) by omega) with h | h
  all_goals
    clear hb
    go_enter Try.func5, Try.ntmps5
    go_wp2_with fail
    refine (crc_known _).mono ?_
    rintro e w1 ⟨rfl, hb⟩
    go_wp2
    go_ret
    exact ⟨rfl, hb⟩

set_option maxRecDepth 100000 in
set_option maxHeartbeats 3200000 in
theorem turns_walk (a0 : Option Addr) (m cap : Nat) (l : List UInt8) (A : Nat) (t : W32) (w : World) (hr : Row w a0 cap l) (hl : l.length = m) (hm : m ≤ 200) (hA : (A : Int) ≤ 9223372036854775807) :
    Calls Try.prog 5 #[.slice a0 m cap, .int .i64 A, .int .u32 (cI t)] w fun e w' => e = .returned (.bool true) ∧ Below w.heap.size w w' := by
  have HL := Lib.hid hl
  clear hl
  have ht32 := cI_lt t
  go_enter Try.func5, Try.ntmps5
  go_wp2_with fail
  refine (seal_any a0 m cap l w hr HL.out (by omega)).mono ?_
  rintro e w1 ⟨v1, rfl, o1⟩
  obtain ⟨g, c1, rfl, hc1, hd1⟩ := o1.at (n := m + 4) (by have := HL.out; rw [sealL_len]; omega) (by omega)
  go_wp2
  obtain ⟨K, hK, hK2⟩ : ∃ K : Nat, (A : Int) % (8 * ((m : Int) + 4)) = K ∧ K < 8 * (m + 4) := by
    have h1 := Int.emod_nonneg (A : Int) (show (8 * ((m : Int) + 4)) ≠ 0 by omega)
    have h2 := Int.emod_lt_of_pos (A : Int) (show 0 < (8 * ((m : Int) + 4)) by omega)
    exact ⟨((A : Int) % (8 * ((m : Int) + 4))).toNat, by omega, by omega⟩
  rw [hK]
  clear hK hA
  go_loopw [9, 10] (fun td i wr => ∃ (j : Nat) (F : List UInt8), i = .int .i64 j ∧ j ≤ 32 ∧ K + j ≤ 8 * (m + 4) ∧ td = .bool (turnB t j) ∧ Own w wr (.slice (some ⟨g, 0, none⟩) (m + 4) c1) F ∧ TurnTo (sealL l) F K t j) (fun _ i _ => 32 - (intOf i).toNat)
  case atStart => exact ⟨0, _, rfl, by omega, by omega, rfl, o1, turnTo_0 _ _ _⟩
  case round =>
    obtain ⟨j, F, rfl, hj, hkj, rfl, o, hF⟩ := hrel
    clear o1
    by_cases c : j < 32 ∧ K + j < 8 * (m + 4)
    · obtain ⟨c1, c2⟩ := c
      have hb := shr_bit t j
      cases htj : t.getLsbD j with
      | false =>
        have HT := Lib.hid (turnTo_skip hF htj)
        have HB : Hid (turnB t (j + 1) = turnB t j) := by unfold Hid; rw [turnB_succ, htj, Bool.or_false]
        rw [htj, if_neg (by simp)] at hb
        clear htj hF
        go_wp2_with fail
        go_roundw
        case rel => exact ⟨j + 1, F, by go_num, by omega, by omega, by rw [HB.out], o, HT.out⟩
        case measure => simp [intOf]; omega
      | true =>
        have hlen := hF.1
        rw [sealL_len] at hlen
        obtain ⟨u, hu⟩ : ∃ u, F[(K + j) / 8]? = some u := ⟨F[(K + j) / 8]'(by have := HL.out; omega), List.getElem?_eq_getElem _⟩
        have HT := Lib.hid (turnTo_turn hF htj (by have := HL.out; rw [sealL_len]; omega) hu)
        have HB : Hid (turnB t (j + 1) = true) := by unfold Hid; rw [turnB_succ, htj, Bool.or_true]
        have HN : Hid (F.length = m + 4) := by have := HL.out; unfold Hid; omega
        have fc := o.cellAt HN.out hu
        have fr := o.frozenAt HN.out ((K + j) / 8)
        have oS := o.stored HN.out ((K + j) / 8) (u ^^^ UInt8.ofNat (2 ^ ((K + j) % 8)))
        have hu8 := u.toNat_lt
        unfold B8 at fc oS
        rw [htj, if_pos rfl] at hb
        clear htj hF hlen hu
        go_wp2_with fail
        go_roundw
        case rel =>
          rw [pow_byte, u8_xor]
          exact ⟨j + 1, _, by go_num, by omega, by omega, by rw [HB.out], oS, HT.out⟩
        case measure => simp [intOf]; omega
    · have hend : j = 32 ∨ K + j = 8 * (m + 4) := by omega
      have hop := turnTo_open (l := l) hF (by have := HL.out; omega) hj (by have := HL.out; omega) (by have := HL.out; omega)
      have hlen := hF.1
      rw [sealL_len, HL.out] at hlen
      have HO := Lib.hid hop
      have HN := Lib.hid hlen
      obtain ⟨a2, c2, hv, r2⟩ := o.row_n HN.out
      cases hv
      have t2 := o.below
      clear hop hlen hF o
      have hend2 : 32 ≤ j ∨ (j < 32 ∧ 8 * (m + 4) ≤ K + j) := by omega
      clear hend c
      cases ht : turnB t j with
      | false =>
        rw [ht] at HO
        have HO2 : Hid (openL F = some l) := by rw [HO.out]; exact Lib.hid rfl
        clear HO ht
        rcases hend2 with h32 | ⟨h32, hK8⟩
        all_goals
          go_wp2_with fail
          refine (open_any (some ⟨g, 0, none⟩) (m + 4) c1 F wr r2 HN.out (by omega)).mono ?_
          rw [HO2.out]
          rintro e w2 ⟨v2, rfl, o2⟩
          rw [Option.isSome_some]
          rw [Option.getD_some] at o2
          obtain ⟨b3, c3, rfl, r3⟩ := o2.row_n HL.out
          have t3 := t2.trans (o2.below.mono t2.size)
          clear o2 r3 r2
          rcases (show m = 0 ∨ 0 < m by omega) with h0 | h0
          all_goals
            go_wp2_with fail
            refine (crc_known _).mono ?_
            rintro e w5 ⟨rfl, hk⟩
            go_wp2
            go_ret
            exact ⟨rfl, t3.trans (hk.mono t3.size)⟩
      | true =>
        rw [ht] at HO
        have HO2 : Hid (openL F = none) := by rw [HO.out]; exact Lib.hid rfl
        clear HO ht
        rcases hend2 with h32 | ⟨h32, hK8⟩
        all_goals
          go_wp2_with fail
          refine (open_any (some ⟨g, 0, none⟩) (m + 4) c1 F wr r2 HN.out (by omega)).mono ?_
          rw [HO2.out]
          rintro e w2 ⟨v2, rfl, o2⟩
          rw [Option.isSome_none]
          rw [Option.getD_none] at o2
          obtain ⟨b3, c3, rfl, r3⟩ := o2.row_n (n := 0) rfl
          have t3 := t2.trans (o2.below.mono t2.size)
          clear o2 r3 r2
          rcases (show m = 0 ∨ 0 < m by omega) with h0 | h0
          all_goals
            go_wp2_with fail
            refine (crc_known _).mono ?_
            rintro e w5 ⟨rfl, hk⟩
            go_wp2
            go_ret
            exact ⟨rfl, t3.trans (hk.mono t3.size)⟩

theorem crcTurns_walk (a0 : Option Addr) (cap0 : Nat) (l0 : List UInt8) (n t : Int) (w : World) (hr0 : Row w a0 cap0 l0)
    (w1 : (Lit.int .i64 n).wf = true) (w2 : (Lit.int .u32 t).wf = true) :
    Calls Try.prog 5 #[.slice a0 l0.length cap0, .int .i64 n, .int .u32 t] w fun e w' => e = .returned (.bool true) ∧ Below w.heap.size w w' := by
  obtain ⟨t, rfl⟩ := wf_u32 w2
  have hn := wf_int w1
  by_cases hb : 200 < l0.length ∨ n < 0
  · exact turns_known a0 _ cap0 n (cI t) w hb
  · obtain ⟨A, rfl⟩ := Int.eq_ofNat_of_zero_le (show 0 ≤ n by omega)
    exact turns_walk a0 _ cap0 l0 A t w hr0 rfl (by omega) hn.2
end Go.Proofs.Ytbndfegepdefnaa
