/- What is got: package bits' and the document's own. -/
import Derived.Test.YtiahifpbofkimaaRows
import Derived.Test.YtiahifpbofkimaaPlain
import Derived.Test.YtiahifpbofkimaaInts
import Derived.Test.YtiahifpbofkimaaSl
import Derived.WalkKit
import Derived.WalkSpells
import Derived.WalkLawsBesides
import Derived.Handy
import Derived.Lib.Hide
namespace Go.Proofs.Ytiahifpbofkimaa
open Go.RowKit
set_option linter.unusedVariables false

/-- Get's answer. -/
def getA (l : List UInt8) (p k : Int) : Nat × Bool := if 1 ≤ k ∧ k ≤ 8 ∧ 0 ≤ p ∧ p ≤ (l.length : Int) - k then (getL ((l.drop p.toNat).take k.toNat), true) else (0, false)

theorem ret2_ub {a b : Int} {c d : Bool} (h : a = b) (h2 : c = d) : Ending.returned (.tuple #[.int .u64 a, .bool c]) = .returned (.tuple #[.int .u64 b, .bool d]) := by rw [h, h2]

theorem take_snoc {l : List UInt8} {j : Nat} {u : UInt8} (hu : l[j]? = some u) : l.take (j + 1) = l.take j ++ [u] := by
  obtain ⟨h, rfl⟩ := List.getElem?_eq_some_iff.1 hu
  exact List.take_succ_eq_append_getElem h
theorem or_step (n j c : Nat) (hn : n < 256 ^ j) (hj : j < 8) (hc : c < 256) : bits .or .u64 (n : Int) (IntKind.u64.wrap ((c : Int) * 2 ^ (8 * j))) = ((n + 256 ^ j * c : Nat) : Int) := by
  have e : ((2 : Int) ^ (8 * j)) = ((256 ^ j : Nat) : Int) := by rw [pow_cast, Nat.pow_mul]
  have hle : 256 ^ j ≤ 256 ^ 7 := Nat.pow_le_pow_right (by decide) (by omega)
  have hle2 : 256 ^ j * c ≤ 256 ^ 7 * 255 := Nat.mul_le_mul hle (by omega)
  have hmul : (c : Int) * ((256 ^ j : Nat) : Int) = ((256 ^ j * c : Nat) : Int) := by rw [Nat.mul_comm]; simp
  have h7 : (256 : Nat) ^ 7 = 72057594037927936 := by decide
  rw [e, hmul, wrap_u64', show ((256 ^ j * c : Nat) : Int) % 18446744073709551616 = ((256 ^ j * c : Nat) : Int) by omega, u64_or_nat _ _ (by omega) (by omega)]
  have h8 : 256 ^ j = 2 ^ (8 * j) := by rw [Nat.pow_mul]
  rw [Nat.or_comm, nat_join (8 * j) _ n (by rw [h8]; exact Nat.mul_mod_right _ _) (by rw [← h8]; exact hn), Nat.add_comm]
theorem get_step (l : List UInt8) (j : Nat) (u : UInt8) (hu : l[j]? = some u) (hj : j < 8) :
    bits .or .u64 ((getL (l.take j) : Nat) : Int) (IntKind.u64.wrap ((u.toNat : Int) * 2 ^ (8 * j))) = ((getL (l.take (j + 1)) : Nat) : Int) := by
  have hl : j < l.length := (List.getElem?_eq_some_iff.1 hu).1
  have h1 := getL_lt (l.take j)
  have h2 : (l.take j).length = j := by simp; omega
  rw [h2] at h1
  rw [take_snoc hu, getL_snoc, h2, or_step _ j _ h1 hj u.toNat_lt]

set_option maxHeartbeats 1000000 in
theorem get_any (a : Option Addr) (m cap : Nat) (l : List UInt8) (p k : Int) (w : World) (hr : Row w a cap l) (hm : l.length = m) (hlen : m ≤ 100000) (hp0 : -9223372036854775808 ≤ p) (hp1 : p ≤ 9223372036854775807) (hk0 : -9223372036854775808 ≤ k) (hk1 : k ≤ 9223372036854775807) :
    Calls Try.prog 65 #[.slice a m cap, .int .i64 p, .int .i64 k] w fun e w' => e = .returned (.tuple #[.int .u64 (getA l p k).1, .bool (getA l p k).2]) ∧ w = w' := by
  by_cases hall : 1 ≤ k ∧ k ≤ 8 ∧ 0 ≤ p ∧ p ≤ (l.length : Int) - k
  · have HG : Hid (getA l p k = (getL ((l.drop p.toNat).take k.toNat), true)) := by unfold Hid getA; rw [if_pos hall]
    obtain ⟨h1, h2, h3, h4⟩ := hall
    obtain ⟨K, rfl⟩ := Int.eq_ofNat_of_zero_le (show 0 ≤ k by omega)
    obtain ⟨p, rfl⟩ := Int.eq_ofNat_of_zero_le h3
    obtain ⟨b, off, rfl, hc⟩ := hr.at (by omega)
    have hcm := hr.1
    rw [hm] at h4 hcm
    go_enter Try.func65, Try.ntmps65
    go_wp2
    go_loop [8, 36] (fun n i => ∃ j : Nat, i = .int .i64 j ∧ j ≤ K ∧ n = .int .u64 (getL ((l.drop p).take j) : Nat)) (fun _ i => K - (intOf i).toNat)
    case atStart => exact ⟨0, rfl, by omega, by simp [getL]⟩
    case round =>
      obtain ⟨j, rfl, hj, rfl⟩ := hrel
      by_cases c : j < K
      · obtain ⟨u, hu⟩ : ∃ u, l[p + j]? = some u := ⟨l[p + j]'(by omega), List.getElem?_eq_getElem _⟩
        have hcell : w.cell? ⟨b, off + p + j, none⟩ = some (.int .u8 (u.toNat : Int)) := by
          have := hc (p + j) u hu
          rw [← Nat.add_assoc] at this; exact this
        have HS := Lib.hid (get_step (l.drop p) j u (by rw [List.getElem?_drop]; exact hu) (by omega))
        have hb := u.toNat_lt
        clear hc hu
        go_wp2
        go_round
        case rel =>
          refine ⟨j + 1, by go_num, by omega, ?_⟩
          rw [← HS.out]
        case measure => simp [intOf]; omega
      · have e : j = K := by omega
        subst e
        go_wp2
        go_ret2
        exact ⟨by rw [HG.out]; rfl, rfl⟩
  · have HG : Hid (getA l p k = (0, false)) := by unfold Hid getA; rw [if_neg hall]
    rw [hm] at hall
    rcases (show k < 1 ∨ (1 ≤ k ∧ 8 < k) ∨ (1 ≤ k ∧ k ≤ 8 ∧ p < 0) ∨ (1 ≤ k ∧ k ≤ 8 ∧ 0 ≤ p ∧ (m : Int) - k < p) by omega) with h | h | h | h
    all_goals
      clear hall
      go_enter Try.func65, Try.ntmps65
      go_wp2
      go_ret2
      exact ⟨by rw [HG.out]; rfl, rfl⟩

theorem drop_step {l : List UInt8} {j : Nat} {u : UInt8} (hu : l[j]? = some u) : l.drop j = u :: l.drop (j + 1) := by
  obtain ⟨h, rfl⟩ := List.getElem?_eq_some_iff.1 hu
  exact List.drop_eq_getElem_cons h
theorem rget_step (l : List UInt8) (j : Nat) (u : UInt8) (hu : l[j]? = some u) (hl : l.length ≤ 8) :
    bits .or .u64 (IntKind.u64.wrap (((getL (l.drop (j + 1)) : Nat) : Int) * 256)) (u.toNat : Int) = ((getL (l.drop j) : Nat) : Int) := by
  have hj : j < l.length := (List.getElem?_eq_some_iff.1 hu).1
  have h1 := getL_lt (l.drop (j + 1))
  have h2 : (l.drop (j + 1)).length ≤ 7 := by simp; omega
  have h3 : 256 ^ (l.drop (j + 1)).length ≤ 256 ^ 7 := Nat.pow_le_pow_right (by decide) h2
  have h7 : (256 : Nat) ^ 7 = 72057594037927936 := by decide
  have hb := u.toNat_lt
  rw [wrap_u64', show (((getL (l.drop (j + 1)) : Nat) : Int) * 256) % 18446744073709551616 = ((getL (l.drop (j + 1)) * 256 : Nat) : Int) by omega, u64_or_nat _ _ (by omega) (by omega)]
  rw [nat_join 8 _ _ (by omega) hb, drop_step hu, getL]
  omega

set_option maxHeartbeats 1000000 in
theorem rget_any (a : Option Addr) (m cap : Nat) (l : List UInt8) (p k : Int) (w : World) (hr : Row w a cap l) (hm : l.length = m) (hlen : m ≤ 100000) (hp0 : -9223372036854775808 ≤ p) (hp1 : p ≤ 9223372036854775807) (hk0 : -9223372036854775808 ≤ k) (hk1 : k ≤ 9223372036854775807) :
    Calls Try.prog 71 #[.slice a m cap, .int .i64 p, .int .i64 k] w fun e w' => e = .returned (.tuple #[.int .u64 (getA l p k).1, .bool (getA l p k).2]) ∧ w = w' := by
  by_cases hall : 1 ≤ k ∧ k ≤ 8 ∧ 0 ≤ p ∧ p ≤ (l.length : Int) - k
  · have HG : Hid (getA l p k = (getL ((l.drop p.toNat).take k.toNat), true)) := by unfold Hid getA; rw [if_pos hall]
    obtain ⟨h1, h2, h3, h4⟩ := hall
    obtain ⟨K, rfl⟩ := Int.eq_ofNat_of_zero_le (show 0 ≤ k by omega)
    obtain ⟨p, rfl⟩ := Int.eq_ofNat_of_zero_le h3
    obtain ⟨b, off, rfl, hc⟩ := hr.at (by omega)
    have hcm := hr.1
    rw [hm] at h4 hcm
    have h5 : (K : Int) ≤ m - p := by omega
    obtain ⟨L, hL⟩ : ∃ L, (l.drop p).take K = L := ⟨_, rfl⟩
    have HL := Lib.hid hL
    have hLl : L.length = K := by rw [← hL]; simp; omega
    clear hL
    have HLl := Lib.hid hLl
    go_enter Try.func71, Try.ntmps71
    go_wp2
    go_loop [8, 9] (fun n i => ∃ j : Nat, i = .int .i64 ((j : Int) - 1) ∧ j ≤ K ∧ n = .int .u64 (getL (L.drop j) : Nat)) (fun _ i => (intOf i + 1).toNat)
    case atStart => exact ⟨K, rfl, by omega, by rw [List.drop_of_length_le (by have := HLl.out; omega)]; simp [getL]⟩
    case round =>
      obtain ⟨j, rfl, hj, rfl⟩ := hrel
      by_cases c : 0 < j
      · obtain ⟨j, rfl⟩ : ∃ i, j = i + 1 := ⟨j - 1, by omega⟩
        obtain ⟨u, hu⟩ : ∃ u, l[p + j]? = some u := ⟨l[p + j]'(by omega), List.getElem?_eq_getElem _⟩
        have hcell : w.cell? ⟨b, off + (p + j), none⟩ = some (.int .u8 (u.toNat : Int)) := hc (p + j) u hu
        have HS := Lib.hid (rget_step L j u (by rw [← HL.out, List.getElem?_take, if_pos (by omega), List.getElem?_drop]; exact hu) (by omega))
        have hb := u.toNat_lt
        have e1 : Hid (((j + 1 : Nat) : Int) - 1 = j) := by unfold Hid; omega
        rw [e1.out]
        clear hc hu hLl
        go_wp2
        go_round
        case rel => exact ⟨j, by go_num, by omega, by rw [← HS.out]⟩
        case measure => simp [intOf]
      · have e : j = 0 := by omega
        subst e
        go_wp2
        go_ret2
        exact ⟨by rw [HG.out]; simp [HL.out], rfl⟩
  · have HG : Hid (getA l p k = (0, false)) := by unfold Hid getA; rw [if_neg hall]
    rw [hm] at hall
    rcases (show k < 1 ∨ (1 ≤ k ∧ 8 < k) ∨ (1 ≤ k ∧ k ≤ 8 ∧ p < 0) ∨ (1 ≤ k ∧ k ≤ 8 ∧ 0 ≤ p ∧ (m : Int) < p) ∨ (1 ≤ k ∧ k ≤ 8 ∧ 0 ≤ p ∧ p ≤ (m : Int) ∧ (m : Int) - p < k) by omega) with h | h | h | h | h
    all_goals
      clear hall
      go_enter Try.func71, Try.ntmps71
      go_wp2
      go_ret2
      exact ⟨by rw [HG.out]; rfl, rfl⟩

/-- GetVar's answer. -/
def gvA (l : List UInt8) (p : Int) : Option (Nat × Nat) := if 0 ≤ p ∧ p ≤ l.length then getV (l.drop p.toNat) else none
def getVA (l : List UInt8) (p : Int) : Int × Int × Bool := match gvA l p with
  | some (n, j) => ((n : Int), p + (j : Int), true)
  | none => (0, 0, false)
theorem getVA_none {l : List UInt8} {p : Int} (h : gvA l p = none) : getVA l p = (0, 0, false) := by unfold getVA; rw [h]
theorem getVA_some {l : List UInt8} {p : Int} {n j : Nat} (h : gvA l p = some (n, j)) : getVA l p = ((n : Int), p + (j : Int), true) := by unfold getVA; rw [h]
def Got3 (x : Int × Int × Bool) : Value := .tuple #[.int .i64 x.1, .int .i64 x.2.1, .bool x.2.2]

theorem vor_step (n j c : Nat) (hn : n < 128 ^ j) (hj : j < 9) (hc : c < 256) :
    bits .or .u64 (n : Int) (IntKind.u64.wrap (IntKind.u64.wrap (bits .and .u8 (c : Int) 127) * 2 ^ (7 * j))) = ((n + c % 128 * 128 ^ j : Nat) : Int) ∧ n + c % 128 * 128 ^ j < 128 ^ (j + 1) := by
  have e : ((2 : Int) ^ (7 * j)) = ((128 ^ j : Nat) : Int) := by rw [pow_cast, Nat.pow_mul]
  have hle : 128 ^ j ≤ 128 ^ 8 := Nat.pow_le_pow_right (by decide) (by omega)
  have hle2 : c % 128 * 128 ^ j ≤ 127 * 128 ^ j := Nat.mul_le_mul_right _ (by omega)
  have h8 : (128 : Nat) ^ 8 = 72057594037927936 := by decide
  have ha : bits .and .u8 (c : Int) 127 = ((c % 128 : Nat) : Int) := by
    have := u8_and_nat c 127 hc (by decide)
    rw [nat_mask7] at this; exact this
  have hmul : ((c % 128 : Nat) : Int) * ((128 ^ j : Nat) : Int) = ((c % 128 * 128 ^ j : Nat) : Int) := by simp
  refine ⟨?_, by rw [Nat.pow_succ]; omega⟩
  rw [ha, wrap_u64' ((c % 128 : Nat) : Int), show ((c % 128 : Nat) : Int) % 18446744073709551616 = ((c % 128 : Nat) : Int) by omega, e, hmul, wrap_u64', show ((c % 128 * 128 ^ j : Nat) : Int) % 18446744073709551616 = ((c % 128 * 128 ^ j : Nat) : Int) by omega, u64_or_nat _ _ (by omega) (by omega)]
  have h9 : 128 ^ j = 2 ^ (7 * j) := by rw [Nat.pow_mul]
  rw [Nat.or_comm, nat_join (7 * j) _ n (by rw [h9]; exact Nat.mul_mod_left _ _) (by rw [← h9]; exact hn), Nat.add_comm]
theorem pow128_le {j : Nat} (h : j ≤ 9) : 128 ^ j ≤ 9223372036854775808 := by
  have : 128 ^ j ≤ 128 ^ 9 := Nat.pow_le_pow_right (by decide) h
  have e : (128 : Nat) ^ 9 = 9223372036854775808 := by decide
  omega

theorem gv_step {l : List UInt8} {p j : Nat} (N : Nat) {u : UInt8} (hu : l[p + j]? = some u) (hj : j < 9) :
    gv (9 - j) j N (l.drop (p + j)) = if u.toNat < 128 then (if u.toNat = 0 ∧ 0 < j then none else some (N + u.toNat * 128 ^ j, j + 1)) else gv (9 - (j + 1)) (j + 1) (N + u.toNat % 128 * 128 ^ j) (l.drop (p + (j + 1))) := by
  rw [drop_step hu, show 9 - j = (9 - (j + 1)) + 1 by omega, gv]
  rfl
theorem gv_end {l : List UInt8} {p j : Nat} (N : Nat) (h : ¬ (j < l.length - p ∧ j < 9)) : gv (9 - j) j N (l.drop (p + j)) = none := by
  by_cases h9 : j < 9
  · rw [List.drop_of_length_le (by omega), show 9 - j = (9 - (j + 1)) + 1 by omega]; rfl
  · rw [show 9 - j = 0 by omega]; rfl
theorem triple {a b c d : Int} (h : a = c) (h2 : b = d) : (a, b, true) = (c, d, true) := by rw [h, h2]
theorem got_fin {N c j : Nat} {x : Int} (hx : x = ((N + c % 128 * 128 ^ j : Nat) : Int)) (h3 : N + c % 128 * 128 ^ j < 9223372036854775808) (hc : c < 128) : ((N + c * 128 ^ j : Nat) : Int) = wrap64 x := by
  rw [Nat.mod_eq_of_lt hc] at hx h3
  rw [hx]; unfold wrap64; omega
theorem ret3 {x : Int × Int × Bool} {a b : Int} {c : Bool} (h : x = (a, b, c)) : Ending.returned (.tuple #[.int .i64 a, .int .i64 b, .bool c]) = .returned (Got3 x) := by rw [h]; rfl

set_option maxRecDepth 100000 in
set_option maxHeartbeats 1600000 in
theorem getvar_any (a : Option Addr) (m cap : Nat) (l : List UInt8) (p : Int) (w : World) (hr : Row w a cap l) (hm : l.length = m) (hlen : m ≤ 100000) (hp0 : -9223372036854775808 ≤ p) (hp1 : p ≤ 9223372036854775807) :
    Calls Try.prog 67 #[.slice a m cap, .int .i64 p] w fun e w' => e = .returned (Got3 (getVA l p)) ∧ w = w' := by
  rcases (show p < 0 ∨ (0 ≤ p ∧ (m : Int) ≤ p) ∨ (0 ≤ p ∧ p < m) by omega) with h | h | h
  · have HG := Lib.hid (getVA_none (l := l) (p := p) (by unfold gvA; rw [if_neg (by omega)]))
    go_enter Try.func67, Try.ntmps67
    go_wp2
    go_ret3
    exact ⟨ret3 HG.out, rfl⟩
  · have HG := Lib.hid (getVA_none (l := l) (p := p) (by
      unfold gvA; split
      · rw [List.drop_of_length_le (by omega)]; rfl
      · rfl))
    go_enter Try.func67, Try.ntmps67
    go_wp2
    go_ret3
    exact ⟨ret3 HG.out, rfl⟩
  · obtain ⟨h3, h4⟩ := h
    obtain ⟨p, rfl⟩ := Int.eq_ofNat_of_zero_le h3
    obtain ⟨b, off, rfl, hc⟩ := hr.at (by omega)
    have hcm := hr.1
    rw [hm] at hcm
    have HG : Hid (gvA l p = gv 9 0 0 (l.drop p)) := by unfold Hid gvA; rw [if_pos ⟨by omega, by omega⟩]; rfl
    by_cases h9 : m - p ≤ 9
    all_goals
      go_enter Try.func67, Try.ntmps67
      go_wp2
      go_loop [8, 28] (fun n i => ∃ j N : Nat, i = .int .i64 j ∧ j ≤ m - p ∧ j ≤ 9 ∧ n = .int .u64 N ∧ N < 128 ^ j ∧ Hid (gvA l p = gv (9 - j) j N (l.drop (p + j)))) (fun _ i => 9 - (intOf i).toNat)
      case atStart => exact ⟨0, 0, rfl, by omega, by omega, rfl, by simp, by unfold Hid; rw [HG.out]; rfl⟩
      case round =>
        obtain ⟨j, N, rfl, hj, hj9, rfl, hN, HI⟩ := hrel
        by_cases c : j < m - p ∧ j < 9
        · obtain ⟨c1, c2⟩ := c
          obtain ⟨u, hu⟩ : ∃ u, l[p + j]? = some u := ⟨l[p + j]'(by omega), List.getElem?_eq_getElem _⟩
          have hcell : w.cell? ⟨b, off + p + j, none⟩ = some (.int .u8 (u.toNat : Int)) := by
            have := hc (p + j) u hu
            rw [← Nat.add_assoc] at this; exact this
          have hb : u.toNat < 256 := u.toNat_lt
          have HS := Lib.hid (vor_step N j u.toNat hN c2 hb)
          have hN2 : N + u.toNat % 128 * 128 ^ j < 128 ^ (j + 1) := HS.out.2
          have hN3 : N + u.toNat % 128 * 128 ^ j < 9223372036854775808 := by have := pow128_le (j := j + 1) (by omega); omega
          have HV := Lib.hid (HI.out.trans (gv_step N hu c2))
          clear hc hu HI HG hN
          by_cases d : u.toNat < 128
          · by_cases d2 : u.toNat = 0 ∧ 0 < j
            · obtain ⟨d3, d4⟩ := d2
              have HA := Lib.hid (getVA_none (HV.out.trans (by rw [if_pos d, if_pos ⟨d3, d4⟩])))
              have e1 : (((u.toNat : Nat) : Int) == 0) = true := by rw [d3]; rfl
              clear d3
              go_wp2
              go_ret3
              exact ⟨ret3 HA.out, rfl⟩
            · have HA := Lib.hid (getVA_some (HV.out.trans (by rw [if_pos d, if_neg d2])))
              have e2 : ((((u.toNat : Nat) : Int) == 0) = true ∧ j = 0) ∨ (((u.toNat : Nat) : Int) == 0) = false := by
                by_cases z : u.toNat = 0
                · exact .inl ⟨by rw [z]; rfl, by omega⟩
                · exact .inr (by simpa using z)
              have e5 : u.toNat % 128 = u.toNat := by omega
              have HS2 := Lib.hid e5
              clear d2 e5
              rcases e2 with ⟨e2, e3⟩ | e2
              · subst e3
                simp only [Nat.add_zero] at hcell
                go_wp2
                go_ret3
                refine ⟨ret3 (HA.out.trans (triple (got_fin (c := u.toNat) (j := 0) ?_ hN3 d) (by omega))), rfl⟩
                have := HS.out.1
                simpa using this
              · go_wp2
                go_ret3
                exact ⟨ret3 (HA.out.trans (triple (got_fin HS.out.1 hN3 d) (by omega))), rfl⟩
          · have HA := Lib.hid (HV.out.trans (by rw [if_neg d]))
            go_wp2
            go_round
            case rel => exact ⟨j + 1, N + u.toNat % 128 * 128 ^ j, by go_num, by omega, by omega, by rw [← HS.out.1], hN2, HA⟩
            case measure => simp [intOf]; omega
        · have HA := Lib.hid (getVA_none (HI.out.trans (gv_end N (by omega))))
          go_wp2
          go_ret3
          exact ⟨ret3 HA.out, rfl⟩

theorem rvor_step (n j c : Nat) (hn : n < 128 ^ j) (hj : j < 9) (hc : c < 256) :
    bits .or .i64 (n : Int) (wrap64 (bits .and .i64 (c : Int) 127 * 2 ^ (7 * j))) = ((n + c % 128 * 128 ^ j : Nat) : Int) ∧ n + c % 128 * 128 ^ j < 128 ^ (j + 1) := by
  have e : ((2 : Int) ^ (7 * j)) = ((128 ^ j : Nat) : Int) := by rw [pow_cast, Nat.pow_mul]
  have hle : 128 ^ j ≤ 128 ^ 8 := Nat.pow_le_pow_right (by decide) (by omega)
  have hle2 : c % 128 * 128 ^ j ≤ 127 * 128 ^ j := Nat.mul_le_mul_right _ (by omega)
  have h8 : (128 : Nat) ^ 8 = 72057594037927936 := by decide
  have ha : bits .and .i64 (c : Int) 127 = ((c % 128 : Nat) : Int) := by
    have := i64_and_nat c 127 (by omega) (by decide)
    rw [nat_mask7] at this; exact this
  have hmul : ((c % 128 : Nat) : Int) * ((128 ^ j : Nat) : Int) = ((c % 128 * 128 ^ j : Nat) : Int) := by simp
  refine ⟨?_, by rw [Nat.pow_succ]; omega⟩
  rw [ha, e, hmul, IntWalk.wrap64_in _ (by omega), i64_or_nat _ _ (by omega) (by omega)]
  have h9 : 128 ^ j = 2 ^ (7 * j) := by rw [Nat.pow_mul]
  rw [Nat.or_comm, nat_join (7 * j) _ n (by rw [h9]; exact Nat.mul_mod_left _ _) (by rw [← h9]; exact hn), Nat.add_comm]
theorem rgot_fin {N c j : Nat} {x : Int} (hx : x = ((N + c % 128 * 128 ^ j : Nat) : Int)) (hc : c < 128) : ((N + c * 128 ^ j : Nat) : Int) = x := by
  rw [Nat.mod_eq_of_lt hc] at hx; rw [hx]

set_option maxRecDepth 100000 in
set_option maxHeartbeats 1600000 in
theorem rgetvar_any (a : Option Addr) (m cap : Nat) (l : List UInt8) (p : Int) (w : World) (hr : Row w a cap l) (hm : l.length = m) (hlen : m ≤ 100000) (hp0 : -9223372036854775808 ≤ p) (hp1 : p ≤ 9223372036854775807) :
    Calls Try.prog 72 #[.slice a m cap, .int .i64 p] w fun e w' => e = .returned (Got3 (getVA l p)) ∧ w = w' := by
  rcases (show p < 0 ∨ (0 ≤ p ∧ (m : Int) < p) ∨ (0 ≤ p ∧ p = m) ∨ (0 ≤ p ∧ p < m) by omega) with h | h | h | h
  · have HG := Lib.hid (getVA_none (l := l) (p := p) (by unfold gvA; rw [if_neg (by omega)]))
    go_enter Try.func72, Try.ntmps72
    go_wp2
    go_ret3
    exact ⟨ret3 HG.out, rfl⟩
  · have HG := Lib.hid (getVA_none (l := l) (p := p) (by unfold gvA; rw [if_neg (by omega)]))
    go_enter Try.func72, Try.ntmps72
    go_wp2
    go_ret3
    exact ⟨ret3 HG.out, rfl⟩
  · have HG := Lib.hid (getVA_none (l := l) (p := p) (by
      unfold gvA; split
      · rw [List.drop_of_length_le (by omega)]; rfl
      · rfl))
    obtain ⟨h1, rfl⟩ := h
    go_enter Try.func72, Try.ntmps72
    go_wp2
    refine wp_loop_rounds 1 ?_
    rw [rounds_succ]
    go_wp2
    go_ret3
    exact ⟨ret3 HG.out, rfl⟩
  · obtain ⟨h3, h4⟩ := h
    obtain ⟨p, rfl⟩ := Int.eq_ofNat_of_zero_le h3
    obtain ⟨b, off, rfl, hc⟩ := hr.at (by omega)
    have hcm := hr.1
    rw [hm] at hcm
    have HG : Hid (gvA l p = gv 9 0 0 (l.drop p)) := by unfold Hid gvA; rw [if_pos ⟨by omega, by omega⟩]; rfl
    have hB1 : decide ((p : Int) < 0) = false := by simp
    have hB2 : decide (m < p) = false := by simp; omega
    go_enter Try.func72, Try.ntmps72
    go_wp2
    go_loop [7, 8] (fun n i => ∃ j N : Nat, i = .int .i64 j ∧ j ≤ m - p ∧ j ≤ 9 ∧ n = .int .i64 N ∧ N < 128 ^ j ∧ Hid (gvA l p = gv (9 - j) j N (l.drop (p + j)))) (fun _ i => 9 - (intOf i).toNat)
    case atStart => exact ⟨0, 0, rfl, by omega, by omega, rfl, by simp, by unfold Hid; rw [HG.out]; rfl⟩
    case round =>
      obtain ⟨j, N, rfl, hj, hj9, rfl, hN, HI⟩ := hrel
      by_cases c : j < m - p ∧ j < 9
      · obtain ⟨c1, c2⟩ := c
        obtain ⟨u, hu⟩ : ∃ u, l[p + j]? = some u := ⟨l[p + j]'(by omega), List.getElem?_eq_getElem _⟩
        have hcell : w.cell? ⟨b, off + (p + j), none⟩ = some (.int .u8 (u.toNat : Int)) := hc (p + j) u hu
        have hb : u.toNat < 256 := u.toNat_lt
        have HS := Lib.hid (rvor_step N j u.toNat hN c2 hb)
        have hN2 : N + u.toNat % 128 * 128 ^ j < 128 ^ (j + 1) := HS.out.2
        have hN3 : N + u.toNat % 128 * 128 ^ j < 9223372036854775808 := by have := pow128_le (j := j + 1) (by omega); omega
        have HV := Lib.hid (HI.out.trans (gv_step N hu c2))
        have c3 : (p : Int) + j < m := by omega
        clear hc hu HI HG hN
        by_cases d : u.toNat < 128
        · by_cases d2 : u.toNat = 0 ∧ 0 < j
          · obtain ⟨d3, d4⟩ := d2
            have HA := Lib.hid (getVA_none (HV.out.trans (by rw [if_pos d, if_pos ⟨d3, d4⟩])))
            have e1 : (((u.toNat : Nat) : Int) == 0) = true := by rw [d3]; rfl
            clear d3
            go_wp2
            go_ret3
            exact ⟨ret3 HA.out, rfl⟩
          · have HA := Lib.hid (getVA_some (HV.out.trans (by rw [if_pos d, if_neg d2])))
            have e2 : ((((u.toNat : Nat) : Int) == 0) = true ∧ j = 0) ∨ (((u.toNat : Nat) : Int) == 0) = false := by
              by_cases z : u.toNat = 0
              · exact .inl ⟨by rw [z]; rfl, by omega⟩
              · exact .inr (by simpa using z)
            clear d2
            rcases e2 with ⟨e2, e3⟩ | e2
            · subst e3
              simp only [Nat.add_zero] at hcell
              go_wp2
              go_ret3
              refine ⟨ret3 (HA.out.trans (triple (rgot_fin (c := u.toNat) (j := 0) ?_ d) (by omega))), rfl⟩
              have := HS.out.1
              simpa using this
            · go_wp2
              go_ret3
              exact ⟨ret3 (HA.out.trans (triple (rgot_fin HS.out.1 d) (by omega))), rfl⟩
        · have HA := Lib.hid (HV.out.trans (by rw [if_neg d]))
          go_wp2
          go_round
          case rel => exact ⟨j + 1, N + u.toNat % 128 * 128 ^ j, by go_num, by omega, by omega, by rw [← HS.out.1], hN2, HA⟩
          case measure => simp [intOf]; omega
      · have HA := Lib.hid (getVA_none (HI.out.trans (gv_end N (by omega))))
        have c3 : (j < 9 ∧ (m : Int) ≤ p + j) ∨ ¬ j < 9 := by omega
        clear c
        rcases c3 with ⟨c3, c4⟩ | c3
        all_goals
          go_wp2
          go_ret3
          exact ⟨ret3 HA.out, rfl⟩

/-- GetText's answer. -/
def gtA (l : List UInt8) (p most : Int) : Option (List UInt8 × Nat) := match gvA l p with
  | some (n, j) => if (n : Int) ≤ most ∧ p.toNat + j + n ≤ l.length then some ((l.drop (p.toNat + j)).take n, p.toNat + j + n) else none
  | none => none
def GotT : Option (List UInt8 × Nat) → Value
  | some (t, e) => .tuple #[.string ⟨t.toArray⟩, .int .i64 e, .bool true]
  | none => .tuple #[.string ⟨#[]⟩, .int .i64 0, .bool false]

theorem gvA_bound {l : List UInt8} {p : Int} {n j : Nat} (h : gvA l p = some (n, j)) : 0 ≤ p ∧ n < 9223372036854775808 ∧ 1 ≤ j ∧ p.toNat + j ≤ l.length ∧ j ≤ 9 := by
  unfold gvA at h
  split at h
  · rename_i hc
    have := getV_bound h
    rw [List.length_drop] at this
    omega
  · cases h

set_option maxRecDepth 100000 in
set_option maxHeartbeats 1600000 in
theorem gettext_any (a : Option Addr) (m cap : Nat) (l : List UInt8) (p most : Int) (w : World) (hr : Row w a cap l) (hm : l.length = m) (hlen : m ≤ 100000) (hp0 : -9223372036854775808 ≤ p) (hp1 : p ≤ 9223372036854775807) :
    Calls Try.prog 86 #[.slice a m cap, .int .i64 p, .int .i64 most] w fun e w' => e = .returned (GotT (gtA l p most)) ∧ w = w' := by
  cases hg : gvA l p with
  | none =>
    have HG := Lib.hid (getVA_none hg)
    have HT : Hid (gtA l p most = none) := by unfold Hid gtA; rw [hg]
    clear hg
    go_enter Try.func86, Try.ntmps86
    go_wp2_with (go_at_call 67; refine (getvar_any _ _ _ l _ _ hr hm hlen hp0 hp1).mono ?_; rw [HG.out]; rintro e w1 ⟨rfl, rfl⟩; simp only [Got3])
    go_ret3
    exact ⟨by rw [HT.out]; rfl, rfl⟩
  | some x =>
    obtain ⟨n, j⟩ := x
    obtain ⟨h0, hn, hj1, hj2, hj9⟩ := gvA_bound hg
    obtain ⟨p, rfl⟩ := Int.eq_ofNat_of_zero_le h0
    rw [Int.toNat_natCast] at hj2
    have HG := Lib.hid (getVA_some hg)
    have HT : Hid (gtA l p most = if (n : Int) ≤ most ∧ p + j + n ≤ l.length then some ((l.drop (p + j)).take n, p + j + n) else none) := by unfold Hid gtA; rw [hg]; rfl
    clear hg
    by_cases c1 : (n : Int) ≤ most
    · by_cases c2 : p + j + n ≤ m
      · have HT2 : Hid (gtA l p most = some ((l.drop (p + j)).take n, p + j + n)) := by unfold Hid; rw [HT.out, if_pos ⟨c1, by omega⟩]
        obtain ⟨b, off, rfl, hc⟩ := hr.at (by omega)
        have hcm := hr.1
        rw [hm] at hcm
        have hfin : GotT (some ((l.drop (p + j)).take n, p + j + n)) = .tuple #[.string ⟨((l.drop (p + j)).take n).toArray⟩, .int .i64 ((p : Int) + j + n), .bool true] := by
          simp [GotT]
        have HF := Lib.hid hfin
        clear hfin
        by_cases hcap : cap = p + j
        · subst hcap
          obtain rfl : n = 0 := by omega
          have hcv := conv_row_n (n := 0) (Row.empty w (some ⟨b, off, none⟩) 0 (by simp [maxLen]) (fun e => by cases e)) rfl
          go_enter Try.func86, Try.ntmps86
          go_wp2_with (go_at_call 67; refine (getvar_any _ _ _ l _ _ hr hm hlen hp0 hp1).mono ?_; rw [HG.out]; rintro e w1 ⟨rfl, rfl⟩; simp only [Got3])
          go_ret3
          exact ⟨by rw [HT2.out, HF.out]; simp, rfl⟩
        · have hcv := conv_row_n (n := n) ((hr.drop (p + j) (by omega)).take n) (by simp; omega)
          go_enter Try.func86, Try.ntmps86
          go_wp2_with (go_at_call 67; refine (getvar_any _ _ _ l _ _ hr hm hlen hp0 hp1).mono ?_; rw [HG.out]; rintro e w1 ⟨rfl, rfl⟩; simp only [Got3])
          go_ret3
          exact ⟨by rw [HT2.out, HF.out]; rfl, rfl⟩
      · have HT2 : Hid (gtA l p most = none) := by unfold Hid; rw [HT.out, if_neg (by omega)]
        have c3 : (m : Int) - (p + j) < n := by omega
        go_enter Try.func86, Try.ntmps86
        go_wp2_with (go_at_call 67; refine (getvar_any _ _ _ l _ _ hr hm hlen hp0 hp1).mono ?_; rw [HG.out]; rintro e w1 ⟨rfl, rfl⟩; simp only [Got3])
        go_ret3
        exact ⟨by rw [HT2.out]; rfl, rfl⟩
    · have HT2 : Hid (gtA l p most = none) := by unfold Hid; rw [HT.out, if_neg (by omega)]
      go_enter Try.func86, Try.ntmps86
      go_wp2_with (go_at_call 67; refine (getvar_any _ _ _ l _ _ hr hm hlen hp0 hp1).mono ?_; rw [HG.out]; rintro e w1 ⟨rfl, rfl⟩; simp only [Got3])
      go_ret3
      exact ⟨by rw [HT2.out]; rfl, rfl⟩
set_option maxRecDepth 100000 in
set_option maxHeartbeats 1600000 in
theorem rgettext_any (a : Option Addr) (m cap : Nat) (l : List UInt8) (p most : Int) (w : World) (hr : Row w a cap l) (hm : l.length = m) (hlen : m ≤ 100000) (hp0 : -9223372036854775808 ≤ p) (hp1 : p ≤ 9223372036854775807) :
    Calls Try.prog 73 #[.slice a m cap, .int .i64 p, .int .i64 most] w fun e w' => e = .returned (GotT (gtA l p most)) ∧ w = w' := by
  cases hg : gvA l p with
  | none =>
    have HG := Lib.hid (getVA_none hg)
    have HT : Hid (gtA l p most = none) := by unfold Hid gtA; rw [hg]
    clear hg
    go_enter Try.func73, Try.ntmps73
    go_wp2_with (go_at_call 72; refine (rgetvar_any _ _ _ l _ _ hr hm hlen hp0 hp1).mono ?_; rw [HG.out]; rintro e w1 ⟨rfl, rfl⟩; simp only [Got3])
    go_ret3
    exact ⟨by rw [HT.out]; rfl, rfl⟩
  | some x =>
    obtain ⟨n, j⟩ := x
    obtain ⟨h0, hn, hj1, hj2, hj9⟩ := gvA_bound hg
    obtain ⟨p, rfl⟩ := Int.eq_ofNat_of_zero_le h0
    rw [Int.toNat_natCast] at hj2
    have HG := Lib.hid (getVA_some hg)
    have HT : Hid (gtA l p most = if (n : Int) ≤ most ∧ p + j + n ≤ l.length then some ((l.drop (p + j)).take n, p + j + n) else none) := by unfold Hid gtA; rw [hg]; rfl
    clear hg
    by_cases c1 : (n : Int) ≤ most
    · by_cases c2 : p + j + n ≤ m
      · have HT2 : Hid (gtA l p most = some ((l.drop (p + j)).take n, p + j + n)) := by unfold Hid; rw [HT.out, if_pos ⟨c1, by omega⟩]
        obtain ⟨b, off, rfl, hc⟩ := hr.at (by omega)
        have hcm := hr.1
        rw [hm] at hcm
        have hfin : GotT (some ((l.drop (p + j)).take n, p + j + n)) = .tuple #[.string ⟨((l.drop (p + j)).take n).toArray⟩, .int .i64 ((p : Int) + j + n), .bool true] := by
          simp [GotT]
        have HF := Lib.hid hfin
        clear hfin
        by_cases hcap : cap = p + j
        · subst hcap
          obtain rfl : n = 0 := by omega
          have hcv := conv_row_n (n := 0) (Row.empty w (some ⟨b, off, none⟩) 0 (by simp [maxLen]) (fun e => by cases e)) rfl
          go_enter Try.func73, Try.ntmps73
          go_wp2_with (go_at_call 72; refine (rgetvar_any _ _ _ l _ _ hr hm hlen hp0 hp1).mono ?_; rw [HG.out]; rintro e w1 ⟨rfl, rfl⟩; simp only [Got3])
          go_ret3
          exact ⟨by rw [HT2.out, HF.out]; simp, rfl⟩
        · have hcv := conv_row_n (n := n) ((hr.drop (p + j) (by omega)).take n) (by simp; omega)
          go_enter Try.func73, Try.ntmps73
          go_wp2_with (go_at_call 72; refine (rgetvar_any _ _ _ l _ _ hr hm hlen hp0 hp1).mono ?_; rw [HG.out]; rintro e w1 ⟨rfl, rfl⟩; simp only [Got3])
          go_ret3
          exact ⟨by rw [HT2.out, HF.out]; rfl, rfl⟩
      · have HT2 : Hid (gtA l p most = none) := by unfold Hid; rw [HT.out, if_neg (by omega)]
        have c3 : (m : Int) - (p + j) < n := by omega
        go_enter Try.func73, Try.ntmps73
        go_wp2_with (go_at_call 72; refine (rgetvar_any _ _ _ l _ _ hr hm hlen hp0 hp1).mono ?_; rw [HG.out]; rintro e w1 ⟨rfl, rfl⟩; simp only [Got3])
        go_ret3
        exact ⟨by rw [HT2.out]; rfl, rfl⟩
    · have HT2 : Hid (gtA l p most = none) := by unfold Hid; rw [HT.out, if_neg (by omega)]
      go_enter Try.func73, Try.ntmps73
      go_wp2_with (go_at_call 72; refine (rgetvar_any _ _ _ l _ _ hr hm hlen hp0 hp1).mono ?_; rw [HG.out]; rintro e w1 ⟨rfl, rfl⟩; simp only [Got3])
      go_ret3
      exact ⟨by rw [HT2.out]; rfl, rfl⟩
end Go.Proofs.Ytiahifpbofkimaa
