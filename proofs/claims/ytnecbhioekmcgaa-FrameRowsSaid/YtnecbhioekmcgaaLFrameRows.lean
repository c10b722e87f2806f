/- The law 'FrameRows', walked. -/
import Derived.Test.YtnecbhioekmcgaaFrK
import Derived.Test.YtnecbhioekmcgaaFrE
import Derived.Test.YtnecbhioekmcgaaCrcKnown
namespace Go.Proofs.Ytnecbhioekmcgaa
open Go.RowKit
set_option linter.unusedVariables false
set_option linter.unusedSimpArgs false

/-- The first bytes of a row of one's own. -/
theorem Own.first {W0 w : World} {g n cap k : Nat} {l : List UInt8} (h : Own W0 w (.slice (some ⟨g, 0, none⟩) n cap) l) (hn : l.length = n) (hk : k ≤ n) : Own W0 w (.slice (some ⟨g, 0, none⟩) k cap) (l.take k) := by
  subst hn
  refine ⟨?_, h.2⟩
  have hl : (l.take k).length = k := by simp; omega
  rw [hl]
  refine ⟨by rw [List.length_map, hl, Nat.mul_one], ?_⟩
  rcases h.1.2 with ⟨hv, _⟩ | ⟨g', cap', cur, hv, hb, hg, hn, hc, hs, ht⟩
  · cases hv
  · cases hv
    refine .inr ⟨g, cap, cur, rfl, hb, hg, by omega, hc, hs, ?_⟩
    have h1 : (cur.toList.take (l.length * 1)).take (k * 1) = (l.map B8).take (k * 1) := by rw [ht]
    rw [List.take_take, Nat.min_eq_left (by omega)] at h1
    rw [h1, Nat.mul_one, List.map_take]

set_option maxRecDepth 100000 in
set_option maxHeartbeats 3200000 in
theorem rows_known (a0 a1 : Option Addr) (n c0 m c1 : Nat) (p q x : Int) (w : World) (hb : 12 < n ∨ 100 < m ∨ p < 0 ∨ q < 0) :
    Calls Try.prog 4 #[.slice a0 n c0, .slice a1 m c1, .int .i64 p, .int .i64 q, .int .u8 x] w fun x w' => x = .returned (.bool true) ∧ Below w.heap.size w w' := by
  rcases (show 12 < (n : Int) ∨ (decide (12 < (n : Int)) = false ∧ 100 < (m : Int)) ∨ (decide (12 < (n : Int)) = false ∧ decide (100 < (m : Int)) = false ∧ p < 0) ∨ (decide (12 < (n : Int)) = false ∧ decide (100 < (m : Int)) = false ∧ decide (p < 0) = false ∧ q < 0) by
    simp only [decide_eq_false_iff_not]; omega) with h | ⟨h1, h⟩ | ⟨h1, h2, h⟩ | ⟨h1, h2, h3, h⟩
  all_goals
    clear hb
    go_enter Try.func4, Try.ntmps4
    go_wp2_with fail
    refine (known_any _).mono ?_
    rintro y w2 ⟨rfl, hb2⟩
    go_wp2_with fail
    go_ret
    exact ⟨rfl, hb2⟩

theorem allF_len : ∀ (f : Nat) (l : List UInt8) (p : Nat), (allF f l p).1.length ≤ f
  | 0, l, p => by simp [allF]
  | f + 1, l, p => by
    rw [allF]
    split
    · have := allF_len f l (p + (takeM (l.drop p)).2.1)
      simp only [List.length_cons]; omega
    · simp
theorem allA_len (l : List UInt8) : (allA l).1.length ≤ l.length + 1 := allF_len _ _ _

set_option maxRecDepth 100000 in
set_option maxHeartbeats 6400000 in
theorem rows_walk (a0 a1 : Option Addr) (n c0 m c1 : Nat) (es : List En) (more : List UInt8) (P Q : Nat) (x : UInt8) (w : World) (he : ERow w a0 c0 es) (hn : es.length = n) (hn12 : n ≤ 12) (hr : Row w a1 c1 more) (hm : more.length = m) (hm100 : m ≤ 100)
    (hP : (P : Int) ≤ 9223372036854775807) (hQ : (Q : Int) ≤ 9223372036854775807) :
    Calls Try.prog 4 #[.slice a0 n c0, .slice a1 m c1, .int .i64 P, .int .i64 Q, .int .u8 (x.toNat : Int)] w fun x w' => x = .returned (.bool true) ∧ Below w.heap.size w w' := by
  have hd1 : decide (12 < (n : Int)) = false := by simp; omega
  have hd2 : decide (100 < (m : Int)) = false := by simp; omega
  have hd3 : decide ((P : Int) < 0) = false := by simp
  have hd4 : decide ((Q : Int) < 0) = false := by simp
  have hx8 := x.toNat_lt
  have hlen : ∀ e ∈ es, e.data.length ≤ 9223372036854775807 := by
    intro e he1
    obtain ⟨i, hi⟩ := List.mem_iff_getElem?.1 he1
    obtain ⟨_, _, _, _, _, _, _, _, h4⟩ := he.at hi
    have := h4.1
    have h5 := h4.2.1
    unfold maxLen at h5
    omega
  have HRW := Lib.hid (row_any a0 n c0 es w he hn (by omega) hlen)
  have hal := rowA_len es
  obtain ⟨L, hL⟩ : ∃ L, (rowA es).length = L := ⟨_, rfl⟩
  have hL2 : L ≤ 1344 := by omega
  have HL := Lib.hid hL
  have HM := Lib.hid hm
  have HR := Lib.hid hr
  clear he hn hr hm hal hL hlen
  go_enter Try.func4, Try.ntmps4
  go_wp2_with fail
  refine HRW.out.mono ?_
  rintro y w1 ⟨v1, rfl, o1⟩
  clear HRW
  go_upto_region 4 with (at_builtin; refine wp_row rfl _ _ rfl _ _ rfl w o1 a1 c1 m more (HR.out.later o1.below) HM.out rfl (by have := HL.out; have := HM.out; omega) ?_; intro v2 w2 o2)
  obtain ⟨B, hB⟩ : ∃ B, rowA es ++ more = B := ⟨_, rfl⟩
  rw [hB] at o2
  have hBl : B.length = L + m := by rw [← hB, List.length_append, HL.out, HM.out]
  obtain ⟨N, hN⟩ : ∃ N, L + m = N := ⟨_, rfl⟩
  rw [hN] at hBl
  have hN2 : N ≤ 1444 := by omega
  clear o1 hB hN hL2 HL
  obtain ⟨k, hk, hkN⟩ : ∃ k : Nat, (P : Int) % ((N : Int) + 1) = k ∧ k ≤ N := by
    have h1 := Int.emod_nonneg (P : Int) (show ((N : Int) + 1) ≠ 0 by omega)
    have h2 := Int.emod_lt_of_pos (P : Int) (show 0 < ((N : Int) + 1) by omega)
    exact ⟨((P : Int) % ((N : Int) + 1)).toNat, by omega, by omega⟩
  obtain ⟨T, hT⟩ : ∃ T, N - k = T := ⟨_, rfl⟩
  have hT2 : (N : Int) - (k : Int) = (T : Int) := by omega
  by_cases hT0 : T = 0
  · subst hT0
    have HB3 := Lib.hid o2.below
    have hkN2 : (N : Int) = k := by omega
    obtain rfl : N = k := by omega
    rcases o2.1.2 with ⟨hv, hn0⟩ | ⟨g, k2, cur, hv, hb, hg, hncap, hc, hs, ht⟩
    · obtain rfl : N = 0 := by omega
      subst hv
      have R3 : Hid (Row w2 .none 0 []) := Lib.hid (Row.none _)
      clear o2
      go_upto_region 5 with fail
      clear hk hkN2 hT2
      go_wp2_with fail
      refine (all_any none 0 0 _ _ (R3.out) rfl (by omega)).mono ?_
      rintro y w4 ⟨v4, rfl, e4⟩
      obtain ⟨a4, k4, rfl, E4⟩ := e4.row
      have HB4 := Lib.hid (HB3.out.trans (e4.below.mono HB3.out.size))
      have R4 := Lib.hid (R3.out.later e4.below)
      clear e4
      go_wp2_with fail
      refine (rall_any none 0 0  _ _ (R4.out) rfl (by omega)).mono ?_
      rintro y w5 ⟨v5, rfl, e5⟩
      obtain ⟨a5, k5, rfl, E5⟩ := e5.row
      have HB5 := Lib.hid (HB4.out.trans (e5.below.mono HB4.out.size))
      have E6 := E4.later e5.below
      clear e5 E4
      go_wp2_with fail
      refine (same_any a4 a5 _ k4 k5 _ w5 E6 E5 rfl (by have := allA_len []; simp at this; omega)).mono ?_
      rintro y w6 ⟨rfl, hb6⟩
      have HB6 := Lib.hid (HB5.out.trans (hb6.mono HB5.out.size))
      go_wp2_with fail
      refine (known_any _).mono ?_
      rintro y w7 ⟨rfl, hb7⟩
      go_wp2_with fail
      go_ret
      exact ⟨rfl, HB6.out.trans (hb7.mono HB6.out.size)⟩
    · rw [hBl] at hv hncap
      subst hv
      have R3 : Hid (Row w2 (some ⟨g, 0, .none⟩) k2 []) := Lib.hid (Row.empty _ _ _ hc (fun e => by cases e))
      have hNk : (N : Int) ≤ k2 := by omega
      clear o2 hg hs ht hb
      go_upto_region 5 with fail
      clear hk hkN2 hT2
      go_wp2_with fail
      refine (all_any (some ⟨g, 0, none⟩) 0 k2 _ _ (R3.out) rfl (by omega)).mono ?_
      rintro y w4 ⟨v4, rfl, e4⟩
      obtain ⟨a4, k4, rfl, E4⟩ := e4.row
      have HB4 := Lib.hid (HB3.out.trans (e4.below.mono HB3.out.size))
      have R4 := Lib.hid (R3.out.later e4.below)
      clear e4
      go_wp2_with fail
      refine (rall_any (some ⟨g, 0, none⟩) 0 k2  _ _ (R4.out) rfl (by omega)).mono ?_
      rintro y w5 ⟨v5, rfl, e5⟩
      obtain ⟨a5, k5, rfl, E5⟩ := e5.row
      have HB5 := Lib.hid (HB4.out.trans (e5.below.mono HB4.out.size))
      have E6 := E4.later e5.below
      clear e5 E4
      go_wp2_with fail
      refine (same_any a4 a5 _ k4 k5 _ w5 E6 E5 rfl (by have := allA_len []; simp at this; omega)).mono ?_
      rintro y w6 ⟨rfl, hb6⟩
      have HB6 := Lib.hid (HB5.out.trans (hb6.mono HB5.out.size))
      go_wp2_with fail
      refine (known_any _).mono ?_
      rintro y w7 ⟨rfl, hb7⟩
      go_wp2_with fail
      go_ret
      exact ⟨rfl, HB6.out.trans (hb7.mono HB6.out.size)⟩
  · obtain ⟨g, k2, rfl, hk1, hk2⟩ := o2.at hBl (by omega)
    have oF := o2.first hBl (k := T) (by omega)
    have hFl : (B.take T).length = T := by simp; omega
    generalize B.take T = F at *
    have HFL := Lib.hid hFl
    have HOF := Lib.hid oF
    obtain ⟨J, hJ, hJT⟩ : ∃ J : Nat, (Q : Int) % (T : Int) = J ∧ J < T := by
      have h1 := Int.emod_nonneg (Q : Int) (show (T : Int) ≠ 0 by omega)
      have h2 := Int.emod_lt_of_pos (Q : Int) (show 0 < (T : Int) by omega)
      exact ⟨((Q : Int) % (T : Int)).toNat, by omega, by omega⟩
    obtain ⟨u, hu⟩ : ∃ u, F[J]? = some u := ⟨F[J]'(by omega), List.getElem?_eq_getElem _⟩
    have fc := oF.cellAt hFl hu
    have fr := oF.frozenAt hFl J
    have oS := Lib.hid (oF.stored hFl J (u ^^^ x))
    have hu8 := u.toNat_lt
    simp only [B8, UInt8.toNat_xor] at fc oS
    have hx : bits .xor .u8 (u.toNat : Int) (x.toNat : Int) = ((u.toNat ^^^ x.toNat : Nat) : Int) := by rw [u8_xor, UInt8.toNat_xor]
    clear o2 oF hu hFl hBl hT0
    have hTT : (0 : Int) < T := by omega
    have hJJ : (J : Int) < T := by omega
    go_upto_region 5 with fail
    clear hk hT2
    go_wp2_with fail
    have oS2 := oS.out
    have HB3 := Lib.hid oS2.below
    obtain ⟨aF, cF, hv, rF⟩ := oS2.row_n (n := T) (by rw [List.length_set]; exact HFL.out)
    cases hv
    have R3 := Lib.hid rF
    have FL : Hid ((F.set J (u ^^^ x)).length = T) := Lib.hid (by rw [List.length_set]; exact HFL.out)
    clear rF oS oS2 HOF HFL fc fr
    generalize F.set J (u ^^^ x) = F2 at *
    refine (all_any (some ⟨g, 0, none⟩) T k2 _ _ (R3.out) FL.out (by omega)).mono ?_
    rintro y w4 ⟨v4, rfl, e4⟩
    obtain ⟨a4, k4, rfl, E4⟩ := e4.row
    have HB4 := Lib.hid (HB3.out.trans (e4.below.mono HB3.out.size))
    have R4 := Lib.hid (R3.out.later e4.below)
    clear e4
    go_wp2_with fail
    refine (rall_any (some ⟨g, 0, none⟩) T k2  _ _ (R4.out) FL.out (by omega)).mono ?_
    rintro y w5 ⟨v5, rfl, e5⟩
    obtain ⟨a5, k5, rfl, E5⟩ := e5.row
    have HB5 := Lib.hid (HB4.out.trans (e5.below.mono HB4.out.size))
    have E6 := E4.later e5.below
    clear e5 E4
    go_wp2_with fail
    refine (same_any a4 a5 _ k4 k5 _ w5 E6 E5 rfl (by have := allA_len F2; have := FL.out; omega)).mono ?_
    rintro y w6 ⟨rfl, hb6⟩
    have HB6 := Lib.hid (HB5.out.trans (hb6.mono HB5.out.size))
    go_wp2_with fail
    refine (known_any _).mono ?_
    rintro y w7 ⟨rfl, hb7⟩
    go_wp2_with fail
    go_ret
    exact ⟨rfl, HB6.out.trans (hb7.mono HB6.out.size)⟩

theorem frameRows_walk (a0 a1 : Option Addr) (n c0 m c1 : Nat) (es : List En) (more : List UInt8) (p q x : Int) (w : World) (he : RowE w 3 (EnE w) a0 c0 es) (hn : es.length = n) (hr : Row w a1 c1 more) (hm : more.length = m)
    (w2 : (Lit.int .i64 p).wf = true) (w3 : (Lit.int .i64 q).wf = true) (w4 : (Lit.int .u8 x).wf = true) :
    Calls Try.prog 4 #[.slice a0 n c0, .slice a1 m c1, .int .i64 p, .int .i64 q, .int .u8 x] w fun x w' => x = .returned (.bool true) ∧ Below w.heap.size w w' := by
  have hp := wf_int w2
  have hq := wf_int w3
  obtain ⟨u, rfl⟩ := wf_u8 w4
  by_cases hb : 12 < n ∨ 100 < m ∨ p < 0 ∨ q < 0
  · exact rows_known a0 a1 n c0 m c1 p q _ w hb
  · obtain ⟨P, rfl⟩ := Int.eq_ofNat_of_zero_le (show 0 ≤ p by omega)
    obtain ⟨Q, rfl⟩ := Int.eq_ofNat_of_zero_le (show 0 ≤ q by omega)
    exact rows_walk a0 a1 n c0 m c1 es more P Q u w he.erow hn (by omega) hr hm (by omega) hp.2 hq.2
end Go.Proofs.Ytnecbhioekmcgaa
