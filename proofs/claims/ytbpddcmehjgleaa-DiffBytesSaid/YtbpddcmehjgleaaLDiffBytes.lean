/- The law DiffBytes. -/
import Derived.Test.YtbpddcmehjgleaaGDd
import Derived.Test.YtbpddcmehjgleaaGMd
namespace Go.Proofs.Ytbpddcmehjgleaa
open Go.RowKit Go.Proofs
set_option linter.unusedVariables false
set_option linter.unusedSimpArgs false
set_option linter.unnecessarySimpa false

set_option maxRecDepth 20000 in
set_option maxHeartbeats 6400000 in
theorem diffBytes_walk (a1 a2 a3 : Option Addr) (n m k c1 c2 c3 : Nat) (la lb : List UInt8) (l : List Ev) (w : World) (h1 : Row w a1 c1 la) (h2 : Row w a2 c2 lb) (hn : la.length = n) (hm : lb.length = m) (h3 : QE allJ w (.slice a3 k c3) l) :
    Calls Try.prog 3 #[.slice a1 n c1, .slice a2 m c2, .slice a3 k c3] w fun e w' => e = .returned (.bool true) ∧ Below w.heap.size w w' := by
  obtain ⟨hk, -, -, -⟩ := h3.cap
  obtain ⟨hl1, hl2⟩ := h3.lim
  have hc1 := h1.1
  have hc2 := h2.1
  rw [hn] at hc1
  rw [hm] at hc2
  have hc3 : c1 ≤ 9223372036854775807 := by have := h1.2.1; unfold maxLen at this; omega
  have hc4 : c2 ≤ 9223372036854775807 := by have := h2.2.1; unfold maxLen at this; omega
  have HA := Lib.hid h1
  have HB := Lib.hid h2
  have HL := Lib.hid h3
  have HN := Lib.hid hn
  have HM := Lib.hid hm
  have HK := Lib.hid hk
  clear h1 h2 h3 hn hm hk
  go_enter Try.func3, Try.ntmps3
  by_cases hg : (n : Int) > 600
  · have hgd : decide ((n : Int) > 600) = true := decide_eq_true hg
    go_wp2_with fail
    refine (known15_any _).mono ?_
    rintro e w1 ⟨rfl, b⟩
    go_wp2_with fail
    go_ret
    exact ⟨rfl, b⟩
  · have hgd : decide ((n : Int) > 600) = false := decide_eq_false hg
    by_cases hg2 : (m : Int) > 600
    · have hgd2 : decide ((m : Int) > 600) = true := decide_eq_true hg2
      go_wp2_with fail
      refine (known15_any _).mono ?_
      rintro e w1 ⟨rfl, b⟩
      go_wp2_with fail
      go_ret
      exact ⟨rfl, b⟩
    · have hgd2 : decide ((m : Int) > 600) = false := decide_eq_false hg2
      have hn6 : n ≤ 100000 := by omega
      have hm6 : m ≤ 100000 := by omega
      obtain ⟨B, hB⟩ : ∃ z, smallE l 60 = z := ⟨_, rfl⟩
      go_wp2_with fail
      refine (small14_any a3 k c3 l 60 allJ _ HL.out).mono ?_
      rw [hB]
      rintro e w1 ⟨rfl, b1⟩
      have HB1 := Lib.hid b1
      have HBB := Lib.hid hB
      clear hB b1
      cases B with
      | false =>
        go_wp2_with fail
        refine (known15_any _).mono ?_
        rintro e w2 ⟨rfl, b⟩
        have HB2 := Lib.hid (HB1.out.trans (b.mono HB1.out.size))
        clear b
        go_wp2_with fail
        go_ret
        exact ⟨rfl, HB2.out⟩
      | true =>
        have HK6 : Hid (k ≤ 1000) := Lib.hid (by have := (smallE_iff.1 HBB.out).2; rw [HK.out] at this; omega)
        go_wp2_with fail
        refine (pbytes15_any a1 a2 n m c1 c2 la lb w1 (HA.out.later HB1.out) (HB.out.later HB1.out) HN.out HM.out).mono ?_
        rintro e w2 ⟨v2, rfl, o2⟩
        obtain ⟨ED, hED⟩ : ∃ z, bytesD la lb = z := ⟨_, rfl⟩
        obtain ⟨EL, hEL⟩ : ∃ z, ED.length = z := ⟨_, rfl⟩
        rw [hED] at o2
        obtain ⟨a5, c5, rfl⟩ := o2.val evT_ok hEL
        have HO2 := Lib.hid o2
        have HB2 := Lib.hid (HB1.out.trans (o2.below.mono HB1.out.size))
        have HED := Lib.hid hED
        have HEL := Lib.hid hEL
        clear o2 hED hEL
        go_wp2_with fail
        refine (rbytes15_any a1 a2 n m c1 c2 la lb w2 (HA.out.later HB2.out) (HB.out.later HB2.out) HN.out HM.out hn6 hm6).mono ?_
        rintro e w3 ⟨v3, rfl, o3⟩
        rw [HED.out] at o3
        obtain ⟨a6, c6, rfl⟩ := o3.val evT_ok HEL.out
        have HO3 := Lib.hid o3
        have HB3 := Lib.hid (HB2.out.trans (o3.below.mono HB2.out.size))
        have HQ2 := Lib.hid ((HO2.out.later ev_rel o3.below).row evT_ok ev_rel (fun b h => h)).q
        have HQ3 := Lib.hid (o3.row evT_ok ev_rel (fun b h => h)).q
        clear o3
        go_wp2_with fail
        refine (rsames15_any a5 a6 EL EL c5 c6 ED ED _ _ w3 HQ2.out HQ3.out HEL.out HEL.out).mono ?_
        rw [decide_eq_true rfl]
        rintro e w4 ⟨rfl, b4⟩
        have HB4 := Lib.hid (HB3.out.trans (b4.mono HB3.out.size))
        clear b4
        go_wp2_with fail
        refine (plong15_any a3 k c3 l allJ w4 (HL.out.later ev_rel HB4.out) HK.out HK6.out).mono ?_
        rintro e w5 ⟨rfl, b5⟩
        have HB5 := Lib.hid (HB4.out.trans (b5.mono HB4.out.size))
        clear b5
        go_wp2_with fail
        refine (rlong15_any a3 k c3 l allJ w5 (HL.out.later ev_rel HB5.out) HK.out HK6.out).mono ?_
        rintro e w6 ⟨rfl, b6⟩
        have HB6 := Lib.hid (HB5.out.trans (b6.mono HB5.out.size))
        clear b6
        go_wp2_with fail
        refine (known15_any _).mono ?_
        rintro e w7 ⟨rfl, b7⟩
        have HB7 := Lib.hid (HB6.out.trans (b7.mono HB6.out.size))
        clear b7
        go_wp2_with fail
        go_ret
        exact ⟨rfl, HB7.out⟩
end Go.Proofs.Ytbpddcmehjgleaa
