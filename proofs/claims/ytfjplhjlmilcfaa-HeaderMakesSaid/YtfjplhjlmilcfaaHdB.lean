/- Records of an image: may one be? The program's. -/
import Derived.Test.YtfjplhjlmilcfaaHdA
namespace Go.Proofs.Ytfjplhjlmilcfaa
open Go.RowKit Go.Proofs
set_option linter.unusedVariables false
set_option linter.unusedSimpArgs false
set_option linter.unnecessarySimpa false

theorem right_nums {h : Hd} (k : ¬ NumsOk h) : rightH h = false := rightH_no fun hx => k hx.1
theorem right_long {h : Hd} {n : Nat} (hn : h.marks.length = n) (k : 17 < n) : rightH h = false := rightH_no fun hx => by have := hx.2.1; omega
theorem right_rise {h : Hd} (k : bP (Rise h.next h.marks) = false) : rightH h = false := rightH_no fun hx => by rw [bP_yes (show Rise h.next h.marks from hx.2.2.1)] at k; cases k
theorem right_holds {h : Hd} (k : 1 < holdsN h.marks) : rightH h = false := rightH_no fun hx => by have := hx.2.2.2.1; omega
theorem right_fit {h : Hd} {j : Nat} {t : Mk} (ht : h.marks[j]? = some t) (k : ¬ t.Fit) : rightH h = false := rightH_no fun hx => k (hx.2.2.2.2.1 t (List.mem_of_getElem? ht))
theorem right_end {h : Hd} {n : Nat} (hn : h.marks.length = n) (k : NumsOk h) (h1 : n ≤ 17) (h2 : bP (Rise h.next h.marks) = true) (h3 : holdsN h.marks ≤ 1) (h4 : ∀ m t, m < n → h.marks[m]? = some t → t.Fit) :
    rightH h = (decide ((seenL h.marks).length ≤ 8) && bP (Apart (seenL h.marks))) := by
  rw [Bool.eq_iff_iff, rightH_iff, Bool.and_eq_true, decide_eq_true_eq, bP_iff]
  constructor
  · intro hx; exact hx.2.2.2.2.2
  · rintro ⟨h5, h6⟩
    refine ⟨k, by omega, bP_iff.1 h2, h3, fun t ht => ?_, h5, h6⟩
    obtain ⟨i, hi⟩ := List.mem_iff_getElem?.1 ht
    exact h4 i t (by have := (List.getElem?_eq_some_iff.1 hi).1; omega) hi
theorem nums_bool (h : Hd) : decide (NumsOk h) = (decide (0 ≤ h.size ∧ h.size ≤ 512) && (decide (ShapeOk h.order h.unit h.count) && (decide (1 ≤ h.next ∧ h.next ≤ 1073741824) && decide (0 ≤ h.seq ∧ h.seq ≤ 1099511627776)))) := by
  rw [Bool.eq_iff_iff]; simp only [Bool.and_eq_true, decide_eq_true_eq]; unfold NumsOk
  constructor
  · rintro ⟨a, b, c, d, e, f, g⟩; exact ⟨⟨a, b⟩, c, ⟨d, e⟩, f, g⟩
  · rintro ⟨⟨a, b⟩, c, ⟨d, e⟩, f, g⟩; exact ⟨a, b, c, d, e, f, g⟩
theorem fit_more {l : List Mk} {j : Nat} {t : Mk} (ht : l[j]? = some t) (h : ∀ m u, m < j → l[m]? = some u → u.Fit) (hf : t.Fit) : ∀ m u, m < j + 1 → l[m]? = some u → u.Fit := fun m u hm hu => by
  by_cases e : m = j
  · subst e; rw [ht] at hu; cases hu; exact hf
  · exact h m u (by omega) hu
set_option maxRecDepth 20000 in
set_option maxHeartbeats 6400000 in
theorem right_any (h : Hd) (ad : Option Addr) (n c : Nat) (w : World) (hr : MRow w ad c h.marks) (hn : h.marks.length = n) :
    Calls Try.prog 17 #[hdA h ad n c] w fun e w' => e = .returned (.bool (rightH h)) ∧ Below w.heap.size w w' := by
  obtain ⟨hs, ho, hu, hc, hx, hq, ts⟩ := h
  simp only at hr hn ⊢
  have HR := Lib.hid hr
  have HN := Lib.hid hn
  have hc1 := hr.1
  rw [hn] at hc1
  have hcm : c ≤ 9223372036854775807 := by have := hr.2.1; unfold maxLen at this; omega
  have hba : Below w.heap.size w (w.alloc (.cells #[.int .i64 hs, .int .i64 ho, .int .i64 hu, .int .i64 hc, .int .i64 hx, .int .i64 hq, .slice ad n c] 26)) := (Below.refl _ _).alloc (Nat.le_refl _) _
  have HB0 := Lib.hid hba
  have HX0 := Lib.hid (RecAt.new w #[.int .i64 hs, .int .i64 ho, .int .i64 hu, .int .i64 hc, .int .i64 hx, .int .i64 hq, .slice ad n c] 26)
  clear hr hn hba
  go_enter Try.func17, Try.ntmps17
  go_upto_region 1 with fail
  generalize (w.alloc (.cells #[.int .i64 hs, .int .i64 ho, .int .i64 hu, .int .i64 hc, .int .i64 hx, .int .i64 hq, .slice ad n c] 26)) = w1 at *
  obtain ⟨P, hP⟩ : ∃ P, w.heap.size = P := ⟨_, rfl⟩
  rw [hP]
  rw [hP] at HX0
  clear hP
  obtain ⟨y0, y1, y2, y3, y4, y5, y6⟩ := HX0.out.c7
  have hnb := nums_bool ⟨hs, ho, hu, hc, hx, hq, ts⟩
  simp only at hnb
  cases hN : decide (NumsOk ⟨hs, ho, hu, hc, hx, hq, ts⟩) with
  | false =>
    have HF := Lib.hid (right_nums (of_decide_eq_false hN))
    rw [hN] at hnb
    clear hN
    rcases (show decide (0 ≤ hs ∧ hs ≤ 512) = false ∨ (decide (0 ≤ hs ∧ hs ≤ 512) = true ∧ decide (ShapeOk ho hu hc) = false) ∨ (decide (0 ≤ hs ∧ hs ≤ 512) = true ∧ decide (ShapeOk ho hu hc) = true ∧ decide (1 ≤ hx ∧ hx ≤ 1073741824) = false) ∨ (decide (0 ≤ hs ∧ hs ≤ 512) = true ∧ decide (ShapeOk ho hu hc) = true ∧ decide (1 ≤ hx ∧ hx ≤ 1073741824) = true ∧ decide (0 ≤ hq ∧ hq ≤ 1099511627776) = false) by
      revert hnb
      cases decide (0 ≤ hs ∧ hs ≤ 512) <;> cases decide (ShapeOk ho hu hc) <;> cases decide (1 ≤ hx ∧ hx ≤ 1073741824) <;> cases decide (0 ≤ hq ∧ hq ≤ 1099511627776) <;> simp) with k1 | ⟨k1, k2⟩ | ⟨k1, k2, k3⟩ | ⟨k1, k2, k3, k4⟩
    all_goals
      clear hnb
      go_wp2_with (first
        | (go_at_call 41; refine (between_any _ _ _ _).mono ?_; (first | rw [k1] | rw [k3] | rw [k4]); rintro e w2 ⟨rfl, rfl⟩)
        | (go_at_call 19; refine (shape_any _ _ _ _).mono ?_; rw [k2]; rintro e w2 ⟨rfl, hb2⟩; have HB2 := Lib.hid (HB0.out.trans (hb2.mono HB0.out.size)); have HX2 := Lib.hid (HX0.out.later hb2); clear hb2 y0 y1 y2 y3 y4 y5 y6; obtain ⟨y0, y1, y2, y3, y4, y5, y6⟩ := HX2.out.c7))
      go_ret
      first | exact ⟨ret_bool HF.out.symm, HB2.out⟩ | exact ⟨ret_bool HF.out.symm, HB0.out⟩
  | true =>
    have HNO := Lib.hid (of_decide_eq_true hN)
    rw [hN] at hnb
    clear hN
    obtain ⟨k1, k2, k3, k4⟩ : decide (0 ≤ hs ∧ hs ≤ 512) = true ∧ decide (ShapeOk ho hu hc) = true ∧ decide (1 ≤ hx ∧ hx ≤ 1073741824) = true ∧ decide (0 ≤ hq ∧ hq ≤ 1099511627776) = true := by
      revert hnb
      cases decide (0 ≤ hs ∧ hs ≤ 512) <;> cases decide (ShapeOk ho hu hc) <;> cases decide (1 ≤ hx ∧ hx ≤ 1073741824) <;> cases decide (0 ≤ hq ∧ hq ≤ 1099511627776) <;> simp
    clear hnb
    go_upto_region 3 with (first
      | (go_at_call 41; refine (between_any _ _ _ _).mono ?_; (first | rw [k1] | rw [k3] | rw [k4]); rintro e w2 ⟨rfl, rfl⟩)
      | (go_at_call 19; refine (shape_any _ _ _ _).mono ?_; rw [k2]; rintro e w2 ⟨rfl, hb2⟩; have HB2 := Lib.hid (HB0.out.trans (hb2.mono HB0.out.size)); have HX2 := Lib.hid (HX0.out.later hb2); clear hb2 y0 y1 y2 y3 y4 y5 y6; obtain ⟨y0, y1, y2, y3, y4, y5, y6⟩ := HX2.out.c7))
    clear k1 k2 k3 k4 HX0 HB0
    by_cases hl : 17 < n
    · have HF := Lib.hid (right_long (h := ⟨hs, ho, hu, hc, hx, hq, ts⟩) HN.out hl)
      have hd : decide (17 < (n : Int)) = true := by simp; omega
      clear hl
      go_wp2_with fail
      go_ret
      exact ⟨ret_bool HF.out.symm, HB2.out⟩
    have hd : decide (17 < (n : Int)) = false := by simp; omega
    have HRS := Lib.hid (rising_any ad n c ts hx w2 (HR.out.later HB2.out) HN.out)
    cases e1 : bP (Rise hx ts) with
    | false =>
      rw [e1] at HRS
      have HF := Lib.hid (right_rise (h := ⟨hs, ho, hu, hc, hx, hq, ts⟩) e1)
      clear e1
      go_wp2_with (go_at_call 42; refine HRS.out.mono ?_; rintro e w3 ⟨rfl, hb3⟩; have HB3 := Lib.hid (HB2.out.trans (hb3.mono HB2.out.size)); clear hb3)
      go_ret
      exact ⟨ret_bool HF.out.symm, HB3.out⟩
    | true =>
      rw [e1] at HRS
      have HRI := Lib.hid e1
      clear e1
      obtain ⟨H, hH⟩ : ∃ H, holdsN ts = H := ⟨_, rfl⟩
      have HHH := Lib.hid hH
      have hHn : H ≤ n := by rw [← hH, ← HN.out]; exact holdsN_le ts
      have HHO := Lib.hid fun W h => holds_any ad n c ts W h HN.out
      rw [hH] at HHO
      clear hH
      cases e2 : decide (1 < (H : Int)) with
      | true =>
        have HF := Lib.hid (right_holds (h := ⟨hs, ho, hu, hc, hx, hq, ts⟩) (by rw [HHH.out]; simp only [decide_eq_true_eq] at e2; omega))
        go_wp2_with (first
          | (go_at_call 42; refine HRS.out.mono ?_; rintro e w3 ⟨rfl, hb3⟩; have HB3 := Lib.hid (HB2.out.trans (hb3.mono HB2.out.size)); have HX3 := Lib.hid (HX2.out.later hb3); clear hb3 y0 y1 y2 y3 y4 y5 y6; obtain ⟨y0, y1, y2, y3, y4, y5, y6⟩ := HX3.out.c7)
          | (go_at_call 43; refine (HHO.out _ (HR.out.later HB3.out)).mono ?_; rintro e w4 ⟨rfl, hb4⟩; have HB4 := Lib.hid (HB3.out.trans (hb4.mono HB3.out.size)); clear hb4))
        go_ret
        exact ⟨ret_bool HF.out.symm, HB4.out⟩
      | false =>
        have HHE : Hid (holdsN ts ≤ 1) := Lib.hid (by rw [HHH.out]; simp only [decide_eq_false_iff_not] at e2; omega)
        go_upto_region 5 with (first
          | (go_at_call 42; refine HRS.out.mono ?_; rintro e w3 ⟨rfl, hb3⟩; have HB3 := Lib.hid (HB2.out.trans (hb3.mono HB2.out.size)); have HX3 := Lib.hid (HX2.out.later hb3); clear hb3 y0 y1 y2 y3 y4 y5 y6; obtain ⟨y0, y1, y2, y3, y4, y5, y6⟩ := HX3.out.c7)
          | (go_at_call 43; refine (HHO.out _ (HR.out.later HB3.out)).mono ?_; rintro e w4 ⟨rfl, hb4⟩; have HB4 := Lib.hid (HB3.out.trans (hb4.mono HB3.out.size)); have HX4 := Lib.hid (HX3.out.later hb4); clear hb4 y0 y1 y2 y3 y4 y5 y6; obtain ⟨y0, y1, y2, y3, y4, y5, y6⟩ := HX4.out.c7))
        clear HB2 HX2 HB3 HX3 HRS HHO HHH e2 hHn
        go_wp2_with fail
        clear y0 y1 y2 y3 y4 y5 y6
        go_loopw [4, 49] (fun _ i wr => ∃ j : Nat, i = .int .i64 j ∧ j ≤ n ∧ Hid (Below w4.heap.size w4 wr) ∧ Hid (∀ m t, m < j → ts[m]? = some t → t.Fit)) (fun _ i _ => n - (intOf i).toNat)
        case atStart => exact ⟨0, rfl, by omega, Lib.hid (Below.refl _ _), Lib.hid (fun m t h => by omega)⟩
        case round =>
          obtain ⟨j, rfl, hj, HBr, HA⟩ := hrel
          have HBW := Lib.hid (HB4.out.trans (HBr.out.mono HB4.out.size))
          by_cases hjn : (j : Int) < n
          · obtain ⟨t, ht⟩ : ∃ t, ts[j]? = some t := ⟨ts[j]'(by have := HN.out; omega), List.getElem?_eq_getElem _⟩
            obtain ⟨b0, o0, rfl, p0, p1, p2, p3⟩ := (HR.out.later HBW.out).c4 ht
            have HT := Lib.hid ht
            have HTB : Hid (Mk.B t) := Lib.hid (HR.out.b ht)
            clear ht
            obtain ⟨ti, tn, tz, tg⟩ := t
            have hba : Below wr.heap.size wr (wr.alloc (.cells #[.int .i64 ti, .string tn, .int .i64 tz, .bool tg] 39)) := (Below.refl _ _).alloc (Nat.le_refl _) _
            have HB5 := Lib.hid (HBr.out.trans (hba.mono HBr.out.size))
            have HX := Lib.hid (RecAt.new wr #[.int .i64 ti, .string tn, .int .i64 tz, .bool tg] 39)
            clear hba
            go_upto_region 8 with fail
            clear p0 p1 p2 p3
            generalize (wr.alloc (.cells #[.int .i64 ti, .string tn, .int .i64 tz, .bool tg] 39)) = w5 at *
            generalize wr.heap.size = p4 at *
            have HK := Lib.hid (rightMark_any ⟨ti, tn, tz, tg⟩ w5 HTB.out)
            obtain ⟨x0, x1, x2, x3⟩ := HX.out.c4
            cases hf : decide (Mk.Fit ⟨ti, tn, tz, tg⟩) with
            | false =>
              rw [hf] at HK
              have HF := Lib.hid (right_fit (h := ⟨hs, ho, hu, hc, hx, hq, ts⟩) HT.out (of_decide_eq_false hf))
              clear hf
              go_wp2_with fail
              refine HK.out.mono ?_
              rintro e w6 ⟨rfl, hb6⟩
              have HB6 := Lib.hid (HB4.out.trans ((HB5.out.trans (hb6.mono HB5.out.size)).mono HB4.out.size))
              clear hb6
              go_wp2_with fail
              go_ret
              exact ⟨ret_bool HF.out.symm, HB6.out⟩
            | true =>
              rw [hf] at HK
              have HF := Lib.hid (fit_more HT.out HA.out (of_decide_eq_true hf))
              clear hf
              go_wp2_with fail
              refine HK.out.mono ?_
              rintro e w6 ⟨rfl, hb6⟩
              have HB6 := Lib.hid (HB5.out.trans (hb6.mono HB5.out.size))
              clear hb6
              go_wp2_with fail
              go_roundw
              case rel => exact ⟨j + 1, by go_num, by omega, HB6, HF⟩
              case measure => simp [intOf]; omega
          · have : j = n := by omega
            subst this
            have HE := Lib.hid (right_end (h := ⟨hs, ho, hu, hc, hx, hq, ts⟩) HN.out HNO.out (by omega) HRI.out HHE.out HA.out)
            have HX6 := Lib.hid (HX4.out.later HBr.out)
            obtain ⟨y0, y1, y2, y3, y4, y5, y6⟩ := HX6.out.c7
            have HK := Lib.hid (seen_any ⟨hs, ho, hu, hc, hx, hq, ts⟩ ad j c wr (HR.out.later HBW.out) HN.out (by omega))
            go_wp2_with fail
            refine HK.out.mono ?_
            rintro e w7 ⟨v7, rfl, o7⟩
            obtain ⟨m, hm⟩ : ∃ m, (seenL ts).length = m := ⟨_, rfl⟩
            obtain ⟨a7, c7, rfl, r7⟩ := o7.row_n mkOk hm
            have HB7 := Lib.hid (HBW.out.trans (o7.below.mono HBW.out.size))
            have HAP := Lib.hid (apart_any a7 m c7 (seenL ts) w7 r7 hm)
            have hmn : m ≤ 17 := by rw [← hm]; have := seenL_le ts; have := HN.out; omega
            simp only [hm] at HE
            clear o7 r7 hm HK y0 y1 y2 y3 y4 y5 y6
            by_cases h8 : m ≤ 8
            · have HF : Hid (rightH ⟨hs, ho, hu, hc, hx, hq, ts⟩ = bP (Apart (seenL ts))) := Lib.hid (by rw [HE.out, decide_eq_true h8, Bool.true_and])
              go_wp2_with (go_at_call 45; refine HAP.out.mono ?_; rintro e w8 ⟨rfl, hb8⟩; have HB8 := Lib.hid (HB7.out.trans (hb8.mono HB7.out.size)); clear hb8)
              go_ret
              exact ⟨ret_bool HF.out.symm, HB8.out⟩
            · have HF : Hid (rightH ⟨hs, ho, hu, hc, hx, hq, ts⟩ = false) := Lib.hid (by rw [HE.out, decide_eq_false h8, Bool.false_and])
              go_wp2_with fail
              go_ret
              exact ⟨ret_bool HF.out.symm, HB7.out⟩
end Go.Proofs.Ytfjplhjlmilcfaa
