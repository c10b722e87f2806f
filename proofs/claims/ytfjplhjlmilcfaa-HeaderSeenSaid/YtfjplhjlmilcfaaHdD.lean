/- Records of an image: may one be? The document's own. -/
import Derived.Test.YtfjplhjlmilcfaaHdC
namespace Go.Proofs.Ytfjplhjlmilcfaa
open Go.RowKit Go.Proofs
set_option linter.unusedVariables false
set_option linter.unusedSimpArgs false
set_option linter.unnecessarySimpa false

theorem fit_bool (ti tz : Int) (tn : ByteArray) (tg : Bool) : decide (Mk.Fit ⟨ti, tn, tz, tg⟩) = (markL tn.data.toList && (!(heldL tn.data.toList && tg) && (!decide (tz < 0) && !decide (512 < tz)))) := by
  rw [Bool.eq_iff_iff, decide_eq_true_eq]
  unfold Mk.Fit Mk.held Mk.nm
  simp only
  cases markL tn.data.toList <;> cases heldL tn.data.toList <;> cases tg <;> simp <;> omega
theorem hold_more {l : List Mk} {j h : Nat} {t : Mk} (ht : l[j]? = some t) (hh : h = holdsN (l.take j)) : (t.held = true → h + 1 = holdsN (l.take (j + 1))) ∧ (t.held = false → h = holdsN (l.take (j + 1))) := by
  have := holdsN_snoc ht
  refine ⟨fun e => ?_, fun e => ?_⟩
  · rw [e] at this; rw [this, ← hh]; rfl
  · rw [e] at this; rw [this, ← hh]; rfl
set_option maxRecDepth 100000 in
set_option maxHeartbeats 12800000 in
theorem rright_any (h : Hd) (ad : Option Addr) (n c : Nat) (w : World) (hr : MRow w ad c h.marks) (hn : h.marks.length = n) :
    Calls Try.prog 18 #[hdA h ad n c] w fun e w' => e = .returned (.bool (rightH h)) ∧ Below w.heap.size w w' := by
  obtain ⟨hs, ho, hu, hc, hx, hq, ts⟩ := h
  simp only at hr hn ⊢
  have HR := Lib.hid hr
  have HN := Lib.hid hn
  have hc1 := hr.1
  rw [hn] at hc1
  have hcm : c ≤ 9223372036854775807 := by have := hr.2.1; unfold maxLen at this; omega
  have hba : Below w.heap.size w (w.alloc (.cells #[.int .i64 hs, .int .i64 ho, .int .i64 hu, .int .i64 hc, .int .i64 hx, .int .i64 hq, .slice ad n c] 26)) := (Below.refl _ _).alloc (Nat.le_refl _) _
  have HB0 := Lib.hid hba
  have HX0 := Lib.hid (RecAt.new w #[.int .i64 hs, .int .i64 ho, .int .i64 hu, .int .i64 hc, .int .i64 hx, .int .i64 hq, .slice ad n c] 26)
  clear hr hn hba
  go_enter Try.func18, Try.ntmps18
  go_upto_region 1 with fail
  generalize (w.alloc (.cells #[.int .i64 hs, .int .i64 ho, .int .i64 hu, .int .i64 hc, .int .i64 hx, .int .i64 hq, .slice ad n c] 26)) = w1 at *
  obtain ⟨P, hP⟩ : ∃ P, w.heap.size = P := ⟨_, rfl⟩
  rw [hP]
  rw [hP] at HX0
  clear hP
  obtain ⟨y0, y1, y2, y3, y4, y5, y6⟩ := HX0.out.c7
  cases hN : decide (NumsOk ⟨hs, ho, hu, hc, hx, hq, ts⟩) with
  | false =>
    have HF := Lib.hid (right_nums (of_decide_eq_false hN))
    have hno := of_decide_eq_false hN
    unfold NumsOk at hno
    simp only at hno
    clear hN
    rcases (show hs < 0 ∨ (¬ hs < 0 ∧ 512 < hs) ∨ (¬ hs < 0 ∧ ¬ 512 < hs ∧ ¬ ShapeOk ho hu hc) ∨ (¬ hs < 0 ∧ ¬ 512 < hs ∧ ShapeOk ho hu hc ∧ hx < 1) ∨ (¬ hs < 0 ∧ ¬ 512 < hs ∧ ShapeOk ho hu hc ∧ ¬ hx < 1 ∧ 1073741824 < hx) ∨ (¬ hs < 0 ∧ ¬ 512 < hs ∧ ShapeOk ho hu hc ∧ ¬ hx < 1 ∧ ¬ 1073741824 < hx ∧ hq < 0) ∨ (¬ hs < 0 ∧ ¬ 512 < hs ∧ ShapeOk ho hu hc ∧ ¬ hx < 1 ∧ ¬ 1073741824 < hx ∧ ¬ hq < 0 ∧ 1099511627776 < hq) by
      by_cases hsh : ShapeOk ho hu hc
      · simp only [hsh, true_and, not_true, false_and, and_false, false_or] at hno ⊢; omega
      · simp only [hsh, false_and, and_false, or_false, not_false_eq_true, and_true]; omega) with k1 | ⟨k1, k2⟩ | ⟨k1, k2, k3⟩ | ⟨k1, k2, k3, k4⟩ | ⟨k1, k2, k3, k4, k5⟩ | ⟨k1, k2, k3, k4, k5, k6⟩ | ⟨k1, k2, k3, k4, k5, k6, k7⟩
    all_goals
      clear hno
      (try have k3b : decide (ShapeOk ho hu hc) = true := decide_eq_true k3)
      (try have k3b : decide (ShapeOk ho hu hc) = false := decide_eq_false k3)
      (try clear k3)
      go_wp2_with (go_at_call 20; refine (rshape_any _ _ _ _).mono ?_; rw [k3b]; rintro e w2 ⟨rfl, hb2⟩; have HB2 := Lib.hid (HB0.out.trans (hb2.mono HB0.out.size)); have HX2 := Lib.hid (HX0.out.later hb2); clear hb2 y0 y1 y2 y3 y4 y5 y6; obtain ⟨y0, y1, y2, y3, y4, y5, y6⟩ := HX2.out.c7)
      go_ret
      first | exact ⟨ret_bool HF.out.symm, HB2.out⟩ | exact ⟨ret_bool HF.out.symm, HB0.out⟩
  | true =>
    have HNO := Lib.hid (of_decide_eq_true hN)
    obtain ⟨k1, k2, k3, k4, k5, k6, k7⟩ := HNO.out
    simp only at k1 k2 k3 k4 k5 k6 k7
    have k3b : decide (ShapeOk ho hu hc) = true := decide_eq_true k3
    clear k3 hN
    by_cases hl : 17 < n
    · have HF := Lib.hid (right_long (h := ⟨hs, ho, hu, hc, hx, hq, ts⟩) HN.out hl)
      have hd : decide (17 < (n : Int)) = true := by simp; omega
      clear hl
      go_wp2_with (go_at_call 20; refine (rshape_any _ _ _ _).mono ?_; rw [k3b]; rintro e w2 ⟨rfl, hb2⟩; have HB2 := Lib.hid (HB0.out.trans (hb2.mono HB0.out.size)); have HX2 := Lib.hid (HX0.out.later hb2); clear hb2 y0 y1 y2 y3 y4 y5 y6; obtain ⟨y0, y1, y2, y3, y4, y5, y6⟩ := HX2.out.c7)
      go_ret
      exact ⟨ret_bool HF.out.symm, HB2.out⟩
    have hd : decide (17 < (n : Int)) = false := by simp; omega
    go_upto_region 3 with (go_at_call 20; refine (rshape_any _ _ _ _).mono ?_; rw [k3b]; rintro e w2 ⟨rfl, hb2⟩; have HB2 := Lib.hid (HB0.out.trans (hb2.mono HB0.out.size)); have HX2 := Lib.hid (HX0.out.later hb2); clear hb2 y0 y1 y2 y3 y4 y5 y6; obtain ⟨y0, y1, y2, y3, y4, y5, y6⟩ := HX2.out.c7)
    clear k1 k2 k3b k4 k5 k6 k7 HX0 HB0 y0 y1 y2 y3 y4 y5 y6 hd
    go_wp2_with fail
    go_loopw [3, 4, 5] (fun H i _ wr => ∃ j h : Nat, i = .int .i64 j ∧ H = .int .i64 (h : Nat) ∧ j ≤ n ∧ h ≤ j ∧ Hid (Below w2.heap.size w2 wr) ∧ Hid (h = holdsN (ts.take j)) ∧ Hid (∀ m, m < j → okM hx ts m) ∧ Hid (∀ m t, m < j → ts[m]? = some t → t.Fit)) (fun _ i _ _ => n - (intOf i).toNat)
    case atStart => exact ⟨0, 0, rfl, rfl, by omega, by omega, Lib.hid (Below.refl _ _), Lib.hid rfl, Lib.hid (fun m h => by omega), Lib.hid (fun m t h => by omega)⟩
    case round =>
      obtain ⟨j, h, rfl, rfl, hj, hhj, HBr, HH, HA, HFA⟩ := hrel
      have HBW := Lib.hid (HB2.out.trans (HBr.out.mono HB2.out.size))
      have HXr := Lib.hid (HX2.out.later HBr.out)
      obtain ⟨y0, y1, y2, y3, y4, y5, y6⟩ := HXr.out.c7
      by_cases hjn : (j : Int) < n
      · obtain ⟨t, ht⟩ : ∃ t, ts[j]? = some t := ⟨ts[j]'(by have := HN.out; omega), List.getElem?_eq_getElem _⟩
        obtain ⟨b0, o0, rfl, p0, p1, p2, p3⟩ := (HR.out.later HBW.out).c4 ht
        have HT := Lib.hid ht
        have HTB : Hid (Mk.B t) := Lib.hid (HR.out.b ht)
        clear ht
        obtain ⟨ti, tn, tz, tg⟩ := t
        have hba : Below wr.heap.size wr (wr.alloc (.cells #[.int .i64 ti, .string tn, .int .i64 tz, .bool tg] 39)) := (Below.refl _ _).alloc (Nat.le_refl _) _
        have HB3 := Lib.hid (HBr.out.trans (hba.mono HBr.out.size))
        have HBW3 := Lib.hid (HBW.out.trans (hba.mono HBW.out.size))
        have HX3 := Lib.hid (HXr.out.later hba)
        have HX := Lib.hid (RecAt.new wr #[.int .i64 ti, .string tn, .int .i64 tz, .bool tg] 39)
        clear hba
        go_upto_region 8 with fail
        clear p0 p1 p2 p3 y0 y1 y2 y3 y4 y5 y6 HBr HBW HXr
        generalize (wr.alloc (.cells #[.int .i64 ti, .string tn, .int .i64 tz, .bool tg] 39)) = w3 at *
        generalize wr.heap.size = p4 at *
        obtain ⟨y0, y1, y2, y3, y4, y5, y6⟩ := HX3.out.c7
        obtain ⟨x0, x1, x2, x3⟩ := HX.out.c4
        have HM := Lib.hid fun W => markname_any tn W HTB.out.2.2
        have HD := Lib.hid fun W => hidden_any tn W HTB.out.2.2
        have hfb := fit_bool ti tz tn tg
        cases hf : decide (lastM ts j < ti ∧ ti < hx ∧ Mk.Fit ⟨ti, tn, tz, tg⟩) with
        | false =>
          have hff := of_decide_eq_false hf
          have HF := Lib.hid (right_bad (h := ⟨hs, ho, hu, hc, hx, hq, ts⟩) HT.out HA.out hff)
          have HLL : Hid (ti < 1 ∨ (¬ ti < 1 ∧ hx ≤ ti) ∨ (¬ ti < 1 ∧ ¬ hx ≤ ti ∧ ti ≤ lastM ts j) ∨ (¬ ti < 1 ∧ ¬ hx ≤ ti ∧ ¬ ti ≤ lastM ts j ∧ decide (Mk.Fit ⟨ti, tn, tz, tg⟩) = false)) := Lib.hid (by
            simp only [decide_eq_false_iff_not]
            by_cases a : Mk.Fit ⟨ti, tn, tz, tg⟩
            · simp only [a, and_true, not_true, and_false, or_false] at hff ⊢; omega
            · simp only [a, not_false_eq_true, and_true]; omega)
          clear hf hff
          cases e0 : decide (0 < j) with
          | false =>
            have h0 : j = 0 := by simp only [decide_eq_false_iff_not] at e0; omega
            have HLL2 := HLL.out
            rw [h0, lastM_zero] at HLL2
            clear HLL h0
            rcases HLL2 with k1 | ⟨k1, k2⟩ | ⟨k1, k2, k3⟩ | ⟨k1, k2, k3, k4⟩
            · (try clear hfb)
              go_quiet ((first | (go_at_call 46; exact Calls.quiet_of_same ((HM.out _).mono fun e w' hh => ⟨hh.1, hh.2.symm⟩)) | (go_at_call 39; exact Calls.quiet_of_same ((HD.out _).mono fun e w' hh => ⟨hh.1, hh.2.symm⟩))))
              go_wp2_with fail
              go_ret
              exact ⟨ret_bool HF.out.symm, HBW3.out.trans ((below_drewN _ _).mono HBW3.out.size)⟩
            · (try clear hfb)
              go_quiet ((first | (go_at_call 46; exact Calls.quiet_of_same ((HM.out _).mono fun e w' hh => ⟨hh.1, hh.2.symm⟩)) | (go_at_call 39; exact Calls.quiet_of_same ((HD.out _).mono fun e w' hh => ⟨hh.1, hh.2.symm⟩))))
              go_wp2_with fail
              go_ret
              exact ⟨ret_bool HF.out.symm, HBW3.out.trans ((below_drewN _ _).mono HBW3.out.size)⟩
            · omega
            · clear k3
              rw [k4] at hfb
              cases z1 : decide (tz < 0) with
              | true =>
                (try clear hfb)
                go_quiet ((first | (go_at_call 46; exact Calls.quiet_of_same ((HM.out _).mono fun e w' hh => ⟨hh.1, hh.2.symm⟩)) | (go_at_call 39; exact Calls.quiet_of_same ((HD.out _).mono fun e w' hh => ⟨hh.1, hh.2.symm⟩))))
                go_wp2_with fail
                go_ret
                exact ⟨ret_bool HF.out.symm, HBW3.out.trans ((below_drewN _ _).mono HBW3.out.size)⟩
              | false =>
                cases z2 : decide (512 < tz) with
                | true =>
                  (try clear hfb)
                  go_quiet ((first | (go_at_call 46; exact Calls.quiet_of_same ((HM.out _).mono fun e w' hh => ⟨hh.1, hh.2.symm⟩)) | (go_at_call 39; exact Calls.quiet_of_same ((HD.out _).mono fun e w' hh => ⟨hh.1, hh.2.symm⟩))))
                  go_wp2_with fail
                  go_ret
                  exact ⟨ret_bool HF.out.symm, HBW3.out.trans ((below_drewN _ _).mono HBW3.out.size)⟩
                | false =>
                  cases z3 : markL tn.data.toList with
                  | false =>
                    rw [z3] at HM
                    clear z3
                    (try clear hfb)
                    go_quiet ((first | (go_at_call 46; exact Calls.quiet_of_same ((HM.out _).mono fun e w' hh => ⟨hh.1, hh.2.symm⟩)) | (go_at_call 39; exact Calls.quiet_of_same ((HD.out _).mono fun e w' hh => ⟨hh.1, hh.2.symm⟩))))
                    go_wp2_with fail
                    go_ret
                    exact ⟨ret_bool HF.out.symm, HBW3.out.trans ((below_drewN _ _).mono HBW3.out.size)⟩
                  | true =>
                    cases z4 : heldL tn.data.toList with
                    | false => rw [z1, z2, z3, z4] at hfb; simp at hfb
                    | true =>
                      cases tg with
                      | false => rw [z1, z2, z3, z4] at hfb; simp at hfb
                      | true =>
                        rw [z3] at HM
                        rw [z4] at HD
                        clear z3 z4
                        (try clear hfb)
                        go_quiet ((first | (go_at_call 46; exact Calls.quiet_of_same ((HM.out _).mono fun e w' hh => ⟨hh.1, hh.2.symm⟩)) | (go_at_call 39; exact Calls.quiet_of_same ((HD.out _).mono fun e w' hh => ⟨hh.1, hh.2.symm⟩))))
                        go_wp2_with fail
                        go_ret
                        exact ⟨ret_bool HF.out.symm, HBW3.out.trans ((below_drewN _ _).mono HBW3.out.size)⟩
          | true =>
            obtain ⟨i, hi⟩ : ∃ i, j = i + 1 := ⟨j - 1, by simp only [decide_eq_true_eq] at e0; omega⟩
            have HI := Lib.hid hi
            have hk : IntKind.i64.wrap ((j : Int) - 1) = (i : Nat) := by rw [IntKind.wrap_i64]; omega
            have hk2 : (j : Int) - 1 = (i : Nat) := by omega
            have hin : i < n := by omega
            clear hi
            obtain ⟨u, hu⟩ : ∃ u, ts[i]? = some u := ⟨ts[i]'(by have := HN.out; omega), List.getElem?_eq_getElem _⟩
            obtain ⟨_, _, e9, q0, q1, q2, q3⟩ := (HR.out.later HBW3.out).c4 hu
            cases e9
            have HU := Lib.hid (lastM_succ hu)
            rw [← HI.out] at HU
            clear hu q1 q2 q3
            obtain ⟨ui, un, uz, ug⟩ := u
            simp only at q0 HU
            have HLL2 := HLL.out
            rw [HU.out] at HLL2
            clear HLL
            rcases HLL2 with k1 | ⟨k1, k2⟩ | ⟨k1, k2, k3⟩ | ⟨k1, k2, k3, k4⟩
            · (try clear hfb)
              go_quiet ((first | (go_at_call 46; exact Calls.quiet_of_same ((HM.out _).mono fun e w' hh => ⟨hh.1, hh.2.symm⟩)) | (go_at_call 39; exact Calls.quiet_of_same ((HD.out _).mono fun e w' hh => ⟨hh.1, hh.2.symm⟩))))
              go_wp2_with fail
              go_ret
              exact ⟨ret_bool HF.out.symm, HBW3.out.trans ((below_drewN _ _).mono HBW3.out.size)⟩
            · (try clear hfb)
              go_quiet ((first | (go_at_call 46; exact Calls.quiet_of_same ((HM.out _).mono fun e w' hh => ⟨hh.1, hh.2.symm⟩)) | (go_at_call 39; exact Calls.quiet_of_same ((HD.out _).mono fun e w' hh => ⟨hh.1, hh.2.symm⟩))))
              go_wp2_with fail
              go_ret
              exact ⟨ret_bool HF.out.symm, HBW3.out.trans ((below_drewN _ _).mono HBW3.out.size)⟩
            · (try clear hfb)
              go_quiet ((first | (go_at_call 46; exact Calls.quiet_of_same ((HM.out _).mono fun e w' hh => ⟨hh.1, hh.2.symm⟩)) | (go_at_call 39; exact Calls.quiet_of_same ((HD.out _).mono fun e w' hh => ⟨hh.1, hh.2.symm⟩))))
              go_wp2_with fail
              go_ret
              exact ⟨ret_bool HF.out.symm, HBW3.out.trans ((below_drewN _ _).mono HBW3.out.size)⟩
            · skip
              rw [k4] at hfb
              cases z1 : decide (tz < 0) with
              | true =>
                (try clear hfb)
                go_quiet ((first | (go_at_call 46; exact Calls.quiet_of_same ((HM.out _).mono fun e w' hh => ⟨hh.1, hh.2.symm⟩)) | (go_at_call 39; exact Calls.quiet_of_same ((HD.out _).mono fun e w' hh => ⟨hh.1, hh.2.symm⟩))))
                go_wp2_with fail
                go_ret
                exact ⟨ret_bool HF.out.symm, HBW3.out.trans ((below_drewN _ _).mono HBW3.out.size)⟩
              | false =>
                cases z2 : decide (512 < tz) with
                | true =>
                  (try clear hfb)
                  go_quiet ((first | (go_at_call 46; exact Calls.quiet_of_same ((HM.out _).mono fun e w' hh => ⟨hh.1, hh.2.symm⟩)) | (go_at_call 39; exact Calls.quiet_of_same ((HD.out _).mono fun e w' hh => ⟨hh.1, hh.2.symm⟩))))
                  go_wp2_with fail
                  go_ret
                  exact ⟨ret_bool HF.out.symm, HBW3.out.trans ((below_drewN _ _).mono HBW3.out.size)⟩
                | false =>
                  cases z3 : markL tn.data.toList with
                  | false =>
                    rw [z3] at HM
                    clear z3
                    (try clear hfb)
                    go_quiet ((first | (go_at_call 46; exact Calls.quiet_of_same ((HM.out _).mono fun e w' hh => ⟨hh.1, hh.2.symm⟩)) | (go_at_call 39; exact Calls.quiet_of_same ((HD.out _).mono fun e w' hh => ⟨hh.1, hh.2.symm⟩))))
                    go_wp2_with fail
                    go_ret
                    exact ⟨ret_bool HF.out.symm, HBW3.out.trans ((below_drewN _ _).mono HBW3.out.size)⟩
                  | true =>
                    cases z4 : heldL tn.data.toList with
                    | false => rw [z1, z2, z3, z4] at hfb; simp at hfb
                    | true =>
                      cases tg with
                      | false => rw [z1, z2, z3, z4] at hfb; simp at hfb
                      | true =>
                        rw [z3] at HM
                        rw [z4] at HD
                        clear z3 z4
                        (try clear hfb)
                        go_quiet ((first | (go_at_call 46; exact Calls.quiet_of_same ((HM.out _).mono fun e w' hh => ⟨hh.1, hh.2.symm⟩)) | (go_at_call 39; exact Calls.quiet_of_same ((HD.out _).mono fun e w' hh => ⟨hh.1, hh.2.symm⟩))))
                        go_wp2_with fail
                        go_ret
                        exact ⟨ret_bool HF.out.symm, HBW3.out.trans ((below_drewN _ _).mono HBW3.out.size)⟩
        | true =>
          have hff := of_decide_eq_true hf
          have HFM := Lib.hid (fit_more HT.out HFA.out hff.2.2)
          have HAM := Lib.hid (okM_more (nx := hx) HT.out HA.out ⟨hff.1, hff.2.1⟩)
          have HMO := Lib.hid (hold_more HT.out HH.out)
          have k1 : ¬ ti < 1 := by have := lastM_le HT.out HA.out hff.1; simp only at this; omega
          have k2 : ¬ hx ≤ ti := by have := hff.2.1; omega
          rw [decide_eq_true hff.2.2] at hfb
          have HLT : Hid (lastM ts j < ti) := Lib.hid hff.1
          clear hf hff
          have z1 : decide (tz < 0) = false := by revert hfb; cases decide (tz < 0) <;> simp
          have z2 : decide (512 < tz) = false := by revert hfb; cases decide (512 < tz) <;> simp
          have z3 : markL tn.data.toList = true := by revert hfb; cases markL tn.data.toList <;> simp
          have z4 : (heldL tn.data.toList && tg) = false := by revert hfb; cases heldL tn.data.toList <;> cases tg <;> simp
          clear hfb
          rw [z3] at HM
          clear z3
          cases e0 : decide (0 < j) with
          | false =>
            clear HLT
            cases z5 : heldL tn.data.toList with
            | false =>
              have HF := Lib.hid (HMO.out.2 z5)
              rw [z5] at HD
              clear z4 z5 HMO
              go_quiet ((first | (go_at_call 46; exact Calls.quiet_of_same ((HM.out _).mono fun e w' hh => ⟨hh.1, hh.2.symm⟩)) | (go_at_call 39; exact Calls.quiet_of_same ((HD.out _).mono fun e w' hh => ⟨hh.1, hh.2.symm⟩))))
              go_wp2_with (go_at_call 39; refine (HD.out _).mono ?_; rintro e w4 ⟨rfl, rfl⟩)
              go_roundw
              case rel => exact ⟨j + 1, h, by go_num, rfl, by omega, by omega, Lib.hid (HB3.out.trans ((below_drewN _ _).mono HB3.out.size)), HF, HAM, HFM⟩
              case measure => simp [intOf]; omega
            | true =>
              have HF := Lib.hid (HMO.out.1 z5)
              rw [z5] at HD
              rw [z5, Bool.true_and] at z4
              subst z4
              clear z5 HMO
              go_quiet ((first | (go_at_call 46; exact Calls.quiet_of_same ((HM.out _).mono fun e w' hh => ⟨hh.1, hh.2.symm⟩)) | (go_at_call 39; exact Calls.quiet_of_same ((HD.out _).mono fun e w' hh => ⟨hh.1, hh.2.symm⟩))))
              go_wp2_with (go_at_call 39; refine (HD.out _).mono ?_; rintro e w4 ⟨rfl, rfl⟩)
              go_roundw
              case rel => exact ⟨j + 1, h + 1, by go_num, by go_num, by omega, by omega, Lib.hid (HB3.out.trans ((below_drewN _ _).mono HB3.out.size)), HF, HAM, HFM⟩
              case measure => simp [intOf]; omega
          | true =>
            obtain ⟨i, hi⟩ : ∃ i, j = i + 1 := ⟨j - 1, by simp only [decide_eq_true_eq] at e0; omega⟩
            have HI := Lib.hid hi
            have hk : IntKind.i64.wrap ((j : Int) - 1) = (i : Nat) := by rw [IntKind.wrap_i64]; omega
            have hk2 : (j : Int) - 1 = (i : Nat) := by omega
            have hin : i < n := by omega
            clear hi
            obtain ⟨u, hu⟩ : ∃ u, ts[i]? = some u := ⟨ts[i]'(by have := HN.out; omega), List.getElem?_eq_getElem _⟩
            obtain ⟨_, _, e9, q0, q1, q2, q3⟩ := (HR.out.later HBW3.out).c4 hu
            cases e9
            have HU := Lib.hid (lastM_succ hu)
            rw [← HI.out] at HU
            clear hu q1 q2 q3
            obtain ⟨ui, un, uz, ug⟩ := u
            simp only at q0 HU
            have k3 : ¬ ti ≤ ui := by have := HLT.out; rw [HU.out] at this; omega
            clear HLT
            cases z5 : heldL tn.data.toList with
            | false =>
              have HF := Lib.hid (HMO.out.2 z5)
              rw [z5] at HD
              clear z4 z5 HMO
              go_quiet ((first | (go_at_call 46; exact Calls.quiet_of_same ((HM.out _).mono fun e w' hh => ⟨hh.1, hh.2.symm⟩)) | (go_at_call 39; exact Calls.quiet_of_same ((HD.out _).mono fun e w' hh => ⟨hh.1, hh.2.symm⟩))))
              go_wp2_with (go_at_call 39; refine (HD.out _).mono ?_; rintro e w4 ⟨rfl, rfl⟩)
              go_roundw
              case rel => exact ⟨j + 1, h, by go_num, rfl, by omega, by omega, Lib.hid (HB3.out.trans ((below_drewN _ _).mono HB3.out.size)), HF, HAM, HFM⟩
              case measure => simp [intOf]; omega
            | true =>
              have HF := Lib.hid (HMO.out.1 z5)
              rw [z5] at HD
              rw [z5, Bool.true_and] at z4
              subst z4
              clear z5 HMO
              go_quiet ((first | (go_at_call 46; exact Calls.quiet_of_same ((HM.out _).mono fun e w' hh => ⟨hh.1, hh.2.symm⟩)) | (go_at_call 39; exact Calls.quiet_of_same ((HD.out _).mono fun e w' hh => ⟨hh.1, hh.2.symm⟩))))
              go_wp2_with (go_at_call 39; refine (HD.out _).mono ?_; rintro e w4 ⟨rfl, rfl⟩)
              go_roundw
              case rel => exact ⟨j + 1, h + 1, by go_num, by go_num, by omega, by omega, Lib.hid (HB3.out.trans ((below_drewN _ _).mono HB3.out.size)), HF, HAM, HFM⟩
              case measure => simp [intOf]; omega
      · have : j = n := by omega
        subst this
        have HHE : Hid (holdsN ts = h) := Lib.hid (by rw [HH.out, List.take_of_length_le (Nat.le_of_eq HN.out)])
        have HK := Lib.hid (rseen_any ⟨hs, ho, hu, hc, hx, hq, ts⟩ ad j c wr (HR.out.later HBW.out) HN.out (by omega))
        go_wp2_with fail
        refine HK.out.mono ?_
        rintro e w7 ⟨v7, rfl, o7⟩
        obtain ⟨m, hm⟩ : ∃ m, (seenL ts).length = m := ⟨_, rfl⟩
        obtain ⟨a7, c7, rfl, r7⟩ := o7.row_n mkOk hm
        have HB7 := Lib.hid (HBW.out.trans (o7.below.mono HBW.out.size))
        have hmn : m ≤ 17 := by rw [← hm]; have := seenL_le ts; have := HN.out; omega
        have hmc := r7.1
        rw [hm] at hmc
        have hmm : c7 ≤ 9223372036854775807 := by have := r7.2.1; unfold maxLen at this; omega
        have HR7 := Lib.hid r7
        have HM7 := Lib.hid hm
        clear o7 r7 hm HK y0 y1 y2 y3 y4 y5 y6
        go_wp2_with fail
        go_loopw [7, 8] (fun i _ wr => ∃ i0 : Nat, i = .int .i64 i0 ∧ i0 ≤ m ∧ Hid (Below w7.heap.size w7 wr) ∧ Hid (∀ q, q < i0 → apartAt (seenL ts) q)) (fun i _ _ => m - (intOf i).toNat)
        case atStart => exact ⟨0, rfl, by omega, Lib.hid (Below.refl _ _), Lib.hid (fun m h => by omega)⟩
        case round =>
          obtain ⟨i0, rfl, hi0, HB8, HAP⟩ := hrel
          cases hd : decide ((i0 : Int) < m) with
          | true =>
            have him : i0 < m := by simp only [decide_eq_true_eq] at hd; omega
            have him2 : (i0 : Int) < (m : Int) := by omega
            obtain ⟨t, ht⟩ : ∃ t, (seenL ts)[i0]? = some t := ⟨(seenL ts)[i0]'(by have := HM7.out; omega), List.getElem?_eq_getElem _⟩
            have HT := Lib.hid ht
            obtain ⟨b7, o7, ea7, _⟩ := HR7.out.c4 ht
            subst ea7
            clear ht
            obtain ⟨ti, tn, tz, tg⟩ := t
            go_wp2_with fail
            go_loopw [8] (fun k wr => ∃ k0 : Nat, k = .int .i64 k0 ∧ k0 ≤ i0 ∧ Hid (Below w7.heap.size w7 wr) ∧ Hid (∀ q u, q < k0 → (seenL ts)[q]? = some u → u.name ≠ tn)) (fun k _ => i0 - (intOf k).toNat)
            case atStart => exact ⟨0, rfl, by omega, HB8, Lib.hid (fun m u h => by omega)⟩
            case round =>
              obtain ⟨k0, rfl, hk0, HB9, HAk⟩ := hrel
              by_cases hki : (k0 : Int) < i0
              · have hkm : (k0 : Int) < (m : Int) := by omega
                obtain ⟨u, hu⟩ : ∃ u, (seenL ts)[k0]? = some u := ⟨(seenL ts)[k0]'(by have := HM7.out; omega), List.getElem?_eq_getElem _⟩
                obtain ⟨_, _, e9, q0, q1, q2, q3⟩ := (HR7.out.later HB9.out).c4 hu
                cases e9
                obtain ⟨_, _, e9, x0, x1, x2, x3⟩ := (HR7.out.later HB9.out).c4 HT.out
                cases e9
                have HU := Lib.hid hu
                clear hu q0 q2 q3 x0 x2 x3
                obtain ⟨ui, un, uz, ug⟩ := u
                simp only at q1 x1
                by_cases he : un = tn
                · have HF := Lib.hid (right_twins (h := ⟨hs, ho, hu, hc, hx, hq, ts⟩) HT.out HU.out (by omega) he)
                  have hd2 : (un.toList == tn.toList) = true := (sbeq_iff _ _).2 he
                  have HBZ := Lib.hid (HB7.out.trans ((HB9.out.trans ((below_drewN _ 0).mono HB9.out.size)).mono HB7.out.size))
                  clear he
                  go_upto_region 19 with fail
                  go_quiet (fail)
                  go_wp2_with fail
                  go_ret
                  exact ⟨ret_bool HF.out.symm, HB7.out.trans ((HB9.out.trans ((below_drewN _ _).mono HB9.out.size)).mono HB7.out.size)⟩
                · have HF := Lib.hid (ne_name HU.out he HAk.out)
                  have hd2 : (un.toList == tn.toList) = false := sbeq_no he
                  clear he
                  go_upto_region 19 with fail
                  go_quiet (fail)
                  go_wp2_with fail
                  go_roundw
                  case rel => exact ⟨k0 + 1, by go_num, by omega, Lib.hid (HB9.out.trans ((below_drewN _ _).mono HB9.out.size)), HF⟩
                  case measure => simp [intOf]; omega
              · have : k0 = i0 := by omega
                subst this
                have HF := Lib.hid (upto_more HAP.out (apart_one HT.out HAk.out))
                go_wp2_with fail
                go_roundw
                case rel => exact ⟨k0 + 1, by go_num, by omega, HB9, HF⟩
                case measure => simp [intOf]; omega
          | false =>
            have hmi : i0 = m := by simp only [decide_eq_false_iff_not] at hd; omega
            have HE := Lib.hid (right_fin (h := ⟨hs, ho, hu, hc, hx, hq, ts⟩) HN.out HNO.out (by omega) HA.out HFA.out (fun q hqq => HAP.out q (by have := HM7.out; simp only at hqq; omega)))
            simp only [HM7.out, HHE.out] at HE
            have HBZ := Lib.hid (HB7.out.trans (HB8.out.mono HB7.out.size))
            subst hmi
            by_cases h8 : i0 ≤ 8
            · have HF : Hid (rightH ⟨hs, ho, hu, hc, hx, hq, ts⟩ = decide ((h : Int) ≤ 1)) := Lib.hid (by rw [HE.out, decide_eq_true h8, Bool.true_and]; rw [Bool.eq_iff_iff]; simp only [decide_eq_true_eq]; omega)
              go_wp2_with fail
              go_ret
              exact ⟨ret_bool HF.out.symm, HBZ.out⟩
            · have HF : Hid (rightH ⟨hs, ho, hu, hc, hx, hq, ts⟩ = false) := Lib.hid (by rw [HE.out, decide_eq_false h8]; rfl)
              go_wp2_with fail
              go_ret
              exact ⟨ret_bool HF.out.symm, HBZ.out⟩
end Go.Proofs.Ytfjplhjlmilcfaa
