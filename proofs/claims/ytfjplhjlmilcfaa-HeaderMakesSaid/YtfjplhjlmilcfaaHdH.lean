/- Records of an image: their bytes. -/
import Derived.Test.YtfjplhjlmilcfaaHdG
namespace Go.Proofs.Ytfjplhjlmilcfaa
open Go.RowKit Go.Proofs
set_option linter.unusedVariables false
set_option linter.unusedSimpArgs false
set_option linter.unnecessarySimpa false

set_option maxRecDepth 100000 in
set_option maxHeartbeats 12800000 in
theorem putH_any (h : Hd) (ad : Option Addr) (n c : Nat) (w : World) (hr : MRow w ad c h.marks) (hn : h.marks.length = n) :
    Calls Try.prog 10 #[hdA h ad n c] w fun e w' => ∃ v, e = .returned (.tuple #[v, .int .i64 (putHd h).2]) ∧ Own w w' v (putHd h).1 := by
  obtain ⟨hs, ho, hu, hc, hx, hq, ts⟩ := h
  simp only at hr hn
  obtain ⟨R, hR⟩ : ∃ R, putHd ⟨hs, ho, hu, hc, hx, hq, ts⟩ = R := ⟨_, rfl⟩
  rw [hR]
  have HRR := Lib.hid hR
  clear hR
  have HK := Lib.hid fun W (hW : Below w.heap.size w W) => right_any ⟨hs, ho, hu, hc, hx, hq, ts⟩ ad n c W (hr.later hW) hn
  have HR := Lib.hid hr
  have HN := Lib.hid hn
  have hc1 := hr.1
  rw [hn] at hc1
  have hcm : c ≤ 9223372036854775807 := by have := hr.2.1; unfold maxLen at this; omega
  have hba : Below w.heap.size w (w.alloc (.cells #[.int .i64 hs, .int .i64 ho, .int .i64 hu, .int .i64 hc, .int .i64 hx, .int .i64 hq, .slice ad n c] 26)) := (Below.refl _ _).alloc (Nat.le_refl _) _
  have HB0 := Lib.hid hba
  have HX0 := Lib.hid (RecAt.new w #[.int .i64 hs, .int .i64 ho, .int .i64 hu, .int .i64 hc, .int .i64 hx, .int .i64 hq, .slice ad n c] 26)
  clear hr hn hba
  go_enter Try.func10, Try.ntmps10
  go_upto_region 1 with fail
  generalize (w.alloc (.cells #[.int .i64 hs, .int .i64 ho, .int .i64 hu, .int .i64 hc, .int .i64 hx, .int .i64 hq, .slice ad n c] 26)) = w1 at *
  obtain ⟨P, hP⟩ : ∃ P, w.heap.size = P := ⟨_, rfl⟩
  have HP := Lib.hid hP
  rw [hP]
  rw [hP] at HX0
  clear hP
  obtain ⟨y0, y1, y2, y3, y4, y5, y6⟩ := HX0.out.c7
  cases hx0 : rightH ⟨hs, ho, hu, hc, hx, hq, ts⟩ with
  | false =>
    rw [hx0] at HK
    have hR := HRR.out
    clear HRR
    rw [putHd_no hx0] at hR
    subst hR
    clear hx0
    go_wp2_with fail
    refine (HK.out w1 HB0.out).mono ?_
    rintro e w2 ⟨rfl, hb2⟩
    have HB2 := Lib.hid (HB0.out.trans (hb2.mono HB0.out.size))
    clear hb2
    go_wp2_with fail
    go_ret2
    exact ⟨_, rfl, own_nilU HB2.out⟩
  | true =>
    rw [hx0] at HK
    have hR := HRR.out
    clear HRR
    rw [putHd_yes hx0] at hR
    subst hR
    have HX4 := Lib.hid (rightH_iff.1 hx0)
    have HLB := Lib.hid (bodyH_len HX4.out)
    have HNL := Lib.hid (numsH_len HX4.out.1)
    have hn17 : n ≤ 17 := by have h2 := HX4.out.2.1; simp only at h2; rw [HN.out] at h2; exact h2
    obtain ⟨k1, k2, ⟨k3, k4, k5, k6, k7, k8⟩, k9, k10, k11, k12⟩ := HX4.out.1
    simp only at k1 k2 k3 k4 k5 k6 k7 k8 k9 k10 k11 k12
    clear hx0
    have HLL : Hid (∀ (i : Nat) (x : Int), [hs, ho, hu, hc, hx, hq, (n : Int)][i]? = some x → x ≤ 9223372036854775807) := Lib.hid (fun i x hi => by
      have := List.mem_of_getElem? hi
      simp only [List.mem_cons, List.not_mem_nil, or_false] at this
      rcases this with rfl | rfl | rfl | rfl | rfl | rfl | rfl <;> omega)
    have HL7 : Hid (pre7 [hs, ho, hu, hc, hx, hq, (n : Int)] 7 = headM (numsH ⟨hs, ho, hu, hc, hx, hq, ts⟩) ts 0) := Lib.hid (by
      rw [headM_zero, HN.out]; unfold pre7 numsH; simp [List.append_assoc])
    have HLE : Hid (∀ j, (headM (numsH ⟨hs, ho, hu, hc, hx, hq, ts⟩) ts j).length ≤ 391) := Lib.hid (fun j => Nat.le_trans (headM_le _ _ j) HLB.out)
    have HL8 : Hid (∀ j, (pre7 [hs, ho, hu, hc, hx, hq, (n : Int)] j).length ≤ 391) := Lib.hid (fun j => by
      refine Nat.le_trans (pre7_le _ j) ?_
      rw [show [hs, ho, hu, hc, hx, hq, (n : Int)].length = 7 from rfl, HL7.out]
      exact HLE.out 0)
    go_upto_region 4 with (go_at_call 17; refine (HK.out w1 HB0.out).mono ?_; rintro e wx ⟨rfl, hb2⟩; have HW := Lib.hid (HB0.out.trans (hb2.mono HB0.out.size)); have HXw := Lib.hid (HX0.out.later hb2); clear hb2 y0 y1 y2 y3 y4 y5 y6; obtain ⟨y0, y1, y2, y3, y4, y5, y6⟩ := HXw.out.c7)
    clear HK HB0 k1 k2 k3 k4 k5 k6 k7 k8 k9 k10 k11 k12
    go_wp2_with fail
    clear y0 y1 y2 y3 y4 y5 y6
    go_loopw [4, 6, 32] (fun v _ i wr => ∃ j : Nat, i = .int .i64 j ∧ j ≤ 7 ∧ Hid (RecAt wr P #[.int .i64 hs, .int .i64 ho, .int .i64 hu, .int .i64 hc, .int .i64 hx, .int .i64 hq, .slice ad n c] 26) ∧ Hid (Own wx wr v (pre7 [hs, ho, hu, hc, hx, hq, (n : Int)] j))) (fun _ _ i _ => 7 - (intOf i).toNat)
    case atStart => exact ⟨0, rfl, by omega, HXw, Lib.hid (Own.nil wx)⟩
    case round =>
      obtain ⟨j, rfl, hj, HXr, hO⟩ := hrel
      by_cases hj7 : (j : Int) < 7
      · obtain ⟨x, hxj⟩ : ∃ x, [hs, ho, hu, hc, hx, hq, (n : Int)][j]? = some x := ⟨_, List.getElem?_eq_getElem (show j < 7 by omega)⟩
        have hix : ∀ W, (Instr.index 56 (.agg #[.int .i64 hs, .int .i64 ho, .int .i64 hu, .int .i64 hc, .int .i64 hx, .int .i64 hq, .int .i64 n]) (.int .i64 (j : Nat))).run Try.prog W = .ok (.int .i64 x) W := fun W => run_ix7 W _ _ _ _ _ _ _ _ _ hxj
        have hxm := HLL.out j x hxj
        have HS := Lib.hid (pre7_succ hxj)
        obtain ⟨N0, hN0⟩ : ∃ N, (pre7 [hs, ho, hu, hc, hx, hq, (n : Int)] j).length = N := ⟨_, rfl⟩
        obtain ⟨a0, q0, rfl, r0⟩ := hO.out.row_n hN0
        have HVA := Lib.hid (var_any a0 N0 q0 _ x wr r0 hN0 (by have := HL8.out j; omega) hxm)
        rw [HS.out] at HVA
        have HWr := Lib.hid hO.out.below
        clear r0 hN0 hO hxj
        go_wp2_with fail
        refine HVA.out.mono ?_
        rintro e w3 ⟨v3, rfl, o3⟩
        have HX3 := Lib.hid (HXr.out.later o3.below)
        have HO3 := Lib.hid (o3.back HWr.out)
        clear o3
        go_wp2_with fail
        go_roundw
        case rel => exact ⟨j + 1, by go_num, by omega, HX3, HO3⟩
        case measure => simp [intOf]; omega
      · have : j = 7 := by omega
        subst this
        rw [HL7.out] at hO
        have HO4 := Lib.hid (hO.out.back HW.out)
        obtain ⟨y0, y1, y2, y3, y4, y5, y6⟩ := HXr.out.c7
        clear hO
        go_wp2_with fail
        clear y0 y1 y2 y3 y4 y5 y6 HL7 HL8 HLL HXr HXw
        go_loopw [4, 8, 9, 42] (fun v _ _ i wr => ∃ j : Nat, i = .int .i64 j ∧ j ≤ n ∧ Hid (Own w wr v (headM (numsH ⟨hs, ho, hu, hc, hx, hq, ts⟩) ts j))) (fun _ _ _ i _ => n - (intOf i).toNat)
        case atStart => exact ⟨0, rfl, by omega, HO4⟩
        case round =>
          obtain ⟨j, rfl, hj, hO⟩ := hrel
          by_cases hjn : (j : Int) < n
          · obtain ⟨t, ht⟩ : ∃ t, ts[j]? = some t := ⟨ts[j]'(by have := HN.out; omega), List.getElem?_eq_getElem _⟩
            obtain ⟨b1, o1, rfl, p0, p1, p2, p3⟩ := (HR.out.later hO.out.below).c4 ht
            have HT := Lib.hid ht
            have HTB : Hid (Mk.B t) := Lib.hid (HR.out.b ht)
            have hls : t.name.size ≤ 1000000 := by have := name_le ht; have h2 := HLB.out; unfold bodyH at h2; rw [List.length_append] at h2; simp only at h2; omega
            clear ht
            obtain ⟨ti, tn, tz, tg⟩ := t
            simp only at hls
            have hba : Below wr.heap.size wr (wr.alloc (.cells #[.int .i64 ti, .string tn, .int .i64 tz, .bool tg] 39)) := (Below.refl _ _).alloc (Nat.le_refl _) _
            have HX := Lib.hid (RecAt.new wr #[.int .i64 ti, .string tn, .int .i64 tz, .bool tg] 39)
            go_upto_region 12 with fail
            clear p0 p1 p2 p3
            obtain ⟨N0, hN0⟩ : ∃ N, (headM (numsH ⟨hs, ho, hu, hc, hx, hq, ts⟩) ts j).length = N := ⟨_, rfl⟩
            obtain ⟨B, hB⟩ : ∃ B, headM (numsH ⟨hs, ho, hu, hc, hx, hq, ts⟩) ts j = B := ⟨_, rfl⟩
            obtain ⟨D1, hD1⟩ : ∃ D, B ++ varL ti.toNat = D := ⟨_, rfl⟩
            obtain ⟨D2, hD2⟩ : ∃ D, D1 ++ varL tz.toNat = D := ⟨_, rfl⟩
            obtain ⟨D3, hD3⟩ : ∃ D, D2 ++ varL (bitN tg) = D := ⟨_, rfl⟩
            obtain ⟨D4, hD4⟩ : ∃ D, D3 ++ textL tn.data.toList = D := ⟨_, rfl⟩
            obtain ⟨N1, hN1⟩ : ∃ N, D1.length = N := ⟨_, rfl⟩
            obtain ⟨N2, hN2⟩ : ∃ N, D2.length = N := ⟨_, rfl⟩
            obtain ⟨N3, hN3⟩ : ∃ N, D3.length = N := ⟨_, rfl⟩
            have HDD : Hid (D4 = headM (numsH ⟨hs, ho, hu, hc, hx, hq, ts⟩) ts (j + 1)) := Lib.hid (by rw [headM_succ HT.out, ← hD4, ← hD3, ← hD2, ← hD1, ← hB]; unfold mkL Mk.nm; simp only [List.append_assoc])
            have hl4 := HLE.out (j + 1)
            rw [← HDD.out] at hl4
            have hl3 : N3 ≤ 391 := by rw [← hD4, List.length_append] at hl4; omega
            have hl2 : N2 ≤ 391 := by rw [← hD3, List.length_append] at hN3; omega
            have hl1 : N1 ≤ 391 := by rw [← hD2, List.length_append] at hN2; omega
            have hl0 : N0 ≤ 391 := by rw [← hN0]; exact HLE.out j
            have HD1 := Lib.hid hD1
            have HD2 := Lib.hid hD2
            have HD4 := Lib.hid hD4
            have HN1 := Lib.hid hN1
            have HN2 := Lib.hid hN2
            have HN3 := Lib.hid hN3
            rw [hB] at hN0
            have HN0 := Lib.hid hN0
            have hO2 := Lib.hid (hO.out.later hba)
            obtain ⟨a0, q0, rfl, r0⟩ := hO2.out.row_n (n := N0) (by rw [hB]; exact hN0)
            rw [hB] at r0
            have HW := Lib.hid hO2.out.below
            have HO := Lib.hid r0
            clear r0 hO hO2 hba hB hD1 hD2 hD4 hN0 hN1 hN2 hN3 hl4
            generalize (wr.alloc (.cells #[.int .i64 ti, .string tn, .int .i64 tz, .bool tg] 39)) = w2 at *
            generalize wr.heap.size = p4 at *
            obtain ⟨x0, x1, x2, x3⟩ := HX.out.c4
            cases tg with
            | false =>
              have HD3 : Hid (D2 ++ varL (Int.toNat 0) = D3) := Lib.hid hD3
              clear hD3
              go_upto_region 15 with fail
              clear x0 x1 x2 x3
              -- REG B
              refine wp_region_ptab (L := fun ph => match ph with | _ => [cV (.slice a0 N0 q0), cV (.pointer (some ⟨p4, 0, none⟩)), cV (.int .i64 ti), oV w D1, cV (.pointer (some ⟨p4, 2, none⟩)), cV (.int .i64 tz), oV w D2, cV (.int .i64 0), oV w D3, oV w D3]) (fun _ wq => Below w2.heap.size w2 wq) [] [(0, 0), (0, 0), (0, 0), (0, 0), (0, 0), (0, 0), (0, 0), (0, 0), (0, 0), (0, 0)] [[(4, none)], [(8, none)], [(49, some 1)], [(48, some 0), (50, some 2)], [(8, none)], [(52, some 4)], [(51, some 3), (53, some 5)], [(9, none)], [(54, some 6), (55, some 7)], [(56, some 8)]] 10 0 64 (by kernel_rfl) rfl rfl rfl (by kernel_rfl) (by kernel_rfl) (by decide) (by kernel_rfl) ?_ ?_ ?_ ?_ ?_
              · exact fun ph w1 w2 h hb => h.trans (hb.mono h.size)
              · exact Below.refl _ _
              · show ∀ i, i < 10 → _
                iterate 10 (refine fls ?_ ?_)
                · exact fl0
                · intro hne lo hi ph hran hp1 hp2 a w1 hJ hsz hs      -- 0: slot 48
                  obtain ⟨rfl, rfl⟩ : 0 = lo ∧ 0 = hi := Prod.mk.inj (Option.some.inj hran)
                  obtain rfl : ph = 0 := by omega
                  obtain ⟨h0, _⟩ := hs
                  have h0 : a.tmps.getD 4 undef = .slice a0 N0 q0 := h0
                  refine op_run rfl rfl (v := .slice a0 N0 q0) (w' := w1) ?_ rfl (Below.refl _ _)
                  simp [execOp, Act.eval, h0, go_sem]
                · intro hne lo hi ph hran hp1 hp2 a w1 hJ hsz hs      -- 1: slot 49
                  obtain ⟨rfl, rfl⟩ : 0 = lo ∧ 0 = hi := Prod.mk.inj (Option.some.inj hran)
                  obtain rfl : ph = 0 := by omega
                  obtain ⟨h0, _⟩ := hs
                  have h0 : a.tmps.getD 8 undef = .pointer (some ⟨p4, 0, none⟩) := h0
                  refine op_run rfl rfl (v := .pointer (some ⟨p4, 0, none⟩)) (w' := w1) ?_ rfl (Below.refl _ _)
                  simp [execOp, Act.eval, h0, go_sem]
                · intro hne lo hi ph hran hp1 hp2 a w1 hJ hsz hs      -- 2: slot 50
                  obtain ⟨rfl, rfl⟩ : 0 = lo ∧ 0 = hi := Prod.mk.inj (Option.some.inj hran)
                  obtain rfl : ph = 0 := by omega
                  obtain ⟨h0, _⟩ := hs
                  have h0 : a.tmps.getD 49 undef = .pointer (some ⟨p4, 0, none⟩) := h0
                  obtain ⟨k0, k1, k2, k3⟩ := (HX.out.later hJ).c4
                  refine op_run rfl rfl (v := .int .i64 ti) (w' := w1) ?_ rfl (Below.refl _ _)
                  simp [execOp, Act.eval, h0, k0, go_sem]
                · intro hne lo hi ph hran hp1 hp2 a w1 hJ hsz hs      -- 3: slot 51
                  obtain ⟨rfl, rfl⟩ : 0 = lo ∧ 0 = hi := Prod.mk.inj (Option.some.inj hran)
                  obtain rfl : ph = 0 := by omega
                  obtain ⟨h0, h1, _⟩ := hs
                  have h0 : a.tmps.getD 48 undef = .slice a0 N0 q0 := h0
                  have h1 : a.tmps.getD 50 undef = .int .i64 ti := h1
                  refine op_call rfl rfl (f := 28) (args := #[.slice a0 N0 q0, .int .i64 ti]) (by simp [execOp, Act.eval, resolve, h0, h1, go_sem]) ?_
                  exact ov_of (var_any a0 N0 q0 B ti w1 (HO.out.later hJ) HN0.out (by omega) (by have := HTB.out; unfold Mk.B W64 at this; simp only at this; omega)) (HW.out.trans (hJ.mono HW.out.size)) HD1.out
                · intro hne lo hi ph hran hp1 hp2 a w1 hJ hsz hs      -- 4: slot 52
                  obtain ⟨rfl, rfl⟩ : 0 = lo ∧ 0 = hi := Prod.mk.inj (Option.some.inj hran)
                  obtain rfl : ph = 0 := by omega
                  obtain ⟨h0, _⟩ := hs
                  have h0 : a.tmps.getD 8 undef = .pointer (some ⟨p4, 0, none⟩) := h0
                  refine op_run rfl rfl (v := .pointer (some ⟨p4, 2, none⟩)) (w' := w1) ?_ rfl (Below.refl _ _)
                  simp [execOp, Act.eval, h0, go_sem]
                · intro hne lo hi ph hran hp1 hp2 a w1 hJ hsz hs      -- 5: slot 53
                  obtain ⟨rfl, rfl⟩ : 0 = lo ∧ 0 = hi := Prod.mk.inj (Option.some.inj hran)
                  obtain rfl : ph = 0 := by omega
                  obtain ⟨h0, _⟩ := hs
                  have h0 : a.tmps.getD 52 undef = .pointer (some ⟨p4, 2, none⟩) := h0
                  obtain ⟨k0, k1, k2, k3⟩ := (HX.out.later hJ).c4
                  refine op_run rfl rfl (v := .int .i64 tz) (w' := w1) ?_ rfl (Below.refl _ _)
                  simp [execOp, Act.eval, h0, k2, go_sem]
                · intro hne lo hi ph hran hp1 hp2 a w1 hJ hsz hs      -- 6: slot 54
                  obtain ⟨rfl, rfl⟩ : 0 = lo ∧ 0 = hi := Prod.mk.inj (Option.some.inj hran)
                  obtain rfl : ph = 0 := by omega
                  obtain ⟨h0, h1, _⟩ := hs
                  have m0 : (oV w D1).p w1 (a.tmps.getD 51 undef) := h0; obtain ⟨a0, p0, h0, r0⟩ := ov_row (n := N1) m0 HN1.out
                  have h1 : a.tmps.getD 53 undef = .int .i64 tz := h1
                  refine op_call rfl rfl (f := 28) (args := #[.slice a0 N1 p0, .int .i64 tz]) (by simp [execOp, Act.eval, resolve, h0, h1, go_sem]) ?_
                  exact ov_of (var_any a0 N1 p0 D1 tz w1 r0 HN1.out (by omega) (by have := HTB.out; unfold Mk.B W64 at this; simp only at this; omega)) (HW.out.trans (hJ.mono HW.out.size)) HD2.out
                · intro hne lo hi ph hran hp1 hp2 a w1 hJ hsz hs      -- 7: slot 55
                  obtain ⟨rfl, rfl⟩ : 0 = lo ∧ 0 = hi := Prod.mk.inj (Option.some.inj hran)
                  obtain rfl : ph = 0 := by omega
                  obtain ⟨h0, _⟩ := hs
                  have h0 : a.tmps.getD 9 undef = .int .i64 0 := h0
                  refine op_run rfl rfl (v := .int .i64 0) (w' := w1) ?_ rfl (Below.refl _ _)
                  simp [execOp, Act.eval, h0, go_sem]
                · intro hne lo hi ph hran hp1 hp2 a w1 hJ hsz hs      -- 8: slot 56
                  obtain ⟨rfl, rfl⟩ : 0 = lo ∧ 0 = hi := Prod.mk.inj (Option.some.inj hran)
                  obtain rfl : ph = 0 := by omega
                  obtain ⟨h0, h1, _⟩ := hs
                  have m0 : (oV w D2).p w1 (a.tmps.getD 54 undef) := h0; obtain ⟨a0, p0, h0, r0⟩ := ov_row (n := N2) m0 HN2.out
                  have h1 : a.tmps.getD 55 undef = .int .i64 0 := h1
                  refine op_call rfl rfl (f := 28) (args := #[.slice a0 N2 p0, .int .i64 0]) (by simp [execOp, Act.eval, resolve, h0, h1, go_sem]) ?_
                  exact ov_of (var_any a0 N2 p0 D2 0 w1 r0 HN2.out (by omega) (by decide)) (HW.out.trans (hJ.mono HW.out.size)) HD3.out
                · intro hne lo hi ph hran hp1 hp2 a w1 hJ hsz hs      -- 9: slot 4
                  obtain ⟨rfl, rfl⟩ : 0 = lo ∧ 0 = hi := Prod.mk.inj (Option.some.inj hran)
                  obtain rfl : ph = 0 := by omega
                  obtain ⟨h0, _⟩ := hs
                  have m0 : (oV w D3).p w1 (a.tmps.getD 56 undef) := h0
                  exact op_run rfl rfl (v := a.tmps.getD 56 undef) (w' := w1) (by simp [execOp, Act.eval, go_sem]) m0 (Below.refl _ _)
              · show ∀ ph, ph < 0 → _
                iterate 0 (refine fls ?_ ?_)
                · exact fl0
              intro f w1 hJ hv
              have e4 : (oV w D3).p w1 (f 4) := hv 9 _ 4 rfl rfl
              clear hv
              try simp only [Exit.then]
              simp only [putAll, List.foldl_cons, List.foldl_nil, Option.getD_some, Act.put, List.setIfInBounds_toArray, List.set_cons_succ, List.set_cons_zero]
              generalize f 4 = v5 at e4 ⊢
              have o6 : Own w w1 v5 D3 := e4
              clear e4
              -- END B
              have HX6 := Lib.hid (HX.out.later hJ)
              obtain ⟨x0, x1, x2, x3⟩ := HX6.out.c4
              obtain ⟨a6, q6, rfl, r6⟩ := o6.row_n HN3.out
              have HB6 := Lib.hid o6.below
              have HTX := Lib.hid (text_any a6 N3 q6 D3 tn w1 r6 HN3.out (by omega) hls)
              rw [HD4.out, HDD.out] at HTX
              clear o6 r6 hJ
              go_wp2_with fail
              refine HTX.out.mono ?_
              rintro e w7 ⟨v7, rfl, o7⟩
              have HO7 := Lib.hid (o7.back HB6.out)
              clear o7
              go_wp2_with fail
              go_roundw
              case rel => exact ⟨j + 1, by go_num, by omega, HO7⟩
              case measure => simp [intOf]; omega
            | true =>
              have HD3 : Hid (D2 ++ varL (Int.toNat 1) = D3) := Lib.hid hD3
              clear hD3
              go_upto_region 15 with fail
              clear x0 x1 x2 x3
              -- REG C
              refine wp_region_ptab (L := fun ph => match ph with | _ => [cV (.slice a0 N0 q0), cV (.pointer (some ⟨p4, 0, none⟩)), cV (.int .i64 ti), oV w D1, cV (.pointer (some ⟨p4, 2, none⟩)), cV (.int .i64 tz), oV w D2, cV (.int .i64 1), oV w D3, oV w D3]) (fun _ wq => Below w2.heap.size w2 wq) [] [(0, 0), (0, 0), (0, 0), (0, 0), (0, 0), (0, 0), (0, 0), (0, 0), (0, 0), (0, 0)] [[(4, none)], [(8, none)], [(49, some 1)], [(48, some 0), (50, some 2)], [(8, none)], [(52, some 4)], [(51, some 3), (53, some 5)], [(9, none)], [(54, some 6), (55, some 7)], [(56, some 8)]] 10 0 64 (by kernel_rfl) rfl rfl rfl (by kernel_rfl) (by kernel_rfl) (by decide) (by kernel_rfl) ?_ ?_ ?_ ?_ ?_
              · exact fun ph w1 w2 h hb => h.trans (hb.mono h.size)
              · exact Below.refl _ _
              · show ∀ i, i < 10 → _
                iterate 10 (refine fls ?_ ?_)
                · exact fl0
                · intro hne lo hi ph hran hp1 hp2 a w1 hJ hsz hs      -- 0: slot 48
                  obtain ⟨rfl, rfl⟩ : 0 = lo ∧ 0 = hi := Prod.mk.inj (Option.some.inj hran)
                  obtain rfl : ph = 0 := by omega
                  obtain ⟨h0, _⟩ := hs
                  have h0 : a.tmps.getD 4 undef = .slice a0 N0 q0 := h0
                  refine op_run rfl rfl (v := .slice a0 N0 q0) (w' := w1) ?_ rfl (Below.refl _ _)
                  simp [execOp, Act.eval, h0, go_sem]
                · intro hne lo hi ph hran hp1 hp2 a w1 hJ hsz hs      -- 1: slot 49
                  obtain ⟨rfl, rfl⟩ : 0 = lo ∧ 0 = hi := Prod.mk.inj (Option.some.inj hran)
                  obtain rfl : ph = 0 := by omega
                  obtain ⟨h0, _⟩ := hs
                  have h0 : a.tmps.getD 8 undef = .pointer (some ⟨p4, 0, none⟩) := h0
                  refine op_run rfl rfl (v := .pointer (some ⟨p4, 0, none⟩)) (w' := w1) ?_ rfl (Below.refl _ _)
                  simp [execOp, Act.eval, h0, go_sem]
                · intro hne lo hi ph hran hp1 hp2 a w1 hJ hsz hs      -- 2: slot 50
                  obtain ⟨rfl, rfl⟩ : 0 = lo ∧ 0 = hi := Prod.mk.inj (Option.some.inj hran)
                  obtain rfl : ph = 0 := by omega
                  obtain ⟨h0, _⟩ := hs
                  have h0 : a.tmps.getD 49 undef = .pointer (some ⟨p4, 0, none⟩) := h0
                  obtain ⟨k0, k1, k2, k3⟩ := (HX.out.later hJ).c4
                  refine op_run rfl rfl (v := .int .i64 ti) (w' := w1) ?_ rfl (Below.refl _ _)
                  simp [execOp, Act.eval, h0, k0, go_sem]
                · intro hne lo hi ph hran hp1 hp2 a w1 hJ hsz hs      -- 3: slot 51
                  obtain ⟨rfl, rfl⟩ : 0 = lo ∧ 0 = hi := Prod.mk.inj (Option.some.inj hran)
                  obtain rfl : ph = 0 := by omega
                  obtain ⟨h0, h1, _⟩ := hs
                  have h0 : a.tmps.getD 48 undef = .slice a0 N0 q0 := h0
                  have h1 : a.tmps.getD 50 undef = .int .i64 ti := h1
                  refine op_call rfl rfl (f := 28) (args := #[.slice a0 N0 q0, .int .i64 ti]) (by simp [execOp, Act.eval, resolve, h0, h1, go_sem]) ?_
                  exact ov_of (var_any a0 N0 q0 B ti w1 (HO.out.later hJ) HN0.out (by omega) (by have := HTB.out; unfold Mk.B W64 at this; simp only at this; omega)) (HW.out.trans (hJ.mono HW.out.size)) HD1.out
                · intro hne lo hi ph hran hp1 hp2 a w1 hJ hsz hs      -- 4: slot 52
                  obtain ⟨rfl, rfl⟩ : 0 = lo ∧ 0 = hi := Prod.mk.inj (Option.some.inj hran)
                  obtain rfl : ph = 0 := by omega
                  obtain ⟨h0, _⟩ := hs
                  have h0 : a.tmps.getD 8 undef = .pointer (some ⟨p4, 0, none⟩) := h0
                  refine op_run rfl rfl (v := .pointer (some ⟨p4, 2, none⟩)) (w' := w1) ?_ rfl (Below.refl _ _)
                  simp [execOp, Act.eval, h0, go_sem]
                · intro hne lo hi ph hran hp1 hp2 a w1 hJ hsz hs      -- 5: slot 53
                  obtain ⟨rfl, rfl⟩ : 0 = lo ∧ 0 = hi := Prod.mk.inj (Option.some.inj hran)
                  obtain rfl : ph = 0 := by omega
                  obtain ⟨h0, _⟩ := hs
                  have h0 : a.tmps.getD 52 undef = .pointer (some ⟨p4, 2, none⟩) := h0
                  obtain ⟨k0, k1, k2, k3⟩ := (HX.out.later hJ).c4
                  refine op_run rfl rfl (v := .int .i64 tz) (w' := w1) ?_ rfl (Below.refl _ _)
                  simp [execOp, Act.eval, h0, k2, go_sem]
                · intro hne lo hi ph hran hp1 hp2 a w1 hJ hsz hs      -- 6: slot 54
                  obtain ⟨rfl, rfl⟩ : 0 = lo ∧ 0 = hi := Prod.mk.inj (Option.some.inj hran)
                  obtain rfl : ph = 0 := by omega
                  obtain ⟨h0, h1, _⟩ := hs
                  have m0 : (oV w D1).p w1 (a.tmps.getD 51 undef) := h0; obtain ⟨a0, p0, h0, r0⟩ := ov_row (n := N1) m0 HN1.out
                  have h1 : a.tmps.getD 53 undef = .int .i64 tz := h1
                  refine op_call rfl rfl (f := 28) (args := #[.slice a0 N1 p0, .int .i64 tz]) (by simp [execOp, Act.eval, resolve, h0, h1, go_sem]) ?_
                  exact ov_of (var_any a0 N1 p0 D1 tz w1 r0 HN1.out (by omega) (by have := HTB.out; unfold Mk.B W64 at this; simp only at this; omega)) (HW.out.trans (hJ.mono HW.out.size)) HD2.out
                · intro hne lo hi ph hran hp1 hp2 a w1 hJ hsz hs      -- 7: slot 55
                  obtain ⟨rfl, rfl⟩ : 0 = lo ∧ 0 = hi := Prod.mk.inj (Option.some.inj hran)
                  obtain rfl : ph = 0 := by omega
                  obtain ⟨h0, _⟩ := hs
                  have h0 : a.tmps.getD 9 undef = .int .i64 1 := h0
                  refine op_run rfl rfl (v := .int .i64 1) (w' := w1) ?_ rfl (Below.refl _ _)
                  simp [execOp, Act.eval, h0, go_sem]
                · intro hne lo hi ph hran hp1 hp2 a w1 hJ hsz hs      -- 8: slot 56
                  obtain ⟨rfl, rfl⟩ : 0 = lo ∧ 0 = hi := Prod.mk.inj (Option.some.inj hran)
                  obtain rfl : ph = 0 := by omega
                  obtain ⟨h0, h1, _⟩ := hs
                  have m0 : (oV w D2).p w1 (a.tmps.getD 54 undef) := h0; obtain ⟨a0, p0, h0, r0⟩ := ov_row (n := N2) m0 HN2.out
                  have h1 : a.tmps.getD 55 undef = .int .i64 1 := h1
                  refine op_call rfl rfl (f := 28) (args := #[.slice a0 N2 p0, .int .i64 1]) (by simp [execOp, Act.eval, resolve, h0, h1, go_sem]) ?_
                  exact ov_of (var_any a0 N2 p0 D2 1 w1 r0 HN2.out (by omega) (by decide)) (HW.out.trans (hJ.mono HW.out.size)) HD3.out
                · intro hne lo hi ph hran hp1 hp2 a w1 hJ hsz hs      -- 9: slot 4
                  obtain ⟨rfl, rfl⟩ : 0 = lo ∧ 0 = hi := Prod.mk.inj (Option.some.inj hran)
                  obtain rfl : ph = 0 := by omega
                  obtain ⟨h0, _⟩ := hs
                  have m0 : (oV w D3).p w1 (a.tmps.getD 56 undef) := h0
                  exact op_run rfl rfl (v := a.tmps.getD 56 undef) (w' := w1) (by simp [execOp, Act.eval, go_sem]) m0 (Below.refl _ _)
              · show ∀ ph, ph < 0 → _
                iterate 0 (refine fls ?_ ?_)
                · exact fl0
              intro f w1 hJ hv
              have e4 : (oV w D3).p w1 (f 4) := hv 9 _ 4 rfl rfl
              clear hv
              try simp only [Exit.then]
              simp only [putAll, List.foldl_cons, List.foldl_nil, Option.getD_some, Act.put, List.setIfInBounds_toArray, List.set_cons_succ, List.set_cons_zero]
              generalize f 4 = v5 at e4 ⊢
              have o6 : Own w w1 v5 D3 := e4
              clear e4
              -- END C
              have HX6 := Lib.hid (HX.out.later hJ)
              obtain ⟨x0, x1, x2, x3⟩ := HX6.out.c4
              obtain ⟨a6, q6, rfl, r6⟩ := o6.row_n HN3.out
              have HB6 := Lib.hid o6.below
              have HTX := Lib.hid (text_any a6 N3 q6 D3 tn w1 r6 HN3.out (by omega) hls)
              rw [HD4.out, HDD.out] at HTX
              clear o6 r6 hJ
              go_wp2_with fail
              refine HTX.out.mono ?_
              rintro e w7 ⟨v7, rfl, o7⟩
              have HO7 := Lib.hid (o7.back HB6.out)
              clear o7
              go_wp2_with fail
              go_roundw
              case rel => exact ⟨j + 1, by go_num, by omega, HO7⟩
              case measure => simp [intOf]; omega
          · have : j = n := by omega
            subst this
            rw [headM_all HN.out] at hO
            obtain ⟨m, hm⟩ : ∃ m, (bodyH ⟨hs, ho, hu, hc, hx, hq, ts⟩).length = m := ⟨_, rfl⟩
            obtain ⟨a7, c7, rfl, r7⟩ := hO.out.row_n hm
            have HB2 := Lib.hid hO.out.below
            have HSL := Lib.hid (seal_any a7 m c7 (bodyH ⟨hs, ho, hu, hc, hx, hq, ts⟩) wr r7 hm (by have := HLB.out; omega))
            clear hO r7 hm
            go_wp2_with fail
            refine HSL.out.mono ?_
            rintro e w3 ⟨v8, rfl, o8⟩
            have HO8 := Lib.hid (o8.back HB2.out)
            clear o8
            go_wp2_with fail
            go_ret2
            exact ⟨_, rfl, HO8.out⟩
end Go.Proofs.Ytfjplhjlmilcfaa
