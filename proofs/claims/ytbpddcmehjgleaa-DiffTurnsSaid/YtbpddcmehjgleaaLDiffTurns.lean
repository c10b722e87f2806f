/- The law 'DiffTurns', walked. -/
import Derived.Test.YtbpddcmehjgleaaGDd
namespace Go.Proofs.Ytbpddcmehjgleaa
open Go.RowKit Go.Proofs
set_option linter.unusedVariables false
set_option linter.unusedSimpArgs false
set_option linter.unnecessarySimpa false

set_option maxRecDepth 100000 in
set_option maxHeartbeats 12800000 in
theorem diffTurns_walk (size : Int) (a1 : Option Addr) (n1 c1 : Nat) (l1 : List Ev) (a2 : Option Addr) (n2 c2 : Nat) (l2 : List Ev) (a3 : Option Addr) (n3 c3 : Nat) (l3 : List Ev) (w : World) (h1 : QE allJ w (.slice a1 n1 c1) l1) (h2 : QE allJ w (.slice a2 n2 c2) l2) (h3 : QE allJ w (.slice a3 n3 c3) l3) :
    Calls Try.prog 8 #[.int .i64 size, .slice a1 n1 c1, .slice a2 n2 c2, .slice a3 n3 c3] w fun x w' => x = .returned (.bool true) ∧ Below w.heap.size w w' := by
  have ub0 := Try.underlying32
  have HB := Lib.hid (Below.refl w.heap.size w)
  have HL1 := Lib.hid (h1)
  have HL2 := Lib.hid (h2)
  have HL3 := Lib.hid (h3)
  clear h1 h2 h3
  go_enter Try.func8, Try.ntmps8
  go_wp2_with fail
  obtain ⟨B1, hB1⟩ : ∃ z, smallE l1 30 = z := ⟨_, rfl⟩
  refine (small14_any a1 n1 c1 l1 30 allJ _ HL1.out).mono ?_
  rw [hB1]
  rintro e w1 ⟨rfl, b⟩
  have HB1 := Lib.hid hB1
  clear hB1
  replace HB := Lib.hid (HB.out.trans (b.mono HB.out.size))
  replace HL1 := Lib.hid (HL1.out.later ev_rel b)
  replace HL2 := Lib.hid (HL2.out.later ev_rel b)
  replace HL3 := Lib.hid (HL3.out.later ev_rel b)
  clear b
  cases B1 with
  | false =>
    go_wp2_with fail
    refine (known15_any _).mono ?_
    rintro e wk ⟨rfl, bk⟩
    have HBk := Lib.hid (HB.out.trans (bk.mono HB.out.size))
    clear bk
    go_wp2_with fail
    go_ret
    exact ⟨rfl, HBk.out⟩
  | true =>
    go_wp2_with fail
    obtain ⟨B2, hB2⟩ : ∃ z, smallE l2 30 = z := ⟨_, rfl⟩
    refine (small14_any a2 n2 c2 l2 30 allJ _ HL2.out).mono ?_
    rw [hB2]
    rintro e w2 ⟨rfl, b⟩
    have HB2 := Lib.hid hB2
    clear hB2
    replace HB := Lib.hid (HB.out.trans (b.mono HB.out.size))
    replace HL1 := Lib.hid (HL1.out.later ev_rel b)
    replace HL2 := Lib.hid (HL2.out.later ev_rel b)
    replace HL3 := Lib.hid (HL3.out.later ev_rel b)
    clear b
    cases B2 with
    | false =>
      go_wp2_with fail
      refine (known15_any _).mono ?_
      rintro e wk ⟨rfl, bk⟩
      have HBk := Lib.hid (HB.out.trans (bk.mono HB.out.size))
      clear bk
      go_wp2_with fail
      go_ret
      exact ⟨rfl, HBk.out⟩
    | true =>
      go_wp2_with fail
      obtain ⟨B3, hB3⟩ : ∃ z, smallE l3 30 = z := ⟨_, rfl⟩
      refine (small14_any a3 n3 c3 l3 30 allJ _ HL3.out).mono ?_
      rw [hB3]
      rintro e w3 ⟨rfl, b⟩
      have HB3 := Lib.hid hB3
      clear hB3
      replace HB := Lib.hid (HB.out.trans (b.mono HB.out.size))
      replace HL1 := Lib.hid (HL1.out.later ev_rel b)
      replace HL2 := Lib.hid (HL2.out.later ev_rel b)
      replace HL3 := Lib.hid (HL3.out.later ev_rel b)
      clear b
      cases B3 with
      | false =>
        go_wp2_with fail
        refine (known15_any _).mono ?_
        rintro e wk ⟨rfl, bk⟩
        have HBk := Lib.hid (HB.out.trans (bk.mono HB.out.size))
        clear bk
        go_wp2_with fail
        go_ret
        exact ⟨rfl, HBk.out⟩
      | true =>
        have HOA := Lib.hid (foldM_ok (newM_ok size) l1)
        have HOB := Lib.hid (foldM_ok (newM_ok size) l2)
        have HOC := Lib.hid (foldM_ok HOB.out l3)
        obtain ⟨A, hA⟩ : ∃ z, foldM (newM size) l1 = z := ⟨_, rfl⟩
        obtain ⟨B, hB⟩ : ∃ z, foldM (newM size) l2 = z := ⟨_, rfl⟩
        rw [hA] at HOA
        rw [hB] at HOB HOC
        obtain ⟨C, hC⟩ : ∃ z, foldM B l3 = z := ⟨_, rfl⟩
        rw [hC] at HOC
        have HEA := Lib.hid hA
        have HEB := Lib.hid hB
        have HEC := Lib.hid hC
        clear hA hB hC
        go_wp2_with fail
        refine (pnew14_any size _).mono ?_
        rintro e w4 ⟨d, v, rfl, hs, b⟩
        replace HB := Lib.hid (HB.out.trans (b.mono HB.out.size))
        replace HL1 := Lib.hid (HL1.out.later ev_rel b)
        replace HL2 := Lib.hid (HL2.out.later ev_rel b)
        replace HL3 := Lib.hid (HL3.out.later ev_rel b)
        have HN := Lib.hid hs
        clear hs b
        go_wp2_with fail
        refine (pfold14_any d v (newM size) a1 n1 c1 l1 _ allJ _ HN.out (newM_ok size) HL1.out).mono ?_
        rw [HEA.out]
        rintro e w5 ⟨d, v, rfl, hs, b⟩
        replace HB := Lib.hid (HB.out.trans (b.mono HB.out.size))
        replace HL1 := Lib.hid (HL1.out.later ev_rel b)
        replace HL2 := Lib.hid (HL2.out.later ev_rel b)
        replace HL3 := Lib.hid (HL3.out.later ev_rel b)
        replace HN := Lib.hid (HN.out.later b)
        obtain ⟨p1, p2, p3, p4, p5, p6, rfl, rfl⟩ := hs.shape
        have b2 := below_st w5 #[.slice p1 p2 p3, .slice p4 p5 p6]
        have HA := Lib.hid (SAt.new hs.all)
        replace HB := Lib.hid (HB.out.trans (b2.mono HB.out.size))
        replace HL1 := Lib.hid (HL1.out.later ev_rel b2)
        replace HL2 := Lib.hid (HL2.out.later ev_rel b2)
        replace HL3 := Lib.hid (HL3.out.later ev_rel b2)
        replace HN := Lib.hid (HN.out.later b2)
        clear hs b b2
        go_upto_region 4 with fail
        obtain ⟨w6, hw⟩ : ∃ W, w5.alloc (.cells #[.slice p1 p2 p3, .slice p4 p5 p6] 32) = W := ⟨_, rfl⟩
        rw [hw] at HB HL1 HL2 HL3 HN HA ⊢
        obtain ⟨PA, hX⟩ : ∃ X, w5.heap.size = X := ⟨_, rfl⟩
        rw [hX] at HA ⊢
        clear hw hX
        clear HN
        go_wp2_with fail
        refine (pnew14_any size _).mono ?_
        rintro e w7 ⟨d, v, rfl, hs, b⟩
        replace HB := Lib.hid (HB.out.trans (b.mono HB.out.size))
        replace HL1 := Lib.hid (HL1.out.later ev_rel b)
        replace HL2 := Lib.hid (HL2.out.later ev_rel b)
        replace HL3 := Lib.hid (HL3.out.later ev_rel b)
        replace HA := Lib.hid (HA.out.later b)
        have HN := Lib.hid hs
        clear hs b
        go_wp2_with fail
        refine (pfold14_any d v (newM size) a2 n2 c2 l2 _ allJ _ HN.out (newM_ok size) HL2.out).mono ?_
        rw [HEB.out]
        rintro e w8 ⟨d, v, rfl, hs, b⟩
        replace HB := Lib.hid (HB.out.trans (b.mono HB.out.size))
        replace HL1 := Lib.hid (HL1.out.later ev_rel b)
        replace HL2 := Lib.hid (HL2.out.later ev_rel b)
        replace HL3 := Lib.hid (HL3.out.later ev_rel b)
        replace HA := Lib.hid (HA.out.later b)
        replace HN := Lib.hid (HN.out.later b)
        obtain ⟨p1, p2, p3, p4, p5, p6, rfl, rfl⟩ := hs.shape
        have b2 := below_st w8 #[.slice p1 p2 p3, .slice p4 p5 p6]
        have HBB := Lib.hid (SAt.new hs.all)
        replace HB := Lib.hid (HB.out.trans (b2.mono HB.out.size))
        replace HL1 := Lib.hid (HL1.out.later ev_rel b2)
        replace HL2 := Lib.hid (HL2.out.later ev_rel b2)
        replace HL3 := Lib.hid (HL3.out.later ev_rel b2)
        replace HA := Lib.hid (HA.out.later b2)
        replace HN := Lib.hid (HN.out.later b2)
        clear hs b b2
        go_upto_region 5 with fail
        obtain ⟨w9, hw⟩ : ∃ W, w8.alloc (.cells #[.slice p1 p2 p3, .slice p4 p5 p6] 32) = W := ⟨_, rfl⟩
        rw [hw] at HB HL1 HL2 HL3 HA HN HBB ⊢
        obtain ⟨PB, hX⟩ : ∃ X, w8.heap.size = X := ⟨_, rfl⟩
        rw [hX] at HBB ⊢
        clear hw hX
        clear HN
        obtain ⟨ya, yn, yc, yd, ym, ye, yR, yS⟩ := HBB.out
        obtain ⟨y0, y1⟩ := yR.c2
        go_wp2_with fail
        refine (pfold14_any (.slice ya yn yc) (.slice yd ym ye) B a3 n3 c3 l3 _ allJ _ yS HOB.out HL3.out).mono ?_
        rw [HEC.out]
        rintro e w10 ⟨d, v, rfl, hs, b⟩
        replace HB := Lib.hid (HB.out.trans (b.mono HB.out.size))
        replace HL1 := Lib.hid (HL1.out.later ev_rel b)
        replace HL2 := Lib.hid (HL2.out.later ev_rel b)
        replace HL3 := Lib.hid (HL3.out.later ev_rel b)
        replace HA := Lib.hid (HA.out.later b)
        replace HBB := Lib.hid (HBB.out.later b)
        obtain ⟨p1, p2, p3, p4, p5, p6, rfl, rfl⟩ := hs.shape
        have b2 := below_st w10 #[.slice p1 p2 p3, .slice p4 p5 p6]
        have HC := Lib.hid (SAt.new hs.all)
        replace HB := Lib.hid (HB.out.trans (b2.mono HB.out.size))
        replace HL1 := Lib.hid (HL1.out.later ev_rel b2)
        replace HL2 := Lib.hid (HL2.out.later ev_rel b2)
        replace HL3 := Lib.hid (HL3.out.later ev_rel b2)
        replace HA := Lib.hid (HA.out.later b2)
        replace HBB := Lib.hid (HBB.out.later b2)
        clear hs b b2
        go_upto_region 6 with fail
        obtain ⟨w11, hw⟩ : ∃ W, w10.alloc (.cells #[.slice p1 p2 p3, .slice p4 p5 p6] 32) = W := ⟨_, rfl⟩
        rw [hw] at HB HL1 HL2 HL3 HA HBB HC ⊢
        obtain ⟨PC, hX⟩ : ∃ X, w10.heap.size = X := ⟨_, rfl⟩
        rw [hX] at HC ⊢
        clear hw hX
        clear y0 y1 yR yS
        clear HEA HEB HEC
        obtain ⟨WAB, hW⟩ : ∃ z, wayS A B = z := ⟨_, rfl⟩
        have HFAB : Hid (foldM A WAB = B) := Lib.hid (by rw [← hW]; exact wayS_fold HOA.out HOB.out)
        obtain ⟨NAB, hN⟩ : ∃ z, WAB.length = z := ⟨_, rfl⟩
        have HNAB := Lib.hid hN
        have HWAB := Lib.hid hW
        clear hW hN
        obtain ⟨WBA, hW⟩ : ∃ z, wayS B A = z := ⟨_, rfl⟩
        have HFBA : Hid (foldM B WBA = A) := Lib.hid (by rw [← hW]; exact wayS_fold HOB.out HOA.out)
        obtain ⟨NBA, hN⟩ : ∃ z, WBA.length = z := ⟨_, rfl⟩
        have HNBA := Lib.hid hN
        have HWBA := Lib.hid hW
        clear hW hN
        obtain ⟨WAC, hW⟩ : ∃ z, wayS A C = z := ⟨_, rfl⟩
        have HFAC : Hid (foldM A WAC = C) := Lib.hid (by rw [← hW]; exact wayS_fold HOA.out HOC.out)
        obtain ⟨NAC, hN⟩ : ∃ z, WAC.length = z := ⟨_, rfl⟩
        have HNAC := Lib.hid hN
        have HWAC := Lib.hid hW
        clear hW hN
        obtain ⟨WCB, hW⟩ : ∃ z, wayS C B = z := ⟨_, rfl⟩
        have HFCB : Hid (foldM C WCB = B) := Lib.hid (by rw [← hW]; exact wayS_fold HOC.out HOB.out)
        obtain ⟨NCB, hN⟩ : ∃ z, WCB.length = z := ⟨_, rfl⟩
        have HNCB := Lib.hid hN
        have HWCB := Lib.hid hW
        clear hW hN
        clear HL1
        clear HL2
        clear HL3
        obtain ⟨wo, hwo⟩ : ∃ W, w11 = W := ⟨_, rfl⟩
        rw [hwo] at HB HA HBB HC ⊢
        clear hwo
        obtain ⟨xa, xn, xc, xd, xm, xe, xR, xS⟩ := HA.out
        have HRA := Lib.hid xR
        have HSA := Lib.hid xS
        clear xR xS
        obtain ⟨ya, yn, yc, yd, ym, ye, yR, yS⟩ := HBB.out
        have HRB := Lib.hid yR
        have HSB := Lib.hid yS
        clear yR yS
        obtain ⟨za, zn, zc, zd, zm, ze, zR, zS⟩ := HC.out
        have HRC := Lib.hid zR
        have HSC := Lib.hid zS
        clear zR zS
        -- REG T6
        refine wp_region_ptabW (L := fun ph => match ph with | 0 => [cV (.agg #[.slice xa xn xc, .slice xd xm xe]), cV (.agg #[.slice xa xn xc, .slice xd xm xe]), cV (.agg #[.slice ya yn yc, .slice yd ym ye]), weV WAB NAB, stV allJ B, cV (.agg #[.slice ya yn yc, .slice yd ym ye]), cV (.agg #[.slice xa xn xc, .slice xd xm xe]), weV WBA NBA, stV allJ A, zsV wo, tV] | _ => [cV (.agg #[.slice xa xn xc, .slice xd xm xe]), cV (.agg #[.slice xa xn xc, .slice xd xm xe]), cV (.agg #[.slice ya yn yc, .slice yd ym ye]), tV, tV, cV (.agg #[.slice ya yn yc, .slice yd ym ye]), cV (.agg #[.slice xa xn xc, .slice xd xm xe]), tV, tV, rjV allJ wo A, tV]) (fun _ wq => Below wo.heap.size wo wq) [10] [(0, 0), (0, 0), (0, 0), (0, 0), (0, 0), (0, 0), (0, 0), (0, 0), (0, 0), (0, 0), (0, 1)] [[(9, none)], [(9, none)], [(10, none)], [(40, some 1), (41, some 2)], [(39, some 0), (42, some 3)], [(10, none)], [(9, none)], [(44, some 5), (45, some 6)], [(43, some 4), (46, some 7)], [], [(12, some 9), (47, some 8)]] 11 1 82 (by kernel_rfl) rfl rfl rfl (by kernel_rfl) (by kernel_rfl) (by decide) (by kernel_rfl) ?_ ?_ ?_ ?_ ?_
        · exact fun ph w1 w2 h hb => h.trans (hb.mono h.size)
        · exact (Below.refl _ _)
        · show ∀ i, i < 11 → _
          iterate 11 (refine fls ?_ ?_)
          · exact fl0
          · intro hne lo hi ph hran hp1 hp2 a w1 hJ hsz hs      -- 0: slot 39
            obtain ⟨rfl, rfl⟩ : 0 = lo ∧ 0 = hi := Prod.mk.inj (Option.some.inj hran)
            obtain rfl : ph = 0 := by omega
            obtain ⟨h0, _⟩ := hs
            have h0 : a.tmps.getD 9 undef = .pointer (some ⟨PA, 0, none⟩) := h0
            obtain ⟨k0, k1⟩ := (HRA.out.later (show Below wo.heap.size wo w1 from hJ)).c2
            refine op_run rfl rfl (v := .agg #[.slice xa xn xc, .slice xd xm xe]) (w' := w1) ?_ rfl (Below.refl _ _)
            simp [execOp, Act.eval, h0, k0, k1, go_sem]
          · intro hne lo hi ph hran hp1 hp2 a w1 hJ hsz hs      -- 1: slot 40
            obtain ⟨rfl, rfl⟩ : 0 = lo ∧ 0 = hi := Prod.mk.inj (Option.some.inj hran)
            obtain rfl : ph = 0 := by omega
            obtain ⟨h0, _⟩ := hs
            have h0 : a.tmps.getD 9 undef = .pointer (some ⟨PA, 0, none⟩) := h0
            obtain ⟨k0, k1⟩ := (HRA.out.later (show Below wo.heap.size wo w1 from hJ)).c2
            refine op_run rfl rfl (v := .agg #[.slice xa xn xc, .slice xd xm xe]) (w' := w1) ?_ rfl (Below.refl _ _)
            simp [execOp, Act.eval, h0, k0, k1, go_sem]
          · intro hne lo hi ph hran hp1 hp2 a w1 hJ hsz hs      -- 2: slot 41
            obtain ⟨rfl, rfl⟩ : 0 = lo ∧ 0 = hi := Prod.mk.inj (Option.some.inj hran)
            obtain rfl : ph = 0 := by omega
            obtain ⟨h0, _⟩ := hs
            have h0 : a.tmps.getD 10 undef = .pointer (some ⟨PB, 0, none⟩) := h0
            obtain ⟨k0, k1⟩ := (HRB.out.later (show Below wo.heap.size wo w1 from hJ)).c2
            refine op_run rfl rfl (v := .agg #[.slice ya yn yc, .slice yd ym ye]) (w' := w1) ?_ rfl (Below.refl _ _)
            simp [execOp, Act.eval, h0, k0, k1, go_sem]
          · intro hne lo hi ph hran hp1 hp2 a w1 hJ hsz hs      -- 3: slot 42
            obtain ⟨rfl, rfl⟩ : 0 = lo ∧ 0 = hi := Prod.mk.inj (Option.some.inj hran)
            obtain rfl : ph = 0 := by omega
            obtain ⟨h0, h1, _⟩ := hs
            have h0 : a.tmps.getD 40 undef = .agg #[.slice xa xn xc, .slice xd xm xe] := h0
            have h1 : a.tmps.getD 41 undef = .agg #[.slice ya yn yc, .slice yd ym ye] := h1
            refine op_call rfl rfl (f := 18) (args := #[.agg #[.slice xa xn xc, .slice xd xm xe], .agg #[.slice ya yn yc, .slice yd ym ye]]) (by simp [execOp, Act.eval, resolve, h0, h1, go_sem]) ?_
            exact calls_we (pway15_any (.slice xa xn xc) (.slice xd xm xe) (.slice ya yn yc) (.slice yd ym ye) A B allJ allJ w1 (HSA.out.later (show Below wo.heap.size wo w1 from hJ)) (HSB.out.later (show Below wo.heap.size wo w1 from hJ)) HOA.out.may HOB.out.may) HWAB.out HNAB.out
          · intro hne lo hi ph hran hp1 hp2 a w1 hJ hsz hs      -- 4: slot 43
            obtain ⟨rfl, rfl⟩ : 0 = lo ∧ 0 = hi := Prod.mk.inj (Option.some.inj hran)
            obtain rfl : ph = 0 := by omega
            obtain ⟨h0, h1, _⟩ := hs
            have h0 : a.tmps.getD 39 undef = .agg #[.slice xa xn xc, .slice xd xm xe] := h0
            obtain ⟨a1, c1, e1, q1⟩ := (show ∃ p q, a.tmps.getD 42 undef = .slice p NAB q ∧ QE allJ w1 (.slice p NAB q) WAB from h1); have h1 : a.tmps.getD 42 undef = .slice a1 NAB c1 := e1
            refine op_call rfl rfl (f := 20) (args := #[.agg #[.slice xa xn xc, .slice xd xm xe], .slice a1 NAB c1]) (by simp [execOp, Act.eval, resolve, h0, h1, go_sem]) ?_
            exact calls_fo (pfold14_any (.slice xa xn xc) (.slice xd xm xe) A a1 NAB c1 WAB allJ allJ w1 (HSA.out.later (show Below wo.heap.size wo w1 from hJ)) HOA.out q1) HFAB.out
          · intro hne lo hi ph hran hp1 hp2 a w1 hJ hsz hs      -- 5: slot 44
            obtain ⟨rfl, rfl⟩ : 0 = lo ∧ 0 = hi := Prod.mk.inj (Option.some.inj hran)
            obtain rfl : ph = 0 := by omega
            obtain ⟨h0, _⟩ := hs
            have h0 : a.tmps.getD 10 undef = .pointer (some ⟨PB, 0, none⟩) := h0
            obtain ⟨k0, k1⟩ := (HRB.out.later (show Below wo.heap.size wo w1 from hJ)).c2
            refine op_run rfl rfl (v := .agg #[.slice ya yn yc, .slice yd ym ye]) (w' := w1) ?_ rfl (Below.refl _ _)
            simp [execOp, Act.eval, h0, k0, k1, go_sem]
          · intro hne lo hi ph hran hp1 hp2 a w1 hJ hsz hs      -- 6: slot 45
            obtain ⟨rfl, rfl⟩ : 0 = lo ∧ 0 = hi := Prod.mk.inj (Option.some.inj hran)
            obtain rfl : ph = 0 := by omega
            obtain ⟨h0, _⟩ := hs
            have h0 : a.tmps.getD 9 undef = .pointer (some ⟨PA, 0, none⟩) := h0
            obtain ⟨k0, k1⟩ := (HRA.out.later (show Below wo.heap.size wo w1 from hJ)).c2
            refine op_run rfl rfl (v := .agg #[.slice xa xn xc, .slice xd xm xe]) (w' := w1) ?_ rfl (Below.refl _ _)
            simp [execOp, Act.eval, h0, k0, k1, go_sem]
          · intro hne lo hi ph hran hp1 hp2 a w1 hJ hsz hs      -- 7: slot 46
            obtain ⟨rfl, rfl⟩ : 0 = lo ∧ 0 = hi := Prod.mk.inj (Option.some.inj hran)
            obtain rfl : ph = 0 := by omega
            obtain ⟨h0, h1, _⟩ := hs
            have h0 : a.tmps.getD 44 undef = .agg #[.slice ya yn yc, .slice yd ym ye] := h0
            have h1 : a.tmps.getD 45 undef = .agg #[.slice xa xn xc, .slice xd xm xe] := h1
            refine op_call rfl rfl (f := 18) (args := #[.agg #[.slice ya yn yc, .slice yd ym ye], .agg #[.slice xa xn xc, .slice xd xm xe]]) (by simp [execOp, Act.eval, resolve, h0, h1, go_sem]) ?_
            exact calls_we (pway15_any (.slice ya yn yc) (.slice yd ym ye) (.slice xa xn xc) (.slice xd xm xe) B A allJ allJ w1 (HSB.out.later (show Below wo.heap.size wo w1 from hJ)) (HSA.out.later (show Below wo.heap.size wo w1 from hJ)) HOB.out.may HOA.out.may) HWBA.out HNBA.out
          · intro hne lo hi ph hran hp1 hp2 a w1 hJ hsz hs      -- 8: slot 47
            obtain ⟨rfl, rfl⟩ : 0 = lo ∧ 0 = hi := Prod.mk.inj (Option.some.inj hran)
            obtain rfl : ph = 0 := by omega
            obtain ⟨h0, h1, _⟩ := hs
            obtain ⟨d0, v0, e0, q0⟩ := (show ∃ p q, a.tmps.getD 43 undef = .agg #[p, q] ∧ StA allJ w1 p q B from h0); have h0 : a.tmps.getD 43 undef = .agg #[d0, v0] := e0
            obtain ⟨a1, c1, e1, q1⟩ := (show ∃ p q, a.tmps.getD 46 undef = .slice p NBA q ∧ QE allJ w1 (.slice p NBA q) WBA from h1); have h1 : a.tmps.getD 46 undef = .slice a1 NBA c1 := e1
            refine op_call rfl rfl (f := 20) (args := #[.agg #[d0, v0], .slice a1 NBA c1]) (by simp [execOp, Act.eval, resolve, h0, h1, go_sem]) ?_
            exact calls_fo (pfold14_any d0 v0 B a1 NBA c1 WBA allJ allJ w1 q0 HOB.out q1) HFBA.out
          · intro hne lo hi ph hran hp1 hp2 a w1 hJ hsz hs      -- 9: slot 12
            obtain ⟨rfl, rfl⟩ : 0 = lo ∧ 0 = hi := Prod.mk.inj (Option.some.inj hran)
            obtain rfl : ph = 0 := by omega
            refine op_run rfl rfl (v := .pointer (some ⟨w1.heap.size, 0, none⟩)) (w' := w1.alloc (.cells zeroSt 32)) ?_ ⟨w1.heap.size, rfl, RecAt.new w1 _ _, (show Below wo.heap.size wo w1 from hJ).size⟩ ((Below.refl _ _).alloc (Nat.le_refl _) _)
            simp [execOp, Act.eval, go_sem, ub0, zeroSt]
          · intro hne lo hi ph hran hp1 hp2 a w1 hJ hsz hs      -- 10: slot None
            exact absurd (by decide) hne
        · show ∀ ph, ph < 1 → _
          iterate 1 (refine fls ?_ ?_)
          · exact fl0
          · intro i hi a w1 hJ hsz hs      -- heavy 0: op 10 slot None
            obtain rfl : 10 = i := Option.some.inj hi
            obtain ⟨h0, h1, _⟩ := hs
            have m0 : (zsV wo).p w1 (a.tmps.getD 12 undef) := h0
            obtain ⟨d1, v1, e1, q1⟩ := (show ∃ p q, a.tmps.getD 47 undef = .agg #[p, q] ∧ StA allJ w1 p q A from h1); have h1 : a.tmps.getD 47 undef = .agg #[d1, v1] := e1
            obtain ⟨PX, hvx, hX, hXs⟩ := (show ∃ g, a.tmps.getD 12 undef = .pointer (some ⟨g, 0, none⟩) ∧ RecAt w1 g zeroSt 32 ∧ wo.heap.size ≤ g from m0)
            have md := q1
            obtain ⟨qa, qb, qc, qd, qe, qf, rfl, rfl⟩ := md.shape
            have hone : (#[.slice qa qb qc, .slice qd qe qf] : Array Value).all (·.oneCell') = true := by simp [Value.oneCell']
            refine hv_recW rfl rfl (x := PX) (p := .tmp 12) (v := .tmp 47) (cs := zeroSt) (vs := #[.slice qa qb qc, .slice qd qe qf]) rfl hvx h1 hX rfl (by kernel_rfl) hone (fun w' => trivial) ?_
            intro w' r1 r2 r3 r4
            have hb : Below wo.heap.size wo w' := (show Below wo.heap.size wo w1 from hJ).grown r4 (show Below wo.heap.size wo w1 from hJ).size (fun q e => by cases e; exact hXs)
            have o1 : StA allJ w' (.slice qa qb qc) (.slice qd qe qf) A := ((md.lessRec hX).keep (fun b hb2 hj => r3 b hj.2) (Nat.le_of_eq r2.symm)).weak fun b _ hj => hj.1
            exact ⟨hb, CalmW.all ⟨.inr fun _ _ h => h, .inr fun _ _ h => h, .inr fun _ _ h => h, .inr fun _ _ _ => trivial, .inr fun _ _ _ => trivial, .inr fun _ _ h => h, .inr fun _ _ h => h, .inr fun _ _ _ => trivial, .inr fun _ _ _ => trivial, .inr fun v hh _ => ⟨PX, _, _, (hh _ _ rfl rfl).trans hvx, r1, hXs, o1⟩, .inl rfl, trivial⟩⟩
        intro f w1 hJ hv
        have eD : (rjV allJ wo A).p w1 (f 12) := hv 9 _ 12 rfl rfl
        have hbo : Below wo.heap.size wo w1 := hJ
        clear hv
        try simp only [Exit.then]
        simp only [putAll, List.foldl_cons, List.foldl_nil, Option.getD_some, Act.put, List.setIfInBounds_toArray, List.set_cons_succ, List.set_cons_zero]
        obtain ⟨PD, d1, v1, eD, r6, hXs, o1⟩ := eD
        rw [eD]
        clear hJ eD
        -- END T6
        have HD : Hid (SAt allJ w1 PD A) := Lib.hid (by obtain ⟨q1, q2, q3, q4, q5, q6, rfl, rfl⟩ := o1.shape; exact ⟨_, _, _, _, _, _, r6, o1⟩)
        replace HA := Lib.hid (HA.out.later hbo)
        replace HBB := Lib.hid (HBB.out.later hbo)
        replace HC := Lib.hid (HC.out.later hbo)
        replace HB := Lib.hid (HB.out.trans (hbo.mono HB.out.size))
        clear r6 o1 hbo hXs HRA HRB HRC HSA HSB HSC
        obtain ⟨w12, hww⟩ : ∃ W, w1 = W := ⟨_, rfl⟩
        rw [hww] at HB HA HBB HC HD ⊢
        clear hww
        go_upto_region 7 with fail
        obtain ⟨wo, hwo⟩ : ∃ W, w12 = W := ⟨_, rfl⟩
        rw [hwo] at HB HA HBB HC HD ⊢
        clear hwo
        obtain ⟨xa, xn, xc, xd, xm, xe, xR, xS⟩ := HA.out
        have HRA := Lib.hid xR
        have HSA := Lib.hid xS
        clear xR xS
        obtain ⟨ya, yn, yc, yd, ym, ye, yR, yS⟩ := HBB.out
        have HRB := Lib.hid yR
        have HSB := Lib.hid yS
        clear yR yS
        obtain ⟨za, zn, zc, zd, zm, ze, zR, zS⟩ := HC.out
        have HRC := Lib.hid zR
        have HSC := Lib.hid zS
        clear zR zS
        -- REG T7
        refine wp_region_ptabW (L := fun ph => match ph with | 0 => [cV (.agg #[.slice xa xn xc, .slice xd xm xe]), cV (.agg #[.slice xa xn xc, .slice xd xm xe]), cV (.agg #[.slice za zn zc, .slice zd zm ze]), weV WAC NAC, stV allJ C, cV (.agg #[.slice za zn zc, .slice zd zm ze]), cV (.agg #[.slice ya yn yc, .slice yd ym ye]), weV WCB NCB, stV allJ B, zsV wo, tV] | _ => [cV (.agg #[.slice xa xn xc, .slice xd xm xe]), cV (.agg #[.slice xa xn xc, .slice xd xm xe]), cV (.agg #[.slice za zn zc, .slice zd zm ze]), tV, tV, cV (.agg #[.slice za zn zc, .slice zd zm ze]), cV (.agg #[.slice ya yn yc, .slice yd ym ye]), tV, tV, rjV allJ wo B, tV]) (fun _ wq => Below wo.heap.size wo wq) [10] [(0, 0), (0, 0), (0, 0), (0, 0), (0, 0), (0, 0), (0, 0), (0, 0), (0, 0), (0, 0), (0, 1)] [[(9, none)], [(9, none)], [(11, none)], [(49, some 1), (50, some 2)], [(48, some 0), (51, some 3)], [(11, none)], [(10, none)], [(53, some 5), (54, some 6)], [(52, some 4), (55, some 7)], [], [(13, some 9), (56, some 8)]] 11 1 82 (by kernel_rfl) rfl rfl rfl (by kernel_rfl) (by kernel_rfl) (by decide) (by kernel_rfl) ?_ ?_ ?_ ?_ ?_
        · exact fun ph w1 w2 h hb => h.trans (hb.mono h.size)
        · exact (Below.refl _ _)
        · show ∀ i, i < 11 → _
          iterate 11 (refine fls ?_ ?_)
          · exact fl0
          · intro hne lo hi ph hran hp1 hp2 a w1 hJ hsz hs      -- 0: slot 48
            obtain ⟨rfl, rfl⟩ : 0 = lo ∧ 0 = hi := Prod.mk.inj (Option.some.inj hran)
            obtain rfl : ph = 0 := by omega
            obtain ⟨h0, _⟩ := hs
            have h0 : a.tmps.getD 9 undef = .pointer (some ⟨PA, 0, none⟩) := h0
            obtain ⟨k0, k1⟩ := (HRA.out.later (show Below wo.heap.size wo w1 from hJ)).c2
            refine op_run rfl rfl (v := .agg #[.slice xa xn xc, .slice xd xm xe]) (w' := w1) ?_ rfl (Below.refl _ _)
            simp [execOp, Act.eval, h0, k0, k1, go_sem]
          · intro hne lo hi ph hran hp1 hp2 a w1 hJ hsz hs      -- 1: slot 49
            obtain ⟨rfl, rfl⟩ : 0 = lo ∧ 0 = hi := Prod.mk.inj (Option.some.inj hran)
            obtain rfl : ph = 0 := by omega
            obtain ⟨h0, _⟩ := hs
            have h0 : a.tmps.getD 9 undef = .pointer (some ⟨PA, 0, none⟩) := h0
            obtain ⟨k0, k1⟩ := (HRA.out.later (show Below wo.heap.size wo w1 from hJ)).c2
            refine op_run rfl rfl (v := .agg #[.slice xa xn xc, .slice xd xm xe]) (w' := w1) ?_ rfl (Below.refl _ _)
            simp [execOp, Act.eval, h0, k0, k1, go_sem]
          · intro hne lo hi ph hran hp1 hp2 a w1 hJ hsz hs      -- 2: slot 50
            obtain ⟨rfl, rfl⟩ : 0 = lo ∧ 0 = hi := Prod.mk.inj (Option.some.inj hran)
            obtain rfl : ph = 0 := by omega
            obtain ⟨h0, _⟩ := hs
            have h0 : a.tmps.getD 11 undef = .pointer (some ⟨PC, 0, none⟩) := h0
            obtain ⟨k0, k1⟩ := (HRC.out.later (show Below wo.heap.size wo w1 from hJ)).c2
            refine op_run rfl rfl (v := .agg #[.slice za zn zc, .slice zd zm ze]) (w' := w1) ?_ rfl (Below.refl _ _)
            simp [execOp, Act.eval, h0, k0, k1, go_sem]
          · intro hne lo hi ph hran hp1 hp2 a w1 hJ hsz hs      -- 3: slot 51
            obtain ⟨rfl, rfl⟩ : 0 = lo ∧ 0 = hi := Prod.mk.inj (Option.some.inj hran)
            obtain rfl : ph = 0 := by omega
            obtain ⟨h0, h1, _⟩ := hs
            have h0 : a.tmps.getD 49 undef = .agg #[.slice xa xn xc, .slice xd xm xe] := h0
            have h1 : a.tmps.getD 50 undef = .agg #[.slice za zn zc, .slice zd zm ze] := h1
            refine op_call rfl rfl (f := 18) (args := #[.agg #[.slice xa xn xc, .slice xd xm xe], .agg #[.slice za zn zc, .slice zd zm ze]]) (by simp [execOp, Act.eval, resolve, h0, h1, go_sem]) ?_
            exact calls_we (pway15_any (.slice xa xn xc) (.slice xd xm xe) (.slice za zn zc) (.slice zd zm ze) A C allJ allJ w1 (HSA.out.later (show Below wo.heap.size wo w1 from hJ)) (HSC.out.later (show Below wo.heap.size wo w1 from hJ)) HOA.out.may HOC.out.may) HWAC.out HNAC.out
          · intro hne lo hi ph hran hp1 hp2 a w1 hJ hsz hs      -- 4: slot 52
            obtain ⟨rfl, rfl⟩ : 0 = lo ∧ 0 = hi := Prod.mk.inj (Option.some.inj hran)
            obtain rfl : ph = 0 := by omega
            obtain ⟨h0, h1, _⟩ := hs
            have h0 : a.tmps.getD 48 undef = .agg #[.slice xa xn xc, .slice xd xm xe] := h0
            obtain ⟨a1, c1, e1, q1⟩ := (show ∃ p q, a.tmps.getD 51 undef = .slice p NAC q ∧ QE allJ w1 (.slice p NAC q) WAC from h1); have h1 : a.tmps.getD 51 undef = .slice a1 NAC c1 := e1
            refine op_call rfl rfl (f := 20) (args := #[.agg #[.slice xa xn xc, .slice xd xm xe], .slice a1 NAC c1]) (by simp [execOp, Act.eval, resolve, h0, h1, go_sem]) ?_
            exact calls_fo (pfold14_any (.slice xa xn xc) (.slice xd xm xe) A a1 NAC c1 WAC allJ allJ w1 (HSA.out.later (show Below wo.heap.size wo w1 from hJ)) HOA.out q1) HFAC.out
          · intro hne lo hi ph hran hp1 hp2 a w1 hJ hsz hs      -- 5: slot 53
            obtain ⟨rfl, rfl⟩ : 0 = lo ∧ 0 = hi := Prod.mk.inj (Option.some.inj hran)
            obtain rfl : ph = 0 := by omega
            obtain ⟨h0, _⟩ := hs
            have h0 : a.tmps.getD 11 undef = .pointer (some ⟨PC, 0, none⟩) := h0
            obtain ⟨k0, k1⟩ := (HRC.out.later (show Below wo.heap.size wo w1 from hJ)).c2
            refine op_run rfl rfl (v := .agg #[.slice za zn zc, .slice zd zm ze]) (w' := w1) ?_ rfl (Below.refl _ _)
            simp [execOp, Act.eval, h0, k0, k1, go_sem]
          · intro hne lo hi ph hran hp1 hp2 a w1 hJ hsz hs      -- 6: slot 54
            obtain ⟨rfl, rfl⟩ : 0 = lo ∧ 0 = hi := Prod.mk.inj (Option.some.inj hran)
            obtain rfl : ph = 0 := by omega
            obtain ⟨h0, _⟩ := hs
            have h0 : a.tmps.getD 10 undef = .pointer (some ⟨PB, 0, none⟩) := h0
            obtain ⟨k0, k1⟩ := (HRB.out.later (show Below wo.heap.size wo w1 from hJ)).c2
            refine op_run rfl rfl (v := .agg #[.slice ya yn yc, .slice yd ym ye]) (w' := w1) ?_ rfl (Below.refl _ _)
            simp [execOp, Act.eval, h0, k0, k1, go_sem]
          · intro hne lo hi ph hran hp1 hp2 a w1 hJ hsz hs      -- 7: slot 55
            obtain ⟨rfl, rfl⟩ : 0 = lo ∧ 0 = hi := Prod.mk.inj (Option.some.inj hran)
            obtain rfl : ph = 0 := by omega
            obtain ⟨h0, h1, _⟩ := hs
            have h0 : a.tmps.getD 53 undef = .agg #[.slice za zn zc, .slice zd zm ze] := h0
            have h1 : a.tmps.getD 54 undef = .agg #[.slice ya yn yc, .slice yd ym ye] := h1
            refine op_call rfl rfl (f := 18) (args := #[.agg #[.slice za zn zc, .slice zd zm ze], .agg #[.slice ya yn yc, .slice yd ym ye]]) (by simp [execOp, Act.eval, resolve, h0, h1, go_sem]) ?_
            exact calls_we (pway15_any (.slice za zn zc) (.slice zd zm ze) (.slice ya yn yc) (.slice yd ym ye) C B allJ allJ w1 (HSC.out.later (show Below wo.heap.size wo w1 from hJ)) (HSB.out.later (show Below wo.heap.size wo w1 from hJ)) HOC.out.may HOB.out.may) HWCB.out HNCB.out
          · intro hne lo hi ph hran hp1 hp2 a w1 hJ hsz hs      -- 8: slot 56
            obtain ⟨rfl, rfl⟩ : 0 = lo ∧ 0 = hi := Prod.mk.inj (Option.some.inj hran)
            obtain rfl : ph = 0 := by omega
            obtain ⟨h0, h1, _⟩ := hs
            obtain ⟨d0, v0, e0, q0⟩ := (show ∃ p q, a.tmps.getD 52 undef = .agg #[p, q] ∧ StA allJ w1 p q C from h0); have h0 : a.tmps.getD 52 undef = .agg #[d0, v0] := e0
            obtain ⟨a1, c1, e1, q1⟩ := (show ∃ p q, a.tmps.getD 55 undef = .slice p NCB q ∧ QE allJ w1 (.slice p NCB q) WCB from h1); have h1 : a.tmps.getD 55 undef = .slice a1 NCB c1 := e1
            refine op_call rfl rfl (f := 20) (args := #[.agg #[d0, v0], .slice a1 NCB c1]) (by simp [execOp, Act.eval, resolve, h0, h1, go_sem]) ?_
            exact calls_fo (pfold14_any d0 v0 C a1 NCB c1 WCB allJ allJ w1 q0 HOC.out q1) HFCB.out
          · intro hne lo hi ph hran hp1 hp2 a w1 hJ hsz hs      -- 9: slot 13
            obtain ⟨rfl, rfl⟩ : 0 = lo ∧ 0 = hi := Prod.mk.inj (Option.some.inj hran)
            obtain rfl : ph = 0 := by omega
            refine op_run rfl rfl (v := .pointer (some ⟨w1.heap.size, 0, none⟩)) (w' := w1.alloc (.cells zeroSt 32)) ?_ ⟨w1.heap.size, rfl, RecAt.new w1 _ _, (show Below wo.heap.size wo w1 from hJ).size⟩ ((Below.refl _ _).alloc (Nat.le_refl _) _)
            simp [execOp, Act.eval, go_sem, ub0, zeroSt]
          · intro hne lo hi ph hran hp1 hp2 a w1 hJ hsz hs      -- 10: slot None
            exact absurd (by decide) hne
        · show ∀ ph, ph < 1 → _
          iterate 1 (refine fls ?_ ?_)
          · exact fl0
          · intro i hi a w1 hJ hsz hs      -- heavy 0: op 10 slot None
            obtain rfl : 10 = i := Option.some.inj hi
            obtain ⟨h0, h1, _⟩ := hs
            have m0 : (zsV wo).p w1 (a.tmps.getD 13 undef) := h0
            obtain ⟨d1, v1, e1, q1⟩ := (show ∃ p q, a.tmps.getD 56 undef = .agg #[p, q] ∧ StA allJ w1 p q B from h1); have h1 : a.tmps.getD 56 undef = .agg #[d1, v1] := e1
            obtain ⟨PX, hvx, hX, hXs⟩ := (show ∃ g, a.tmps.getD 13 undef = .pointer (some ⟨g, 0, none⟩) ∧ RecAt w1 g zeroSt 32 ∧ wo.heap.size ≤ g from m0)
            have md := q1
            obtain ⟨qa, qb, qc, qd, qe, qf, rfl, rfl⟩ := md.shape
            have hone : (#[.slice qa qb qc, .slice qd qe qf] : Array Value).all (·.oneCell') = true := by simp [Value.oneCell']
            refine hv_recW rfl rfl (x := PX) (p := .tmp 13) (v := .tmp 56) (cs := zeroSt) (vs := #[.slice qa qb qc, .slice qd qe qf]) rfl hvx h1 hX rfl (by kernel_rfl) hone (fun w' => trivial) ?_
            intro w' r1 r2 r3 r4
            have hb : Below wo.heap.size wo w' := (show Below wo.heap.size wo w1 from hJ).grown r4 (show Below wo.heap.size wo w1 from hJ).size (fun q e => by cases e; exact hXs)
            have o1 : StA allJ w' (.slice qa qb qc) (.slice qd qe qf) B := ((md.lessRec hX).keep (fun b hb2 hj => r3 b hj.2) (Nat.le_of_eq r2.symm)).weak fun b _ hj => hj.1
            exact ⟨hb, CalmW.all ⟨.inr fun _ _ h => h, .inr fun _ _ h => h, .inr fun _ _ h => h, .inr fun _ _ _ => trivial, .inr fun _ _ _ => trivial, .inr fun _ _ h => h, .inr fun _ _ h => h, .inr fun _ _ _ => trivial, .inr fun _ _ _ => trivial, .inr fun v hh _ => ⟨PX, _, _, (hh _ _ rfl rfl).trans hvx, r1, hXs, o1⟩, .inl rfl, trivial⟩⟩
        intro f w1 hJ hv
        have eD : (rjV allJ wo B).p w1 (f 13) := hv 9 _ 13 rfl rfl
        have hbo : Below wo.heap.size wo w1 := hJ
        clear hv
        try simp only [Exit.then]
        simp only [putAll, List.foldl_cons, List.foldl_nil, Option.getD_some, Act.put, List.setIfInBounds_toArray, List.set_cons_succ, List.set_cons_zero]
        obtain ⟨PE, d1, v1, eD, r6, hXs, o1⟩ := eD
        rw [eD]
        clear hJ eD
        -- END T7
        have HE : Hid (SAt allJ w1 PE B) := Lib.hid (by obtain ⟨q1, q2, q3, q4, q5, q6, rfl, rfl⟩ := o1.shape; exact ⟨_, _, _, _, _, _, r6, o1⟩)
        replace HA := Lib.hid (HA.out.later hbo)
        replace HBB := Lib.hid (HBB.out.later hbo)
        replace HC := Lib.hid (HC.out.later hbo)
        replace HD := Lib.hid (HD.out.later hbo)
        replace HB := Lib.hid (HB.out.trans (hbo.mono HB.out.size))
        clear r6 o1 hbo hXs HRA HRB HRC HSA HSB HSC
        obtain ⟨w13, hww⟩ : ∃ W, w1 = W := ⟨_, rfl⟩
        rw [hww] at HB HA HBB HC HD HE ⊢
        clear hww
        obtain ⟨xa, xn, xc, xd, xm, xe, xR, xS⟩ := HD.out
        obtain ⟨x0, x1⟩ := xR.c2
        obtain ⟨ya, yn, yc, yd, ym, ye, yR, yS⟩ := HA.out
        obtain ⟨y0, y1⟩ := yR.c2
        go_wp2_with fail
        refine (psame14_yes (.slice xa xn xc) (.slice xd xm xe) (.slice ya yn yc) (.slice yd ym ye) A A _ _ _ xS yS HOA.out.may HOA.out.may rfl).mono ?_
        rintro e w14 ⟨rfl, b⟩
        clear x0 x1 xR xS
        clear y0 y1 yR yS
        replace HB := Lib.hid (HB.out.trans (b.mono HB.out.size))
        replace HA := Lib.hid (HA.out.later b)
        replace HBB := Lib.hid (HBB.out.later b)
        replace HC := Lib.hid (HC.out.later b)
        replace HD := Lib.hid (HD.out.later b)
        replace HE := Lib.hid (HE.out.later b)
        clear b
        obtain ⟨xa, xn, xc, xd, xm, xe, xR, xS⟩ := HE.out
        obtain ⟨x0, x1⟩ := xR.c2
        obtain ⟨ya, yn, yc, yd, ym, ye, yR, yS⟩ := HBB.out
        obtain ⟨y0, y1⟩ := yR.c2
        go_wp2_with fail
        refine (psame14_yes (.slice xa xn xc) (.slice xd xm xe) (.slice ya yn yc) (.slice yd ym ye) B B _ _ _ xS yS HOB.out.may HOB.out.may rfl).mono ?_
        rintro e w15 ⟨rfl, b⟩
        clear x0 x1 xR xS
        clear y0 y1 yR yS
        replace HB := Lib.hid (HB.out.trans (b.mono HB.out.size))
        replace HA := Lib.hid (HA.out.later b)
        replace HBB := Lib.hid (HBB.out.later b)
        replace HC := Lib.hid (HC.out.later b)
        replace HD := Lib.hid (HD.out.later b)
        replace HE := Lib.hid (HE.out.later b)
        clear b
        obtain ⟨xa, xn, xc, xd, xm, xe, xR, xS⟩ := HA.out
        obtain ⟨x0, x1⟩ := xR.c2
        go_wp2_with fail
        refine (pway15_any (.slice xa xn xc) (.slice xd xm xe) (.slice xa xn xc) (.slice xd xm xe) A A _ _ _ xS xS HOA.out.may HOA.out.may).mono ?_
        rw [wayS_self HOA.out]
        rintro e w16 ⟨v9, rfl, o9⟩
        obtain ⟨a9, c9, rfl⟩ := o9.val evT_ok (n := 0) rfl
        have b := o9.below
        clear o9
        clear x0 x1 xR xS
        replace HB := Lib.hid (HB.out.trans (b.mono HB.out.size))
        replace HA := Lib.hid (HA.out.later b)
        replace HBB := Lib.hid (HBB.out.later b)
        replace HC := Lib.hid (HC.out.later b)
        replace HD := Lib.hid (HD.out.later b)
        replace HE := Lib.hid (HE.out.later b)
        clear b
        obtain ⟨xa, xn, xc, xd, xm, xe, xR, xS⟩ := HC.out
        obtain ⟨x0, x1⟩ := xR.c2
        go_wp2_with fail
        refine (pway15_any (.slice xa xn xc) (.slice xd xm xe) (.slice xa xn xc) (.slice xd xm xe) C C _ _ _ xS xS HOC.out.may HOC.out.may).mono ?_
        rw [wayS_self HOC.out]
        rintro e w17 ⟨v9, rfl, o9⟩
        obtain ⟨a9, c9, rfl⟩ := o9.val evT_ok (n := 0) rfl
        have b := o9.below
        clear o9
        clear x0 x1 xR xS
        replace HB := Lib.hid (HB.out.trans (b.mono HB.out.size))
        replace HA := Lib.hid (HA.out.later b)
        replace HBB := Lib.hid (HBB.out.later b)
        replace HC := Lib.hid (HC.out.later b)
        replace HD := Lib.hid (HD.out.later b)
        replace HE := Lib.hid (HE.out.later b)
        clear b
        go_wp2_with fail
        refine (known15_any _).mono ?_
        rintro e wk ⟨rfl, bk⟩
        have HBk := Lib.hid (HB.out.trans (bk.mono HB.out.size))
        clear bk
        go_wp2_with fail
        go_ret
        exact ⟨rfl, HBk.out⟩
end Go.Proofs.Ytbpddcmehjgleaa
