/- The law 'StripeShapes', walked. -/
import Derived.Test.YtalgjoeinllllaaSpK
namespace Go.Proofs.Ytalgjoeinllllaa
open Go.RowKit Go.Proofs
set_option linter.unusedVariables false
set_option linter.unusedSimpArgs false
set_option linter.unnecessarySimpa false

set_option maxRecDepth 100000 in
set_option maxHeartbeats 12800000 in
theorem stripeShapes_walk (a b c0 off0 n0 obj0 : Int) (w : World) : Calls Try.prog 4 #[.int .i64 a, .int .i64 b, .int .i64 c0, .int .i64 off0, .int .i64 n0, .int .i64 obj0] w fun x w' => x = .returned (.bool true) ∧ Below w.heap.size w w' := by
  have HSH := Lib.hid (fun W => shape12_any a b c0 W)
  obtain ⟨⟨o, u, c⟩, hsz⟩ : ∃ s, shapeZ a b c0 = s := ⟨_, rfl⟩
  rw [hsz] at HSH
  simp only at HSH
  obtain ⟨off, hoff⟩ : ∃ z, bits .and .i64 off0 511 = z := ⟨_, rfl⟩
  have hofr : 0 ≤ off ∧ off ≤ 511 := by rw [← hoff]; exact and_range off0 511 (by decide)
  obtain ⟨n1, hn1⟩ : ∃ z, bits .and .i64 n0 511 = z := ⟨_, rfl⟩
  have hn1r : 0 ≤ n1 ∧ n1 ≤ 511 := by rw [← hn1]; exact and_range n0 511 (by decide)
  obtain ⟨n, hn2⟩ : ∃ z, 1 + n1 = z := ⟨_, rfl⟩
  have hn : -9223372036854775808 ≤ n ∧ n ≤ 9223372036854775807 := by omega
  obtain ⟨obj, hobj⟩ : ∃ z, bits .and .i64 obj0 127 = z := ⟨_, rfl⟩
  obtain ⟨PX, PY, hP⟩ : ∃ a b, placeI o u c off = (a, b) := ⟨_, _, rfl⟩
  have HP1 := Lib.hid (fun W => splace_any o u c off W)
  have HP2 := Lib.hid (fun W => rplace_any o u c off W)
  rw [hP] at HP1 HP2
  obtain ⟨ML, hM⟩ : ∃ a, mapI o u c off n = a := ⟨_, rfl⟩
  have HM1 := Lib.hid (fun W => smap_any o u c off n hn W)
  have HM2 := Lib.hid (fun W => rmap_any o u c off n hn W)
  rw [hM] at HM1 HM2
  obtain ⟨MN, hMN⟩ : ∃ a, ML.length = a := ⟨_, rfl⟩
  have HPN := Lib.hid hMN
  obtain ⟨OJ, hO⟩ : ∃ a, objsI o u c n = a := ⟨_, rfl⟩
  have HO1 := Lib.hid (fun W => sobjects_any o u c n W)
  have HO2 := Lib.hid (fun W => robjects_any o u c n W)
  rw [hO] at HO1 HO2
  obtain ⟨BY, hY⟩ : ∃ a, bytesI o u c n obj = a := ⟨_, rfl⟩
  have HY1 := Lib.hid (fun W => sbytes_any o u c n obj W)
  have HY2 := Lib.hid (fun W => rbytes_any o u c n obj W)
  rw [hY] at HY1 HY2
  clear hP hM hMN hO hY hsz
  go_enter Try.func4, Try.ntmps4
  go_wp2_with fail
  refine (HSH.out w).mono ?_
  rintro e w0 ⟨rfl, b0⟩
  have HX0 := Lib.hid (RecAt.new w0 (layC o u c) 23)
  have HB1 := Lib.hid (b0.trans (((Below.refl w0.heap.size w0).alloc (Nat.le_refl _) (.cells (layC o u c) 23)).mono b0.size))
  obtain ⟨w1, hw1⟩ : ∃ W, w0.alloc (.cells (layC o u c) 23) = W := ⟨_, rfl⟩
  rw [hw1] at HX0 HB1
  clear b0
  go_upto_region 2 with fail
  try rw [hw1]
  clear hw1
  obtain ⟨P5, hP5⟩ : ∃ P, w0.heap.size = P := ⟨_, rfl⟩
  rw [hP5] at HX0 ⊢
  clear hP5
  obtain ⟨x0, x1, x2⟩ := HX0.out.l3
  go_wp2_with fail
  refine (HP1.out w1).mono ?_
  rintro e w2 ⟨rfl, b2⟩
  have HX2 := Lib.hid (HX0.out.later b2)
  have HB2 := Lib.hid (HB1.out.trans (b2.mono HB1.out.size))
  clear x0 x1 x2 b2
  obtain ⟨x0, x1, x2⟩ := HX2.out.l3
  go_wp2_with fail
  refine (HP2.out w2).mono ?_
  rintro e w3 ⟨rfl, b3⟩
  have HX5 := Lib.hid (HX2.out.later b3)
  have HBZ := Lib.hid (HB2.out.trans (b3.mono HB2.out.size))
  clear x0 x1 x2 b3 HX0 HX2 HB1 HB2 hoff hn1 hn2 hobj
  go_upto_region 5 with fail
  -- REG 5
  refine wp_region_tab (L := [cV (.int .i64 PX), cV (.int .i64 PX), cV (.bool true), cV (.bool true), cV (.int .i64 PY), cV (.int .i64 PY), cV (.bool true), cV (.bool true), cV (.bool true), cV (.agg #[.int .i64 o, .int .i64 u, .int .i64 c]), cV (.int .i64 off), cV (.int .i64 n), gX w ML, cV (.agg #[.int .i64 o, .int .i64 u, .int .i64 c]), cV (.int .i64 off), cV (.int .i64 n), gX w ML, cV (.bool true), cV (.bool true), cV (.bool true), cV (.agg #[.int .i64 o, .int .i64 u, .int .i64 c]), cV (.int .i64 n), cV (.int .i64 OJ), cV (.agg #[.int .i64 o, .int .i64 u, .int .i64 c]), cV (.int .i64 n), cV (.int .i64 OJ), cV (.bool true), cV (.bool true), cV (.bool true), cV (.agg #[.int .i64 o, .int .i64 u, .int .i64 c]), cV (.int .i64 n), cV (.int .i64 obj), cV (.int .i64 BY), cV (.agg #[.int .i64 o, .int .i64 u, .int .i64 c]), cV (.int .i64 n), cV (.int .i64 obj), cV (.int .i64 BY), cV (.bool true), cV (.bool true), cV (.bool true), cV (.bool true), cV (.bool true), cV (.bool true)]) [[(14, none)], [(16, none)], [(41, some 0), (42, some 1)], [(43, some 2)], [(15, none), (44, some 3)], [(17, none), (44, some 3)], [(45, some 4), (46, some 5), (44, some 3)], [(44, some 3), (47, some 6)], [(48, some 7)], [(13, none), (49, some 8)], [(3, none), (49, some 8)], [(4, none), (49, some 8)], [(50, some 9), (51, some 10), (52, some 11), (49, some 8)], [(13, none), (49, some 8)], [(3, none), (49, some 8)], [(4, none), (49, some 8)], [(54, some 13), (55, some 14), (56, some 15), (49, some 8)], [(53, some 12), (57, some 16), (49, some 8)], [(49, some 8), (58, some 17)], [(59, some 18)], [(13, none), (60, some 19)], [(4, none), (60, some 19)], [(61, some 20), (62, some 21), (60, some 19)], [(13, none), (60, some 19)], [(4, none), (60, some 19)], [(64, some 23), (65, some 24), (60, some 19)], [(63, some 22), (66, some 25), (60, some 19)], [(60, some 19), (67, some 26)], [(68, some 27)], [(13, none), (69, some 28)], [(4, none), (69, some 28)], [(5, none), (69, some 28)], [(70, some 29), (71, some 30), (72, some 31), (69, some 28)], [(13, none), (69, some 28)], [(4, none), (69, some 28)], [(5, none), (69, some 28)], [(74, some 33), (75, some 34), (76, some 35), (69, some 28)], [(73, some 32), (77, some 36), (69, some 28)], [(69, some 28), (78, some 37)], [(79, some 38)], [(80, some 39)], [(80, some 39), (81, some 40)], [(82, some 41)]] 43 83 (by kernel_rfl) rfl rfl (by kernel_rfl) (by kernel_rfl) ?_ ?_
  · show ∀ i, i < 43 → _
    iterate 43 (refine fls ?_ ?_)
    · exact fl0
    · intro a w1 hR hsz hs      -- 0: slot 41
      obtain ⟨h0, _⟩ := hs
      have h0 : a.tmps.getD 14 undef = .int .i64 PX := h0
      refine op_run rfl rfl (v := .int .i64 PX) (w' := w1) ?_ rfl (Below.refl _ _)
      simp [execOp, Act.eval, h0, go_sem]
    · intro a w1 hR hsz hs      -- 1: slot 42
      obtain ⟨h0, _⟩ := hs
      have h0 : a.tmps.getD 16 undef = .int .i64 PX := h0
      refine op_run rfl rfl (v := .int .i64 PX) (w' := w1) ?_ rfl (Below.refl _ _)
      simp [execOp, Act.eval, h0, go_sem]
    · intro a w1 hR hsz hs      -- 2: slot 43
      obtain ⟨h0, h1, _⟩ := hs
      have h0 : a.tmps.getD 41 undef = .int .i64 PX := h0
      have h1 : a.tmps.getD 42 undef = .int .i64 PX := h1
      refine op_run rfl rfl (v := .bool true) (w' := w1) ?_ rfl (Below.refl _ _)
      simp [execOp, Act.eval, h0, h1, go_sem]
    · intro a w1 hR hsz hs      -- 3: slot 44
      obtain ⟨h0, _⟩ := hs
      have h0 : a.tmps.getD 43 undef = .bool true := h0
      refine op_run rfl rfl (v := .bool true) (w' := w1) ?_ rfl (Below.refl _ _)
      simp [execOp, Act.eval, h0, go_sem]
    · intro a w1 hR hsz hs      -- 4: slot 45
      obtain ⟨h0, h1, _⟩ := hs
      have h0 : a.tmps.getD 15 undef = .int .i64 PY := h0
      have h1 : a.tmps.getD 44 undef = .bool true := h1
      refine opg_run rfl rfl rfl (by rw [hsz]; decide) h1 (v := .int .i64 PY) (w' := w1) ?_ rfl (Below.refl _ _)
      simp [execOp, Act.eval, h0, go_sem]
    · intro a w1 hR hsz hs      -- 5: slot 46
      obtain ⟨h0, h1, _⟩ := hs
      have h0 : a.tmps.getD 17 undef = .int .i64 PY := h0
      have h1 : a.tmps.getD 44 undef = .bool true := h1
      refine opg_run rfl rfl rfl (by rw [hsz]; decide) h1 (v := .int .i64 PY) (w' := w1) ?_ rfl (Below.refl _ _)
      simp [execOp, Act.eval, h0, go_sem]
    · intro a w1 hR hsz hs      -- 6: slot 47
      obtain ⟨h0, h1, h2, _⟩ := hs
      have h0 : a.tmps.getD 45 undef = .int .i64 PY := h0
      have h1 : a.tmps.getD 46 undef = .int .i64 PY := h1
      have h2 : a.tmps.getD 44 undef = .bool true := h2
      refine opg_run rfl rfl rfl (by rw [hsz]; decide) h2 (v := .bool true) (w' := w1) ?_ rfl (Below.refl _ _)
      simp [execOp, Act.eval, h0, h1, go_sem]
    · intro a w1 hR hsz hs      -- 7: slot 48
      obtain ⟨h0, h1, _⟩ := hs
      have h0 : a.tmps.getD 44 undef = .bool true := h0
      have h1 : a.tmps.getD 47 undef = .bool true := h1
      refine op_run rfl rfl (v := .bool true) (w' := w1) ?_ rfl (Below.refl _ _)
      simp [execOp, Act.eval, h0, h1, go_sem]
    · intro a w1 hR hsz hs      -- 8: slot 49
      obtain ⟨h0, _⟩ := hs
      have h0 : a.tmps.getD 48 undef = .bool true := h0
      refine op_run rfl rfl (v := .bool true) (w' := w1) ?_ rfl (Below.refl _ _)
      simp [execOp, Act.eval, h0, go_sem]
    · intro a w1 hR hsz hs      -- 9: slot 50
      obtain ⟨h0, h1, _⟩ := hs
      have h0 : a.tmps.getD 13 undef = .pointer (some ⟨P5, 0, none⟩) := h0
      have h1 : a.tmps.getD 49 undef = .bool true := h1
      obtain ⟨x0, x1, x2⟩ := (HX5.out.later hR).l3
      refine opg_run rfl rfl rfl (by rw [hsz]; decide) h1 (v := .agg #[.int .i64 o, .int .i64 u, .int .i64 c]) (w' := w1) ?_ rfl (Below.refl _ _)
      simp [execOp, Act.eval, h0, x0, x1, x2, go_sem]
    · intro a w1 hR hsz hs      -- 10: slot 51
      obtain ⟨h0, h1, _⟩ := hs
      have h0 : a.tmps.getD 3 undef = .int .i64 off := h0
      have h1 : a.tmps.getD 49 undef = .bool true := h1
      refine opg_run rfl rfl rfl (by rw [hsz]; decide) h1 (v := .int .i64 off) (w' := w1) ?_ rfl (Below.refl _ _)
      simp [execOp, Act.eval, h0, go_sem]
    · intro a w1 hR hsz hs      -- 11: slot 52
      obtain ⟨h0, h1, _⟩ := hs
      have h0 : a.tmps.getD 4 undef = .int .i64 n := h0
      have h1 : a.tmps.getD 49 undef = .bool true := h1
      refine opg_run rfl rfl rfl (by rw [hsz]; decide) h1 (v := .int .i64 n) (w' := w1) ?_ rfl (Below.refl _ _)
      simp [execOp, Act.eval, h0, go_sem]
    · intro a w1 hR hsz hs      -- 12: slot 53
      obtain ⟨h0, h1, h2, h3, _⟩ := hs
      have h0 : a.tmps.getD 50 undef = .agg #[.int .i64 o, .int .i64 u, .int .i64 c] := h0
      have h1 : a.tmps.getD 51 undef = .int .i64 off := h1
      have h2 : a.tmps.getD 52 undef = .int .i64 n := h2
      have h3 : a.tmps.getD 49 undef = .bool true := h3
      refine opg_call rfl rfl rfl (by rw [hsz]; decide) h3 (f := 13) (args := #[.agg #[.int .i64 o, .int .i64 u, .int .i64 c], .int .i64 off, .int .i64 n]) (by simp [execOp, Act.eval, resolve, h0, h1, h2, go_sem]) ?_
      exact gx_of (HM1.out w1) (HBZ.out.trans (hR.mono HBZ.out.size))
    · intro a w1 hR hsz hs      -- 13: slot 54
      obtain ⟨h0, h1, _⟩ := hs
      have h0 : a.tmps.getD 13 undef = .pointer (some ⟨P5, 0, none⟩) := h0
      have h1 : a.tmps.getD 49 undef = .bool true := h1
      obtain ⟨x0, x1, x2⟩ := (HX5.out.later hR).l3
      refine opg_run rfl rfl rfl (by rw [hsz]; decide) h1 (v := .agg #[.int .i64 o, .int .i64 u, .int .i64 c]) (w' := w1) ?_ rfl (Below.refl _ _)
      simp [execOp, Act.eval, h0, x0, x1, x2, go_sem]
    · intro a w1 hR hsz hs      -- 14: slot 55
      obtain ⟨h0, h1, _⟩ := hs
      have h0 : a.tmps.getD 3 undef = .int .i64 off := h0
      have h1 : a.tmps.getD 49 undef = .bool true := h1
      refine opg_run rfl rfl rfl (by rw [hsz]; decide) h1 (v := .int .i64 off) (w' := w1) ?_ rfl (Below.refl _ _)
      simp [execOp, Act.eval, h0, go_sem]
    · intro a w1 hR hsz hs      -- 15: slot 56
      obtain ⟨h0, h1, _⟩ := hs
      have h0 : a.tmps.getD 4 undef = .int .i64 n := h0
      have h1 : a.tmps.getD 49 undef = .bool true := h1
      refine opg_run rfl rfl rfl (by rw [hsz]; decide) h1 (v := .int .i64 n) (w' := w1) ?_ rfl (Below.refl _ _)
      simp [execOp, Act.eval, h0, go_sem]
    · intro a w1 hR hsz hs      -- 16: slot 57
      obtain ⟨h0, h1, h2, h3, _⟩ := hs
      have h0 : a.tmps.getD 54 undef = .agg #[.int .i64 o, .int .i64 u, .int .i64 c] := h0
      have h1 : a.tmps.getD 55 undef = .int .i64 off := h1
      have h2 : a.tmps.getD 56 undef = .int .i64 n := h2
      have h3 : a.tmps.getD 49 undef = .bool true := h3
      refine opg_call rfl rfl rfl (by rw [hsz]; decide) h3 (f := 14) (args := #[.agg #[.int .i64 o, .int .i64 u, .int .i64 c], .int .i64 off, .int .i64 n]) (by simp [execOp, Act.eval, resolve, h0, h1, h2, go_sem]) ?_
      exact gx_of (HM2.out w1) (HBZ.out.trans (hR.mono HBZ.out.size))
    · intro a w1 hR hsz hs      -- 17: slot 58
      obtain ⟨h0, h1, h2, _⟩ := hs
      obtain ⟨a0, c0, h0, r0⟩ := GOwn.row_n xtOk (show GOwn xtT w w1 (a.tmps.getD 53 undef) ML from h0) HPN.out
      obtain ⟨a1, c1, h1, r1⟩ := GOwn.row_n xtOk (show GOwn xtT w w1 (a.tmps.getD 57 undef) ML from h1) HPN.out
      have h2 : a.tmps.getD 49 undef = .bool true := h2
      refine opg_call rfl rfl rfl (by rw [hsz]; decide) h2 (f := 12) (args := #[.slice a0 MN c0, .slice a1 MN c1]) (by simp [execOp, Act.eval, resolve, h0, h1, go_sem]) ?_
      exact calls_c (samext_refl _ _ MN _ _ ML w1 r0 r1 HPN.out)
    · intro a w1 hR hsz hs      -- 18: slot 59
      obtain ⟨h0, h1, _⟩ := hs
      have h0 : a.tmps.getD 49 undef = .bool true := h0
      have h1 : a.tmps.getD 58 undef = .bool true := h1
      refine op_run rfl rfl (v := .bool true) (w' := w1) ?_ rfl (Below.refl _ _)
      simp [execOp, Act.eval, h0, h1, go_sem]
    · intro a w1 hR hsz hs      -- 19: slot 60
      obtain ⟨h0, _⟩ := hs
      have h0 : a.tmps.getD 59 undef = .bool true := h0
      refine op_run rfl rfl (v := .bool true) (w' := w1) ?_ rfl (Below.refl _ _)
      simp [execOp, Act.eval, h0, go_sem]
    · intro a w1 hR hsz hs      -- 20: slot 61
      obtain ⟨h0, h1, _⟩ := hs
      have h0 : a.tmps.getD 13 undef = .pointer (some ⟨P5, 0, none⟩) := h0
      have h1 : a.tmps.getD 60 undef = .bool true := h1
      obtain ⟨x0, x1, x2⟩ := (HX5.out.later hR).l3
      refine opg_run rfl rfl rfl (by rw [hsz]; decide) h1 (v := .agg #[.int .i64 o, .int .i64 u, .int .i64 c]) (w' := w1) ?_ rfl (Below.refl _ _)
      simp [execOp, Act.eval, h0, x0, x1, x2, go_sem]
    · intro a w1 hR hsz hs      -- 21: slot 62
      obtain ⟨h0, h1, _⟩ := hs
      have h0 : a.tmps.getD 4 undef = .int .i64 n := h0
      have h1 : a.tmps.getD 60 undef = .bool true := h1
      refine opg_run rfl rfl rfl (by rw [hsz]; decide) h1 (v := .int .i64 n) (w' := w1) ?_ rfl (Below.refl _ _)
      simp [execOp, Act.eval, h0, go_sem]
    · intro a w1 hR hsz hs      -- 22: slot 63
      obtain ⟨h0, h1, h2, _⟩ := hs
      have h0 : a.tmps.getD 61 undef = .agg #[.int .i64 o, .int .i64 u, .int .i64 c] := h0
      have h1 : a.tmps.getD 62 undef = .int .i64 n := h1
      have h2 : a.tmps.getD 60 undef = .bool true := h2
      refine opg_call rfl rfl rfl (by rw [hsz]; decide) h2 (f := 15) (args := #[.agg #[.int .i64 o, .int .i64 u, .int .i64 c], .int .i64 n]) (by simp [execOp, Act.eval, resolve, h0, h1, go_sem]) ?_
      exact calls_c (HO1.out w1)
    · intro a w1 hR hsz hs      -- 23: slot 64
      obtain ⟨h0, h1, _⟩ := hs
      have h0 : a.tmps.getD 13 undef = .pointer (some ⟨P5, 0, none⟩) := h0
      have h1 : a.tmps.getD 60 undef = .bool true := h1
      obtain ⟨x0, x1, x2⟩ := (HX5.out.later hR).l3
      refine opg_run rfl rfl rfl (by rw [hsz]; decide) h1 (v := .agg #[.int .i64 o, .int .i64 u, .int .i64 c]) (w' := w1) ?_ rfl (Below.refl _ _)
      simp [execOp, Act.eval, h0, x0, x1, x2, go_sem]
    · intro a w1 hR hsz hs      -- 24: slot 65
      obtain ⟨h0, h1, _⟩ := hs
      have h0 : a.tmps.getD 4 undef = .int .i64 n := h0
      have h1 : a.tmps.getD 60 undef = .bool true := h1
      refine opg_run rfl rfl rfl (by rw [hsz]; decide) h1 (v := .int .i64 n) (w' := w1) ?_ rfl (Below.refl _ _)
      simp [execOp, Act.eval, h0, go_sem]
    · intro a w1 hR hsz hs      -- 25: slot 66
      obtain ⟨h0, h1, h2, _⟩ := hs
      have h0 : a.tmps.getD 64 undef = .agg #[.int .i64 o, .int .i64 u, .int .i64 c] := h0
      have h1 : a.tmps.getD 65 undef = .int .i64 n := h1
      have h2 : a.tmps.getD 60 undef = .bool true := h2
      refine opg_call rfl rfl rfl (by rw [hsz]; decide) h2 (f := 16) (args := #[.agg #[.int .i64 o, .int .i64 u, .int .i64 c], .int .i64 n]) (by simp [execOp, Act.eval, resolve, h0, h1, go_sem]) ?_
      exact calls_c (HO2.out w1)
    · intro a w1 hR hsz hs      -- 26: slot 67
      obtain ⟨h0, h1, h2, _⟩ := hs
      have h0 : a.tmps.getD 63 undef = .int .i64 OJ := h0
      have h1 : a.tmps.getD 66 undef = .int .i64 OJ := h1
      have h2 : a.tmps.getD 60 undef = .bool true := h2
      refine opg_run rfl rfl rfl (by rw [hsz]; decide) h2 (v := .bool true) (w' := w1) ?_ rfl (Below.refl _ _)
      simp [execOp, Act.eval, h0, h1, go_sem]
    · intro a w1 hR hsz hs      -- 27: slot 68
      obtain ⟨h0, h1, _⟩ := hs
      have h0 : a.tmps.getD 60 undef = .bool true := h0
      have h1 : a.tmps.getD 67 undef = .bool true := h1
      refine op_run rfl rfl (v := .bool true) (w' := w1) ?_ rfl (Below.refl _ _)
      simp [execOp, Act.eval, h0, h1, go_sem]
    · intro a w1 hR hsz hs      -- 28: slot 69
      obtain ⟨h0, _⟩ := hs
      have h0 : a.tmps.getD 68 undef = .bool true := h0
      refine op_run rfl rfl (v := .bool true) (w' := w1) ?_ rfl (Below.refl _ _)
      simp [execOp, Act.eval, h0, go_sem]
    · intro a w1 hR hsz hs      -- 29: slot 70
      obtain ⟨h0, h1, _⟩ := hs
      have h0 : a.tmps.getD 13 undef = .pointer (some ⟨P5, 0, none⟩) := h0
      have h1 : a.tmps.getD 69 undef = .bool true := h1
      obtain ⟨x0, x1, x2⟩ := (HX5.out.later hR).l3
      refine opg_run rfl rfl rfl (by rw [hsz]; decide) h1 (v := .agg #[.int .i64 o, .int .i64 u, .int .i64 c]) (w' := w1) ?_ rfl (Below.refl _ _)
      simp [execOp, Act.eval, h0, x0, x1, x2, go_sem]
    · intro a w1 hR hsz hs      -- 30: slot 71
      obtain ⟨h0, h1, _⟩ := hs
      have h0 : a.tmps.getD 4 undef = .int .i64 n := h0
      have h1 : a.tmps.getD 69 undef = .bool true := h1
      refine opg_run rfl rfl rfl (by rw [hsz]; decide) h1 (v := .int .i64 n) (w' := w1) ?_ rfl (Below.refl _ _)
      simp [execOp, Act.eval, h0, go_sem]
    · intro a w1 hR hsz hs      -- 31: slot 72
      obtain ⟨h0, h1, _⟩ := hs
      have h0 : a.tmps.getD 5 undef = .int .i64 obj := h0
      have h1 : a.tmps.getD 69 undef = .bool true := h1
      refine opg_run rfl rfl rfl (by rw [hsz]; decide) h1 (v := .int .i64 obj) (w' := w1) ?_ rfl (Below.refl _ _)
      simp [execOp, Act.eval, h0, go_sem]
    · intro a w1 hR hsz hs      -- 32: slot 73
      obtain ⟨h0, h1, h2, h3, _⟩ := hs
      have h0 : a.tmps.getD 70 undef = .agg #[.int .i64 o, .int .i64 u, .int .i64 c] := h0
      have h1 : a.tmps.getD 71 undef = .int .i64 n := h1
      have h2 : a.tmps.getD 72 undef = .int .i64 obj := h2
      have h3 : a.tmps.getD 69 undef = .bool true := h3
      refine opg_call rfl rfl rfl (by rw [hsz]; decide) h3 (f := 17) (args := #[.agg #[.int .i64 o, .int .i64 u, .int .i64 c], .int .i64 n, .int .i64 obj]) (by simp [execOp, Act.eval, resolve, h0, h1, h2, go_sem]) ?_
      exact calls_c (HY1.out w1)
    · intro a w1 hR hsz hs      -- 33: slot 74
      obtain ⟨h0, h1, _⟩ := hs
      have h0 : a.tmps.getD 13 undef = .pointer (some ⟨P5, 0, none⟩) := h0
      have h1 : a.tmps.getD 69 undef = .bool true := h1
      obtain ⟨x0, x1, x2⟩ := (HX5.out.later hR).l3
      refine opg_run rfl rfl rfl (by rw [hsz]; decide) h1 (v := .agg #[.int .i64 o, .int .i64 u, .int .i64 c]) (w' := w1) ?_ rfl (Below.refl _ _)
      simp [execOp, Act.eval, h0, x0, x1, x2, go_sem]
    · intro a w1 hR hsz hs      -- 34: slot 75
      obtain ⟨h0, h1, _⟩ := hs
      have h0 : a.tmps.getD 4 undef = .int .i64 n := h0
      have h1 : a.tmps.getD 69 undef = .bool true := h1
      refine opg_run rfl rfl rfl (by rw [hsz]; decide) h1 (v := .int .i64 n) (w' := w1) ?_ rfl (Below.refl _ _)
      simp [execOp, Act.eval, h0, go_sem]
    · intro a w1 hR hsz hs      -- 35: slot 76
      obtain ⟨h0, h1, _⟩ := hs
      have h0 : a.tmps.getD 5 undef = .int .i64 obj := h0
      have h1 : a.tmps.getD 69 undef = .bool true := h1
      refine opg_run rfl rfl rfl (by rw [hsz]; decide) h1 (v := .int .i64 obj) (w' := w1) ?_ rfl (Below.refl _ _)
      simp [execOp, Act.eval, h0, go_sem]
    · intro a w1 hR hsz hs      -- 36: slot 77
      obtain ⟨h0, h1, h2, h3, _⟩ := hs
      have h0 : a.tmps.getD 74 undef = .agg #[.int .i64 o, .int .i64 u, .int .i64 c] := h0
      have h1 : a.tmps.getD 75 undef = .int .i64 n := h1
      have h2 : a.tmps.getD 76 undef = .int .i64 obj := h2
      have h3 : a.tmps.getD 69 undef = .bool true := h3
      refine opg_call rfl rfl rfl (by rw [hsz]; decide) h3 (f := 18) (args := #[.agg #[.int .i64 o, .int .i64 u, .int .i64 c], .int .i64 n, .int .i64 obj]) (by simp [execOp, Act.eval, resolve, h0, h1, h2, go_sem]) ?_
      exact calls_c (HY2.out w1)
    · intro a w1 hR hsz hs      -- 37: slot 78
      obtain ⟨h0, h1, h2, _⟩ := hs
      have h0 : a.tmps.getD 73 undef = .int .i64 BY := h0
      have h1 : a.tmps.getD 77 undef = .int .i64 BY := h1
      have h2 : a.tmps.getD 69 undef = .bool true := h2
      refine opg_run rfl rfl rfl (by rw [hsz]; decide) h2 (v := .bool true) (w' := w1) ?_ rfl (Below.refl _ _)
      simp [execOp, Act.eval, h0, h1, go_sem]
    · intro a w1 hR hsz hs      -- 38: slot 79
      obtain ⟨h0, h1, _⟩ := hs
      have h0 : a.tmps.getD 69 undef = .bool true := h0
      have h1 : a.tmps.getD 78 undef = .bool true := h1
      refine op_run rfl rfl (v := .bool true) (w' := w1) ?_ rfl (Below.refl _ _)
      simp [execOp, Act.eval, h0, h1, go_sem]
    · intro a w1 hR hsz hs      -- 39: slot 80
      obtain ⟨h0, _⟩ := hs
      have h0 : a.tmps.getD 79 undef = .bool true := h0
      refine op_run rfl rfl (v := .bool true) (w' := w1) ?_ rfl (Below.refl _ _)
      simp [execOp, Act.eval, h0, go_sem]
    · intro a w1 hR hsz hs      -- 40: slot 81
      obtain ⟨h0, _⟩ := hs
      have h0 : a.tmps.getD 80 undef = .bool true := h0
      refine opg_call rfl rfl rfl (by rw [hsz]; decide) h0 (f := 19) (args := #[]) (by simp [execOp, Act.eval, resolve, go_sem]) ?_
      exact calls_c (known12_any w1)
    · intro a w1 hR hsz hs      -- 41: slot 82
      obtain ⟨h0, h1, _⟩ := hs
      have h0 : a.tmps.getD 80 undef = .bool true := h0
      have h1 : a.tmps.getD 81 undef = .bool true := h1
      refine op_run rfl rfl (v := .bool true) (w' := w1) ?_ rfl (Below.refl _ _)
      simp [execOp, Act.eval, h0, h1, go_sem]
    · intro a w1 hR hsz hs      -- 42: slot 12
      obtain ⟨h0, _⟩ := hs
      have h0 : a.tmps.getD 82 undef = .bool true := h0
      refine op_run rfl rfl (v := .bool true) (w' := w1) ?_ rfl (Below.refl _ _)
      simp [execOp, Act.eval, h0, go_sem]
  · intro f w1 hR hv
    have e10 : f 12 = .bool true := hv 42 _ 12 rfl rfl
    clear hv
    try simp only [Exit.then]
    simp only [putAll, List.foldl_cons, List.foldl_nil, Option.getD_some, Act.put, List.setIfInBounds_toArray, List.set_cons_succ, List.set_cons_zero]
    go_wp2_with fail
    go_ret
    exact ⟨congrArg Ending.returned e10, HBZ.out.trans (hR.mono HBZ.out.size)⟩
  -- END 5
end Go.Proofs.Ytalgjoeinllllaa
