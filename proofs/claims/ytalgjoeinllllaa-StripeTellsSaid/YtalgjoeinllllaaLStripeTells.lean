/- The law 'StripeTells', walked. -/
import Derived.Test.YtalgjoeinllllaaSpK
namespace Go.Proofs.Ytalgjoeinllllaa
open Go.RowKit Go.Proofs
set_option linter.unusedVariables false
set_option linter.unusedSimpArgs false
set_option linter.unnecessarySimpa false

set_option maxRecDepth 100000 in
set_option maxHeartbeats 12800000 in
theorem stripeTells_walk (o u c off n obj at' : Int) (w : World) (hn : -9223372036854775808 ≤ n ∧ n ≤ 9223372036854775807) : Calls Try.prog 3 #[.agg (layC o u c), .int .i64 off, .int .i64 n, .int .i64 obj, .int .i64 at'] w fun x w' => x = .returned (.bool true) ∧ Below w.heap.size w w' := by
  have HX0 := Lib.hid (RecAt.new w (layC o u c) 23)
  have HB0 := Lib.hid ((Below.refl w.heap.size w).alloc (Nat.le_refl _) (.cells (layC o u c) 23))
  obtain ⟨w1, hw1⟩ : ∃ W, w.alloc (.cells (layC o u c) 23) = W := ⟨_, rfl⟩
  rw [hw1] at HX0 HB0
  obtain ⟨PX, PY, hP⟩ : ∃ a b, placeI o u c off = (a, b) := ⟨_, _, rfl⟩
  have HP1 := Lib.hid (fun W => splace_any o u c off W)
  have HP2 := Lib.hid (fun W => rplace_any o u c off W)
  rw [hP] at HP1 HP2
  obtain ⟨BK, hK⟩ : ∃ a, backI o u c obj at' = a := ⟨_, rfl⟩
  have HK1 := Lib.hid (fun W => sback_any o u c obj at' W)
  have HK2 := Lib.hid (fun W => rback_any o u c obj at' W)
  rw [hK] at HK1 HK2
  obtain ⟨ML, hM⟩ : ∃ a, mapI o u c off n = a := ⟨_, rfl⟩
  have HM1 := Lib.hid (fun W => smap_any o u c off n hn W)
  have HM2 := Lib.hid (fun W => rmap_any o u c off n hn W)
  rw [hM] at HM1 HM2
  obtain ⟨MN, hMN⟩ : ∃ a, ML.length = a := ⟨_, rfl⟩
  have HPN := Lib.hid hMN
  obtain ⟨OJ, hO⟩ : ∃ a, objsI o u c n = a := ⟨_, rfl⟩
  have HO1 := Lib.hid (fun W => sobjects_any o u c n W)
  have HO2 := Lib.hid (fun W => robjects_any o u c n W)
  rw [hO] at HO1 HO2
  obtain ⟨BY, hY⟩ : ∃ a, bytesI o u c n obj = a := ⟨_, rfl⟩
  have HY1 := Lib.hid (fun W => sbytes_any o u c n obj W)
  have HY2 := Lib.hid (fun W => rbytes_any o u c n obj W)
  rw [hY] at HY1 HY2
  clear hP hK hM hMN hO hY
  go_enter Try.func3, Try.ntmps3
  go_upto_region 1 with fail
  try rw [hw1]
  clear hw1
  obtain ⟨P5, hP5⟩ : ∃ P, w.heap.size = P := ⟨_, rfl⟩
  have HB1 := Lib.hid HB0.out
  rw [hP5] at HX0 HB0 ⊢
  clear hP5
  obtain ⟨x0, x1, x2⟩ := HX0.out.l3
  go_wp2_with fail
  refine (HP1.out w1).mono ?_
  rintro e w2 ⟨rfl, b2⟩
  have HX2 := Lib.hid (HX0.out.later b2)
  have HB2 := Lib.hid (HB1.out.trans (b2.mono HB1.out.size))
  clear x0 x1 x2 b2
  obtain ⟨x0, x1, x2⟩ := HX2.out.l3
  go_wp2_with fail
  refine (HP2.out w2).mono ?_
  rintro e w3 ⟨rfl, b3⟩
  have HX5 := Lib.hid (HX2.out.later b3)
  have HBZ := Lib.hid (HB2.out.trans (b3.mono HB2.out.size))
  clear x0 x1 x2 b3 HX0 HX2 HB0 HB1 HB2
  go_upto_region 3 with fail
  -- REG 3
  refine wp_region_tab (L := [cV (.int .i64 PX), cV (.int .i64 PX), cV (.bool true), cV (.bool true), cV (.int .i64 PY), cV (.int .i64 PY), cV (.bool true), cV (.bool true), cV (.bool true), cV (.agg #[.int .i64 o, .int .i64 u, .int .i64 c]), cV (.int .i64 obj), cV (.int .i64 at'), cV (.int .i64 BK), cV (.agg #[.int .i64 o, .int .i64 u, .int .i64 c]), cV (.int .i64 obj), cV (.int .i64 at'), cV (.int .i64 BK), cV (.bool true), cV (.bool true), cV (.bool true), cV (.agg #[.int .i64 o, .int .i64 u, .int .i64 c]), cV (.int .i64 off), cV (.int .i64 n), gX w ML, cV (.agg #[.int .i64 o, .int .i64 u, .int .i64 c]), cV (.int .i64 off), cV (.int .i64 n), gX w ML, cV (.bool true), cV (.bool true), cV (.bool true), cV (.agg #[.int .i64 o, .int .i64 u, .int .i64 c]), cV (.int .i64 n), cV (.int .i64 OJ), cV (.agg #[.int .i64 o, .int .i64 u, .int .i64 c]), cV (.int .i64 n), cV (.int .i64 OJ), cV (.bool true), cV (.bool true), cV (.bool true), cV (.agg #[.int .i64 o, .int .i64 u, .int .i64 c]), cV (.int .i64 n), cV (.int .i64 obj), cV (.int .i64 BY), cV (.agg #[.int .i64 o, .int .i64 u, .int .i64 c]), cV (.int .i64 n), cV (.int .i64 obj), cV (.int .i64 BY), cV (.bool true), cV (.bool true), cV (.bool true), cV (.bool true), cV (.bool true), cV (.bool true)]) [[(11, none)], [(13, none)], [(27, some 0), (28, some 1)], [(29, some 2)], [(12, none), (30, some 3)], [(14, none), (30, some 3)], [(31, some 4), (32, some 5), (30, some 3)], [(30, some 3), (33, some 6)], [(34, some 7)], [(5, none), (35, some 8)], [(3, none), (35, some 8)], [(4, none), (35, some 8)], [(36, some 9), (37, some 10), (38, some 11), (35, some 8)], [(5, none), (35, some 8)], [(3, none), (35, some 8)], [(4, none), (35, some 8)], [(40, some 13), (41, some 14), (42, some 15), (35, some 8)], [(39, some 12), (43, some 16), (35, some 8)], [(35, some 8), (44, some 17)], [(45, some 18)], [(5, none), (46, some 19)], [(1, none), (46, some 19)], [(2, none), (46, some 19)], [(47, some 20), (48, some 21), (49, some 22), (46, some 19)], [(5, none), (46, some 19)], [(1, none), (46, some 19)], [(2, none), (46, some 19)], [(51, some 24), (52, some 25), (53, some 26), (46, some 19)], [(50, some 23), (54, some 27), (46, some 19)], [(46, some 19), (55, some 28)], [(56, some 29)], [(5, none), (57, some 30)], [(2, none), (57, some 30)], [(58, some 31), (59, some 32), (57, some 30)], [(5, none), (57, some 30)], [(2, none), (57, some 30)], [(61, some 34), (62, some 35), (57, some 30)], [(60, some 33), (63, some 36), (57, some 30)], [(57, some 30), (64, some 37)], [(65, some 38)], [(5, none), (66, some 39)], [(2, none), (66, some 39)], [(3, none), (66, some 39)], [(67, some 40), (68, some 41), (69, some 42), (66, some 39)], [(5, none), (66, some 39)], [(2, none), (66, some 39)], [(3, none), (66, some 39)], [(71, some 44), (72, some 45), (73, some 46), (66, some 39)], [(70, some 43), (74, some 47), (66, some 39)], [(66, some 39), (75, some 48)], [(76, some 49)], [(77, some 50)], [(77, some 50), (78, some 51)], [(79, some 52)]] 54 80 (by kernel_rfl) rfl rfl (by kernel_rfl) (by kernel_rfl) ?_ ?_
  · show ∀ i, i < 54 → _
    iterate 54 (refine fls ?_ ?_)
    · exact fl0
    · intro a w1 hR hsz hs      -- 0: slot 27
      obtain ⟨h0, _⟩ := hs
      have h0 : a.tmps.getD 11 undef = .int .i64 PX := h0
      refine op_run rfl rfl (v := .int .i64 PX) (w' := w1) ?_ rfl (Below.refl _ _)
      simp [execOp, Act.eval, h0, go_sem]
    · intro a w1 hR hsz hs      -- 1: slot 28
      obtain ⟨h0, _⟩ := hs
      have h0 : a.tmps.getD 13 undef = .int .i64 PX := h0
      refine op_run rfl rfl (v := .int .i64 PX) (w' := w1) ?_ rfl (Below.refl _ _)
      simp [execOp, Act.eval, h0, go_sem]
    · intro a w1 hR hsz hs      -- 2: slot 29
      obtain ⟨h0, h1, _⟩ := hs
      have h0 : a.tmps.getD 27 undef = .int .i64 PX := h0
      have h1 : a.tmps.getD 28 undef = .int .i64 PX := h1
      refine op_run rfl rfl (v := .bool true) (w' := w1) ?_ rfl (Below.refl _ _)
      simp [execOp, Act.eval, h0, h1, go_sem]
    · intro a w1 hR hsz hs      -- 3: slot 30
      obtain ⟨h0, _⟩ := hs
      have h0 : a.tmps.getD 29 undef = .bool true := h0
      refine op_run rfl rfl (v := .bool true) (w' := w1) ?_ rfl (Below.refl _ _)
      simp [execOp, Act.eval, h0, go_sem]
    · intro a w1 hR hsz hs      -- 4: slot 31
      obtain ⟨h0, h1, _⟩ := hs
      have h0 : a.tmps.getD 12 undef = .int .i64 PY := h0
      have h1 : a.tmps.getD 30 undef = .bool true := h1
      refine opg_run rfl rfl rfl (by rw [hsz]; decide) h1 (v := .int .i64 PY) (w' := w1) ?_ rfl (Below.refl _ _)
      simp [execOp, Act.eval, h0, go_sem]
    · intro a w1 hR hsz hs      -- 5: slot 32
      obtain ⟨h0, h1, _⟩ := hs
      have h0 : a.tmps.getD 14 undef = .int .i64 PY := h0
      have h1 : a.tmps.getD 30 undef = .bool true := h1
      refine opg_run rfl rfl rfl (by rw [hsz]; decide) h1 (v := .int .i64 PY) (w' := w1) ?_ rfl (Below.refl _ _)
      simp [execOp, Act.eval, h0, go_sem]
    · intro a w1 hR hsz hs      -- 6: slot 33
      obtain ⟨h0, h1, h2, _⟩ := hs
      have h0 : a.tmps.getD 31 undef = .int .i64 PY := h0
      have h1 : a.tmps.getD 32 undef = .int .i64 PY := h1
      have h2 : a.tmps.getD 30 undef = .bool true := h2
      refine opg_run rfl rfl rfl (by rw [hsz]; decide) h2 (v := .bool true) (w' := w1) ?_ rfl (Below.refl _ _)
      simp [execOp, Act.eval, h0, h1, go_sem]
    · intro a w1 hR hsz hs      -- 7: slot 34
      obtain ⟨h0, h1, _⟩ := hs
      have h0 : a.tmps.getD 30 undef = .bool true := h0
      have h1 : a.tmps.getD 33 undef = .bool true := h1
      refine op_run rfl rfl (v := .bool true) (w' := w1) ?_ rfl (Below.refl _ _)
      simp [execOp, Act.eval, h0, h1, go_sem]
    · intro a w1 hR hsz hs      -- 8: slot 35
      obtain ⟨h0, _⟩ := hs
      have h0 : a.tmps.getD 34 undef = .bool true := h0
      refine op_run rfl rfl (v := .bool true) (w' := w1) ?_ rfl (Below.refl _ _)
      simp [execOp, Act.eval, h0, go_sem]
    · intro a w1 hR hsz hs      -- 9: slot 36
      obtain ⟨h0, h1, _⟩ := hs
      have h0 : a.tmps.getD 5 undef = .pointer (some ⟨P5, 0, none⟩) := h0
      have h1 : a.tmps.getD 35 undef = .bool true := h1
      obtain ⟨x0, x1, x2⟩ := (HX5.out.later hR).l3
      refine opg_run rfl rfl rfl (by rw [hsz]; decide) h1 (v := .agg #[.int .i64 o, .int .i64 u, .int .i64 c]) (w' := w1) ?_ rfl (Below.refl _ _)
      simp [execOp, Act.eval, h0, x0, x1, x2, go_sem]
    · intro a w1 hR hsz hs      -- 10: slot 37
      obtain ⟨h0, h1, _⟩ := hs
      have h0 : a.tmps.getD 3 undef = .int .i64 obj := h0
      have h1 : a.tmps.getD 35 undef = .bool true := h1
      refine opg_run rfl rfl rfl (by rw [hsz]; decide) h1 (v := .int .i64 obj) (w' := w1) ?_ rfl (Below.refl _ _)
      simp [execOp, Act.eval, h0, go_sem]
    · intro a w1 hR hsz hs      -- 11: slot 38
      obtain ⟨h0, h1, _⟩ := hs
      have h0 : a.tmps.getD 4 undef = .int .i64 at' := h0
      have h1 : a.tmps.getD 35 undef = .bool true := h1
      refine opg_run rfl rfl rfl (by rw [hsz]; decide) h1 (v := .int .i64 at') (w' := w1) ?_ rfl (Below.refl _ _)
      simp [execOp, Act.eval, h0, go_sem]
    · intro a w1 hR hsz hs      -- 12: slot 39
      obtain ⟨h0, h1, h2, h3, _⟩ := hs
      have h0 : a.tmps.getD 36 undef = .agg #[.int .i64 o, .int .i64 u, .int .i64 c] := h0
      have h1 : a.tmps.getD 37 undef = .int .i64 obj := h1
      have h2 : a.tmps.getD 38 undef = .int .i64 at' := h2
      have h3 : a.tmps.getD 35 undef = .bool true := h3
      refine opg_call rfl rfl rfl (by rw [hsz]; decide) h3 (f := 10) (args := #[.agg #[.int .i64 o, .int .i64 u, .int .i64 c], .int .i64 obj, .int .i64 at']) (by simp [execOp, Act.eval, resolve, h0, h1, h2, go_sem]) ?_
      exact calls_c (HK1.out w1)
    · intro a w1 hR hsz hs      -- 13: slot 40
      obtain ⟨h0, h1, _⟩ := hs
      have h0 : a.tmps.getD 5 undef = .pointer (some ⟨P5, 0, none⟩) := h0
      have h1 : a.tmps.getD 35 undef = .bool true := h1
      obtain ⟨x0, x1, x2⟩ := (HX5.out.later hR).l3
      refine opg_run rfl rfl rfl (by rw [hsz]; decide) h1 (v := .agg #[.int .i64 o, .int .i64 u, .int .i64 c]) (w' := w1) ?_ rfl (Below.refl _ _)
      simp [execOp, Act.eval, h0, x0, x1, x2, go_sem]
    · intro a w1 hR hsz hs      -- 14: slot 41
      obtain ⟨h0, h1, _⟩ := hs
      have h0 : a.tmps.getD 3 undef = .int .i64 obj := h0
      have h1 : a.tmps.getD 35 undef = .bool true := h1
      refine opg_run rfl rfl rfl (by rw [hsz]; decide) h1 (v := .int .i64 obj) (w' := w1) ?_ rfl (Below.refl _ _)
      simp [execOp, Act.eval, h0, go_sem]
    · intro a w1 hR hsz hs      -- 15: slot 42
      obtain ⟨h0, h1, _⟩ := hs
      have h0 : a.tmps.getD 4 undef = .int .i64 at' := h0
      have h1 : a.tmps.getD 35 undef = .bool true := h1
      refine opg_run rfl rfl rfl (by rw [hsz]; decide) h1 (v := .int .i64 at') (w' := w1) ?_ rfl (Below.refl _ _)
      simp [execOp, Act.eval, h0, go_sem]
    · intro a w1 hR hsz hs      -- 16: slot 43
      obtain ⟨h0, h1, h2, h3, _⟩ := hs
      have h0 : a.tmps.getD 40 undef = .agg #[.int .i64 o, .int .i64 u, .int .i64 c] := h0
      have h1 : a.tmps.getD 41 undef = .int .i64 obj := h1
      have h2 : a.tmps.getD 42 undef = .int .i64 at' := h2
      have h3 : a.tmps.getD 35 undef = .bool true := h3
      refine opg_call rfl rfl rfl (by rw [hsz]; decide) h3 (f := 11) (args := #[.agg #[.int .i64 o, .int .i64 u, .int .i64 c], .int .i64 obj, .int .i64 at']) (by simp [execOp, Act.eval, resolve, h0, h1, h2, go_sem]) ?_
      exact calls_c (HK2.out w1)
    · intro a w1 hR hsz hs      -- 17: slot 44
      obtain ⟨h0, h1, h2, _⟩ := hs
      have h0 : a.tmps.getD 39 undef = .int .i64 BK := h0
      have h1 : a.tmps.getD 43 undef = .int .i64 BK := h1
      have h2 : a.tmps.getD 35 undef = .bool true := h2
      refine opg_run rfl rfl rfl (by rw [hsz]; decide) h2 (v := .bool true) (w' := w1) ?_ rfl (Below.refl _ _)
      simp [execOp, Act.eval, h0, h1, go_sem]
    · intro a w1 hR hsz hs      -- 18: slot 45
      obtain ⟨h0, h1, _⟩ := hs
      have h0 : a.tmps.getD 35 undef = .bool true := h0
      have h1 : a.tmps.getD 44 undef = .bool true := h1
      refine op_run rfl rfl (v := .bool true) (w' := w1) ?_ rfl (Below.refl _ _)
      simp [execOp, Act.eval, h0, h1, go_sem]
    · intro a w1 hR hsz hs      -- 19: slot 46
      obtain ⟨h0, _⟩ := hs
      have h0 : a.tmps.getD 45 undef = .bool true := h0
      refine op_run rfl rfl (v := .bool true) (w' := w1) ?_ rfl (Below.refl _ _)
      simp [execOp, Act.eval, h0, go_sem]
    · intro a w1 hR hsz hs      -- 20: slot 47
      obtain ⟨h0, h1, _⟩ := hs
      have h0 : a.tmps.getD 5 undef = .pointer (some ⟨P5, 0, none⟩) := h0
      have h1 : a.tmps.getD 46 undef = .bool true := h1
      obtain ⟨x0, x1, x2⟩ := (HX5.out.later hR).l3
      refine opg_run rfl rfl rfl (by rw [hsz]; decide) h1 (v := .agg #[.int .i64 o, .int .i64 u, .int .i64 c]) (w' := w1) ?_ rfl (Below.refl _ _)
      simp [execOp, Act.eval, h0, x0, x1, x2, go_sem]
    · intro a w1 hR hsz hs      -- 21: slot 48
      obtain ⟨h0, h1, _⟩ := hs
      have h0 : a.tmps.getD 1 undef = .int .i64 off := h0
      have h1 : a.tmps.getD 46 undef = .bool true := h1
      refine opg_run rfl rfl rfl (by rw [hsz]; decide) h1 (v := .int .i64 off) (w' := w1) ?_ rfl (Below.refl _ _)
      simp [execOp, Act.eval, h0, go_sem]
    · intro a w1 hR hsz hs      -- 22: slot 49
      obtain ⟨h0, h1, _⟩ := hs
      have h0 : a.tmps.getD 2 undef = .int .i64 n := h0
      have h1 : a.tmps.getD 46 undef = .bool true := h1
      refine opg_run rfl rfl rfl (by rw [hsz]; decide) h1 (v := .int .i64 n) (w' := w1) ?_ rfl (Below.refl _ _)
      simp [execOp, Act.eval, h0, go_sem]
    · intro a w1 hR hsz hs      -- 23: slot 50
      obtain ⟨h0, h1, h2, h3, _⟩ := hs
      have h0 : a.tmps.getD 47 undef = .agg #[.int .i64 o, .int .i64 u, .int .i64 c] := h0
      have h1 : a.tmps.getD 48 undef = .int .i64 off := h1
      have h2 : a.tmps.getD 49 undef = .int .i64 n := h2
      have h3 : a.tmps.getD 46 undef = .bool true := h3
      refine opg_call rfl rfl rfl (by rw [hsz]; decide) h3 (f := 13) (args := #[.agg #[.int .i64 o, .int .i64 u, .int .i64 c], .int .i64 off, .int .i64 n]) (by simp [execOp, Act.eval, resolve, h0, h1, h2, go_sem]) ?_
      exact gx_of (HM1.out w1) (HBZ.out.trans (hR.mono HBZ.out.size))
    · intro a w1 hR hsz hs      -- 24: slot 51
      obtain ⟨h0, h1, _⟩ := hs
      have h0 : a.tmps.getD 5 undef = .pointer (some ⟨P5, 0, none⟩) := h0
      have h1 : a.tmps.getD 46 undef = .bool true := h1
      obtain ⟨x0, x1, x2⟩ := (HX5.out.later hR).l3
      refine opg_run rfl rfl rfl (by rw [hsz]; decide) h1 (v := .agg #[.int .i64 o, .int .i64 u, .int .i64 c]) (w' := w1) ?_ rfl (Below.refl _ _)
      simp [execOp, Act.eval, h0, x0, x1, x2, go_sem]
    · intro a w1 hR hsz hs      -- 25: slot 52
      obtain ⟨h0, h1, _⟩ := hs
      have h0 : a.tmps.getD 1 undef = .int .i64 off := h0
      have h1 : a.tmps.getD 46 undef = .bool true := h1
      refine opg_run rfl rfl rfl (by rw [hsz]; decide) h1 (v := .int .i64 off) (w' := w1) ?_ rfl (Below.refl _ _)
      simp [execOp, Act.eval, h0, go_sem]
    · intro a w1 hR hsz hs      -- 26: slot 53
      obtain ⟨h0, h1, _⟩ := hs
      have h0 : a.tmps.getD 2 undef = .int .i64 n := h0
      have h1 : a.tmps.getD 46 undef = .bool true := h1
      refine opg_run rfl rfl rfl (by rw [hsz]; decide) h1 (v := .int .i64 n) (w' := w1) ?_ rfl (Below.refl _ _)
      simp [execOp, Act.eval, h0, go_sem]
    · intro a w1 hR hsz hs      -- 27: slot 54
      obtain ⟨h0, h1, h2, h3, _⟩ := hs
      have h0 : a.tmps.getD 51 undef = .agg #[.int .i64 o, .int .i64 u, .int .i64 c] := h0
      have h1 : a.tmps.getD 52 undef = .int .i64 off := h1
      have h2 : a.tmps.getD 53 undef = .int .i64 n := h2
      have h3 : a.tmps.getD 46 undef = .bool true := h3
      refine opg_call rfl rfl rfl (by rw [hsz]; decide) h3 (f := 14) (args := #[.agg #[.int .i64 o, .int .i64 u, .int .i64 c], .int .i64 off, .int .i64 n]) (by simp [execOp, Act.eval, resolve, h0, h1, h2, go_sem]) ?_
      exact gx_of (HM2.out w1) (HBZ.out.trans (hR.mono HBZ.out.size))
    · intro a w1 hR hsz hs      -- 28: slot 55
      obtain ⟨h0, h1, h2, _⟩ := hs
      obtain ⟨a0, c0, h0, r0⟩ := GOwn.row_n xtOk (show GOwn xtT w w1 (a.tmps.getD 50 undef) ML from h0) HPN.out
      obtain ⟨a1, c1, h1, r1⟩ := GOwn.row_n xtOk (show GOwn xtT w w1 (a.tmps.getD 54 undef) ML from h1) HPN.out
      have h2 : a.tmps.getD 46 undef = .bool true := h2
      refine opg_call rfl rfl rfl (by rw [hsz]; decide) h2 (f := 12) (args := #[.slice a0 MN c0, .slice a1 MN c1]) (by simp [execOp, Act.eval, resolve, h0, h1, go_sem]) ?_
      exact calls_c (samext_refl _ _ MN _ _ ML w1 r0 r1 HPN.out)
    · intro a w1 hR hsz hs      -- 29: slot 56
      obtain ⟨h0, h1, _⟩ := hs
      have h0 : a.tmps.getD 46 undef = .bool true := h0
      have h1 : a.tmps.getD 55 undef = .bool true := h1
      refine op_run rfl rfl (v := .bool true) (w' := w1) ?_ rfl (Below.refl _ _)
      simp [execOp, Act.eval, h0, h1, go_sem]
    · intro a w1 hR hsz hs      -- 30: slot 57
      obtain ⟨h0, _⟩ := hs
      have h0 : a.tmps.getD 56 undef = .bool true := h0
      refine op_run rfl rfl (v := .bool true) (w' := w1) ?_ rfl (Below.refl _ _)
      simp [execOp, Act.eval, h0, go_sem]
    · intro a w1 hR hsz hs      -- 31: slot 58
      obtain ⟨h0, h1, _⟩ := hs
      have h0 : a.tmps.getD 5 undef = .pointer (some ⟨P5, 0, none⟩) := h0
      have h1 : a.tmps.getD 57 undef = .bool true := h1
      obtain ⟨x0, x1, x2⟩ := (HX5.out.later hR).l3
      refine opg_run rfl rfl rfl (by rw [hsz]; decide) h1 (v := .agg #[.int .i64 o, .int .i64 u, .int .i64 c]) (w' := w1) ?_ rfl (Below.refl _ _)
      simp [execOp, Act.eval, h0, x0, x1, x2, go_sem]
    · intro a w1 hR hsz hs      -- 32: slot 59
      obtain ⟨h0, h1, _⟩ := hs
      have h0 : a.tmps.getD 2 undef = .int .i64 n := h0
      have h1 : a.tmps.getD 57 undef = .bool true := h1
      refine opg_run rfl rfl rfl (by rw [hsz]; decide) h1 (v := .int .i64 n) (w' := w1) ?_ rfl (Below.refl _ _)
      simp [execOp, Act.eval, h0, go_sem]
    · intro a w1 hR hsz hs      -- 33: slot 60
      obtain ⟨h0, h1, h2, _⟩ := hs
      have h0 : a.tmps.getD 58 undef = .agg #[.int .i64 o, .int .i64 u, .int .i64 c] := h0
      have h1 : a.tmps.getD 59 undef = .int .i64 n := h1
      have h2 : a.tmps.getD 57 undef = .bool true := h2
      refine opg_call rfl rfl rfl (by rw [hsz]; decide) h2 (f := 15) (args := #[.agg #[.int .i64 o, .int .i64 u, .int .i64 c], .int .i64 n]) (by simp [execOp, Act.eval, resolve, h0, h1, go_sem]) ?_
      exact calls_c (HO1.out w1)
    · intro a w1 hR hsz hs      -- 34: slot 61
      obtain ⟨h0, h1, _⟩ := hs
      have h0 : a.tmps.getD 5 undef = .pointer (some ⟨P5, 0, none⟩) := h0
      have h1 : a.tmps.getD 57 undef = .bool true := h1
      obtain ⟨x0, x1, x2⟩ := (HX5.out.later hR).l3
      refine opg_run rfl rfl rfl (by rw [hsz]; decide) h1 (v := .agg #[.int .i64 o, .int .i64 u, .int .i64 c]) (w' := w1) ?_ rfl (Below.refl _ _)
      simp [execOp, Act.eval, h0, x0, x1, x2, go_sem]
    · intro a w1 hR hsz hs      -- 35: slot 62
      obtain ⟨h0, h1, _⟩ := hs
      have h0 : a.tmps.getD 2 undef = .int .i64 n := h0
      have h1 : a.tmps.getD 57 undef = .bool true := h1
      refine opg_run rfl rfl rfl (by rw [hsz]; decide) h1 (v := .int .i64 n) (w' := w1) ?_ rfl (Below.refl _ _)
      simp [execOp, Act.eval, h0, go_sem]
    · intro a w1 hR hsz hs      -- 36: slot 63
      obtain ⟨h0, h1, h2, _⟩ := hs
      have h0 : a.tmps.getD 61 undef = .agg #[.int .i64 o, .int .i64 u, .int .i64 c] := h0
      have h1 : a.tmps.getD 62 undef = .int .i64 n := h1
      have h2 : a.tmps.getD 57 undef = .bool true := h2
      refine opg_call rfl rfl rfl (by rw [hsz]; decide) h2 (f := 16) (args := #[.agg #[.int .i64 o, .int .i64 u, .int .i64 c], .int .i64 n]) (by simp [execOp, Act.eval, resolve, h0, h1, go_sem]) ?_
      exact calls_c (HO2.out w1)
    · intro a w1 hR hsz hs      -- 37: slot 64
      obtain ⟨h0, h1, h2, _⟩ := hs
      have h0 : a.tmps.getD 60 undef = .int .i64 OJ := h0
      have h1 : a.tmps.getD 63 undef = .int .i64 OJ := h1
      have h2 : a.tmps.getD 57 undef = .bool true := h2
      refine opg_run rfl rfl rfl (by rw [hsz]; decide) h2 (v := .bool true) (w' := w1) ?_ rfl (Below.refl _ _)
      simp [execOp, Act.eval, h0, h1, go_sem]
    · intro a w1 hR hsz hs      -- 38: slot 65
      obtain ⟨h0, h1, _⟩ := hs
      have h0 : a.tmps.getD 57 undef = .bool true := h0
      have h1 : a.tmps.getD 64 undef = .bool true := h1
      refine op_run rfl rfl (v := .bool true) (w' := w1) ?_ rfl (Below.refl _ _)
      simp [execOp, Act.eval, h0, h1, go_sem]
    · intro a w1 hR hsz hs      -- 39: slot 66
      obtain ⟨h0, _⟩ := hs
      have h0 : a.tmps.getD 65 undef = .bool true := h0
      refine op_run rfl rfl (v := .bool true) (w' := w1) ?_ rfl (Below.refl _ _)
      simp [execOp, Act.eval, h0, go_sem]
    · intro a w1 hR hsz hs      -- 40: slot 67
      obtain ⟨h0, h1, _⟩ := hs
      have h0 : a.tmps.getD 5 undef = .pointer (some ⟨P5, 0, none⟩) := h0
      have h1 : a.tmps.getD 66 undef = .bool true := h1
      obtain ⟨x0, x1, x2⟩ := (HX5.out.later hR).l3
      refine opg_run rfl rfl rfl (by rw [hsz]; decide) h1 (v := .agg #[.int .i64 o, .int .i64 u, .int .i64 c]) (w' := w1) ?_ rfl (Below.refl _ _)
      simp [execOp, Act.eval, h0, x0, x1, x2, go_sem]
    · intro a w1 hR hsz hs      -- 41: slot 68
      obtain ⟨h0, h1, _⟩ := hs
      have h0 : a.tmps.getD 2 undef = .int .i64 n := h0
      have h1 : a.tmps.getD 66 undef = .bool true := h1
      refine opg_run rfl rfl rfl (by rw [hsz]; decide) h1 (v := .int .i64 n) (w' := w1) ?_ rfl (Below.refl _ _)
      simp [execOp, Act.eval, h0, go_sem]
    · intro a w1 hR hsz hs      -- 42: slot 69
      obtain ⟨h0, h1, _⟩ := hs
      have h0 : a.tmps.getD 3 undef = .int .i64 obj := h0
      have h1 : a.tmps.getD 66 undef = .bool true := h1
      refine opg_run rfl rfl rfl (by rw [hsz]; decide) h1 (v := .int .i64 obj) (w' := w1) ?_ rfl (Below.refl _ _)
      simp [execOp, Act.eval, h0, go_sem]
    · intro a w1 hR hsz hs      -- 43: slot 70
      obtain ⟨h0, h1, h2, h3, _⟩ := hs
      have h0 : a.tmps.getD 67 undef = .agg #[.int .i64 o, .int .i64 u, .int .i64 c] := h0
      have h1 : a.tmps.getD 68 undef = .int .i64 n := h1
      have h2 : a.tmps.getD 69 undef = .int .i64 obj := h2
      have h3 : a.tmps.getD 66 undef = .bool true := h3
      refine opg_call rfl rfl rfl (by rw [hsz]; decide) h3 (f := 17) (args := #[.agg #[.int .i64 o, .int .i64 u, .int .i64 c], .int .i64 n, .int .i64 obj]) (by simp [execOp, Act.eval, resolve, h0, h1, h2, go_sem]) ?_
      exact calls_c (HY1.out w1)
    · intro a w1 hR hsz hs      -- 44: slot 71
      obtain ⟨h0, h1, _⟩ := hs
      have h0 : a.tmps.getD 5 undef = .pointer (some ⟨P5, 0, none⟩) := h0
      have h1 : a.tmps.getD 66 undef = .bool true := h1
      obtain ⟨x0, x1, x2⟩ := (HX5.out.later hR).l3
      refine opg_run rfl rfl rfl (by rw [hsz]; decide) h1 (v := .agg #[.int .i64 o, .int .i64 u, .int .i64 c]) (w' := w1) ?_ rfl (Below.refl _ _)
      simp [execOp, Act.eval, h0, x0, x1, x2, go_sem]
    · intro a w1 hR hsz hs      -- 45: slot 72
      obtain ⟨h0, h1, _⟩ := hs
      have h0 : a.tmps.getD 2 undef = .int .i64 n := h0
      have h1 : a.tmps.getD 66 undef = .bool true := h1
      refine opg_run rfl rfl rfl (by rw [hsz]; decide) h1 (v := .int .i64 n) (w' := w1) ?_ rfl (Below.refl _ _)
      simp [execOp, Act.eval, h0, go_sem]
    · intro a w1 hR hsz hs      -- 46: slot 73
      obtain ⟨h0, h1, _⟩ := hs
      have h0 : a.tmps.getD 3 undef = .int .i64 obj := h0
      have h1 : a.tmps.getD 66 undef = .bool true := h1
      refine opg_run rfl rfl rfl (by rw [hsz]; decide) h1 (v := .int .i64 obj) (w' := w1) ?_ rfl (Below.refl _ _)
      simp [execOp, Act.eval, h0, go_sem]
    · intro a w1 hR hsz hs      -- 47: slot 74
      obtain ⟨h0, h1, h2, h3, _⟩ := hs
      have h0 : a.tmps.getD 71 undef = .agg #[.int .i64 o, .int .i64 u, .int .i64 c] := h0
      have h1 : a.tmps.getD 72 undef = .int .i64 n := h1
      have h2 : a.tmps.getD 73 undef = .int .i64 obj := h2
      have h3 : a.tmps.getD 66 undef = .bool true := h3
      refine opg_call rfl rfl rfl (by rw [hsz]; decide) h3 (f := 18) (args := #[.agg #[.int .i64 o, .int .i64 u, .int .i64 c], .int .i64 n, .int .i64 obj]) (by simp [execOp, Act.eval, resolve, h0, h1, h2, go_sem]) ?_
      exact calls_c (HY2.out w1)
    · intro a w1 hR hsz hs      -- 48: slot 75
      obtain ⟨h0, h1, h2, _⟩ := hs
      have h0 : a.tmps.getD 70 undef = .int .i64 BY := h0
      have h1 : a.tmps.getD 74 undef = .int .i64 BY := h1
      have h2 : a.tmps.getD 66 undef = .bool true := h2
      refine opg_run rfl rfl rfl (by rw [hsz]; decide) h2 (v := .bool true) (w' := w1) ?_ rfl (Below.refl _ _)
      simp [execOp, Act.eval, h0, h1, go_sem]
    · intro a w1 hR hsz hs      -- 49: slot 76
      obtain ⟨h0, h1, _⟩ := hs
      have h0 : a.tmps.getD 66 undef = .bool true := h0
      have h1 : a.tmps.getD 75 undef = .bool true := h1
      refine op_run rfl rfl (v := .bool true) (w' := w1) ?_ rfl (Below.refl _ _)
      simp [execOp, Act.eval, h0, h1, go_sem]
    · intro a w1 hR hsz hs      -- 50: slot 77
      obtain ⟨h0, _⟩ := hs
      have h0 : a.tmps.getD 76 undef = .bool true := h0
      refine op_run rfl rfl (v := .bool true) (w' := w1) ?_ rfl (Below.refl _ _)
      simp [execOp, Act.eval, h0, go_sem]
    · intro a w1 hR hsz hs      -- 51: slot 78
      obtain ⟨h0, _⟩ := hs
      have h0 : a.tmps.getD 77 undef = .bool true := h0
      refine opg_call rfl rfl rfl (by rw [hsz]; decide) h0 (f := 19) (args := #[]) (by simp [execOp, Act.eval, resolve, go_sem]) ?_
      exact calls_c (known12_any w1)
    · intro a w1 hR hsz hs      -- 52: slot 79
      obtain ⟨h0, h1, _⟩ := hs
      have h0 : a.tmps.getD 77 undef = .bool true := h0
      have h1 : a.tmps.getD 78 undef = .bool true := h1
      refine op_run rfl rfl (v := .bool true) (w' := w1) ?_ rfl (Below.refl _ _)
      simp [execOp, Act.eval, h0, h1, go_sem]
    · intro a w1 hR hsz hs      -- 53: slot 10
      obtain ⟨h0, _⟩ := hs
      have h0 : a.tmps.getD 79 undef = .bool true := h0
      refine op_run rfl rfl (v := .bool true) (w' := w1) ?_ rfl (Below.refl _ _)
      simp [execOp, Act.eval, h0, go_sem]
  · intro f w1 hR hv
    have e10 : f 10 = .bool true := hv 53 _ 10 rfl rfl
    clear hv
    try simp only [Exit.then]
    simp only [putAll, List.foldl_cons, List.foldl_nil, Option.getD_some, Act.put, List.setIfInBounds_toArray, List.set_cons_succ, List.set_cons_zero]
    go_wp2_with fail
    go_ret
    exact ⟨congrArg Ending.returned e10, HBZ.out.trans (hR.mono HBZ.out.size)⟩
  -- END 3
theorem stripeTells_open (ca : Array Value) (t : Int × Int × Int) (off n obj at' : Int) (w : World) (h : LayE ca.toList t) (hn : -9223372036854775808 ≤ n ∧ n ≤ 9223372036854775807) : Calls Try.prog 3 #[.agg ca, .int .i64 off, .int .i64 n, .int .i64 obj, .int .i64 at'] w fun x w' => x = .returned (.bool true) ∧ Below w.heap.size w w' := by
  have e : ca = layC t.1 t.2.1 t.2.2 := by
    have h2 : ca = ca.toList.toArray := rfl
    unfold LayE at h
    rw [h2, h]
  subst e
  exact stripeTells_walk t.1 t.2.1 t.2.2 off n obj at' w hn
end Go.Proofs.Ytalgjoeinllllaa
