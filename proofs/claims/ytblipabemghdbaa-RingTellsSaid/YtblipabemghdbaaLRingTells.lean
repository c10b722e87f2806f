/- The law 'RingTells', walked. -/
import Derived.Test.YtblipabemghdbaaRgK
import Derived.Test.YtblipabemghdbaaFree
namespace Go.Proofs.Ytblipabemghdbaa
open Go.RowKit Go.Proofs
set_option linter.unusedVariables false
set_option linter.unusedSimpArgs false
set_option linter.unnecessarySimpa false

theorem three_recsR (w : World) (c1 c2 c3 : Array Value) (t1 t2 t3 : TypeId) : ∀ W, ((w.alloc (.cells c1 t1)).alloc (.cells c2 t2)).alloc (.cells c3 t3) = W →
    RecAt W w.heap.size c1 t1 ∧ RecAt W (w.heap.size + 1) c2 t2 ∧ RecAt W (w.heap.size + 1 + 1) c3 t3 ∧ Below w.heap.size w W := by
  intro W hW
  obtain ⟨p1, p2, p3⟩ := two_recsR w c1 c2 t1 t2
  have z2 : ((w.alloc (.cells c1 t1)).alloc (.cells c2 t2)).heap.size = w.heap.size + 1 + 1 := by simp
  generalize (w.alloc (.cells c1 t1)).alloc (.cells c2 t2) = w2 at *
  have r1 := RecAt.new w2 c3 t3
  have r3 := (Below.refl w2.heap.size w2).alloc (Nat.le_refl _) (.cells c3 t3)
  rw [hW] at r1 r3
  rw [z2] at r1
  exact ⟨p1.later r3, p2.later r3, r1, p3.trans (r3.mono p3.size)⟩
set_option maxRecDepth 100000 in
set_option maxHeartbeats 12800000 in
theorem ringTells_walk (c : Rg) (g0 : Fl) (q n : Int) (p : Pc) (hci : c.In) (hgi : g0.InI) (hqi : inI q) (hni : inI n) (hpi : p.In) (w : World) : Calls Try.prog 3 #[rgV c, flV g0, .int .i64 q, .int .i64 n, pcV p] w fun x w' => x = .returned (.bool true) ∧ Below w.heap.size w w' := by
  obtain ⟨w1, hw1⟩ : ∃ W, ((w.alloc (.cells (rgC c) 23)).alloc (.cells (flC g0) 26)).alloc (.cells (pcC p) 28) = W := ⟨_, rfl⟩
  obtain ⟨X5, X6, X9, B1⟩ := three_recsR w _ _ _ _ _ _ w1 hw1
  have HX5 := Lib.hid X5
  have HX6 := Lib.hid X6
  have HX9 := Lib.hid X9
  have HB1 := Lib.hid B1
  clear X5 X6 X9 B1
  obtain ⟨F, P, nx, ok, hpt⟩ : ∃ F P b k, putR c g0 q n = (F, P, b, k) := ⟨_, _, _, _, rfl⟩
  have HP1 := Lib.hid (fun W => ringput_any c g0 q n hci hgi hqi hni W)
  have HP2 := Lib.hid (fun W => rput10_any c g0 q n W)
  rw [hpt] at HP1 HP2
  obtain ⟨NU, hNU⟩ : ∃ z, numR c p = z := ⟨_, rfl⟩
  have HN1 := Lib.hid (fun W => ringnum_any c p hci hpi W)
  have HN2 := Lib.hid (fun W => rnum10_any c p W)
  rw [hNU] at HN1 HN2
  obtain ⟨RR, hRR⟩ : ∃ z, decide c.Ok = z := ⟨_, rfl⟩
  have HR1 := Lib.hid (fun W => ringright_any c hci W)
  have HR2 := Lib.hid (fun W => rright10_any c W)
  rw [hRR] at HR1 HR2
  clear hpt hNU hRR hci hgi hqi hni hpi
  go_enter Try.func3, Try.ntmps3
  go_upto_region 1 with fail
  try rw [hw1]
  clear hw1
  obtain ⟨P9, hP9⟩ : ∃ P, w.heap.size + 1 + 1 = P := ⟨_, rfl⟩
  obtain ⟨P6, hP6⟩ : ∃ P, w.heap.size + 1 = P := ⟨_, rfl⟩
  obtain ⟨P5, hP5⟩ : ∃ P, w.heap.size = P := ⟨_, rfl⟩
  rw [hP9] at HX9 ⊢
  rw [hP6] at HX6 ⊢
  rw [hP5] at HX5
  rw [hP5]
  clear hP9 hP6 hP5
  obtain ⟨a0, a1, a2⟩ := HX5.out.c3
  obtain ⟨y0, y1, y2, y3, y4⟩ := HX6.out.e5
  go_wp2_with fail
  refine (HP1.out w1).mono ?_
  rintro e w2 ⟨rfl, b2⟩
  obtain ⟨A1, A2, A3⟩ := two_recsR w2 (flC F) (pcC P) 26 28
  have bb := b2.trans (A3.mono b2.size)
  have HX11 := Lib.hid A1
  have HX12 := Lib.hid A2
  have HX53 := Lib.hid (HX5.out.later bb)
  have HX63 := Lib.hid (HX6.out.later bb)
  have HX93 := Lib.hid (HX9.out.later bb)
  have HB3 := Lib.hid (HB1.out.trans (bb.mono HB1.out.size))
  clear A1 A2 A3 bb b2 a0 a1 a2 y0 y1 y2 y3 y4 HX5 HX6 HX9 HB1
  go_upto_region 2 with fail
  generalize ((w2.alloc (.cells (flC F) 26)).alloc (.cells (pcC P) 28)) = w3 at *
  obtain ⟨P12, hP12⟩ : ∃ P, w2.heap.size + 1 = P := ⟨_, rfl⟩
  rw [hP12] at HX12 ⊢
  obtain ⟨P11, hP11⟩ : ∃ P, w2.heap.size = P := ⟨_, rfl⟩
  rw [hP11] at HX11
  rw [hP11]
  clear hP12 hP11
  obtain ⟨a0, a1, a2⟩ := HX53.out.c3
  obtain ⟨y0, y1, y2, y3, y4⟩ := HX63.out.e5
  go_wp2_with fail
  refine (HP2.out w3).mono ?_
  rintro e w4 ⟨rfl, b4⟩
  obtain ⟨A1, A2, A3⟩ := two_recsR w4 (flC F) (pcC P) 26 28
  have bb := b4.trans (A3.mono b4.size)
  have HX14 := Lib.hid A1
  have HX15 := Lib.hid A2
  have HX5 := Lib.hid (HX53.out.later bb)
  have HX9 := Lib.hid (HX93.out.later bb)
  have HX115 := Lib.hid (HX11.out.later bb)
  have HX125 := Lib.hid (HX12.out.later bb)
  have HBZ := Lib.hid (HB3.out.trans (bb.mono HB3.out.size))
  clear A1 A2 A3 bb b4 a0 a1 a2 y0 y1 y2 y3 y4 HX53 HX63 HX93 HB3 HX11 HX12
  have HX11 := HX115
  have HX12 := HX125
  clear HX115 HX125
  go_upto_region 3 with fail
  generalize ((w4.alloc (.cells (flC F) 26)).alloc (.cells (pcC P) 28)) = w5 at *
  obtain ⟨P15, hP15⟩ : ∃ P, w4.heap.size + 1 = P := ⟨_, rfl⟩
  rw [hP15] at HX15 ⊢
  obtain ⟨P14, hP14⟩ : ∃ P, w4.heap.size = P := ⟨_, rfl⟩
  rw [hP14] at HX14
  rw [hP14]
  clear hP15 hP14
  -- REG 3
  refine wp_region_tab (L := [cV (.agg #[.int .i64 F.set, .int .i64 F.u0, .int .i64 F.u1, .int .i64 F.u2, .int .i64 F.u3]), cV (.agg #[.int .i64 F.set, .int .i64 F.u0, .int .i64 F.u1, .int .i64 F.u2, .int .i64 F.u3]), cV (.bool true), cV (.bool true), cV (.agg #[.int .i64 P.set, .int .i64 P.obj]), cV (.agg #[.int .i64 P.set, .int .i64 P.obj]), cV (.bool true), cV (.bool true), cV (.bool true), cV (.bool nx), cV (.bool nx), cV (.bool true), cV (.bool true), cV (.bool true), cV (.agg #[.int .i64 c.sp, .int .i64 c.st, .int .i64 c.sz]), cV (.agg #[.int .i64 p.set, .int .i64 p.obj]), cV (.int .i64 NU), cV (.agg #[.int .i64 c.sp, .int .i64 c.st, .int .i64 c.sz]), cV (.agg #[.int .i64 p.set, .int .i64 p.obj]), cV (.int .i64 NU), cV (.bool true), cV (.bool true), cV (.bool true), cV (.agg #[.int .i64 c.sp, .int .i64 c.st, .int .i64 c.sz]), cV (.bool RR), cV (.agg #[.int .i64 c.sp, .int .i64 c.st, .int .i64 c.sz]), cV (.bool RR), cV (.bool true), cV (.bool true), cV (.bool true), cV (.bool true), cV (.bool true), cV (.bool true)]) [[(11, none)], [(14, none)], [(37, some 0), (38, some 1)], [(39, some 2)], [(12, none), (40, some 3)], [(15, none), (40, some 3)], [(41, some 4), (42, some 5), (40, some 3)], [(40, some 3), (43, some 6)], [(44, some 7)], [(13, none), (45, some 8)], [(16, none), (45, some 8)], [(46, some 9), (47, some 10), (45, some 8)], [(45, some 8), (48, some 11)], [(49, some 12)], [(5, none), (50, some 13)], [(9, none), (50, some 13)], [(51, some 14), (52, some 15), (50, some 13)], [(5, none), (50, some 13)], [(9, none), (50, some 13)], [(54, some 17), (55, some 18), (50, some 13)], [(53, some 16), (56, some 19), (50, some 13)], [(50, some 13), (57, some 20)], [(58, some 21)], [(5, none), (59, some 22)], [(60, some 23), (59, some 22)], [(5, none), (59, some 22)], [(62, some 25), (59, some 22)], [(61, some 24), (63, some 26), (59, some 22)], [(59, some 22), (64, some 27)], [(65, some 28)], [(66, some 29)], [(66, some 29), (67, some 30)], [(68, some 31)]] 33 69 (by kernel_rfl) rfl rfl (by kernel_rfl) (by kernel_rfl) ?_ ?_
  · show ∀ i, i < 33 → _
    iterate 33 (refine fls ?_ ?_)
    · exact fl0
    · intro a w1 hR hsz hs      -- 0: slot 37
      obtain ⟨h0, _⟩ := hs
      have h0 : a.tmps.getD 11 undef = .pointer (some ⟨P11, 0, none⟩) := h0
      obtain ⟨x0, x1, x2, x3, x4⟩ := (HX11.out.later hR).e5
      refine op_run rfl rfl (v := .agg #[.int .i64 F.set, .int .i64 F.u0, .int .i64 F.u1, .int .i64 F.u2, .int .i64 F.u3]) (w' := w1) ?_ rfl (Below.refl _ _)
      simp [execOp, Act.eval, h0, x0, x1, x2, x3, x4, go_sem]
    · intro a w1 hR hsz hs      -- 1: slot 38
      obtain ⟨h0, _⟩ := hs
      have h0 : a.tmps.getD 14 undef = .pointer (some ⟨P14, 0, none⟩) := h0
      obtain ⟨x0, x1, x2, x3, x4⟩ := (HX14.out.later hR).e5
      refine op_run rfl rfl (v := .agg #[.int .i64 F.set, .int .i64 F.u0, .int .i64 F.u1, .int .i64 F.u2, .int .i64 F.u3]) (w' := w1) ?_ rfl (Below.refl _ _)
      simp [execOp, Act.eval, h0, x0, x1, x2, x3, x4, go_sem]
    · intro a w1 hR hsz hs      -- 2: slot 39
      obtain ⟨h0, h1, _⟩ := hs
      have h0 : a.tmps.getD 37 undef = .agg #[.int .i64 F.set, .int .i64 F.u0, .int .i64 F.u1, .int .i64 F.u2, .int .i64 F.u3] := h0
      have h1 : a.tmps.getD 38 undef = .agg #[.int .i64 F.set, .int .i64 F.u0, .int .i64 F.u1, .int .i64 F.u2, .int .i64 F.u3] := h1
      have k0 := fl_arr w1 F
      refine op_run rfl rfl (v := .bool true) (w' := w1) ?_ rfl (Below.refl _ _)
      simp [execOp, Act.eval, h0, h1, k0, go_sem]
    · intro a w1 hR hsz hs      -- 3: slot 40
      obtain ⟨h0, _⟩ := hs
      have h0 : a.tmps.getD 39 undef = .bool true := h0
      refine op_run rfl rfl (v := .bool true) (w' := w1) ?_ rfl (Below.refl _ _)
      simp [execOp, Act.eval, h0, go_sem]
    · intro a w1 hR hsz hs      -- 4: slot 41
      obtain ⟨h0, h1, _⟩ := hs
      have h0 : a.tmps.getD 12 undef = .pointer (some ⟨P12, 0, none⟩) := h0
      have h1 : a.tmps.getD 40 undef = .bool true := h1
      obtain ⟨x0, x1⟩ := (HX12.out.later hR).c2
      refine opg_run rfl rfl rfl (by rw [hsz]; decide) h1 (v := .agg #[.int .i64 P.set, .int .i64 P.obj]) (w' := w1) ?_ rfl (Below.refl _ _)
      simp [execOp, Act.eval, h0, x0, x1, go_sem]
    · intro a w1 hR hsz hs      -- 5: slot 42
      obtain ⟨h0, h1, _⟩ := hs
      have h0 : a.tmps.getD 15 undef = .pointer (some ⟨P15, 0, none⟩) := h0
      have h1 : a.tmps.getD 40 undef = .bool true := h1
      obtain ⟨x0, x1⟩ := (HX15.out.later hR).c2
      refine opg_run rfl rfl rfl (by rw [hsz]; decide) h1 (v := .agg #[.int .i64 P.set, .int .i64 P.obj]) (w' := w1) ?_ rfl (Below.refl _ _)
      simp [execOp, Act.eval, h0, x0, x1, go_sem]
    · intro a w1 hR hsz hs      -- 6: slot 43
      obtain ⟨h0, h1, h2, _⟩ := hs
      have h0 : a.tmps.getD 41 undef = .agg #[.int .i64 P.set, .int .i64 P.obj] := h0
      have h1 : a.tmps.getD 42 undef = .agg #[.int .i64 P.set, .int .i64 P.obj] := h1
      have h2 : a.tmps.getD 40 undef = .bool true := h2
      have k0 := pc_same w1 P
      refine opg_run rfl rfl rfl (by rw [hsz]; decide) h2 (v := .bool true) (w' := w1) ?_ rfl (Below.refl _ _)
      simp [execOp, Act.eval, h0, h1, k0, pc_guard, go_sem]
    · intro a w1 hR hsz hs      -- 7: slot 44
      obtain ⟨h0, h1, _⟩ := hs
      have h0 : a.tmps.getD 40 undef = .bool true := h0
      have h1 : a.tmps.getD 43 undef = .bool true := h1
      refine op_run rfl rfl (v := .bool true) (w' := w1) ?_ rfl (Below.refl _ _)
      simp [execOp, Act.eval, h0, h1, go_sem]
    · intro a w1 hR hsz hs      -- 8: slot 45
      obtain ⟨h0, _⟩ := hs
      have h0 : a.tmps.getD 44 undef = .bool true := h0
      refine op_run rfl rfl (v := .bool true) (w' := w1) ?_ rfl (Below.refl _ _)
      simp [execOp, Act.eval, h0, go_sem]
    · intro a w1 hR hsz hs      -- 9: slot 46
      obtain ⟨h0, h1, _⟩ := hs
      have h0 : a.tmps.getD 13 undef = .bool nx := h0
      have h1 : a.tmps.getD 45 undef = .bool true := h1
      refine opg_run rfl rfl rfl (by rw [hsz]; decide) h1 (v := .bool nx) (w' := w1) ?_ rfl (Below.refl _ _)
      simp [execOp, Act.eval, h0, go_sem]
    · intro a w1 hR hsz hs      -- 10: slot 47
      obtain ⟨h0, h1, _⟩ := hs
      have h0 : a.tmps.getD 16 undef = .bool nx := h0
      have h1 : a.tmps.getD 45 undef = .bool true := h1
      refine opg_run rfl rfl rfl (by rw [hsz]; decide) h1 (v := .bool nx) (w' := w1) ?_ rfl (Below.refl _ _)
      simp [execOp, Act.eval, h0, go_sem]
    · intro a w1 hR hsz hs      -- 11: slot 48
      obtain ⟨h0, h1, h2, _⟩ := hs
      have h0 : a.tmps.getD 46 undef = .bool nx := h0
      have h1 : a.tmps.getD 47 undef = .bool nx := h1
      have h2 : a.tmps.getD 45 undef = .bool true := h2
      refine opg_run rfl rfl rfl (by rw [hsz]; decide) h2 (v := .bool true) (w' := w1) ?_ rfl (Below.refl _ _)
      simp [execOp, Act.eval, h0, h1, go_sem]
    · intro a w1 hR hsz hs      -- 12: slot 49
      obtain ⟨h0, h1, _⟩ := hs
      have h0 : a.tmps.getD 45 undef = .bool true := h0
      have h1 : a.tmps.getD 48 undef = .bool true := h1
      refine op_run rfl rfl (v := .bool true) (w' := w1) ?_ rfl (Below.refl _ _)
      simp [execOp, Act.eval, h0, h1, go_sem]
    · intro a w1 hR hsz hs      -- 13: slot 50
      obtain ⟨h0, _⟩ := hs
      have h0 : a.tmps.getD 49 undef = .bool true := h0
      refine op_run rfl rfl (v := .bool true) (w' := w1) ?_ rfl (Below.refl _ _)
      simp [execOp, Act.eval, h0, go_sem]
    · intro a w1 hR hsz hs      -- 14: slot 51
      obtain ⟨h0, h1, _⟩ := hs
      have h0 : a.tmps.getD 5 undef = .pointer (some ⟨P5, 0, none⟩) := h0
      have h1 : a.tmps.getD 50 undef = .bool true := h1
      obtain ⟨x0, x1, x2⟩ := (HX5.out.later hR).c3
      refine opg_run rfl rfl rfl (by rw [hsz]; decide) h1 (v := .agg #[.int .i64 c.sp, .int .i64 c.st, .int .i64 c.sz]) (w' := w1) ?_ rfl (Below.refl _ _)
      simp [execOp, Act.eval, h0, x0, x1, x2, go_sem]
    · intro a w1 hR hsz hs      -- 15: slot 52
      obtain ⟨h0, h1, _⟩ := hs
      have h0 : a.tmps.getD 9 undef = .pointer (some ⟨P9, 0, none⟩) := h0
      have h1 : a.tmps.getD 50 undef = .bool true := h1
      obtain ⟨x0, x1⟩ := (HX9.out.later hR).c2
      refine opg_run rfl rfl rfl (by rw [hsz]; decide) h1 (v := .agg #[.int .i64 p.set, .int .i64 p.obj]) (w' := w1) ?_ rfl (Below.refl _ _)
      simp [execOp, Act.eval, h0, x0, x1, go_sem]
    · intro a w1 hR hsz hs      -- 16: slot 53
      obtain ⟨h0, h1, h2, _⟩ := hs
      have h0 : a.tmps.getD 51 undef = .agg #[.int .i64 c.sp, .int .i64 c.st, .int .i64 c.sz] := h0
      have h1 : a.tmps.getD 52 undef = .agg #[.int .i64 p.set, .int .i64 p.obj] := h1
      have h2 : a.tmps.getD 50 undef = .bool true := h2
      refine opg_call rfl rfl rfl (by rw [hsz]; decide) h2 (f := 10) (args := #[.agg #[.int .i64 c.sp, .int .i64 c.st, .int .i64 c.sz], .agg #[.int .i64 p.set, .int .i64 p.obj]]) (by simp [execOp, Act.eval, resolve, h0, h1, go_sem]) ?_
      exact calls_c (HN1.out w1)
    · intro a w1 hR hsz hs      -- 17: slot 54
      obtain ⟨h0, h1, _⟩ := hs
      have h0 : a.tmps.getD 5 undef = .pointer (some ⟨P5, 0, none⟩) := h0
      have h1 : a.tmps.getD 50 undef = .bool true := h1
      obtain ⟨x0, x1, x2⟩ := (HX5.out.later hR).c3
      refine opg_run rfl rfl rfl (by rw [hsz]; decide) h1 (v := .agg #[.int .i64 c.sp, .int .i64 c.st, .int .i64 c.sz]) (w' := w1) ?_ rfl (Below.refl _ _)
      simp [execOp, Act.eval, h0, x0, x1, x2, go_sem]
    · intro a w1 hR hsz hs      -- 18: slot 55
      obtain ⟨h0, h1, _⟩ := hs
      have h0 : a.tmps.getD 9 undef = .pointer (some ⟨P9, 0, none⟩) := h0
      have h1 : a.tmps.getD 50 undef = .bool true := h1
      obtain ⟨x0, x1⟩ := (HX9.out.later hR).c2
      refine opg_run rfl rfl rfl (by rw [hsz]; decide) h1 (v := .agg #[.int .i64 p.set, .int .i64 p.obj]) (w' := w1) ?_ rfl (Below.refl _ _)
      simp [execOp, Act.eval, h0, x0, x1, go_sem]
    · intro a w1 hR hsz hs      -- 19: slot 56
      obtain ⟨h0, h1, h2, _⟩ := hs
      have h0 : a.tmps.getD 54 undef = .agg #[.int .i64 c.sp, .int .i64 c.st, .int .i64 c.sz] := h0
      have h1 : a.tmps.getD 55 undef = .agg #[.int .i64 p.set, .int .i64 p.obj] := h1
      have h2 : a.tmps.getD 50 undef = .bool true := h2
      refine opg_call rfl rfl rfl (by rw [hsz]; decide) h2 (f := 11) (args := #[.agg #[.int .i64 c.sp, .int .i64 c.st, .int .i64 c.sz], .agg #[.int .i64 p.set, .int .i64 p.obj]]) (by simp [execOp, Act.eval, resolve, h0, h1, go_sem]) ?_
      exact calls_c (HN2.out w1)
    · intro a w1 hR hsz hs      -- 20: slot 57
      obtain ⟨h0, h1, h2, _⟩ := hs
      have h0 : a.tmps.getD 53 undef = .int .i64 NU := h0
      have h1 : a.tmps.getD 56 undef = .int .i64 NU := h1
      have h2 : a.tmps.getD 50 undef = .bool true := h2
      refine opg_run rfl rfl rfl (by rw [hsz]; decide) h2 (v := .bool true) (w' := w1) ?_ rfl (Below.refl _ _)
      simp [execOp, Act.eval, h0, h1, go_sem]
    · intro a w1 hR hsz hs      -- 21: slot 58
      obtain ⟨h0, h1, _⟩ := hs
      have h0 : a.tmps.getD 50 undef = .bool true := h0
      have h1 : a.tmps.getD 57 undef = .bool true := h1
      refine op_run rfl rfl (v := .bool true) (w' := w1) ?_ rfl (Below.refl _ _)
      simp [execOp, Act.eval, h0, h1, go_sem]
    · intro a w1 hR hsz hs      -- 22: slot 59
      obtain ⟨h0, _⟩ := hs
      have h0 : a.tmps.getD 58 undef = .bool true := h0
      refine op_run rfl rfl (v := .bool true) (w' := w1) ?_ rfl (Below.refl _ _)
      simp [execOp, Act.eval, h0, go_sem]
    · intro a w1 hR hsz hs      -- 23: slot 60
      obtain ⟨h0, h1, _⟩ := hs
      have h0 : a.tmps.getD 5 undef = .pointer (some ⟨P5, 0, none⟩) := h0
      have h1 : a.tmps.getD 59 undef = .bool true := h1
      obtain ⟨x0, x1, x2⟩ := (HX5.out.later hR).c3
      refine opg_run rfl rfl rfl (by rw [hsz]; decide) h1 (v := .agg #[.int .i64 c.sp, .int .i64 c.st, .int .i64 c.sz]) (w' := w1) ?_ rfl (Below.refl _ _)
      simp [execOp, Act.eval, h0, x0, x1, x2, go_sem]
    · intro a w1 hR hsz hs      -- 24: slot 61
      obtain ⟨h0, h1, _⟩ := hs
      have h0 : a.tmps.getD 60 undef = .agg #[.int .i64 c.sp, .int .i64 c.st, .int .i64 c.sz] := h0
      have h1 : a.tmps.getD 59 undef = .bool true := h1
      refine opg_call rfl rfl rfl (by rw [hsz]; decide) h1 (f := 12) (args := #[.agg #[.int .i64 c.sp, .int .i64 c.st, .int .i64 c.sz]]) (by simp [execOp, Act.eval, resolve, h0, go_sem]) ?_
      exact calls_c (HR1.out w1)
    · intro a w1 hR hsz hs      -- 25: slot 62
      obtain ⟨h0, h1, _⟩ := hs
      have h0 : a.tmps.getD 5 undef = .pointer (some ⟨P5, 0, none⟩) := h0
      have h1 : a.tmps.getD 59 undef = .bool true := h1
      obtain ⟨x0, x1, x2⟩ := (HX5.out.later hR).c3
      refine opg_run rfl rfl rfl (by rw [hsz]; decide) h1 (v := .agg #[.int .i64 c.sp, .int .i64 c.st, .int .i64 c.sz]) (w' := w1) ?_ rfl (Below.refl _ _)
      simp [execOp, Act.eval, h0, x0, x1, x2, go_sem]
    · intro a w1 hR hsz hs      -- 26: slot 63
      obtain ⟨h0, h1, _⟩ := hs
      have h0 : a.tmps.getD 62 undef = .agg #[.int .i64 c.sp, .int .i64 c.st, .int .i64 c.sz] := h0
      have h1 : a.tmps.getD 59 undef = .bool true := h1
      refine opg_call rfl rfl rfl (by rw [hsz]; decide) h1 (f := 13) (args := #[.agg #[.int .i64 c.sp, .int .i64 c.st, .int .i64 c.sz]]) (by simp [execOp, Act.eval, resolve, h0, go_sem]) ?_
      exact calls_c (HR2.out w1)
    · intro a w1 hR hsz hs      -- 27: slot 64
      obtain ⟨h0, h1, h2, _⟩ := hs
      have h0 : a.tmps.getD 61 undef = .bool RR := h0
      have h1 : a.tmps.getD 63 undef = .bool RR := h1
      have h2 : a.tmps.getD 59 undef = .bool true := h2
      refine opg_run rfl rfl rfl (by rw [hsz]; decide) h2 (v := .bool true) (w' := w1) ?_ rfl (Below.refl _ _)
      simp [execOp, Act.eval, h0, h1, go_sem]
    · intro a w1 hR hsz hs      -- 28: slot 65
      obtain ⟨h0, h1, _⟩ := hs
      have h0 : a.tmps.getD 59 undef = .bool true := h0
      have h1 : a.tmps.getD 64 undef = .bool true := h1
      refine op_run rfl rfl (v := .bool true) (w' := w1) ?_ rfl (Below.refl _ _)
      simp [execOp, Act.eval, h0, h1, go_sem]
    · intro a w1 hR hsz hs      -- 29: slot 66
      obtain ⟨h0, _⟩ := hs
      have h0 : a.tmps.getD 65 undef = .bool true := h0
      refine op_run rfl rfl (v := .bool true) (w' := w1) ?_ rfl (Below.refl _ _)
      simp [execOp, Act.eval, h0, go_sem]
    · intro a w1 hR hsz hs      -- 30: slot 67
      obtain ⟨h0, _⟩ := hs
      have h0 : a.tmps.getD 66 undef = .bool true := h0
      refine opg_call rfl rfl rfl (by rw [hsz]; decide) h0 (f := 14) (args := #[]) (by simp [execOp, Act.eval, resolve, go_sem]) ?_
      exact calls_c (knownRg_any w1)
    · intro a w1 hR hsz hs      -- 31: slot 68
      obtain ⟨h0, h1, _⟩ := hs
      have h0 : a.tmps.getD 66 undef = .bool true := h0
      have h1 : a.tmps.getD 67 undef = .bool true := h1
      refine op_run rfl rfl (v := .bool true) (w' := w1) ?_ rfl (Below.refl _ _)
      simp [execOp, Act.eval, h0, h1, go_sem]
    · intro a w1 hR hsz hs      -- 32: slot 10
      obtain ⟨h0, _⟩ := hs
      have h0 : a.tmps.getD 68 undef = .bool true := h0
      refine op_run rfl rfl (v := .bool true) (w' := w1) ?_ rfl (Below.refl _ _)
      simp [execOp, Act.eval, h0, go_sem]
  · intro f w1 hR hv
    have e10 : f 10 = .bool true := hv 32 _ 10 rfl rfl
    clear hv
    try simp only [Exit.then]
    simp only [putAll, List.foldl_cons, List.foldl_nil, Option.getD_some, Act.put, List.setIfInBounds_toArray, List.set_cons_succ, List.set_cons_zero]
    go_wp2_with fail
    go_ret
    exact ⟨congrArg Ending.returned e10, HBZ.out.trans (hR.mono HBZ.out.size)⟩
  -- END 3
theorem ringTells_open (ca cb cd : Array Value) (c : Rg) (g0 : Fl) (p : Pc) (q n : Int) (w : World) (h1 : RgE ca.toList c) (h2 : FlE cb.toList g0) (h3 : PcE cd.toList p) (hqi : inI q) (hni : inI n) : Calls Try.prog 3 #[.agg ca, .agg cb, .int .i64 q, .int .i64 n, .agg cd] w fun x w' => x = .returned (.bool true) ∧ Below w.heap.size w w' := by
  obtain rfl := h1.open
  obtain rfl := h2.open
  obtain rfl := h3.open
  exact ringTells_walk c g0 q n p h1.2 h2.2 hqi hni h3.2 w
end Go.Proofs.Ytblipabemghdbaa
