/- Stripes: the program's own Objects, Bytes. -/
import Derived.Test.YtalgjoeinllllaaSpP
import Derived.Test.YtalgjoeinllllaaSpE
namespace Go.Proofs.Ytalgjoeinllllaa
open Go.RowKit Go.Proofs
set_option linter.unusedVariables false
set_option linter.unusedSimpArgs false
set_option linter.unnecessarySimpa false

set_option maxRecDepth 20000 in
set_option maxHeartbeats 3200000 in
theorem sobjects_any (o u c size : Int) (w : World) : Calls Try.prog 15 #[.agg (layC o u c), .int .i64 size] w fun e w' => e = .returned (.int .i64 (objsI o u c size)) ∧ Below w.heap.size w w' := by
  have HX0 := Lib.hid (RecAt.new w (layC o u c) 23)
  have HB0 := Lib.hid ((Below.refl w.heap.size w).alloc (Nat.le_refl _) (.cells (layC o u c) 23))
  obtain ⟨w1, hw1⟩ : ∃ W, w.alloc (.cells (layC o u c) 23) = W := ⟨_, rfl⟩
  rw [hw1] at HX0 HB0
  have HSH := Lib.hid (fun W => shape_any o u c W)
  have HHE := Lib.hid (fun W => sheld_any size 512 (by omega) W)
  rw [hldS_eq] at HHE
  obtain ⟨R, hR⟩ : ∃ R, objsI o u c size = R := ⟨_, rfl⟩
  rw [hR]
  have HR := Lib.hid hR
  clear hR
  go_enter Try.func15, Try.ntmps15
  go_upto_region 1 with fail
  try rw [hw1]
  clear hw1
  obtain ⟨X, hX⟩ : ∃ X, w.heap.size = X := ⟨_, rfl⟩
  rw [hX] at HX0 ⊢
  have HXS := Lib.hid hX
  clear hX
  obtain ⟨x0, x1, x2⟩ := HX0.out.l3
  go_wp2_with fail
  refine (HSH.out w1).mono ?_
  rintro e w2 ⟨rfl, b2⟩
  have HX2 := Lib.hid (HX0.out.later b2)
  have HB2 := Lib.hid (HB0.out.trans (b2.mono (by have := HB0.out.size; rw [HXS.out] at this ⊢; exact this)))
  clear b2 x0 x1 x2 HSH
  by_cases hs : ShapeOk o u c
  · have hsd : decide (ShapeOk o u c) = true := decide_eq_true hs
    rw [hsd]
    obtain ⟨o, u, c, rfl, rfl, rfl, ho3, ho6, hu2, huo, hc1, hc4⟩ := shape_nat hs
    have hps := pow_small hu2 huo ho6
    have hn5 := hldS_le size
    obtain ⟨D, hD⟩ : ∃ D, o - u = D := ⟨_, rfl⟩
    obtain ⟨U, hU⟩ : ∃ U, 2 ^ u = U := ⟨_, rfl⟩
    obtain ⟨P, hP⟩ : ∃ U, 2 ^ D = U := ⟨_, rfl⟩
    obtain ⟨H, hH⟩ : ∃ N, hldS size = N := ⟨_, rfl⟩
    rw [hD, hU, hP] at hps
    rw [hH] at HHE hn5
    have HF : Hid (R = ((fU c P ((H + (U - 1)) / U) : Nat) : Int)) := Lib.hid (by
      rw [← HR.out]
      unfold objsI
      rw [if_pos hs]
      simp only [Int.toNat_natCast]
      rw [hD, hU, hP, hH, objs_closed (by omega) (by omega) (by omega)])
    have HRB := Lib.hid (fun W => srowbits_any o u D (c : Nat) (by omega) huo hD W)
    have HPU := Lib.hid (powI hU)
    have HPD := Lib.hid (powI hP)
    have HDM : Hid (min D 64 = D) := Lib.hid (by omega)
    have hU4 := hps.1
    have hU64 := hps.2.1
    have hP1 := hps.2.2.1
    have hP16 := hps.2.2.2.1
    clear hps hs hsd HR hU hP hD hH
    obtain ⟨U1, hU1⟩ : ∃ r, U - 1 = r := ⟨_, rfl⟩
    obtain ⟨N1, hN1⟩ : ∃ r, H + U1 = r := ⟨_, rfl⟩
    obtain ⟨K, hK⟩ : ∃ r, N1 / U = r := ⟨_, rfl⟩
    have hK1 : K ≤ N1 := by rw [← hK]; exact Nat.div_le_self _ _
    have hb1 : c * P ≤ 4 * 16 := Nat.mul_le_mul hc4 hP16
    have hb0 : 0 < c * P := Nat.mul_pos (by omega) (by omega)
    obtain ⟨RD, hRD⟩ : ∃ r, c * P = r := ⟨_, rfl⟩
    rw [hRD] at hb1 hb0
    obtain ⟨q, hq⟩ : ∃ r, K / RD = r := ⟨_, rfl⟩
    have hq1 : q ≤ K := by rw [← hq]; exact Nat.div_le_self _ _
    have hb2 : q * c ≤ 576 * 4 := Nat.mul_le_mul (by omega) hc4
    obtain ⟨X1, hX1⟩ : ∃ r, q * c = r := ⟨_, rfl⟩
    rw [hX1] at hb2
    obtain ⟨r, hr⟩ : ∃ z, K % RD = z := ⟨_, rfl⟩
    have hr1 : r < RD := by rw [← hr]; exact Nat.mod_lt _ hb0
    obtain ⟨M, hM⟩ : ∃ z, min r c = z := ⟨_, rfl⟩
    obtain ⟨Z, hZ⟩ : ∃ z, X1 + M = z := ⟨_, rfl⟩
    have HF2 : Hid (R = (Z : Int)) := Lib.hid (by
      rw [HF.out]; unfold fU
      rw [hU1, hN1, hK, hRD, hq, hX1, hr, hM, hZ])
    have H1 : Hid (IntKind.i64.wrap (U : Int) = U) := Lib.hid (wrap_nat (by omega))
    have H2 : Hid (IntKind.i64.wrap ((U : Int) - 1) = U1) := Lib.hid (by rw [show ((U : Int) - 1) = (U1 : Int) by omega]; exact wrap_nat (by omega))
    have H3 : Hid (IntKind.i64.wrap ((H : Int) + (U1 : Int)) = N1) := Lib.hid (wrap_add hN1 (by omega))
    have H4 : Hid ((N1 : Int) / (U : Int) = K) := Lib.hid (div_nat hK)
    have HRD : Hid (IntKind.i64.wrap ((c : Int) * (P : Int)) = RD) := Lib.hid (wrap_mul hRD (by omega))
    have H5 : Hid ((K : Int).tdiv (RD : Int) = q) := Lib.hid (by rw [tdiv_nat, hq])
    have H5' : Hid ((K : Int) / (RD : Int) = q) := Lib.hid (div_nat hq)
    have HQW : Hid (IntKind.i64.wrap (q : Int) = q) := Lib.hid (wrap_nat (by omega))
    have H6 : Hid (IntKind.i64.wrap ((q : Int) * (c : Int)) = X1) := Lib.hid (wrap_mul hX1 (by omega))
    have H7 : Hid ((K : Int).tmod (RD : Int) = r) := Lib.hid (by rw [tmod_nat, hr])
    have H7' : Hid ((K : Int) % (RD : Int) = r) := Lib.hid (by rw [← Int.natCast_emod, hr])
    have H8 : Hid (r ≤ c → IntKind.i64.wrap ((X1 : Int) + (r : Int)) = Z) := Lib.hid (fun h => wrap_add (by omega) (by omega))
    have H9 : Hid (c < r → IntKind.i64.wrap ((X1 : Int) + (c : Int)) = Z) := Lib.hid (fun h => wrap_add (by omega) (by omega))
    have HRN : Hid (¬ RD = 0) := Lib.hid (by omega)
    clear hU1 hN1 hK hRD hq hX1 hr hM hZ HF hK1 hb1 hb2 hq1 hr1 hU64 hP16 hn5
    obtain ⟨x0, x1, x2⟩ := HX2.out.l3
    go_upto_region 3 with fail
    have ePU := HPU.out
    have e1 := H1.out
    have e2 := H2.out
    have e3 := H3.out
    have e4 := H4.out
    go_quiet ((go_at_call 26; exact Calls.quiet_of_same ((HHE.out _).mono fun e w' hh => ⟨hh.1, hh.2.symm⟩)))
    generalize hwd : (w2.drewN nq) = wD at *
    have hbD : Below w2.heap.size w2 wD := by rw [← hwd]; exact below_drewN _ _
    clear hwd x0 x1 x2 ePU e1 e2 e3 e4
    obtain ⟨x0, x1, x2⟩ := (HX2.out.later hbD).l3
    go_upto_region 4 with fail
    clear x0 x1 x2
    -- REG O4
    refine wp_region_tab (L := [cV (.pointer (some ⟨X, 2, none⟩)), cV (.int .i64 c), cV (.agg #[.int .i64 o, .int .i64 u, .int .i64 c]), cV (.int .i64 D), cV (.int .i64 RD), cV (.int .i64 RD)]) [[(2, none)], [(20, some 0)], [(2, none)], [(22, some 2)], [(21, some 1), (23, some 3)], [(24, some 4)]] 6 38 (by kernel_rfl) rfl rfl (by kernel_rfl) (by kernel_rfl) ?_ ?_
    · show ∀ i, i < 6 → _
      iterate 6 (refine fls ?_ ?_)
      · exact fl0
      · intro a w1 hR hsz hs      -- 0: slot 20
        obtain ⟨h0, _⟩ := hs
        have h0 : a.tmps.getD 2 undef = .pointer (some ⟨X, 0, none⟩) := h0
        refine op_run rfl rfl (v := .pointer (some ⟨X, 2, none⟩)) (w' := w1) ?_ rfl (Below.refl _ _)
        simp [execOp, Act.eval, h0, go_sem]
      · intro a w1 hR hsz hs      -- 1: slot 21
        obtain ⟨h0, _⟩ := hs
        have h0 : a.tmps.getD 20 undef = .pointer (some ⟨X, 2, none⟩) := h0
        obtain ⟨x0, x1, x2⟩ := (HX2.out.later (hbD.trans (hR.mono hbD.size))).l3
        refine op_run rfl rfl (v := .int .i64 c) (w' := w1) ?_ rfl (Below.refl _ _)
        simp [execOp, Act.eval, h0, x2, go_sem]
      · intro a w1 hR hsz hs      -- 2: slot 22
        obtain ⟨h0, _⟩ := hs
        have h0 : a.tmps.getD 2 undef = .pointer (some ⟨X, 0, none⟩) := h0
        obtain ⟨x0, x1, x2⟩ := (HX2.out.later (hbD.trans (hR.mono hbD.size))).l3
        refine op_run rfl rfl (v := .agg #[.int .i64 o, .int .i64 u, .int .i64 c]) (w' := w1) ?_ rfl (Below.refl _ _)
        simp [execOp, Act.eval, h0, x0, x1, x2, go_sem]
      · intro a w1 hR hsz hs      -- 3: slot 23
        obtain ⟨h0, _⟩ := hs
        have h0 : a.tmps.getD 22 undef = .agg #[.int .i64 o, .int .i64 u, .int .i64 c] := h0
        refine op_call rfl rfl (f := 22) (args := #[.agg #[.int .i64 o, .int .i64 u, .int .i64 c]]) (by simp [execOp, Act.eval, resolve, h0, go_sem]) ?_
        exact calls_c (HRB.out w1)
      · intro a w1 hR hsz hs      -- 4: slot 24
        obtain ⟨h0, h1, _⟩ := hs
        have h0 : a.tmps.getD 21 undef = .int .i64 c := h0
        have h1 : a.tmps.getD 23 undef = .int .i64 D := h1
        refine op_run rfl rfl (v := .int .i64 RD) (w' := w1) ?_ rfl (Below.refl _ _)
        simp [execOp, Act.eval, h0, h1, HDM.out, HPD.out, HRD.out, go_sem]
      · intro a w1 hR hsz hs      -- 5: slot 6
        obtain ⟨h0, _⟩ := hs
        have h0 : a.tmps.getD 24 undef = .int .i64 RD := h0
        refine op_run rfl rfl (v := .int .i64 RD) (w' := w1) ?_ rfl (Below.refl _ _)
        simp [execOp, Act.eval, h0, go_sem]
    intro f w1 hR hv
    have e6 : f 6 = .int .i64 RD := hv 5 _ 6 rfl rfl
    clear hv
    try simp only [Exit.then]
    simp only [putAll, List.foldl_cons, List.foldl_nil, Option.getD_some, Act.put, List.setIfInBounds_toArray, List.set_cons_succ, List.set_cons_zero, e6]
    have hb5 := hbD.trans (hR.mono hbD.size)
    clear hR e6 hbD
    -- END O4
    obtain ⟨x0, x1, x2⟩ := (HX2.out.later hb5).l3
    go_upto_region 5 with fail
    have e5 := H5.out
    have e5' := H5'.out
    have e6 := H6.out
    have e7 := H7.out
    have e7' := H7'.out
    have e8 := HQW.out
    have e10 := HRN.out
    rcases Nat.lt_or_ge c r with hrc | hrc
    · have e9 := H9.out hrc
      go_quiet (fail)
      go_wp2_with fail
      go_ret
      rw [HF2.out]
      exact ⟨rfl, HB2.out.trans ((hb5.trans ((below_drewN _ _).mono hb5.size)).mono HB2.out.size)⟩
    · have e9 := H8.out hrc
      go_quiet (fail)
      go_wp2_with fail
      go_ret
      rw [HF2.out]
      exact ⟨rfl, HB2.out.trans ((hb5.trans ((below_drewN _ _).mono hb5.size)).mono HB2.out.size)⟩
  · have hsd : decide (ShapeOk o u c) = false := decide_eq_false hs
    rw [hsd]
    have HF : Hid (R = 0) := Lib.hid (by rw [← HR.out]; exact objsI_no hs)
    go_wp2_with fail
    go_ret
    rw [HF.out]
    exact ⟨rfl, HB2.out⟩

set_option maxRecDepth 20000 in
set_option maxHeartbeats 3200000 in
theorem sbytes_any (o u c size obj : Int) (w : World) : Calls Try.prog 17 #[.agg (layC o u c), .int .i64 size, .int .i64 obj] w fun e w' => e = .returned (.int .i64 (bytesI o u c size obj)) ∧ Below w.heap.size w w' := by
  have HX0 := Lib.hid (RecAt.new w (layC o u c) 23)
  have HB0 := Lib.hid ((Below.refl w.heap.size w).alloc (Nat.le_refl _) (.cells (layC o u c) 23))
  obtain ⟨w1, hw1⟩ : ∃ W, w.alloc (.cells (layC o u c) 23) = W := ⟨_, rfl⟩
  rw [hw1] at HX0 HB0
  have HOB := Lib.hid (fun W => sobjects_any o u c size W)
  have HHE := Lib.hid (fun W => sheld_any size 512 (by omega) W)
  rw [hldS_eq] at HHE
  obtain ⟨R, hR⟩ : ∃ R, bytesI o u c size obj = R := ⟨_, rfl⟩
  rw [hR]
  have HR := Lib.hid hR
  clear hR
  go_enter Try.func17, Try.ntmps17
  go_upto_region 1 with fail
  try rw [hw1]
  clear hw1
  obtain ⟨X, hX⟩ : ∃ X, w.heap.size = X := ⟨_, rfl⟩
  rw [hX] at HX0 ⊢
  have HXS := Lib.hid hX
  clear hX
  obtain ⟨x0, x1, x2⟩ := HX0.out.l3
  by_cases h0 : obj < 0
  · have hd0 : decide (obj < 0) = true := decide_eq_true h0
    have HF : Hid (R = 0) := Lib.hid (by
      rw [← HR.out]
      by_cases hs : ShapeOk o u c
      · unfold bytesI; rw [if_pos hs, topB_neg h0]; rfl
      · exact bytesI_no hs)
    go_wp2_with fail
    go_ret
    rw [HF.out]
    exact ⟨rfl, HB0.out⟩
  · have hd0 : decide (obj < 0) = false := decide_eq_false h0
    obtain ⟨OS, hOS⟩ : ∃ z, objsI o u c size = z := ⟨_, rfl⟩
    rw [hOS] at HOB
    go_wp2_with fail
    refine (HOB.out w1).mono ?_
    rintro e w2 ⟨rfl, b2⟩
    have HX2 := Lib.hid (HX0.out.later b2)
    have HB2 := Lib.hid (HB0.out.trans (b2.mono (by have := HB0.out.size; rw [HXS.out] at this ⊢; exact this)))
    clear b2 x0 x1 x2 HOB
    by_cases h1 : OS ≤ obj
    · have hd1 : decide (obj ≥ OS) = true := decide_eq_true h1
      have HF : Hid (R = 0) := Lib.hid (by
        rw [← HR.out]
        by_cases hs : ShapeOk o u c
        · unfold objsI at hOS; rw [if_pos hs] at hOS
          unfold bytesI; rw [if_pos hs, topB_none (by rw [hOS]; exact h1)]; rfl
        · exact bytesI_no hs)
      go_wp2_with fail
      go_ret
      rw [HF.out]
      exact ⟨rfl, HB2.out⟩
    · have hd1 : decide (obj ≥ OS) = false := decide_eq_false h1
      have hs : ShapeOk o u c := Classical.byContradiction fun hc => by rw [objsI_no hc] at hOS; omega
      obtain ⟨o, u, c, rfl, rfl, rfl, ho3, ho6, hu2, huo, hc1, hc4⟩ := shape_nat hs
      obtain ⟨B, hB⟩ : ∃ O : Nat, obj = O := ⟨obj.toNat, by omega⟩
      subst hB
      have hps := pow_small hu2 huo ho6
      have hn5 := hldS_le size
      obtain ⟨U, hU⟩ : ∃ U, 2 ^ u = U := ⟨_, rfl⟩
      obtain ⟨P, hP⟩ : ∃ U, 2 ^ (o - u) = U := ⟨_, rfl⟩
      obtain ⟨Po, hPo⟩ : ∃ U, 2 ^ o = U := ⟨_, rfl⟩
      obtain ⟨H, hH⟩ : ∃ N, hldS size = N := ⟨_, rfl⟩
      rw [hPo, hU, hP] at hps
      rw [hH] at HHE hn5
      have hobs : OS ≤ 5368709121 := by
        rw [← hOS]; unfold objsI; rw [if_pos hs]
        simp only [Int.toNat_natCast]
        rw [hU, hP, hH]
        have := objsX_le (U := U) (P := P) hc1 hc4 hn5
        omega
      have HF : Hid (R = ((gB U P c B H : Nat) : Int)) := Lib.hid (by
        rw [← HR.out]
        unfold bytesI
        rw [if_pos hs]
        simp only [Int.toNat_natCast]
        rw [hU, hP, hH, bytes_closed (by omega) (by omega) (by omega)])
      have HPU := Lib.hid (powI hU)
      have HPO := Lib.hid (powI hPo)
      have hU4 := hps.1
      have hU64 := hps.2.1
      have hP1 := hps.2.2.1
      have hP16 := hps.2.2.2.1
      have hPoE := hps.2.2.2.2.1
      have hPo64 := hps.2.2.2.2.2
      have hPoP : 0 < Po := by rw [← hPo]; exact Nat.two_pow_pos o
      clear hps hs HR hU hP hH hPo hOS
      have hBb : B < 5368709121 := by omega
      clear hobs h1 h0
      have hb1 : c * Po ≤ 4 * 64 := Nat.mul_le_mul hc4 hPo64
      have hb0 : 0 < c * Po := Nat.mul_pos (by omega) hPoP
      have hRE : c * P * U = c * Po := by rw [hPoE, Nat.mul_assoc]
      obtain ⟨RD, hRD⟩ : ∃ r, c * Po = r := ⟨_, rfl⟩
      rw [hRD] at hb1 hb0 hRE
      obtain ⟨q, hq⟩ : ∃ r, B / c = r := ⟨_, rfl⟩
      have hq1 : q ≤ B := by rw [← hq]; exact Nat.div_le_self _ _
      have hb2 : q * RD ≤ 5368709121 * 256 := Nat.mul_le_mul (by omega) hb1
      obtain ⟨X1, hX1⟩ : ∃ r, q * RD = r := ⟨_, rfl⟩
      rw [hX1] at hb2
      obtain ⟨Z, hZ⟩ : ∃ z, (H : Int) - (X1 : Int) = z := ⟨_, rfl⟩
      obtain ⟨L, hL⟩ : ∃ z, min (H - X1) RD = z := ⟨_, rfl⟩
      have hb3 : c * U ≤ 4 * 64 := Nat.mul_le_mul hc4 hU64
      have hb4 : 0 < c * U := Nat.mul_pos (by omega) (by omega)
      obtain ⟨W, hW⟩ : ∃ z, c * U = z := ⟨_, rfl⟩
      rw [hW] at hb3 hb4
      obtain ⟨a, ha⟩ : ∃ z, L / W = z := ⟨_, rfl⟩
      have ha1 : a ≤ L := by rw [← ha]; exact Nat.div_le_self _ _
      have hb5 : a * U ≤ 512 * 64 := Nat.mul_le_mul (by omega) hU64
      obtain ⟨A1, hA1⟩ : ∃ z, a * U = z := ⟨_, rfl⟩
      rw [hA1] at hb5
      obtain ⟨b, hb⟩ : ∃ z, L % W = z := ⟨_, rfl⟩
      have hb6 : b < W := by rw [← hb]; exact Nat.mod_lt _ hb4
      obtain ⟨j, hj⟩ : ∃ z, B % c = z := ⟨_, rfl⟩
      have hj1 : j < c := by rw [← hj]; exact Nat.mod_lt _ (by omega)
      have hb7 : j * U ≤ 4 * 64 := Nat.mul_le_mul (by omega) hU64
      obtain ⟨J1, hJ1⟩ : ∃ z, j * U = z := ⟨_, rfl⟩
      rw [hJ1] at hb7
      obtain ⟨Y, hY⟩ : ∃ z, (b : Int) - (J1 : Int) = z := ⟨_, rfl⟩
      obtain ⟨M, hM⟩ : ∃ z, min (b - J1) U = z := ⟨_, rfl⟩
      obtain ⟨V, hV⟩ : ∃ z, A1 + M = z := ⟨_, rfl⟩
      have HF2 : Hid (R = (V : Int)) := Lib.hid (by
        rw [HF.out]; unfold gB hB
        rw [hRE, hq, hj, hX1, hL, hW, ha, hA1, hb, hJ1, hM, hV])
      have HHZ := Lib.hid (fun W => sheld_any Z RD (by omega) W)
      rw [show min (max Z 0) (RD : Int) = (L : Int) by omega] at HHZ
      have HHY := Lib.hid (fun W => sheld_any Y U (by omega) W)
      rw [show min (max Y 0) (U : Int) = (M : Int) by omega] at HHY
      have HRD : Hid (wrap64 ((c : Int) * (Po : Int)) = RD) := Lib.hid (by rw [show (c : Int) * (Po : Int) = RD by rw [← Int.natCast_mul, hRD]]; exact IntWalk.wrap64_in _ (by omega))
      have HW : Hid (wrap64 ((c : Int) * (U : Int)) = W) := Lib.hid (by rw [show (c : Int) * (U : Int) = W by rw [← Int.natCast_mul, hW]]; exact IntWalk.wrap64_in _ (by omega))
      have HCN : Hid (¬ c = 0) := Lib.hid (by omega)
      have HWN : Hid (¬ W = 0) := Lib.hid (by omega)
      have H1 : Hid ((B : Int).tdiv (c : Int) = q) := Lib.hid (by rw [tdiv_nat, hq])
      have H1' : Hid ((B : Int) / (c : Int) = q) := Lib.hid (div_nat hq)
      have H2 : Hid (IntKind.i64.wrap ((q : Int) * (RD : Int)) = X1) := Lib.hid (wrap_mul hX1 (by omega))
      have H3 : Hid (IntKind.i64.wrap ((H : Int) - (X1 : Int)) = Z) := Lib.hid (by rw [hZ, IntKind.wrap_i64]; omega)
      have H4 : Hid ((L : Int).tdiv (W : Int) = a) := Lib.hid (by rw [tdiv_nat, ha])
      have H4' : Hid ((L : Int) / (W : Int) = a) := Lib.hid (div_nat ha)
      have H5 : Hid (IntKind.i64.wrap ((a : Int) * (U : Int)) = A1) := Lib.hid (wrap_mul hA1 (by omega))
      have H6 : Hid ((L : Int).tmod (W : Int) = b) := Lib.hid (by rw [tmod_nat, hb])
      have H6' : Hid ((L : Int) % (W : Int) = b) := Lib.hid (by rw [← Int.natCast_emod, hb])
      have H7 : Hid ((B : Int).tmod (c : Int) = j) := Lib.hid (by rw [tmod_nat, hj])
      have H7' : Hid ((B : Int) % (c : Int) = j) := Lib.hid (by rw [← Int.natCast_emod, hj])
      have H8 : Hid (IntKind.i64.wrap ((j : Int) * (U : Int)) = J1) := Lib.hid (wrap_mul hJ1 (by omega))
      have H9 : Hid (IntKind.i64.wrap ((b : Int) - (J1 : Int)) = Y) := Lib.hid (by rw [hY, IntKind.wrap_i64]; omega)
      have H10 : Hid (IntKind.i64.wrap (U : Int) = U) := Lib.hid (wrap_nat (by omega))
      have H11 : Hid (IntKind.i64.wrap ((A1 : Int) + (M : Int)) = V) := Lib.hid (wrap_add hV (by omega))
      have HAW : Hid (IntKind.i64.wrap (a : Int) = a) := Lib.hid (wrap_nat (by omega))
      have HQW : Hid (IntKind.i64.wrap (q : Int) = q) := Lib.hid (wrap_nat (by omega))
      clear hRD hq hX1 hZ hL hW ha hA1 hb hj hJ1 hY hM hV HF hb1 hb2 hb3 hb5 hb6 hb7 hq1 ha1 hj1 hRE hPoE hPo64 hPoP hBb hn5 hU64 hP16 hP1
      obtain ⟨x0, x1, x2⟩ := HX2.out.l3
      have ePO := HPO.out
      have eRD := HRD.out
      go_upto_region 4 with fail
      try rw [eRD]
      clear ePO eRD
      have e0 := HCN.out
      have e1 := H1.out
      have e1' := H1'.out
      have e2 := H2.out
      have e3 := H3.out
      have e4 := HQW.out
      go_quiet ((first | (go_at_call_of 26 (size); exact Calls.quiet_of_same ((HHE.out _).mono fun e w' hh => ⟨hh.1, hh.2.symm⟩)) | (go_at_call_of 26 (Z); exact Calls.quiet_of_same ((HHZ.out _).mono fun e w' hh => ⟨hh.1, hh.2.symm⟩))))
      generalize hwd : (w2.drewN nq) = wD at *
      have hbD : Below w2.heap.size w2 wD := by rw [← hwd]; exact below_drewN _ _
      clear hwd x0 x1 x2 e0 e1 e1' e2 e3 e4
      obtain ⟨x0, x1, x2⟩ := (HX2.out.later hbD).l3
      have ePU := HPU.out
      have eW := HW.out
      go_upto_region 6 with fail
      try rw [eW]
      clear eW
      have e0 := HCN.out
      have e0' := HWN.out
      have e4 := H4.out
      have e4' := H4'.out
      have e5 := H5.out
      have e6 := H6.out
      have e6' := H6'.out
      have e7 := H7.out
      have e7' := H7'.out
      have e8 := H8.out
      have e9 := H9.out
      have e10 := H10.out
      have e11 := H11.out
      have e12 := HAW.out
      go_quiet ((go_at_call 26; exact Calls.quiet_of_same ((HHY.out _).mono fun e w' hh => ⟨hh.1, hh.2.symm⟩)))
      go_wp2_with fail
      go_ret
      rw [HF2.out]
      exact ⟨rfl, HB2.out.trans ((hbD.trans ((below_drewN _ _).mono hbD.size)).mono HB2.out.size)⟩
end Go.Proofs.Ytalgjoeinllllaa
