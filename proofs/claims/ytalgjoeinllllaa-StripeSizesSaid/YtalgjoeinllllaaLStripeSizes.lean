/- The law 'StripeSizes', walked. -/
import Derived.Test.YtalgjoeinllllaaSpK
import Derived.Test.YtalgjoeinllllaaSpC
import Derived.Test.YtalgjoeinllllaaGz
namespace Go.Proofs.Ytalgjoeinllllaa
open Go.RowKit Go.Proofs
set_option linter.unusedVariables false
set_option linter.unusedSimpArgs false
set_option linter.unnecessarySimpa false

theorem and513 (a : Int) : ∃ n : Nat, bits .and .i64 a 1023 % 513 = n ∧ n ≤ 512 := by
  have h1 := Int.emod_nonneg (bits .and .i64 a 1023) (show (513 : Int) ≠ 0 by decide)
  have h2 := Int.emod_lt_of_pos (bits .and .i64 a 1023) (show (0 : Int) < 513 by decide)
  exact ⟨(bits .and .i64 a 1023 % 513).toNat, by omega, by omega⟩

set_option maxRecDepth 100000 in
set_option maxHeartbeats 12800000 in
theorem stripeSizes_walk (a b c0 size0 : Int) (w : World) : Calls Try.prog 6 #[.int .i64 a, .int .i64 b, .int .i64 c0, .int .i64 size0] w fun x w' => x = .returned (.bool true) ∧ Below w.heap.size w w' := by
  have HSH := Lib.hid (fun W => shape12_any a b c0 W)
  have hok := shapeZ_ok a b c0
  obtain ⟨⟨o, u, c⟩, hsz⟩ : ∃ s, shapeZ a b c0 = s := ⟨_, rfl⟩
  rw [hsz] at HSH hok
  simp only at HSH hok
  obtain ⟨o, u, c, rfl, rfl, rfl, ho3, ho6, hu2, huo, hc1, hc4⟩ := shape_nat hok
  obtain ⟨z, hz⟩ : ∃ z, bits .and .i64 size0 1023 = z := ⟨_, rfl⟩
  have hzr : 0 ≤ z ∧ z ≤ 1023 := by rw [← hz]; exact and_range size0 1023 (by decide)
  obtain ⟨n, hn, hn512⟩ := and513 size0
  rw [hz] at hn
  obtain ⟨q1, q2, q3, q4, q5, q6⟩ := pow_small hu2 huo ho6
  obtain ⟨U, hU⟩ : ∃ U, 2 ^ u = U := ⟨_, rfl⟩
  obtain ⟨P, hP⟩ : ∃ P, 2 ^ (o - u) = P := ⟨_, rfl⟩
  rw [hU, hP] at q5
  rw [hU] at q1 q2
  rw [hP] at q3 q4
  rw [q5] at q6
  have hld : hldS (n : Int) = n := by unfold hldS; omega
  obtain ⟨N, hN⟩ : ∃ N, objsX U P c n = N := ⟨_, rfl⟩
  have hO : objsI o u c n = (N : Int) := by
    unfold objsI
    rw [if_pos hok, hld]
    simp only [Int.toNat_natCast]
    rw [hU, hP, hN]
  have HO1 := Lib.hid (fun W => sobjects_any o u c n W)
  rw [hO] at HO1
  have HBY := Lib.hid (fun (k : Nat) W => show Calls Try.prog 17 #[.agg (layC o u c), .int .i64 n, .int .i64 k] W fun e w' => e = .returned (.int .i64 ((topB U P c k n : Nat) : Int)) ∧ Below W.heap.size W w' from by
    have h := sbytes_any o u c n k W
    unfold bytesI at h
    rw [if_pos hok, hld] at h
    simp only [Int.toNat_natCast] at h
    rw [hU, hP] at h
    exact h)
  have HPL := Lib.hid (fun (k : Nat) (hk : k ≤ 512) W => show Calls Try.prog 8 #[.agg (layC o u c), .int .i64 k] W fun e w' => e = .returned (.tuple #[.int .i64 ((objP U P c k : Nat) : Int), .int .i64 ((atP U P c k : Nat) : Int)]) ∧ Below W.heap.size W w' from by
    have h := splace_any o u c k W
    rw [placeI_yes hok (by omega), hU, hP] at h
    exact h)
  have hN128 : N ≤ 128 := by rw [← hN]; exact objsX_128 (by omega) hn512
  have HN := Lib.hid hN
  have HUP : Hid (4 ≤ U ∧ 1 ≤ P ∧ P * U ≤ 64 ∧ 1 ≤ c) := Lib.hid ⟨q1, q3, q6, hc1⟩
  clear hsz hok hld hO hU hP q1 q2 q3 q4 q5 q6 ho3 ho6 hu2 huo hc1 hc4 hN
  go_enter Try.func6, Try.ntmps6
  go_wp2_with fail
  refine (HSH.out w).mono ?_
  rintro e w0 ⟨rfl, b0⟩
  have HX0 := Lib.hid (RecAt.new w0 (layC o u c) 23)
  have HB1 := Lib.hid (b0.trans (((Below.refl w0.heap.size w0).alloc (Nat.le_refl _) (.cells (layC o u c) 23)).mono b0.size))
  obtain ⟨w1, hw1⟩ : ∃ W, w0.alloc (.cells (layC o u c) 23) = W := ⟨_, rfl⟩
  rw [hw1] at HX0 HB1
  clear b0
  go_upto_region 2 with fail
  try rw [hw1]
  clear hw1
  obtain ⟨P9, hP9⟩ : ∃ P, w0.heap.size = P := ⟨_, rfl⟩
  rw [hP9] at HX0 ⊢
  clear hP9
  obtain ⟨x0, x1, x2⟩ := HX0.out.l3
  go_upto_region 3 with fail
  go_wp2_with fail
  refine (HO1.out w1).mono ?_
  rintro e w2 ⟨rfl, b2⟩
  have HX2 := Lib.hid (HX0.out.later b2)
  have HB2 := Lib.hid (HB1.out.trans (b2.mono HB1.out.size))
  clear x0 x1 x2 b2 HO1 HX0 HB1
  go_upto_region 6 with fail
  go_upto_region 7 with (refine wp_gzeros inOk info_in (by decide) rfl rfl 0 rfl (show inB 0 by unfold inB; omega) rfl _ _ rfl rfl w2 (Below.refl _ _) .i64 .i64 _ _ N rfl rfl rfl rfl (by omega) ?_; intro w3 o3 b3; have HO3 := Lib.hid o3; have HB3 := Lib.hid b3; clear o3 b3)
  obtain ⟨G1, hG1⟩ : ∃ P, w2.heap.size = P := ⟨_, rfl⟩
  rw [hG1] at HO3 ⊢
  go_upto_region 8 with (refine wp_gzeros inOk info_in (by decide) rfl rfl 0 rfl (show inB 0 by unfold inB; omega) rfl _ _ rfl rfl w2 HB3.out .i64 .i64 _ _ N rfl rfl rfl rfl (by omega) ?_; intro w4 o4 b4; have HO4 := Lib.hid o4; have HB4 := Lib.hid b4; clear o4 b4)
  have HG : Hid (P9 < w2.heap.size ∧ w2.heap.size ≤ G1 ∧ (0 < N → G1 < w3.heap.size)) := Lib.hid ⟨HX2.out.lt, by omega, fun h => by
    obtain ⟨g, cap, e, _, _, _, h2⟩ := HO3.out.at (n := N) (by simp) h
    cases e
    exact h2⟩
  obtain ⟨G2, hG2⟩ : ∃ P, w3.heap.size = P := ⟨_, rfl⟩
  rw [hG2] at HO4 HG ⊢
  have HC4 := Lib.hid (HO3.out.later HB4.out)
  clear hG1 hG2 HO3 HB3 HB4
  rw [← cntL_zero (U := U) (P := P) (C := c)] at HC4
  rw [← topL_zero (U := U) (P := P) (C := c)] at HO4
  go_upto_region 9 with fail
  go_loopw [13] (fun i wr => ∃ (j : Nat), i = .int .i64 j ∧ j ≤ n ∧ Hid (GOwn inT w2 wr (.slice (some ⟨G1, 0, none⟩) N N) (cntL U P c N j)) ∧ Hid (GOwn inT w2 wr (.slice (some ⟨G2, 0, none⟩) N N) (topL U P c N j))) (fun i _ => n - (intOf i).toNat)
  case atStart => exact ⟨0, rfl, by omega, HC4, HO4⟩
  case round =>
    clear HC4 HO4
    obtain ⟨j, rfl, hj, HC, HT⟩ := hrel
    by_cases hjn : (j : Int) < n
    · have HLT : Hid (objP U P c j < N) := Lib.hid (by rw [← HN.out]; exact objP_lt (by omega))
      have HX5 := Lib.hid (HX2.out.later HC.out.below)
      obtain ⟨x0, x1, x2⟩ := HX5.out.l3
      go_upto_region 11 with fail
      go_wp2_with fail
      refine (HPL.out j (by omega) wr).mono ?_
      rintro e w5 ⟨rfl, b5⟩
      have HC5 := Lib.hid (HC.out.later b5)
      have HT5 := Lib.hid (HT.out.later b5)
      clear x0 x1 x2 b5 HX5 HC HT
      have HCS := Lib.hid (cntL_step (U := U) (P := P) (C := c) HLT.out)
      have HTS := Lib.hid (topL_step (U := U) (P := P) (C := c) HLT.out)
      have HCA := Lib.hid (cntL_at (U := U) (P := P) (C := c) (n := j) HLT.out)
      have HTA := Lib.hid (topL_at (U := U) (P := P) (C := c) (n := j) HLT.out)
      have hcl := cntB_le (U := U) (P := P) (C := c) (j := objP U P c j) j
      have htl := topB_le (C := c) (obj := objP U P c j) (by have := HUP.out; omega) (by have := HUP.out; omega) HUP.out.2.2.1 j
      have hal := atP_lt (U := U) (P := P) (C := c) (off := j) (by have := HUP.out; omega) (by have := HUP.out; omega)
      have hal2 := HUP.out.2.2.1
      obtain ⟨O, hO⟩ : ∃ O, objP U P c j = O := ⟨_, rfl⟩
      obtain ⟨A, hA⟩ : ∃ O, atP U P c j = O := ⟨_, rfl⟩
      obtain ⟨K, hK⟩ : ∃ K, cntB U P c O j = K := ⟨_, rfl⟩
      obtain ⟨T, hT⟩ : ∃ T, topB U P c O j = T := ⟨_, rfl⟩
      rw [hO] at HLT HCS HTS HCA HTA hcl htl
      rw [hO, hA]
      rw [hA] at HTS hal
      rw [hT] at HTS HTA htl
      rw [hK] at HCS HCA hcl
      clear hO hA hK hT
      have hO0 : ¬ (O : Int) < 0 := by omega
      have hON := HLT.out
      have hO1 : ¬ (O : Int) ≥ N := by omega
      have hne : G1 ≠ G2 := by have := HG.out.2.2 (by omega); omega
      have c0 := HC5.out.cell1 inOk rfl cntL_len HCA.out rfl
      have f0 := HC5.out.frozenAt cntL_len O
      go_upto_region 14 with fail
      have HC6 := Lib.hid (HC5.out.stored1 inOk rfl cntL_len HCA.out rfl (t' := (K : Int) + 1) (v' := .int .i64 ((K : Int) + 1)) rfl (show inB ((K : Int) + 1) by unfold inB; omega))
      have HT6 := Lib.hid (HT5.out.besides (g := G1) HG.out.2.1 (fun e => hne (by simpa [Value.ownBlock] using e.symm)) O (.int .i64 ((K : Int) + 1)))
      rw [HCS.out] at HC6
      generalize hw6 : w5.setCell ⟨G1, O, none⟩ (.int .i64 ((K : Int) + 1)) = w6 at HC6 HT6
      have c1 := HT6.out.cell1 inOk rfl topL_len HTA.out rfl
      have f1 := HT6.out.frozenAt topL_len O
      go_upto_region 15 with fail
      try rw [hw6]
      clear hw6 c0 f0
      have HC7 := Lib.hid (HC6.out.besides (g := G2) (by have h1 := HG.out.2.1; have := HG.out.2.2 (by omega); omega) (fun e => hne (by simpa [Value.ownBlock] using e)) O (.int .i64 ((max T (A + 1) : Nat) : Int)))
      have HT7 := Lib.hid (HT6.out.stored1 inOk rfl topL_len HTA.out rfl (t' := ((max T (A + 1) : Nat) : Int)) (v' := .int .i64 ((max T (A + 1) : Nat) : Int)) rfl (show inB ((max T (A + 1) : Nat) : Int) by unfold inB; omega))
      rw [HTS.out] at HT7
      generalize hw7 : w6.setCell ⟨G2, O, none⟩ (.int .i64 ((max T (A + 1) : Nat) : Int)) = w7 at HC7 HT7
      obtain ⟨M, hM⟩ : ∃ M, max T (A + 1) = M := ⟨_, rfl⟩
      rw [hM] at hw7
      have hmx : (if (T : Int) < (A : Int) + 1 then (A : Int) + 1 else (T : Int)) = (M : Int) := by split <;> omega
      clear hM HC5 HT5 HC6 HT6 HTS HCS HTA HCA
      go_upto_region 10 with fail
      try rw [hmx]
      try rw [hw7]
      clear hmx hw7 c1 f1
      go_wp2_with fail
      go_roundw
      case rel => exact ⟨j + 1, by go_num, by omega, HC7, HT7⟩
      case measure => simp [intOf]; omega
    · obtain rfl : j = n := by omega
      have HCL : Hid (∀ k : Nat, k < N → cntB U P c k j ≤ topB U P c k j ∧ topB U P c k j ≤ 64) := Lib.hid (fun k hk => ⟨cntB_top (by have := HUP.out; omega) (by have := HUP.out; omega) HUP.out.2.2.2 j, topB_le (by have := HUP.out; omega) (by have := HUP.out; omega) HUP.out.2.2.1 j⟩)
      obtain ⟨wB, hwB⟩ : ∃ W, W = wr := ⟨_, rfl⟩
      subst hwB
      go_upto_region 18 with fail
      go_loopw [16, 17] (fun s i wr => ∃ (k : Nat), i = .int .i64 k ∧ s = .int .i64 ((sumB U P c j k : Nat) : Int) ∧ k ≤ N ∧ Below wB.heap.size wB wr) (fun _ i _ => N - (intOf i).toNat)
      case atStart => exact ⟨0, rfl, rfl, by omega, Below.refl _ _⟩
      case round =>
        obtain ⟨k, rfl, rfl, hk, hbk⟩ := hrel
        have HBK := Lib.hid hbk
        clear hbk
        by_cases hkN : (k : Int) < N
        · have hkN0 : k < N := by omega
          have HXk := Lib.hid ((HX2.out.later HC.out.below).later HBK.out)
          have HCk := Lib.hid (HC.out.later HBK.out)
          have HTk := Lib.hid (HT.out.later HBK.out)
          have HTK := Lib.hid (HBY.out k)
          have HCA := Lib.hid (cntL_at (U := U) (P := P) (C := c) (n := j) hkN0)
          have HTA := Lib.hid (topL_at (U := U) (P := P) (C := c) (n := j) hkN0)
          have hct := HCL.out k hkN0
          have hsl := sumB_le (U := U) (P := P) (C := c) (n := j) (k := k)
          have HSS : Hid (sumB U P c j (k + 1) = sumB U P c j k + cntB U P c k j) := Lib.hid rfl
          obtain ⟨K, hK⟩ : ∃ K, cntB U P c k j = K := ⟨_, rfl⟩
          obtain ⟨T, hT⟩ : ∃ T, topB U P c k j = T := ⟨_, rfl⟩
          obtain ⟨S, hS⟩ : ∃ S, sumB U P c j k = S := ⟨_, rfl⟩
          rw [hK] at HCA hct HSS
          rw [hT] at HTA HTK hct
          rw [hS] at hsl HSS ⊢
          have hKT : ¬ T < K := by omega
          have hk0 : (0 : Int) ≤ k := by omega
          clear hK hT hS
          go_upto_region 20 with fail
          -- REG 20
          refine wp_region_tab (L := [cV (.agg #[.int .i64 o, .int .i64 u, .int .i64 c]), cV (.int .i64 j), cV (.int .i64 k), cV (.int .i64 T), cV (.slice (some ⟨G2, 0, none⟩) N N), cV (.int .i64 k), cV (.pointer (some ⟨G2, k, none⟩)), cV (.int .i64 T), cV (.bool false), cV (.bool false), cV (.slice (some ⟨G1, 0, none⟩) N N), cV (.int .i64 k), cV (.pointer (some ⟨G1, k, none⟩)), cV (.int .i64 K), cV (.slice (some ⟨G2, 0, none⟩) N N), cV (.int .i64 k), cV (.pointer (some ⟨G2, k, none⟩)), cV (.int .i64 T), cV (.bool false), cV (.bool false)]) [[(9, none)], [(3, none)], [(17, none)], [(77, some 0), (78, some 1), (79, some 2)], [(12, none)], [(17, none)], [(81, some 4), (82, some 5)], [(83, some 6)], [(80, some 3), (84, some 7)], [(85, some 8)], [(11, none), (86, some 9)], [(17, none), (86, some 9)], [(87, some 10), (88, some 11), (86, some 9)], [(89, some 12), (86, some 9)], [(12, none), (86, some 9)], [(17, none), (86, some 9)], [(91, some 14), (92, some 15), (86, some 9)], [(93, some 16), (86, some 9)], [(90, some 13), (94, some 17), (86, some 9)], [(86, some 9), (95, some 18)]] 20 128 (by kernel_rfl) rfl rfl (by kernel_rfl) (by kernel_rfl) ?_ ?_
          · show ∀ i, i < 20 → _
            iterate 20 (refine fls ?_ ?_)
            · exact fl0
            · intro a w1 hR hsz hs      -- 0: slot 77
              obtain ⟨h0, _⟩ := hs
              have h0 : a.tmps.getD 9 undef = .pointer (some ⟨P9, 0, none⟩) := h0
              obtain ⟨x0, x1, x2⟩ := (HXk.out.later hR).l3
              refine op_run rfl rfl (v := .agg #[.int .i64 o, .int .i64 u, .int .i64 c]) (w' := w1) ?_ rfl (Below.refl _ _)
              simp [execOp, Act.eval, h0, x0, x1, x2, go_sem]
            · intro a w1 hR hsz hs      -- 1: slot 78
              obtain ⟨h0, _⟩ := hs
              have h0 : a.tmps.getD 3 undef = .int .i64 j := h0
              refine op_run rfl rfl (v := .int .i64 j) (w' := w1) ?_ rfl (Below.refl _ _)
              simp [execOp, Act.eval, h0, go_sem]
            · intro a w1 hR hsz hs      -- 2: slot 79
              obtain ⟨h0, _⟩ := hs
              have h0 : a.tmps.getD 17 undef = .int .i64 k := h0
              refine op_run rfl rfl (v := .int .i64 k) (w' := w1) ?_ rfl (Below.refl _ _)
              simp [execOp, Act.eval, h0, go_sem]
            · intro a w1 hR hsz hs      -- 3: slot 80
              obtain ⟨h0, h1, h2, _⟩ := hs
              have h0 : a.tmps.getD 77 undef = .agg #[.int .i64 o, .int .i64 u, .int .i64 c] := h0
              have h1 : a.tmps.getD 78 undef = .int .i64 j := h1
              have h2 : a.tmps.getD 79 undef = .int .i64 k := h2
              refine op_call rfl rfl (f := 17) (args := #[.agg #[.int .i64 o, .int .i64 u, .int .i64 c], .int .i64 j, .int .i64 k]) (by simp [execOp, Act.eval, resolve, h0, h1, h2, go_sem]) ?_
              exact calls_c (HTK.out w1)
            · intro a w1 hR hsz hs      -- 4: slot 81
              obtain ⟨h0, _⟩ := hs
              have h0 : a.tmps.getD 12 undef = .slice (some ⟨G2, 0, none⟩) N N := h0
              refine op_run rfl rfl (v := .slice (some ⟨G2, 0, none⟩) N N) (w' := w1) ?_ rfl (Below.refl _ _)
              simp [execOp, Act.eval, h0, go_sem]
            · intro a w1 hR hsz hs      -- 5: slot 82
              obtain ⟨h0, _⟩ := hs
              have h0 : a.tmps.getD 17 undef = .int .i64 k := h0
              refine op_run rfl rfl (v := .int .i64 k) (w' := w1) ?_ rfl (Below.refl _ _)
              simp [execOp, Act.eval, h0, go_sem]
            · intro a w1 hR hsz hs      -- 6: slot 83
              obtain ⟨h0, h1, _⟩ := hs
              have h0 : a.tmps.getD 81 undef = .slice (some ⟨G2, 0, none⟩) N N := h0
              have h1 : a.tmps.getD 82 undef = .int .i64 k := h1
              refine op_run rfl rfl (v := .pointer (some ⟨G2, k, none⟩)) (w' := w1) ?_ rfl (Below.refl _ _)
              simp [execOp, Act.eval, h0, h1, hkN, hk0, go_sem]
            · intro a w1 hR hsz hs      -- 7: slot 84
              obtain ⟨h0, _⟩ := hs
              have h0 : a.tmps.getD 83 undef = .pointer (some ⟨G2, k, none⟩) := h0
              have c0 := (HTk.out.later hR).cell1 inOk rfl topL_len HTA.out rfl
              refine op_run rfl rfl (v := .int .i64 T) (w' := w1) ?_ rfl (Below.refl _ _)
              simp [execOp, Act.eval, h0, c0, go_sem]
            · intro a w1 hR hsz hs      -- 8: slot 85
              obtain ⟨h0, h1, _⟩ := hs
              have h0 : a.tmps.getD 80 undef = .int .i64 T := h0
              have h1 : a.tmps.getD 84 undef = .int .i64 T := h1
              refine op_run rfl rfl (v := .bool false) (w' := w1) ?_ rfl (Below.refl _ _)
              simp [execOp, Act.eval, h0, h1, go_sem]
            · intro a w1 hR hsz hs      -- 9: slot 86
              obtain ⟨h0, _⟩ := hs
              have h0 : a.tmps.getD 85 undef = .bool false := h0
              refine op_run rfl rfl (v := .bool false) (w' := w1) ?_ rfl (Below.refl _ _)
              simp [execOp, Act.eval, h0, go_sem]
            · intro a w1 hR hsz hs      -- 10: slot 87
              obtain ⟨h0, h1, _⟩ := hs
              have h0 : a.tmps.getD 11 undef = .slice (some ⟨G1, 0, none⟩) N N := h0
              have h1 : a.tmps.getD 86 undef = .bool false := h1
              refine opg_run rfl rfl rfl (by rw [hsz]; decide) h1 (v := .slice (some ⟨G1, 0, none⟩) N N) (w' := w1) ?_ rfl (Below.refl _ _)
              simp [execOp, Act.eval, h0, go_sem]
            · intro a w1 hR hsz hs      -- 11: slot 88
              obtain ⟨h0, h1, _⟩ := hs
              have h0 : a.tmps.getD 17 undef = .int .i64 k := h0
              have h1 : a.tmps.getD 86 undef = .bool false := h1
              refine opg_run rfl rfl rfl (by rw [hsz]; decide) h1 (v := .int .i64 k) (w' := w1) ?_ rfl (Below.refl _ _)
              simp [execOp, Act.eval, h0, go_sem]
            · intro a w1 hR hsz hs      -- 12: slot 89
              obtain ⟨h0, h1, h2, _⟩ := hs
              have h0 : a.tmps.getD 87 undef = .slice (some ⟨G1, 0, none⟩) N N := h0
              have h1 : a.tmps.getD 88 undef = .int .i64 k := h1
              have h2 : a.tmps.getD 86 undef = .bool false := h2
              refine opg_run rfl rfl rfl (by rw [hsz]; decide) h2 (v := .pointer (some ⟨G1, k, none⟩)) (w' := w1) ?_ rfl (Below.refl _ _)
              simp [execOp, Act.eval, h0, h1, hkN, hk0, go_sem]
            · intro a w1 hR hsz hs      -- 13: slot 90
              obtain ⟨h0, h1, _⟩ := hs
              have h0 : a.tmps.getD 89 undef = .pointer (some ⟨G1, k, none⟩) := h0
              have h1 : a.tmps.getD 86 undef = .bool false := h1
              have c0 := (HCk.out.later hR).cell1 inOk rfl cntL_len HCA.out rfl
              refine opg_run rfl rfl rfl (by rw [hsz]; decide) h1 (v := .int .i64 K) (w' := w1) ?_ rfl (Below.refl _ _)
              simp [execOp, Act.eval, h0, c0, go_sem]
            · intro a w1 hR hsz hs      -- 14: slot 91
              obtain ⟨h0, h1, _⟩ := hs
              have h0 : a.tmps.getD 12 undef = .slice (some ⟨G2, 0, none⟩) N N := h0
              have h1 : a.tmps.getD 86 undef = .bool false := h1
              refine opg_run rfl rfl rfl (by rw [hsz]; decide) h1 (v := .slice (some ⟨G2, 0, none⟩) N N) (w' := w1) ?_ rfl (Below.refl _ _)
              simp [execOp, Act.eval, h0, go_sem]
            · intro a w1 hR hsz hs      -- 15: slot 92
              obtain ⟨h0, h1, _⟩ := hs
              have h0 : a.tmps.getD 17 undef = .int .i64 k := h0
              have h1 : a.tmps.getD 86 undef = .bool false := h1
              refine opg_run rfl rfl rfl (by rw [hsz]; decide) h1 (v := .int .i64 k) (w' := w1) ?_ rfl (Below.refl _ _)
              simp [execOp, Act.eval, h0, go_sem]
            · intro a w1 hR hsz hs      -- 16: slot 93
              obtain ⟨h0, h1, h2, _⟩ := hs
              have h0 : a.tmps.getD 91 undef = .slice (some ⟨G2, 0, none⟩) N N := h0
              have h1 : a.tmps.getD 92 undef = .int .i64 k := h1
              have h2 : a.tmps.getD 86 undef = .bool false := h2
              refine opg_run rfl rfl rfl (by rw [hsz]; decide) h2 (v := .pointer (some ⟨G2, k, none⟩)) (w' := w1) ?_ rfl (Below.refl _ _)
              simp [execOp, Act.eval, h0, h1, hkN, hk0, go_sem]
            · intro a w1 hR hsz hs      -- 17: slot 94
              obtain ⟨h0, h1, _⟩ := hs
              have h0 : a.tmps.getD 93 undef = .pointer (some ⟨G2, k, none⟩) := h0
              have h1 : a.tmps.getD 86 undef = .bool false := h1
              have c0 := (HTk.out.later hR).cell1 inOk rfl topL_len HTA.out rfl
              refine opg_run rfl rfl rfl (by rw [hsz]; decide) h1 (v := .int .i64 T) (w' := w1) ?_ rfl (Below.refl _ _)
              simp [execOp, Act.eval, h0, c0, go_sem]
            · intro a w1 hR hsz hs      -- 18: slot 95
              obtain ⟨h0, h1, h2, _⟩ := hs
              have h0 : a.tmps.getD 90 undef = .int .i64 K := h0
              have h1 : a.tmps.getD 94 undef = .int .i64 T := h1
              have h2 : a.tmps.getD 86 undef = .bool false := h2
              refine opg_run rfl rfl rfl (by rw [hsz]; decide) h2 (v := .bool false) (w' := w1) ?_ rfl (Below.refl _ _)
              simp [execOp, Act.eval, h0, h1, hKT, go_sem]
            · intro a w1 hR hsz hs      -- 19: slot 96
              obtain ⟨h0, h1, _⟩ := hs
              have h0 : a.tmps.getD 86 undef = .bool false := h0
              have h1 : a.tmps.getD 95 undef = .bool false := h1
              refine op_run rfl rfl (v := .bool false) (w' := w1) ?_ rfl (Below.refl _ _)
              simp [execOp, Act.eval, h0, h1, go_sem]
          · intro f w1 hR hv
            have e96 : f 96 = .bool false := hv 19 _ 96 rfl rfl
            clear hv
            try simp only [Exit.then]
            simp only [putAll, List.foldl_cons, List.foldl_nil, Option.getD_some, Act.put, List.setIfInBounds_toArray, List.set_cons_succ, List.set_cons_zero, e96]
            have HBE := Lib.hid (HBK.out.trans (hR.mono HBK.out.size))
            have c0 := (HCk.out.later hR).cell1 inOk rfl cntL_len HCA.out rfl
            clear hR e96
            go_upto_region 22 with fail
            go_wp2_with fail
            go_roundw
            case rel => exact ⟨k + 1, by go_num, congrArg (Value.int IntKind.i64) (by have := HSS.out; omega), by omega, HBE.out⟩
            case measure => simp [intOf]; omega
          -- END 20
        · obtain rfl : k = N := by omega
          have hS : sumB U P c j k = j := sumB_all fun i hi => by rw [← HN.out]; exact objP_lt hi
          rw [hS]
          have HXk := Lib.hid ((HX2.out.later HC.out.below).later HBK.out)
          have HTk := Lib.hid (HT.out.later HBK.out)
          have HTK := Lib.hid (HBY.out k)
          have HT0 : Hid (topB U P c k j = 0) := Lib.hid (topB_out (by rw [HN.out]; exact Nat.le_refl _))
          rw [HT0.out] at HTK
          have HBE := Lib.hid (HB2.out.trans ((HC.out.below.trans (HBK.out.mono HC.out.below.size)).mono HB2.out.size))
          by_cases hk0 : k = 0
          · subst hk0
            obtain ⟨x0, x1, x2⟩ := HXk.out.l3
            have hj2 : j ≤ 512 := hn512
            clear hzr hn hn512 hj hjn hN128 hk hkN hS hz
            go_wp2_with fail
            refine (HTK.out _).mono ?_
            rintro e w5 ⟨rfl, b5⟩
            have HB5 := Lib.hid (HBE.out.trans (b5.mono HBE.out.size))
            clear b5
            go_wp2_with fail
            refine (known12_any w5).mono ?_
            rintro e w6 ⟨rfl, b6⟩
            have HB6 := Lib.hid (HB5.out.trans (b6.mono HB5.out.size))
            clear b6
            go_wp2_with fail
            go_ret
            exact ⟨rfl, HB6.out⟩
          · obtain ⟨M, hM⟩ : ∃ M, k = M + 1 := ⟨k - 1, by omega⟩
            have hNM : (k : Int) - 1 = (M : Int) := by omega
            have HTL : Hid (0 < topB U P c M j) := Lib.hid (by
              have h := topB_last (U := U) (P := P) (C := c) (n := j) (by rw [HN.out]; omega)
              rw [HN.out, hM] at h
              exact h)
            have HTA := Lib.hid (topL_at (U := U) (P := P) (C := c) (n := j) (show M < k by omega))
            obtain ⟨T, hT⟩ : ∃ T, topB U P c M j = T := ⟨_, rfl⟩
            rw [hT] at HTL HTA
            clear hT
            obtain ⟨x0, x1, x2⟩ := HXk.out.l3
            have c0 := HTk.out.cell1 inOk rfl topL_len HTA.out rfl
            have hT0 : (0 : Int) < T := by have := HTL.out; omega
            have hk1 : ((k : Int) == 0) = false := by simp; omega
            have hMk : (M : Int) < k := by omega
            clear hzr hn hn512 hj hjn hN128 hk hkN hS hz hM
            go_wp2_with fail
            refine (HTK.out _).mono ?_
            rintro e w5 ⟨rfl, b5⟩
            have HB5 := Lib.hid (HBE.out.trans (b5.mono HBE.out.size))
            clear b5
            go_wp2_with fail
            refine (known12_any w5).mono ?_
            rintro e w6 ⟨rfl, b6⟩
            have HB6 := Lib.hid (HB5.out.trans (b6.mono HB5.out.size))
            clear b6
            go_wp2_with fail
            go_ret
            exact ⟨rfl, HB6.out⟩
end Go.Proofs.Ytalgjoeinllllaa
