/- Stripes: the program's own Map. -/
import Derived.Test.YtalgjoeinllllaaSpQ
namespace Go.Proofs.Ytalgjoeinllllaa
open Go.RowKit Go.Proofs
set_option linter.unusedVariables false
set_option linter.unusedSimpArgs false
set_option linter.unnecessarySimpa false

set_option maxRecDepth 20000 in
set_option maxHeartbeats 6400000 in
theorem smap_any (o u c off n : Int) (hn : -9223372036854775808 ≤ n ∧ n ≤ 9223372036854775807) (w : World) : Calls Try.prog 13 #[.agg (layC o u c), .int .i64 off, .int .i64 n] w fun e w' => ∃ v, e = .returned v ∧ GOwn xtT w w' v (mapI o u c off n) := by
  have HX0 := Lib.hid (RecAt.new w (layC o u c) 23)
  have HB0 := Lib.hid ((Below.refl w.heap.size w).alloc (Nat.le_refl _) (.cells (layC o u c) 23))
  obtain ⟨w1, hw1⟩ : ∃ W, w.alloc (.cells (layC o u c) 23) = W := ⟨_, rfl⟩
  rw [hw1] at HX0 HB0
  have HSH := Lib.hid (fun W => shape_any o u c W)
  obtain ⟨R, hR⟩ : ∃ R, mapI o u c off n = R := ⟨_, rfl⟩
  rw [hR]
  have HR := Lib.hid hR
  clear hR
  go_enter Try.func13, Try.ntmps13
  go_upto_region 1 with fail
  try rw [hw1]
  clear hw1
  obtain ⟨X, hX⟩ : ∃ X, w.heap.size = X := ⟨_, rfl⟩
  rw [hX] at HX0 ⊢
  have HXS := Lib.hid hX
  clear hX
  obtain ⟨x0, x1, x2⟩ := HX0.out.l3
  go_wp2_with fail
  refine (HSH.out w1).mono ?_
  rintro e w2 ⟨rfl, b2⟩
  have HX2 := Lib.hid (HX0.out.later b2)
  have HB2 := Lib.hid (HB0.out.trans (b2.mono (by have := HB0.out.size; rw [HXS.out] at this ⊢; exact this)))
  clear b2 x0 x1 x2 HSH
  by_cases hs : ShapeOk o u c
  · have hsd : decide (ShapeOk o u c) = true := decide_eq_true hs
    rw [hsd]
    rcases (show off < 0 ∨ (¬ off < 0 ∧ n < 1) ∨ (¬ off < 0 ∧ ¬ n < 1 ∧ 512 - n < off) ∨ (¬ off < 0 ∧ ¬ n < 1 ∧ ¬ 512 - n < off) by omega) with h | ⟨h, h1⟩ | ⟨h, h1, h3⟩ | ⟨h, h1, h3⟩
    · have hd0 : decide (off < 0) = true := decide_eq_true h
      have HF : Hid (R = []) := Lib.hid (by rw [← HR.out]; exact mapI_no (fun c => by omega))
      go_wp2_with fail
      go_ret
      rw [HF.out]
      exact ⟨_, rfl, GOwn.nil' HB2.out⟩
    · have hd0 : decide (off < 0) = false := decide_eq_false h
      have hd1 : decide (n < 1) = true := decide_eq_true h1
      have HF : Hid (R = []) := Lib.hid (by rw [← HR.out]; exact mapI_no (fun c => by omega))
      go_wp2_with fail
      go_ret
      rw [HF.out]
      exact ⟨_, rfl, GOwn.nil' HB2.out⟩
    · have hd0 : decide (off < 0) = false := decide_eq_false h
      have hd1 : decide (n < 1) = false := decide_eq_false h1
      have hd3 : decide (off > 512 - n) = true := decide_eq_true h3
      have hw : wrap64 (512 - n) = 512 - n := IntWalk.wrap64_in _ (by omega)
      have HF : Hid (R = []) := Lib.hid (by rw [← HR.out]; exact mapI_no (fun c => by omega))
      go_wp2_with fail
      go_ret
      rw [HF.out]
      exact ⟨_, rfl, GOwn.nil' HB2.out⟩
    have hd0 : decide (off < 0) = false := decide_eq_false h
    have hd1 : decide (n < 1) = false := decide_eq_false h1
    have h2 : ¬ 512 < n := by omega
    have hd3 : decide (off > 512 - n) = false := decide_eq_false h3
    obtain ⟨O, hO⟩ : ∃ O : Nat, off = O := ⟨off.toNat, by omega⟩
    subst hO
    obtain ⟨N, hNN⟩ : ∃ O : Nat, n = O := ⟨n.toNat, by omega⟩
    subst hNN
    obtain ⟨o, u, C, rfl, rfl, rfl, ho3, ho6, hu2, huo, hc1, hc4⟩ := shape_nat hs
    have hps := pow_small hu2 huo ho6
    obtain ⟨U, hU⟩ : ∃ U, 2 ^ u = U := ⟨_, rfl⟩
    obtain ⟨P, hP⟩ : ∃ U, 2 ^ (o - u) = U := ⟨_, rfl⟩
    obtain ⟨Po, hPo⟩ : ∃ U, 2 ^ o = U := ⟨_, rfl⟩
    rw [hPo, hU, hP] at hps
    have HF : Hid (R = mapX U P C O N) := Lib.hid (by
      rw [← HR.out]
      unfold mapI
      rw [if_pos ⟨hs, by omega, by omega, by omega, by omega⟩]
      simp only [Int.toNat_natCast]
      rw [hU, hP])
    have HPLC : Hid (∀ k : Nat, k ≤ 1073741824 → placeI o u C k = (((objP U P C k : Nat) : Int), ((atP U P C k : Nat) : Int))) := Lib.hid (fun k hk => by have := placeI_yes (off := k) hs hk; rw [hU, hP] at this; exact this)
    have hON : O + N ≤ 512 := by omega
    have HPU := Lib.hid (powI hU)
    have HLOW := Lib.hid (fun (m r : Nat) (hm : m < 9223372036854775808) (hr : m % U = r) W => slow_any m u U r hU (by omega) hm hr W)
    have HU1 : Hid (IntKind.i64.wrap (U : Int) = U) := Lib.hid (wrap_nat (by omega))
    have hU4 := hps.1
    have hU64 := hps.2.1
    have hP1 := hps.2.2.1
    have hPU : P * U ≤ 64 := by have := hps.2.2.2.2.1; have := hps.2.2.2.2.2; omega
    clear hps hs hsd HR h3 hU hP hPo h2
    have hw : wrap64 (512 - (N : Int)) = 512 - (N : Int) := IntWalk.wrap64_in _ (by omega)
    go_wp2_with fail
    clear hw
    go_loopw [7, 8] (fun v i wr => ∃ (j : Nat) (L : List Xt), i = .int .i64 j ∧ j ≤ N ∧ L.length ≤ j ∧ GOwn xtT w2 wr v L ∧ Hid (L = mapX U P C O j)) (fun _ i _ => N - (intOf i).toNat)
    case atStart => exact ⟨0, [], rfl, by omega, by simp, GOwn.nil' (Below.refl _ _), Lib.hid rfl⟩
    case round =>
      obtain ⟨j, L, rfl, hj, hLj, o7, HL⟩ := hrel
      have HO := Lib.hid o7
      obtain ⟨x0, x1, x2⟩ := (HX2.out.later o7.below).l3
      clear o7
      by_cases hjn : (j : Int) < N
      · have hjn2 : decide ((j : Int) < N) = true := decide_eq_true hjn
        have hplc := HPLC.out (O + j) (by omega)
        rw [Int.natCast_add] at hplc
        have HPL := Lib.hid (splace_any o u C ((O : Int) + (j : Int)) wr)
        rw [hplc] at HPL
        have hob := objP_le (U := U) (P := P) hc1 hc4 (off := O + j) (by omega)
        have hatl := atP_lt (C := C) (off := O + j) (show 0 < U by omega) (show 0 < P by omega)
        have hmod := atP_mod (U := U) (P := P) (C := C) (off := O + j) (by omega)
        have hml := Nat.mod_lt (O + j) (show 0 < U by omega)
        obtain ⟨D2, hD2⟩ : ∃ r, N - j = r := ⟨_, rfl⟩
        obtain ⟨M3, hM3⟩ : ∃ r, (O + j) % U = r := ⟨_, rfl⟩
        obtain ⟨D1, hD1⟩ : ∃ r, U - M3 = r := ⟨_, rfl⟩
        have HS : Hid (∀ k, 0 < k → k ≤ D1 → mapX U P C O (j + k) = joinX L (objP U P C (O + j)) (atP U P C (O + j)) j k) := Lib.hid (fun k h1 h2 => by rw [HL.out]; exact mapX_unit (by omega) k h1 (by omega))
        rw [hM3] at hmod hml
        obtain ⟨OB, hOB⟩ : ∃ r, objP U P C (O + j) = r := ⟨_, rfl⟩
        obtain ⟨AT, hAT⟩ : ∃ r, atP U P C (O + j) = r := ⟨_, rfl⟩
        rw [hOB, hAT] at HPL HS
        rw [hOB] at hob
        rw [hAT] at hatl hmod
        have HLW := Lib.hid (fun W => HLOW.out AT M3 (by omega) hmod W)
        have HD1 : Hid (IntKind.i64.wrap ((U : Int) - (M3 : Int)) = D1) := Lib.hid (by rw [show ((U : Int) - (M3 : Int)) = (D1 : Nat) by omega]; exact wrap_nat (by omega))
        have HD2 : Hid (IntKind.i64.wrap ((N : Int) - (j : Int)) = D2) := Lib.hid (by rw [show ((N : Int) - (j : Int)) = (D2 : Nat) by omega]; exact wrap_nat (by omega))
        have hD1p : 0 < D1 := by omega
        have hD2p : 0 < D2 := by omega
        have hD2j : j + D2 = N := by omega
        clear hOB hAT hplc hM3 hD1 hD2 hmod hml
        go_wp2_with fail
        refine HPL.out.mono ?_
        rintro e w3 ⟨rfl, b3⟩
        have HX3 := Lib.hid (HX2.out.later ((HO.out.below).trans (b3.mono HO.out.below.size)))
        have HO3 := Lib.hid (HO.out.later b3)
        clear b3 HPL x0 x1 x2 HO
        obtain ⟨x0, x1, x2⟩ := HX3.out.l3
        go_upto_region 7 with fail
        obtain ⟨SZ, hcase⟩ : ∃ SZ : Nat, (D1 ≤ D2 ∧ SZ = D1) ∨ (D2 < D1 ∧ SZ = D2) := by
          rcases Nat.lt_or_ge D2 D1 with h | h
          · exact ⟨_, .inr ⟨h, rfl⟩⟩
          · exact ⟨_, .inl ⟨h, rfl⟩⟩
        have hSZ1 : 0 < SZ := by omega
        have hSZ2 : SZ ≤ D1 := by omega
        have hSZ3 : j + SZ ≤ N := by omega
        have HS2 := Lib.hid (HS.out SZ hSZ1 hSZ2)
        have HLN : Hid ((mapX U P C O (j + SZ)).length ≤ j + SZ) := Lib.hid (mapX_len U P C O (j + SZ))
        have ePU := HPU.out
        have e1 := HU1.out
        have e2 := HD1.out
        have e3 := HD2.out
        clear hSZ2 HS hD1p hD2p hD2j
        rcases hcase with ⟨hmn, rfl⟩ | ⟨hmn, rfl⟩
        all_goals
          go_quiet ((go_at_call 23; exact Calls.quiet_of_same ((HLW.out _).mono fun e w' hh => ⟨hh.1, hh.2.symm⟩)))
          generalize hwd : (w3.drewN nq) = w4 at *
          have hb34 : Below w3.heap.size w3 w4 := by rw [← hwd]; exact below_drewN _ _
          have HO4 := Lib.hid (HO3.out.later hb34)
          clear hwd hb34 x0 x1 x2 ePU e1 e2 e3 hmn HX3 HO3 HLW HD1 HD2
          have HJ : Hid (wrap64 ((j : Int) + (SZ : Int)) = ((j + SZ : Nat) : Int)) := Lib.hid (by rw [← Int.natCast_add]; exact IntWalk.wrap64_in _ (by omega))
          cases hLL : L.length with
          | zero =>
            have hLn : L = [] := List.length_eq_zero_iff.1 hLL
            subst hLn
            obtain ⟨av, cv, rfl, _⟩ := HO4.out.row_n (n := 0) xtOk rfl
            rw [joinX_nil] at HS2
            clear hLL
            have hm1 : decide ((-1 : Int) ≥ 0) = false := by decide
            go_upto_region 9 with fail
            go_quiet (fail)
            have HO5 := Lib.hid (HO4.out.later (below_drewN w4 nq))
            go_wp2_with (at_builtin; refine wp_gone xtOk rfl _ _ rfl rfl _ [] rfl w2 HO5.out (⟨OB, AT, SZ, j⟩ : Xt) trivial rfl rfl (by simp) ?_; intro v9 w9 o9 _ _)
            go_roundw
            case rel => exact ⟨j + SZ, _, congrArg (Value.int IntKind.i64) (by omega), by omega, by simp; omega, o9, Lib.hid HS2.out.symm⟩
            case measure => simp [intOf]; omega
          | succ K =>
            obtain ⟨x, hx⟩ : ∃ x, L[K]? = some x := ⟨_, List.getElem?_eq_getElem (by omega)⟩
            rw [joinX_last hLL hx] at HS2
            have hxl : x.off ≤ 64 ∧ x.len ≤ j := by
              have h1 := hLL
              have h2 := hx
              rw [HL.out] at h1 h2
              exact mapX_last_le (by omega) (by omega) hPU h1 h2
            obtain ⟨g, cap, rfl, hcp, hcm, hg1, hg2⟩ := HO4.out.at hLL (by omega)
            obtain ⟨av, cv, hav, r4⟩ := HO4.out.row_n xtOk hLL
            cases hav
            obtain ⟨b4, o4, hbo, p0, p1, p2, p3⟩ := r4.x4 hx
            cases hbo
            have fz := HO4.out.frozenAt hLL (K * 4 + 2)
            simp only [Nat.zero_add] at p0 p1 p2 p3
            obtain ⟨xo, xf, xl, xa⟩ := x
            simp only at hxl HS2 p0 p1 p2 p3
            obtain ⟨Sm, hSm⟩ : ∃ r, xf + xl = r := ⟨_, rfl⟩
            rw [hSm] at HS2
            have HW : Hid (IntKind.i64.wrap ((xf : Int) + (xl : Int)) = (Sm : Int)) := Lib.hid (wrap_add hSm (by omega))
            have HX := Lib.hid hx
            have HLL := Lib.hid hLL
            have hKj : K + 1 ≤ j := by omega
            have hcap9 : cap ≤ 9223372036854775807 := by unfold maxLen at hcm; omega
            clear r4 hx hLL hSm hcm
            by_cases h1 : xo = OB
            · have hd : ((xo : Int) == (OB : Int)) = true := by simp [h1]
              by_cases h2 : Sm = AT
              · have hd2 : ((Sm : Int) == (AT : Int)) = true := by simp [h2]
                rw [if_pos ⟨h1, h2⟩] at HS2
                have HST := Lib.hid (fun W (hb : Below w4.heap.size w4 W) => (HO4.out.later hb).stored xtOk HLL.out (i := K) (k := 2) (t := ⟨xo, xf, xl, xa⟩) (t' := ⟨xo, xf, xl + SZ, xa⟩) (v := .int .i64 ((xl + SZ : Nat) : Int)) HX.out (by decide) (by show _ = _; simp) trivial)
                have HP2 : Hid (∀ W, Below w4.heap.size w4 W → W.cell? ⟨g, K * 4 + 2, none⟩ = some (.int .i64 (xl : Nat)) ∧ W.frozen? ⟨g, K * 4 + 2, none⟩ = false) := Lib.hid fun W hb => ⟨(hb.cell (World.block_lt_of_cell? _ _ p2)).trans p2, (HO4.out.later hb).frozenAt HLL.out (K * 4 + 2)⟩
                clear h1 h2 fz
                go_upto_region 9 with fail
                have hw := HW.out
                go_quiet (fail)
                clear hw
                generalize hwd : (w4.drewN nq) = wD at *
                have hbD : Below w4.heap.size w4 wD := by rw [← hwd]; exact below_drewN _ _
                have HS5 := Lib.hid (HST.out wD hbD)
                obtain ⟨p2', fz'⟩ := HP2.out wD hbD
                clear hwd hbD p0 p1 p2 p3 HST HP2
                go_wp2_with fail
                go_roundw
                case rel => exact ⟨j + SZ, _, congrArg (Value.int IntKind.i64) (by omega), by omega, by rw [List.length_set, HLL.out]; omega, HS5.out, Lib.hid HS2.out.symm⟩
                case measure => simp [intOf]; omega
              · have hd2 : ((Sm : Int) == (AT : Int)) = false := by simp; omega
                rw [if_neg (fun cc => h2 cc.2)] at HS2
                clear h1 h2 fz
                go_upto_region 9 with fail
                have hw := HW.out
                go_quiet (fail)
                clear hw
                have HO5 := Lib.hid (HO4.out.later (below_drewN w4 nq))
                clear p0 p1 p2 p3
                go_wp2_with (at_builtin; refine wp_gone xtOk rfl _ _ rfl rfl _ L rfl w2 HO5.out (⟨OB, AT, SZ, j⟩ : Xt) trivial rfl rfl (by rw [HLL.out]; omega) ?_; intro v9 w9 o9 _ _)
                go_roundw
                case rel => exact ⟨j + SZ, _, congrArg (Value.int IntKind.i64) (by omega), by omega, by rw [List.length_append, HLL.out]; simp; omega, o9, Lib.hid HS2.out.symm⟩
                case measure => simp [intOf]; omega
            · have hd : ((xo : Int) == (OB : Int)) = false := by simp; omega
              rw [if_neg (fun cc => h1 cc.1)] at HS2
              clear h1 fz
              go_upto_region 9 with fail
              go_quiet (fail)
              have HO5 := Lib.hid (HO4.out.later (below_drewN w4 nq))
              clear p0 p1 p2 p3
              go_wp2_with (at_builtin; refine wp_gone xtOk rfl _ _ rfl rfl _ L rfl w2 HO5.out (⟨OB, AT, SZ, j⟩ : Xt) trivial rfl rfl (by rw [HLL.out]; omega) ?_; intro v9 w9 o9 _ _)
              go_roundw
              case rel => exact ⟨j + SZ, _, congrArg (Value.int IntKind.i64) (by omega), by omega, by rw [List.length_append, HLL.out]; simp; omega, o9, Lib.hid HS2.out.symm⟩
              case measure => simp [intOf]; omega
      · have hjn2 : decide ((j : Int) < N) = false := decide_eq_false hjn
        have hjN : j = N := by omega
        have HE : Hid (R = L) := Lib.hid (by rw [HF.out, HL.out, hjN])
        clear hjN
        go_wp2_with fail
        go_ret
        rw [HE.out]
        exact ⟨_, rfl, HO.out.back HB2.out⟩
  · have hsd : decide (ShapeOk o u c) = false := decide_eq_false hs
    rw [hsd]
    have HF : Hid (R = []) := Lib.hid (by rw [← HR.out]; exact mapI_no (fun c => hs c.1))
    go_wp2_with fail
    go_ret
    rw [HF.out]
    exact ⟨_, rfl, GOwn.nil' HB2.out⟩
end Go.Proofs.Ytalgjoeinllllaa
