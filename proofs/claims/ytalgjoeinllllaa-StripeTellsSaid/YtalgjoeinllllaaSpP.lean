/- Stripes: the program's own five functions. -/
import Derived.Test.YtalgjoeinllllaaSpB
import Derived.Test.YtalgjoeinllllaaFree
import Derived.Test.YtalgjoeinllllaaRv
namespace Go.Proofs.Ytalgjoeinllllaa
open Go.RowKit Go.Proofs
set_option linter.unusedVariables false
set_option linter.unusedSimpArgs false
set_option linter.unnecessarySimpa false

/-! ### bits of numbers -/
theorem and_low (n k P : Nat) (hP : 2 ^ k = P) (hn : n < 9223372036854775808) (hk : P ≤ 9223372036854775808) : bits .and .i64 (n : Int) ((P : Int) - 1) = ((n % P : Nat) : Int) := by
  have hp : 0 < P := by rw [← hP]; exact Nat.two_pow_pos k
  rw [show ((P : Int) - 1) = ((P - 1 : Nat) : Int) by omega, i64_and_nat n (P - 1) hn (by omega), ← hP, Nat.and_two_pow_sub_one_eq_mod]
theorem or_low (a b k P X Y : Nat) (hP : 2 ^ k = P) (hb : b < P) (hX : a * P = X) (hY : X + b = Y) (ha : Y < 9223372036854775808) : bits .or .i64 (X : Int) (b : Int) = (Y : Int) := by
  subst hX hY
  rw [i64_or_nat _ _ (by omega) (by omega)]
  congr 1
  subst hP
  rw [Nat.mul_comm]
  exact (Nat.two_pow_add_eq_or_of_lt hb a).symm
theorem powI {k P : Nat} (hP : 2 ^ k = P) : (2 : Int) ^ k = (P : Int) := by rw [pow_cast, hP]
theorem div_nat {a b q : Nat} (h : a / b = q) : (a : Int) / (b : Int) = (q : Int) := by rw [← Int.natCast_ediv, h]

set_option maxHeartbeats 800000 in
theorem slow_any (n k P r : Nat) (hP : 2 ^ k = P) (hk : k ≤ 61) (hn : n < 9223372036854775808) (hr : n % P = r) (w : World) : Calls Try.prog 23 #[.int .i64 n, .int .i64 k] w fun e w' => e = .returned (.int .i64 (r : Nat)) ∧ w = w' := by
  have hp : 0 < P := by rw [← hP]; exact Nat.two_pow_pos k
  have hp2 : P ≤ 2305843009213693952 := by
    have h1 := Nat.pow_le_pow_right (show 0 < 2 by decide) hk
    rw [hP] at h1; simpa using h1
  have e1 := powI hP
  have e2 : wrap64 (P : Int) = P := IntWalk.wrap64_in _ (by omega)
  have e3 : wrap64 ((P : Int) - 1) = (P : Int) - 1 := IntWalk.wrap64_in _ (by omega)
  have e4 := Lib.hid (and_low n k P hP hn (by omega))
  go_enter Try.func23, Try.ntmps23
  go_wp2
  go_ret
  exact ⟨ret_int (by rw [e4.out, hr]), rfl⟩
set_option maxHeartbeats 800000 in
theorem sheld_any (n m : Int) (hm : 0 ≤ m) (w : World) : Calls Try.prog 26 #[.int .i64 n, .int .i64 m] w fun e w' => e = .returned (.int .i64 (min (max n 0) m)) ∧ w = w' := by
  rcases (show n < 0 ∨ (0 ≤ n ∧ m < n) ∨ (0 ≤ n ∧ n ≤ m) by omega) with h | h | h
  all_goals
    go_enter Try.func26, Try.ntmps26
    go_wp2
    all_goals
      go_ret
      exact ⟨ret_int (by first | omega | (split <;> omega) | (split <;> split <;> omega)), rfl⟩
set_option maxHeartbeats 800000 in
theorem srowbits_any (o u D : Nat) (c : Int) (ho : o ≤ 6) (hu : u ≤ o) (hD : o - u = D) (w : World) : Calls Try.prog 22 #[.agg (layC o u c)] w fun e w' => e = .returned (.int .i64 D) ∧ Below w.heap.size w w' := by
  have HX0 := Lib.hid (RecAt.new w (layC o u c) 23)
  have HB0 := Lib.hid ((Below.refl w.heap.size w).alloc (Nat.le_refl _) (.cells (layC o u c) 23))
  obtain ⟨w1, hw1⟩ : ∃ W, w.alloc (.cells (layC o u c) 23) = W := ⟨_, rfl⟩
  rw [hw1] at HX0 HB0
  have e1 : wrap64 ((o : Int) - (u : Int)) = (D : Int) := by rw [IntWalk.wrap64_in _ (by omega)]; omega
  go_enter Try.func22, Try.ntmps22
  go_upto_region 1 with fail
  try rw [hw1]
  clear hw1
  obtain ⟨x0, x1, x2⟩ := HX0.out.l3
  go_wp2_with fail
  go_ret
  exact ⟨ret_int (by omega), HB0.out⟩
theorem calls_same {P : Program} {f : FuncId} {args : Array Value} {v : Value} {w : World} (h : Calls P f args w fun e w' => e = .returned v ∧ w = w') : Calls P f args w fun e w' => ∃ x, e = .returned x ∧ x = v ∧ Below w.heap.size w w' :=
  h.mono fun e w' hh => ⟨_, hh.1, rfl, by rw [← hh.2]; exact Below.refl _ _⟩

set_option maxRecDepth 20000 in
set_option maxHeartbeats 3200000 in
theorem splace_any (o u c off : Int) (w : World) : Calls Try.prog 8 #[.agg (layC o u c), .int .i64 off] w fun e w' => e = .returned (.tuple #[.int .i64 (placeI o u c off).1, .int .i64 (placeI o u c off).2]) ∧ Below w.heap.size w w' := by
  have HX0 := Lib.hid (RecAt.new w (layC o u c) 23)
  have HB0 := Lib.hid ((Below.refl w.heap.size w).alloc (Nat.le_refl _) (.cells (layC o u c) 23))
  obtain ⟨w1, hw1⟩ : ∃ W, w.alloc (.cells (layC o u c) 23) = W := ⟨_, rfl⟩
  rw [hw1] at HX0 HB0
  have HSH := Lib.hid (fun W => shape_any o u c W)
  obtain ⟨R, hR⟩ : ∃ R, placeI o u c off = R := ⟨_, rfl⟩
  rw [hR]
  have HR := Lib.hid hR
  clear hR
  go_enter Try.func8, Try.ntmps8
  go_upto_region 1 with fail
  try rw [hw1]
  clear hw1
  obtain ⟨X, hX⟩ : ∃ X, w.heap.size = X := ⟨_, rfl⟩
  rw [hX] at HX0 ⊢
  have HXS := Lib.hid hX
  clear hX
  obtain ⟨x0, x1, x2⟩ := HX0.out.l3
  go_wp2_with fail
  refine (HSH.out w1).mono ?_
  rintro e w2 ⟨rfl, b2⟩
  have HX2 := Lib.hid (HX0.out.later b2)
  have HB2 := Lib.hid (HB0.out.trans (b2.mono (by have := HB0.out.size; rw [HXS.out] at this ⊢; exact this)))
  clear b2 x0 x1 x2 HSH
  by_cases hs : ShapeOk o u c
  · have hsd : decide (ShapeOk o u c) = true := decide_eq_true hs
    rw [hsd]
    by_cases h0 : off < 0
    · have hd0 : decide (off < 0) = true := decide_eq_true h0
      have HF : Hid (R = (0, 0)) := Lib.hid (by rw [← HR.out]; exact placeI_no (by omega))
      go_wp2_with fail
      go_ret2
      rw [HF.out]
      exact ⟨rfl, HB2.out⟩
    · have hd0 : decide (off < 0) = false := decide_eq_false h0
      by_cases h1 : 1073741824 < off
      · have hd1 : decide (off > 1073741824) = true := decide_eq_true h1
        have HF : Hid (R = (0, 0)) := Lib.hid (by rw [← HR.out]; exact placeI_no (by omega))
        go_wp2_with fail
        go_ret2
        rw [HF.out]
        exact ⟨rfl, HB2.out⟩
      · have hd1 : decide (off > 1073741824) = false := decide_eq_false h1
        obtain ⟨o, u, c, rfl, rfl, rfl, ho3, ho6, hu2, huo, hc1, hc4⟩ := shape_nat hs
        obtain ⟨O, hO⟩ : ∃ O : Nat, off = O := ⟨off.toNat, by omega⟩
        subst hO
        have hps := pow_small hu2 huo ho6
        have HF : Hid (R = (((objP (2 ^ u) (2 ^ (o - u)) c O : Nat) : Int), ((atP (2 ^ u) (2 ^ (o - u)) c O : Nat) : Int))) := Lib.hid (by rw [← HR.out]; exact placeI_yes hs (by omega))
        obtain ⟨D, hD⟩ : ∃ D, o - u = D := ⟨_, rfl⟩
        obtain ⟨U, hU⟩ : ∃ U, 2 ^ u = U := ⟨_, rfl⟩
        obtain ⟨P, hP⟩ : ∃ U, 2 ^ D = U := ⟨_, rfl⟩
        rw [hD, hU, hP] at hps
        rw [hD, hU, hP] at HF
        have HRB := Lib.hid (fun W => srowbits_any o u D (c : Nat) (by omega) huo hD W)
        have HPU := Lib.hid (powI hU)
        have HPD := Lib.hid (powI hP)
        have HDM : Hid (min D 64 = D) := Lib.hid (by omega)
        have HUM : Hid (min u 64 = u) := Lib.hid (by omega)
        have hU4 := hps.1
        have hU64 := hps.2.1
        have hP1 := hps.2.2.1
        have hP16 := hps.2.2.2.1
        clear hps hs hsd HR
        obtain ⟨V, hV⟩ : ∃ V, O / U = V := ⟨_, rfl⟩
        have hV1 : V ≤ O := by rw [← hV]; exact Nat.div_le_self _ _
        obtain ⟨Rw, hRw⟩ : ∃ r, V / c = r := ⟨_, rfl⟩
        have hRw1 : Rw ≤ V := by rw [← hRw]; exact Nat.div_le_self _ _
        obtain ⟨Q1, hQ1⟩ : ∃ r, Rw / P = r := ⟨_, rfl⟩
        have hQ11 : Q1 ≤ Rw := by rw [← hQ1]; exact Nat.div_le_self _ _
        obtain ⟨M1, hM1⟩ : ∃ r, V % c = r := ⟨_, rfl⟩
        have hM11 : M1 < c := by rw [← hM1]; exact Nat.mod_lt _ (by omega)
        obtain ⟨M2, hM2⟩ : ∃ r, Rw % P = r := ⟨_, rfl⟩
        have hM21 : M2 < P := by rw [← hM2]; exact Nat.mod_lt _ (by omega)
        obtain ⟨M3, hM3⟩ : ∃ r, O % U = r := ⟨_, rfl⟩
        have hM31 : M3 < U := by rw [← hM3]; exact Nat.mod_lt _ (by omega)
        have hb1 : Q1 * c ≤ 1073741824 * 4 := Nat.mul_le_mul (by omega) hc4
        have hb2 : M2 * U ≤ 16 * 64 := Nat.mul_le_mul (by omega) hU64
        obtain ⟨X1, hX1⟩ : ∃ r, Q1 * c = r := ⟨_, rfl⟩
        obtain ⟨X2, hX2⟩ : ∃ r, M2 * U = r := ⟨_, rfl⟩
        rw [hX1] at hb1
        rw [hX2] at hb2
        obtain ⟨OB, hOB⟩ : ∃ r, X1 + M1 = r := ⟨_, rfl⟩
        obtain ⟨AT, hAT⟩ : ∃ r, X2 + M3 = r := ⟨_, rfl⟩
        have HF2 : Hid (R = ((OB : Int), (AT : Int))) := Lib.hid (by
          rw [HF.out]; unfold objP atP
          rw [hV, hRw, hQ1, hM1, hM2, hM3, hX1, hX2, hOB, hAT])
        have H1 : Hid ((O : Int) / (U : Int) = (V : Int)) := Lib.hid (div_nat hV)
        have H3 : Hid ((V : Int).tdiv (c : Int) = (Rw : Int)) := Lib.hid (by rw [tdiv_nat, hRw])
        have H3' : Hid ((V : Int) / (c : Int) = (Rw : Int)) := Lib.hid (div_nat hRw)
        have H6 : Hid ((V : Int).tmod (c : Int) = (M1 : Int)) := Lib.hid (by rw [tmod_nat, hM1])
        have H6' : Hid ((V : Int) % (c : Int) = (M1 : Int)) := Lib.hid (by rw [← Int.natCast_emod, hM1])
        have HQ1 : Hid ((Rw : Int) / (P : Int) = (Q1 : Int)) := Lib.hid (div_nat hQ1)
        have HX1 : Hid (IntKind.i64.wrap ((Q1 : Int) * (c : Int)) = (X1 : Int)) := Lib.hid (wrap_mul hX1 (by omega))
        have HOB : Hid (IntKind.i64.wrap ((X1 : Int) + (M1 : Int)) = (OB : Int)) := Lib.hid (wrap_add hOB (by omega))
        have HL1 := Lib.hid (fun W => slow_any Rw D P M2 hP (by omega) (by omega) hM2 W)
        have HL2 := Lib.hid (fun W => slow_any O u U M3 hU (by omega) (by omega) hM3 W)
        have HX2' : Hid (IntKind.i64.wrap ((M2 : Int) * (U : Int)) = (X2 : Int)) := Lib.hid (wrap_mul hX2 (by omega))
        have HAT : Hid (bits .or .i64 (X2 : Int) (M3 : Int) = (AT : Int)) := Lib.hid (or_low M2 M3 u U X2 AT hU hM31 hX2 hAT (by omega))
        clear hV hRw hQ1 hM1 hM2 hM3 hX1 hX2 hOB hAT HF hU hP hD
        obtain ⟨x0, x1, x2⟩ := HX2.out.l3
        have e1 := HPU.out
        have e2 := H1.out
        go_upto_region 4 with fail
        clear e1 e2
        have e3 := H3.out
        have e3' := H3'.out
        have e6 := H6.out
        have e6' := H6'.out
        go_quiet (fail)
        generalize hwd : (w2.drewN nq) = wD at *
        have hbD : Below w2.heap.size w2 wD := by rw [← hwd]; exact below_drewN _ _
        clear hwd x0 x1 x2 e3 e3' e6 e6'
        obtain ⟨x0, x1, x2⟩ := (HX2.out.later hbD).l3
        go_upto_region 5 with fail
        clear x0 x1 x2
        -- REG 5
        refine wp_region_tab (L := [cV (.int .i64 Rw), cV (.agg #[.int .i64 o, .int .i64 u, .int .i64 c]), cV (.int .i64 D), cV (.int .i64 Q1), cV (.pointer (some ⟨X, 2, none⟩)), cV (.int .i64 c), cV (.int .i64 X1), cV (.int .i64 M1), cV (.int .i64 OB), cV (.int .i64 OB)]) [[(7, none)], [(2, none)], [(35, some 1)], [(34, some 0), (36, some 2)], [(2, none)], [(38, some 4)], [(37, some 3), (39, some 5)], [(8, none)], [(40, some 6), (41, some 7)], [(42, some 8)]] 10 57 (by kernel_rfl) rfl rfl (by kernel_rfl) (by kernel_rfl) ?_ ?_
        · show ∀ i, i < 10 → _
          iterate 10 (refine fls ?_ ?_)
          · exact fl0
          · intro a w1 hR hsz hs      -- 0: slot 34
            obtain ⟨h0, _⟩ := hs
            have h0 : a.tmps.getD 7 undef = .int .i64 Rw := h0
            refine op_run rfl rfl (v := .int .i64 Rw) (w' := w1) ?_ rfl (Below.refl _ _)
            simp [execOp, Act.eval, h0, go_sem]
          · intro a w1 hR hsz hs      -- 1: slot 35
            obtain ⟨h0, _⟩ := hs
            have h0 : a.tmps.getD 2 undef = .pointer (some ⟨X, 0, none⟩) := h0
            obtain ⟨x0, x1, x2⟩ := (HX2.out.later (hbD.trans (hR.mono hbD.size))).l3
            refine op_run rfl rfl (v := .agg #[.int .i64 o, .int .i64 u, .int .i64 c]) (w' := w1) ?_ rfl (Below.refl _ _)
            simp [execOp, Act.eval, h0, x0, x1, x2, go_sem]
          · intro a w1 hR hsz hs      -- 2: slot 36
            obtain ⟨h0, _⟩ := hs
            have h0 : a.tmps.getD 35 undef = .agg #[.int .i64 o, .int .i64 u, .int .i64 c] := h0
            refine op_call rfl rfl (f := 22) (args := #[.agg #[.int .i64 o, .int .i64 u, .int .i64 c]]) (by simp [execOp, Act.eval, resolve, h0, go_sem]) ?_
            exact calls_c (HRB.out w1)
          · intro a w1 hR hsz hs      -- 3: slot 37
            obtain ⟨h0, h1, _⟩ := hs
            have h0 : a.tmps.getD 34 undef = .int .i64 Rw := h0
            have h1 : a.tmps.getD 36 undef = .int .i64 D := h1
            refine op_run rfl rfl (v := .int .i64 Q1) (w' := w1) ?_ rfl (Below.refl _ _)
            simp [execOp, Act.eval, h0, h1, HDM.out, HPD.out, HQ1.out, go_sem]
          · intro a w1 hR hsz hs      -- 4: slot 38
            obtain ⟨h0, _⟩ := hs
            have h0 : a.tmps.getD 2 undef = .pointer (some ⟨X, 0, none⟩) := h0
            refine op_run rfl rfl (v := .pointer (some ⟨X, 2, none⟩)) (w' := w1) ?_ rfl (Below.refl _ _)
            simp [execOp, Act.eval, h0, go_sem]
          · intro a w1 hR hsz hs      -- 5: slot 39
            obtain ⟨h0, _⟩ := hs
            have h0 : a.tmps.getD 38 undef = .pointer (some ⟨X, 2, none⟩) := h0
            obtain ⟨x0, x1, x2⟩ := (HX2.out.later (hbD.trans (hR.mono hbD.size))).l3
            refine op_run rfl rfl (v := .int .i64 c) (w' := w1) ?_ rfl (Below.refl _ _)
            simp [execOp, Act.eval, h0, x2, go_sem]
          · intro a w1 hR hsz hs      -- 6: slot 40
            obtain ⟨h0, h1, _⟩ := hs
            have h0 : a.tmps.getD 37 undef = .int .i64 Q1 := h0
            have h1 : a.tmps.getD 39 undef = .int .i64 c := h1
            refine op_run rfl rfl (v := .int .i64 X1) (w' := w1) ?_ rfl (Below.refl _ _)
            simp [execOp, Act.eval, h0, h1, HX1.out, go_sem]
          · intro a w1 hR hsz hs      -- 7: slot 41
            obtain ⟨h0, _⟩ := hs
            have h0 : a.tmps.getD 8 undef = .int .i64 M1 := h0
            refine op_run rfl rfl (v := .int .i64 M1) (w' := w1) ?_ rfl (Below.refl _ _)
            simp [execOp, Act.eval, h0, go_sem]
          · intro a w1 hR hsz hs      -- 8: slot 42
            obtain ⟨h0, h1, _⟩ := hs
            have h0 : a.tmps.getD 40 undef = .int .i64 X1 := h0
            have h1 : a.tmps.getD 41 undef = .int .i64 M1 := h1
            refine op_run rfl rfl (v := .int .i64 OB) (w' := w1) ?_ rfl (Below.refl _ _)
            simp [execOp, Act.eval, h0, h1, HOB.out, go_sem]
          · intro a w1 hR hsz hs      -- 9: slot 9
            obtain ⟨h0, _⟩ := hs
            have h0 : a.tmps.getD 42 undef = .int .i64 OB := h0
            refine op_run rfl rfl (v := .int .i64 OB) (w' := w1) ?_ rfl (Below.refl _ _)
            simp [execOp, Act.eval, h0, go_sem]
        intro f w1 hR hv
        have e9 : f 9 = .int .i64 OB := hv 9 _ 9 rfl rfl
        clear hv
        try simp only [Exit.then]
        simp only [putAll, List.foldl_cons, List.foldl_nil, Option.getD_some, Act.put, List.setIfInBounds_toArray, List.set_cons_succ, List.set_cons_zero, e9]
        have hb5 := hbD.trans (hR.mono hbD.size)
        clear hR e9 hbD
        obtain ⟨wE, hwE⟩ : ∃ W, w1 = W := ⟨_, rfl⟩
        subst hwE
        -- END 5
        obtain ⟨x0, x1, x2⟩ := (HX2.out.later hb5).l3
        go_upto_region 6 with fail
        clear x0 x1 x2
        -- REG 6
        refine wp_region_tab (L := [cV (.int .i64 Rw), cV (.agg #[.int .i64 o, .int .i64 u, .int .i64 c]), cV (.int .i64 D), cV (.int .i64 M2), cV (.pointer (some ⟨X, 1, none⟩)), cV (.int .i64 u), cV (.int .i64 X2), cV (.int .i64 O), cV (.pointer (some ⟨X, 1, none⟩)), cV (.int .i64 u), cV (.int .i64 M3), cV (.int .i64 AT), cV (.int .i64 AT)]) [[(7, none)], [(2, none)], [(44, some 1)], [(43, some 0), (45, some 2)], [(2, none)], [(47, some 4)], [(46, some 3), (48, some 5)], [(1, none)], [(2, none)], [(51, some 8)], [(50, some 7), (52, some 9)], [(49, some 6), (53, some 10)], [(54, some 11)]] 13 57 (by kernel_rfl) rfl rfl (by kernel_rfl) (by kernel_rfl) ?_ ?_
        · show ∀ i, i < 13 → _
          iterate 13 (refine fls ?_ ?_)
          · exact fl0
          · intro a w1 hR hsz hs      -- 0: slot 43
            obtain ⟨h0, _⟩ := hs
            have h0 : a.tmps.getD 7 undef = .int .i64 Rw := h0
            refine op_run rfl rfl (v := .int .i64 Rw) (w' := w1) ?_ rfl (Below.refl _ _)
            simp [execOp, Act.eval, h0, go_sem]
          · intro a w1 hR hsz hs      -- 1: slot 44
            obtain ⟨h0, _⟩ := hs
            have h0 : a.tmps.getD 2 undef = .pointer (some ⟨X, 0, none⟩) := h0
            obtain ⟨x0, x1, x2⟩ := (HX2.out.later (hb5.trans (hR.mono hb5.size))).l3
            refine op_run rfl rfl (v := .agg #[.int .i64 o, .int .i64 u, .int .i64 c]) (w' := w1) ?_ rfl (Below.refl _ _)
            simp [execOp, Act.eval, h0, x0, x1, x2, go_sem]
          · intro a w1 hR hsz hs      -- 2: slot 45
            obtain ⟨h0, _⟩ := hs
            have h0 : a.tmps.getD 44 undef = .agg #[.int .i64 o, .int .i64 u, .int .i64 c] := h0
            refine op_call rfl rfl (f := 22) (args := #[.agg #[.int .i64 o, .int .i64 u, .int .i64 c]]) (by simp [execOp, Act.eval, resolve, h0, go_sem]) ?_
            exact calls_c (HRB.out w1)
          · intro a w1 hR hsz hs      -- 3: slot 46
            obtain ⟨h0, h1, _⟩ := hs
            have h0 : a.tmps.getD 43 undef = .int .i64 Rw := h0
            have h1 : a.tmps.getD 45 undef = .int .i64 D := h1
            refine op_call rfl rfl (f := 23) (args := #[.int .i64 Rw, .int .i64 D]) (by simp [execOp, Act.eval, resolve, h0, h1, go_sem]) ?_
            exact calls_same (HL1.out w1)
          · intro a w1 hR hsz hs      -- 4: slot 47
            obtain ⟨h0, _⟩ := hs
            have h0 : a.tmps.getD 2 undef = .pointer (some ⟨X, 0, none⟩) := h0
            refine op_run rfl rfl (v := .pointer (some ⟨X, 1, none⟩)) (w' := w1) ?_ rfl (Below.refl _ _)
            simp [execOp, Act.eval, h0, go_sem]
          · intro a w1 hR hsz hs      -- 5: slot 48
            obtain ⟨h0, _⟩ := hs
            have h0 : a.tmps.getD 47 undef = .pointer (some ⟨X, 1, none⟩) := h0
            obtain ⟨x0, x1, x2⟩ := (HX2.out.later (hb5.trans (hR.mono hb5.size))).l3
            refine op_run rfl rfl (v := .int .i64 u) (w' := w1) ?_ rfl (Below.refl _ _)
            simp [execOp, Act.eval, h0, x1, go_sem]
          · intro a w1 hR hsz hs      -- 6: slot 49
            obtain ⟨h0, h1, _⟩ := hs
            have h0 : a.tmps.getD 46 undef = .int .i64 M2 := h0
            have h1 : a.tmps.getD 48 undef = .int .i64 u := h1
            refine op_run rfl rfl (v := .int .i64 X2) (w' := w1) ?_ rfl (Below.refl _ _)
            simp [execOp, Act.eval, h0, h1, HPU.out, HX2'.out, go_sem]
          · intro a w1 hR hsz hs      -- 7: slot 50
            obtain ⟨h0, _⟩ := hs
            have h0 : a.tmps.getD 1 undef = .int .i64 O := h0
            refine op_run rfl rfl (v := .int .i64 O) (w' := w1) ?_ rfl (Below.refl _ _)
            simp [execOp, Act.eval, h0, go_sem]
          · intro a w1 hR hsz hs      -- 8: slot 51
            obtain ⟨h0, _⟩ := hs
            have h0 : a.tmps.getD 2 undef = .pointer (some ⟨X, 0, none⟩) := h0
            refine op_run rfl rfl (v := .pointer (some ⟨X, 1, none⟩)) (w' := w1) ?_ rfl (Below.refl _ _)
            simp [execOp, Act.eval, h0, go_sem]
          · intro a w1 hR hsz hs      -- 9: slot 52
            obtain ⟨h0, _⟩ := hs
            have h0 : a.tmps.getD 51 undef = .pointer (some ⟨X, 1, none⟩) := h0
            obtain ⟨x0, x1, x2⟩ := (HX2.out.later (hb5.trans (hR.mono hb5.size))).l3
            refine op_run rfl rfl (v := .int .i64 u) (w' := w1) ?_ rfl (Below.refl _ _)
            simp [execOp, Act.eval, h0, x1, go_sem]
          · intro a w1 hR hsz hs      -- 10: slot 53
            obtain ⟨h0, h1, _⟩ := hs
            have h0 : a.tmps.getD 50 undef = .int .i64 O := h0
            have h1 : a.tmps.getD 52 undef = .int .i64 u := h1
            refine op_call rfl rfl (f := 23) (args := #[.int .i64 O, .int .i64 u]) (by simp [execOp, Act.eval, resolve, h0, h1, go_sem]) ?_
            exact calls_same (HL2.out w1)
          · intro a w1 hR hsz hs      -- 11: slot 54
            obtain ⟨h0, h1, _⟩ := hs
            have h0 : a.tmps.getD 49 undef = .int .i64 X2 := h0
            have h1 : a.tmps.getD 53 undef = .int .i64 M3 := h1
            refine op_run rfl rfl (v := .int .i64 AT) (w' := w1) ?_ rfl (Below.refl _ _)
            simp [execOp, Act.eval, h0, h1, HAT.out, go_sem]
          · intro a w1 hR hsz hs      -- 12: slot 10
            obtain ⟨h0, _⟩ := hs
            have h0 : a.tmps.getD 54 undef = .int .i64 AT := h0
            refine op_run rfl rfl (v := .int .i64 AT) (w' := w1) ?_ rfl (Below.refl _ _)
            simp [execOp, Act.eval, h0, go_sem]
        intro f w1 hR hv
        have e10 : f 10 = .int .i64 AT := hv 12 _ 10 rfl rfl
        clear hv
        try simp only [Exit.then]
        simp only [putAll, List.foldl_cons, List.foldl_nil, Option.getD_some, Act.put, List.setIfInBounds_toArray, List.set_cons_succ, List.set_cons_zero, e10]
        have hb6 := hb5.trans (hR.mono hb5.size)
        go_wp2_with fail
        go_ret2
        rw [HF2.out]
        exact ⟨rfl, HB2.out.trans (hb6.mono HB2.out.size)⟩
        -- END 6
  · have hsd : decide (ShapeOk o u c) = false := decide_eq_false hs
    rw [hsd]
    have HF : Hid (R = (0, 0)) := Lib.hid (by rw [← HR.out]; exact placeI_no (fun c => hs c.1))
    go_wp2_with fail
    go_ret2
    rw [HF.out]
    exact ⟨rfl, HB2.out⟩
set_option maxRecDepth 20000 in
set_option maxHeartbeats 3200000 in
theorem sback_any (o u c obj a : Int) (w : World) : Calls Try.prog 10 #[.agg (layC o u c), .int .i64 obj, .int .i64 a] w fun e w' => e = .returned (.int .i64 (backI o u c obj a)) ∧ Below w.heap.size w w' := by
  have HX0 := Lib.hid (RecAt.new w (layC o u c) 23)
  have HB0 := Lib.hid ((Below.refl w.heap.size w).alloc (Nat.le_refl _) (.cells (layC o u c) 23))
  obtain ⟨w1, hw1⟩ : ∃ W, w.alloc (.cells (layC o u c) 23) = W := ⟨_, rfl⟩
  rw [hw1] at HX0 HB0
  have HSH := Lib.hid (fun W => shape_any o u c W)
  obtain ⟨R, hR⟩ : ∃ R, backI o u c obj a = R := ⟨_, rfl⟩
  rw [hR]
  have HR := Lib.hid hR
  clear hR
  go_enter Try.func10, Try.ntmps10
  go_upto_region 1 with fail
  try rw [hw1]
  clear hw1
  obtain ⟨X, hX⟩ : ∃ X, w.heap.size = X := ⟨_, rfl⟩
  rw [hX] at HX0 ⊢
  have HXS := Lib.hid hX
  clear hX
  obtain ⟨x0, x1, x2⟩ := HX0.out.l3
  go_wp2_with fail
  refine (HSH.out w1).mono ?_
  rintro e w2 ⟨rfl, b2⟩
  have HX2 := Lib.hid (HX0.out.later b2)
  have HB2 := Lib.hid (HB0.out.trans (b2.mono (by have := HB0.out.size; rw [HXS.out] at this ⊢; exact this)))
  clear b2 x0 x1 x2 HSH
  by_cases hs : ShapeOk o u c
  · have hsd : decide (ShapeOk o u c) = true := decide_eq_true hs
    rw [hsd]
    rcases (show obj < 0 ∨ (¬ obj < 0 ∧ 1048576 < obj) ∨ (¬ obj < 0 ∧ ¬ 1048576 < obj ∧ a < 0) ∨ (¬ obj < 0 ∧ ¬ 1048576 < obj ∧ ¬ a < 0) by omega) with h | ⟨h, h1⟩ | ⟨h, h1, h2⟩ | ⟨h, h1, h2⟩
    · have hd0 : decide (obj < 0) = true := decide_eq_true h
      have HF : Hid (R = 0) := Lib.hid (by rw [← HR.out]; exact backI_no (fun c => by omega))
      go_wp2_with fail
      go_ret
      rw [HF.out]
      exact ⟨rfl, HB2.out⟩
    · have hd0 : decide (obj < 0) = false := decide_eq_false h
      have hd1 : decide (obj > 1048576) = true := decide_eq_true h1
      have HF : Hid (R = 0) := Lib.hid (by rw [← HR.out]; exact backI_no (fun c => by omega))
      go_wp2_with fail
      go_ret
      rw [HF.out]
      exact ⟨rfl, HB2.out⟩
    · have hd0 : decide (obj < 0) = false := decide_eq_false h
      have hd1 : decide (obj > 1048576) = false := decide_eq_false h1
      have hd2 : decide (a < 0) = true := decide_eq_true h2
      have HF : Hid (R = 0) := Lib.hid (by rw [← HR.out]; exact backI_no (fun c => by omega))
      go_wp2_with fail
      go_ret
      rw [HF.out]
      exact ⟨rfl, HB2.out⟩
    have hd0 : decide (obj < 0) = false := decide_eq_false h
    have hd1 : decide (obj > 1048576) = false := decide_eq_false h1
    have hd2 : decide (a < 0) = false := decide_eq_false h2
    obtain ⟨o, u, c, rfl, rfl, rfl, ho3, ho6, hu2, huo, hc1, hc4⟩ := shape_nat hs
    obtain ⟨B, hB⟩ : ∃ O : Nat, obj = O := ⟨obj.toNat, by omega⟩
    subst hB
    obtain ⟨A, hA⟩ : ∃ O : Nat, a = O := ⟨a.toNat, by omega⟩
    subst hA
    have hps := pow_small hu2 huo ho6
    have HF0 : Hid (¬ A < 2 ^ o → R = 0) := Lib.hid (fun hh => by
      rw [← HR.out]; apply backI_no; intro cc
      have h5 := cc.2.2.2.2
      rw [Int.toNat_natCast] at h5
      exact hh (Int.ofNat_lt.1 (by simpa using h5)))
    have HF1 : Hid (A < 2 ^ o → R = ((backP (2 ^ u) (2 ^ (o - u)) c B A : Nat) : Int)) := Lib.hid (fun hh => by rw [← HR.out]; exact backI_yes hs (by omega) hh)
    obtain ⟨D, hD⟩ : ∃ D, o - u = D := ⟨_, rfl⟩
    obtain ⟨U, hU⟩ : ∃ U, 2 ^ u = U := ⟨_, rfl⟩
    obtain ⟨Po, hPo⟩ : ∃ U, 2 ^ o = U := ⟨_, rfl⟩
    obtain ⟨P, hP⟩ : ∃ U, 2 ^ D = U := ⟨_, rfl⟩
    rw [hD, hU, hP, hPo] at hps
    rw [hD, hU, hP, hPo] at HF1
    rw [hPo] at HF0
    have HRB := Lib.hid (fun W => srowbits_any o u D (c : Nat) (by omega) huo hD W)
    have HPU := Lib.hid (powI hU)
    have HPD := Lib.hid (powI hP)
    have HDM : Hid (min D 64 = D) := Lib.hid (by omega)
    have HUM : Hid (min u 64 = u) := Lib.hid (by omega)
    have hU4 := hps.1
    have hU64 := hps.2.1
    have hP1 := hps.2.2.1
    have hP16 := hps.2.2.2.1
    have hPo64 := hps.2.2.2.2.2
    have HPoE := Lib.hid hps.2.2.2.2.1
    have HPO := Lib.hid (powI hPo)
    have HPW : Hid (wrap64 (Po : Int) = Po) := Lib.hid (IntWalk.wrap64_in _ (by omega))
    clear hPo hps hs hsd HR
    obtain ⟨x0, x1, x2⟩ := HX2.out.l3
    by_cases hA : A < Po
    · have hdA : decide (Po ≤ A) = false := decide_eq_false (by omega)
      have HF := Lib.hid (HF1.out hA)
      obtain ⟨V, hV⟩ : ∃ V, B / c = V := ⟨_, rfl⟩
      have hV1 : V ≤ B := by rw [← hV]; exact Nat.div_le_self _ _
      obtain ⟨Q, hQ⟩ : ∃ r, A / U = r := ⟨_, rfl⟩
      have hQ1 : Q < P := by rw [← hQ]; exact Nat.div_lt_of_lt_mul (by rw [Nat.mul_comm, ← HPoE.out]; exact hA)
      obtain ⟨M1, hM1⟩ : ∃ r, B % c = r := ⟨_, rfl⟩
      have hM11 : M1 < c := by rw [← hM1]; exact Nat.mod_lt _ (by omega)
      obtain ⟨M2, hM2⟩ : ∃ r, A % U = r := ⟨_, rfl⟩
      have hM21 : M2 < U := by rw [← hM2]; exact Nat.mod_lt _ (by omega)
      have hb1 : V * P ≤ 1048576 * 16 := Nat.mul_le_mul (by omega) hP16
      obtain ⟨X1, hX1⟩ : ∃ r, V * P = r := ⟨_, rfl⟩
      rw [hX1] at hb1
      obtain ⟨Rw, hRw⟩ : ∃ r, X1 + Q = r := ⟨_, rfl⟩
      have hb2 : Rw * c ≤ 16777280 * 4 := Nat.mul_le_mul (by omega) hc4
      obtain ⟨X2, hX2⟩ : ∃ r, Rw * c = r := ⟨_, rfl⟩
      rw [hX2] at hb2
      obtain ⟨X3, hX3⟩ : ∃ r, X2 + M1 = r := ⟨_, rfl⟩
      have hb3 : X3 * U ≤ 67109124 * 64 := Nat.mul_le_mul (by omega) hU64
      obtain ⟨X4, hX4⟩ : ∃ r, X3 * U = r := ⟨_, rfl⟩
      rw [hX4] at hb3
      obtain ⟨Z, hZ⟩ : ∃ r, X4 + M2 = r := ⟨_, rfl⟩
      have HF2 : Hid (R = (Z : Int)) := Lib.hid (by
        rw [HF.out]; unfold backP
        rw [hV, hQ, hM1, hM2, hX1, hRw, hX2, hX3, hX4, hZ])
      have HC0 : Hid (¬ c = 0) := Lib.hid (by omega)
      have HVW : Hid (IntKind.i64.wrap (V : Int) = (V : Int)) := Lib.hid (wrap_nat (by omega))
      have H3 : Hid ((B : Int).tdiv (c : Int) = (V : Int)) := Lib.hid (by rw [tdiv_nat, hV])
      have H3' : Hid ((B : Int) / (c : Int) = (V : Int)) := Lib.hid (div_nat hV)
      have HX1 : Hid (IntKind.i64.wrap ((V : Int) * (P : Int)) = (X1 : Int)) := Lib.hid (wrap_mul hX1 (by omega))
      have HQ : Hid ((A : Int) / (U : Int) = (Q : Int)) := Lib.hid (div_nat hQ)
      have HRw : Hid (bits .or .i64 (X1 : Int) (Q : Int) = (Rw : Int)) := Lib.hid (or_low V Q D P X1 Rw hP hQ1 hX1 hRw (by omega))
      have H7 : Hid (IntKind.i64.wrap ((Rw : Int) * (c : Int)) = (X2 : Int)) := Lib.hid (wrap_mul hX2 (by omega))
      have H8 : Hid ((B : Int).tmod (c : Int) = (M1 : Int)) := Lib.hid (by rw [tmod_nat, hM1])
      have H8' : Hid ((B : Int) % (c : Int) = (M1 : Int)) := Lib.hid (by rw [← Int.natCast_emod, hM1])
      have H9 : Hid (IntKind.i64.wrap ((X2 : Int) + (M1 : Int)) = (X3 : Int)) := Lib.hid (wrap_add hX3 (by omega))
      have HX4 : Hid (IntKind.i64.wrap ((X3 : Int) * (U : Int)) = (X4 : Int)) := Lib.hid (wrap_mul hX4 (by omega))
      have HL2 := Lib.hid (fun W => slow_any A u U M2 hU (by omega) (by omega) hM2 W)
      have HZ : Hid (bits .or .i64 (X4 : Int) (M2 : Int) = (Z : Int)) := Lib.hid (or_low X3 M2 u U X4 Z hU hM21 hX4 hZ (by omega))
      clear hV hQ hM1 hM2 hX1 hRw hX2 hX3 hX4 hZ HF HF0 HF1 hU hP hD hb1 hb2 hb3 hV1 hQ1 hM11 hM21 hPo64
      clear hU4 hU64 hP1 hP16 HPoE h h1 h2 hA
      have ePO := HPO.out
      have eW := HPW.out
      go_upto_region 3 with fail
      clear x0 x1 x2 ePO eW
      -- REG B3
      refine wp_region_tab (L := [cV (.int .i64 B), cV (.pointer (some ⟨X, 2, none⟩)), cV (.int .i64 c), cV (.int .i64 V), cV (.agg #[.int .i64 o, .int .i64 u, .int .i64 c]), cV (.int .i64 D), cV (.int .i64 X1), cV (.int .i64 A), cV (.pointer (some ⟨X, 1, none⟩)), cV (.int .i64 u), cV (.int .i64 Q), cV (.int .i64 Rw), cV (.int .i64 Rw)]) [[(1, none)], [(3, none)], [(32, some 1)], [(31, some 0), (33, some 2)], [(3, none)], [(35, some 4)], [(34, some 3), (36, some 5)], [(2, none)], [(3, none)], [(39, some 8)], [(38, some 7), (40, some 9)], [(37, some 6), (41, some 10)], [(42, some 11)]] 13 61 (by kernel_rfl) rfl rfl (by kernel_rfl) (by kernel_rfl) ?_ ?_
      · show ∀ i, i < 13 → _
        iterate 13 (refine fls ?_ ?_)
        · exact fl0
        · intro a w1 hR hsz hs      -- 0: slot 31
          obtain ⟨h0, _⟩ := hs
          have h0 : a.tmps.getD 1 undef = .int .i64 B := h0
          refine op_run rfl rfl (v := .int .i64 B) (w' := w1) ?_ rfl (Below.refl _ _)
          simp [execOp, Act.eval, h0, go_sem]
        · intro a w1 hR hsz hs      -- 1: slot 32
          obtain ⟨h0, _⟩ := hs
          have h0 : a.tmps.getD 3 undef = .pointer (some ⟨X, 0, none⟩) := h0
          refine op_run rfl rfl (v := .pointer (some ⟨X, 2, none⟩)) (w' := w1) ?_ rfl (Below.refl _ _)
          simp [execOp, Act.eval, h0, go_sem]
        · intro a w1 hR hsz hs      -- 2: slot 33
          obtain ⟨h0, _⟩ := hs
          have h0 : a.tmps.getD 32 undef = .pointer (some ⟨X, 2, none⟩) := h0
          obtain ⟨x0, x1, x2⟩ := (HX2.out.later hR).l3
          refine op_run rfl rfl (v := .int .i64 c) (w' := w1) ?_ rfl (Below.refl _ _)
          simp [execOp, Act.eval, h0, x2, go_sem]
        · intro a w1 hR hsz hs      -- 3: slot 34
          obtain ⟨h0, h1, _⟩ := hs
          have h0 : a.tmps.getD 31 undef = .int .i64 B := h0
          have h1 : a.tmps.getD 33 undef = .int .i64 c := h1
          refine op_run rfl rfl (v := .int .i64 V) (w' := w1) ?_ rfl (Below.refl _ _)
          simp [execOp, Act.eval, h0, h1, HC0.out, H3.out, H3'.out, HVW.out, go_sem]
        · intro a w1 hR hsz hs      -- 4: slot 35
          obtain ⟨h0, _⟩ := hs
          have h0 : a.tmps.getD 3 undef = .pointer (some ⟨X, 0, none⟩) := h0
          obtain ⟨x0, x1, x2⟩ := (HX2.out.later hR).l3
          refine op_run rfl rfl (v := .agg #[.int .i64 o, .int .i64 u, .int .i64 c]) (w' := w1) ?_ rfl (Below.refl _ _)
          simp [execOp, Act.eval, h0, x0, x1, x2, go_sem]
        · intro a w1 hR hsz hs      -- 5: slot 36
          obtain ⟨h0, _⟩ := hs
          have h0 : a.tmps.getD 35 undef = .agg #[.int .i64 o, .int .i64 u, .int .i64 c] := h0
          refine op_call rfl rfl (f := 22) (args := #[.agg #[.int .i64 o, .int .i64 u, .int .i64 c]]) (by simp [execOp, Act.eval, resolve, h0, go_sem]) ?_
          exact calls_c (HRB.out w1)
        · intro a w1 hR hsz hs      -- 6: slot 37
          obtain ⟨h0, h1, _⟩ := hs
          have h0 : a.tmps.getD 34 undef = .int .i64 V := h0
          have h1 : a.tmps.getD 36 undef = .int .i64 D := h1
          refine op_run rfl rfl (v := .int .i64 X1) (w' := w1) ?_ rfl (Below.refl _ _)
          simp [execOp, Act.eval, h0, h1, HDM.out, HPD.out, HX1.out, HDM.out, go_sem]
        · intro a w1 hR hsz hs      -- 7: slot 38
          obtain ⟨h0, _⟩ := hs
          have h0 : a.tmps.getD 2 undef = .int .i64 A := h0
          refine op_run rfl rfl (v := .int .i64 A) (w' := w1) ?_ rfl (Below.refl _ _)
          simp [execOp, Act.eval, h0, go_sem]
        · intro a w1 hR hsz hs      -- 8: slot 39
          obtain ⟨h0, _⟩ := hs
          have h0 : a.tmps.getD 3 undef = .pointer (some ⟨X, 0, none⟩) := h0
          refine op_run rfl rfl (v := .pointer (some ⟨X, 1, none⟩)) (w' := w1) ?_ rfl (Below.refl _ _)
          simp [execOp, Act.eval, h0, go_sem]
        · intro a w1 hR hsz hs      -- 9: slot 40
          obtain ⟨h0, _⟩ := hs
          have h0 : a.tmps.getD 39 undef = .pointer (some ⟨X, 1, none⟩) := h0
          obtain ⟨x0, x1, x2⟩ := (HX2.out.later hR).l3
          refine op_run rfl rfl (v := .int .i64 u) (w' := w1) ?_ rfl (Below.refl _ _)
          simp [execOp, Act.eval, h0, x1, go_sem]
        · intro a w1 hR hsz hs      -- 10: slot 41
          obtain ⟨h0, h1, _⟩ := hs
          have h0 : a.tmps.getD 38 undef = .int .i64 A := h0
          have h1 : a.tmps.getD 40 undef = .int .i64 u := h1
          refine op_run rfl rfl (v := .int .i64 Q) (w' := w1) ?_ rfl (Below.refl _ _)
          simp [execOp, Act.eval, h0, h1, HUM.out, HPU.out, HQ.out, go_sem]
        · intro a w1 hR hsz hs      -- 11: slot 42
          obtain ⟨h0, h1, _⟩ := hs
          have h0 : a.tmps.getD 37 undef = .int .i64 X1 := h0
          have h1 : a.tmps.getD 41 undef = .int .i64 Q := h1
          refine op_run rfl rfl (v := .int .i64 Rw) (w' := w1) ?_ rfl (Below.refl _ _)
          simp [execOp, Act.eval, h0, h1, HRw.out, go_sem]
        · intro a w1 hR hsz hs      -- 12: slot 7
          obtain ⟨h0, _⟩ := hs
          have h0 : a.tmps.getD 42 undef = .int .i64 Rw := h0
          refine op_run rfl rfl (v := .int .i64 Rw) (w' := w1) ?_ rfl (Below.refl _ _)
          simp [execOp, Act.eval, h0, go_sem]
      intro f w1 hR hv
      have e7 : f 7 = .int .i64 Rw := hv 12 _ 7 rfl rfl
      clear hv
      try simp only [Exit.then]
      simp only [putAll, List.foldl_cons, List.foldl_nil, Option.getD_some, Act.put, List.setIfInBounds_toArray, List.set_cons_succ, List.set_cons_zero, e7]
      have hb3 : Below w2.heap.size w2 w1 := hR
      clear hR e7
      -- END B3
      obtain ⟨x0, x1, x2⟩ := (HX2.out.later hb3).l3
      go_upto_region 4 with fail
      have e7 := H7.out
      have e8 := H8.out
      have e8' := H8'.out
      have e9 := H9.out
      go_quiet (fail)
      generalize hwd : (w1.drewN nq) = wD at *
      have hbD : Below w2.heap.size w2 wD := hb3.trans (by rw [← hwd]; exact (below_drewN _ _).mono hb3.size)
      clear hwd x0 x1 x2 e7 e8 e8' e9
      obtain ⟨x0, x1, x2⟩ := (HX2.out.later hbD).l3
      go_upto_region 5 with fail
      clear x0 x1 x2
      -- REG B5
      refine wp_region_tab (L := [cV (.int .i64 X3), cV (.pointer (some ⟨X, 1, none⟩)), cV (.int .i64 u), cV (.int .i64 X4), cV (.int .i64 A), cV (.pointer (some ⟨X, 1, none⟩)), cV (.int .i64 u), cV (.int .i64 M2), cV (.int .i64 Z), cV (.int .i64 Z)]) [[(8, none)], [(3, none)], [(53, some 1)], [(52, some 0), (54, some 2)], [(2, none)], [(3, none)], [(57, some 5)], [(56, some 4), (58, some 6)], [(55, some 3), (59, some 7)], [(60, some 8)]] 10 61 (by kernel_rfl) rfl rfl (by kernel_rfl) (by kernel_rfl) ?_ ?_
      · show ∀ i, i < 10 → _
        iterate 10 (refine fls ?_ ?_)
        · exact fl0
        · intro a w1 hR hsz hs      -- 0: slot 52
          obtain ⟨h0, _⟩ := hs
          have h0 : a.tmps.getD 8 undef = .int .i64 X3 := h0
          refine op_run rfl rfl (v := .int .i64 X3) (w' := w1) ?_ rfl (Below.refl _ _)
          simp [execOp, Act.eval, h0, go_sem]
        · intro a w1 hR hsz hs      -- 1: slot 53
          obtain ⟨h0, _⟩ := hs
          have h0 : a.tmps.getD 3 undef = .pointer (some ⟨X, 0, none⟩) := h0
          refine op_run rfl rfl (v := .pointer (some ⟨X, 1, none⟩)) (w' := w1) ?_ rfl (Below.refl _ _)
          simp [execOp, Act.eval, h0, go_sem]
        · intro a w1 hR hsz hs      -- 2: slot 54
          obtain ⟨h0, _⟩ := hs
          have h0 : a.tmps.getD 53 undef = .pointer (some ⟨X, 1, none⟩) := h0
          obtain ⟨x0, x1, x2⟩ := (HX2.out.later (hbD.trans (hR.mono hbD.size))).l3
          refine op_run rfl rfl (v := .int .i64 u) (w' := w1) ?_ rfl (Below.refl _ _)
          simp [execOp, Act.eval, h0, x1, go_sem]
        · intro a w1 hR hsz hs      -- 3: slot 55
          obtain ⟨h0, h1, _⟩ := hs
          have h0 : a.tmps.getD 52 undef = .int .i64 X3 := h0
          have h1 : a.tmps.getD 54 undef = .int .i64 u := h1
          refine op_run rfl rfl (v := .int .i64 X4) (w' := w1) ?_ rfl (Below.refl _ _)
          simp [execOp, Act.eval, h0, h1, HPU.out, HX4.out, go_sem]
        · intro a w1 hR hsz hs      -- 4: slot 56
          obtain ⟨h0, _⟩ := hs
          have h0 : a.tmps.getD 2 undef = .int .i64 A := h0
          refine op_run rfl rfl (v := .int .i64 A) (w' := w1) ?_ rfl (Below.refl _ _)
          simp [execOp, Act.eval, h0, go_sem]
        · intro a w1 hR hsz hs      -- 5: slot 57
          obtain ⟨h0, _⟩ := hs
          have h0 : a.tmps.getD 3 undef = .pointer (some ⟨X, 0, none⟩) := h0
          refine op_run rfl rfl (v := .pointer (some ⟨X, 1, none⟩)) (w' := w1) ?_ rfl (Below.refl _ _)
          simp [execOp, Act.eval, h0, go_sem]
        · intro a w1 hR hsz hs      -- 6: slot 58
          obtain ⟨h0, _⟩ := hs
          have h0 : a.tmps.getD 57 undef = .pointer (some ⟨X, 1, none⟩) := h0
          obtain ⟨x0, x1, x2⟩ := (HX2.out.later (hbD.trans (hR.mono hbD.size))).l3
          refine op_run rfl rfl (v := .int .i64 u) (w' := w1) ?_ rfl (Below.refl _ _)
          simp [execOp, Act.eval, h0, x1, go_sem]
        · intro a w1 hR hsz hs      -- 7: slot 59
          obtain ⟨h0, h1, _⟩ := hs
          have h0 : a.tmps.getD 56 undef = .int .i64 A := h0
          have h1 : a.tmps.getD 58 undef = .int .i64 u := h1
          refine op_call rfl rfl (f := 23) (args := #[.int .i64 A, .int .i64 u]) (by simp [execOp, Act.eval, resolve, h0, h1, go_sem]) ?_
          exact calls_same (HL2.out w1)
        · intro a w1 hR hsz hs      -- 8: slot 60
          obtain ⟨h0, h1, _⟩ := hs
          have h0 : a.tmps.getD 55 undef = .int .i64 X4 := h0
          have h1 : a.tmps.getD 59 undef = .int .i64 M2 := h1
          refine op_run rfl rfl (v := .int .i64 Z) (w' := w1) ?_ rfl (Below.refl _ _)
          simp [execOp, Act.eval, h0, h1, HZ.out, go_sem]
        · intro a w1 hR hsz hs      -- 9: slot 6
          obtain ⟨h0, _⟩ := hs
          have h0 : a.tmps.getD 60 undef = .int .i64 Z := h0
          refine op_run rfl rfl (v := .int .i64 Z) (w' := w1) ?_ rfl (Below.refl _ _)
          simp [execOp, Act.eval, h0, go_sem]
      intro f w1 hR hv
      have e6 : f 6 = .int .i64 Z := hv 9 _ 6 rfl rfl
      clear hv
      try simp only [Exit.then]
      simp only [putAll, List.foldl_cons, List.foldl_nil, Option.getD_some, Act.put, List.setIfInBounds_toArray, List.set_cons_succ, List.set_cons_zero, e6]
      have hb6 := hbD.trans (hR.mono hbD.size)
      go_wp2_with fail
      go_ret
      rw [HF2.out]
      exact ⟨rfl, HB2.out.trans (hb6.mono HB2.out.size)⟩
      -- END B5
    · have hdA : decide (Po ≤ A) = true := decide_eq_true (by omega)
      have HF := Lib.hid (HF0.out hA)
      clear HF0 HF1 hU hP hD hU4 hU64 hP1 hP16 HPoE h h1 h2 hA hPo64
      have ePO := HPO.out
      have eW := HPW.out
      go_wp2_with fail
      go_ret
      rw [HF.out]
      exact ⟨rfl, HB2.out⟩
  · have hsd : decide (ShapeOk o u c) = false := decide_eq_false hs
    rw [hsd]
    have HF : Hid (R = 0) := Lib.hid (by rw [← HR.out]; exact backI_no (fun c => hs c.1))
    go_wp2_with fail
    go_ret
    rw [HF.out]
    exact ⟨rfl, HB2.out⟩
end Go.Proofs.Ytalgjoeinllllaa
