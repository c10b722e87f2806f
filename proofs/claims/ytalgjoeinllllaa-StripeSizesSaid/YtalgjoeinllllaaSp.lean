/- Stripes: rows of pieces; the document's own pow, Place, Back. -/
import Derived.Test.YtalgjoeinllllaaSpPlain
import Derived.Test.YtalgjoeinllllaaShp
import Derived.Test.YtalgjoeinllllaaGz
import Derived.Test.YtalgjoeinllllaaHeld
import Derived.BigQuiet
import Derived.Deep.DeepCutAuto
import Derived.Deep.RegionWith
namespace Go.Proofs.Ytalgjoeinllllaa
open Go.RowKit Go.Proofs
set_option linter.unusedVariables false
set_option linter.unusedSimpArgs false
set_option linter.unnecessarySimpa false

/-! ### plain -/
/-- Units of 2^u bytes, 2^(o - u) of them an object, c objects side by side. -/
def placeI (o u c off : Int) : Int × Int := if ShapeOk o u c ∧ 0 ≤ off ∧ off ≤ 1073741824 then (((objP (2 ^ u.toNat) (2 ^ (o.toNat - u.toNat)) c.toNat off.toNat : Nat) : Int), ((atP (2 ^ u.toNat) (2 ^ (o.toNat - u.toNat)) c.toNat off.toNat : Nat) : Int)) else (0, 0)
def backI (o u c obj a : Int) : Int := if ShapeOk o u c ∧ 0 ≤ obj ∧ obj ≤ 1048576 ∧ 0 ≤ a ∧ a < 2 ^ o.toNat then ((backP (2 ^ u.toNat) (2 ^ (o.toNat - u.toNat)) c.toNat obj.toNat a.toNat : Nat) : Int) else 0
theorem placeI_no {o u c off : Int} (h : ¬ (ShapeOk o u c ∧ 0 ≤ off ∧ off ≤ 1073741824)) : placeI o u c off = (0, 0) := by unfold placeI; rw [if_neg h]
theorem placeI_yes {o u c : Nat} {off : Nat} (h : ShapeOk o u c) (h2 : off ≤ 1073741824) : placeI o u c off = (((objP (2 ^ u) (2 ^ (o - u)) c off : Nat) : Int), ((atP (2 ^ u) (2 ^ (o - u)) c off : Nat) : Int)) := by
  unfold placeI; rw [if_pos ⟨h, by omega, by omega⟩]; simp
theorem backI_no {o u c obj a : Int} (h : ¬ (ShapeOk o u c ∧ 0 ≤ obj ∧ obj ≤ 1048576 ∧ 0 ≤ a ∧ a < 2 ^ o.toNat)) : backI o u c obj a = 0 := by unfold backI; rw [if_neg h]
theorem backI_yes {o u c : Nat} {obj a : Nat} (h : ShapeOk o u c) (h2 : obj ≤ 1048576) (h3 : a < 2 ^ o) : backI o u c obj a = ((backP (2 ^ u) (2 ^ (o - u)) c obj a : Nat) : Int) := by
  unfold backI; rw [if_pos ⟨h, by omega, by omega, by omega, by rw [Int.toNat_natCast]; have := Int.ofNat_lt.2 h3; simpa using this⟩]; simp
theorem shape_nat {o u c : Int} (h : ShapeOk o u c) : ∃ o' u' c' : Nat, o = o' ∧ u = u' ∧ c = c' ∧ 3 ≤ o' ∧ o' ≤ 6 ∧ 2 ≤ u' ∧ u' ≤ o' ∧ 1 ≤ c' ∧ c' ≤ 4 := by
  unfold ShapeOk at h
  exact ⟨o.toNat, u.toNat, c.toNat, by omega, by omega, by omega, by omega, by omega, by omega, by omega, by omega, by omega⟩
/-- Powers, as small numbers. -/
theorem pow_small {u o : Nat} (h1 : 2 ≤ u) (h2 : u ≤ o) (h3 : o ≤ 6) : 4 ≤ 2 ^ u ∧ 2 ^ u ≤ 64 ∧ 1 ≤ 2 ^ (o - u) ∧ 2 ^ (o - u) ≤ 16 ∧ 2 ^ o = 2 ^ (o - u) * 2 ^ u ∧ 2 ^ o ≤ 64 := by
  have e : 2 ^ o = 2 ^ (o - u) * 2 ^ u := by rw [← Nat.pow_add]; congr 1; omega
  have a := Nat.pow_le_pow_right (show 0 < 2 by decide) h1
  have b := Nat.pow_le_pow_right (show 0 < 2 by decide) (show u ≤ 6 by omega)
  have c := Nat.pow_le_pow_right (show 0 < 2 by decide) (show o - u ≤ 4 by omega)
  have d := Nat.pow_le_pow_right (show 0 < 2 by decide) h3
  have f := Nat.two_pow_pos (o - u)
  simp at a b c d
  exact ⟨by omega, by omega, by omega, by omega, e, by omega⟩

set_option maxHeartbeats 1000000 in
theorem pow_any (n P : Nat) (hP : 2 ^ n = P) (hn : n ≤ 61) (w : World) : Calls Try.prog 25 #[.int .i64 n] w fun e w' => e = .returned (.int .i64 P) ∧ w = w' := by
  have HP := Lib.hid hP
  clear hP
  go_enter Try.func25, Try.ntmps25
  go_wp2_with fail
  go_loopw [3, 4] (fun p i wr => ∃ (j q : Nat), i = .int .i64 j ∧ p = .int .i64 q ∧ q = 2 ^ j ∧ j ≤ n ∧ q ≤ 2305843009213693952 ∧ w = wr) (fun _ i _ => n - (intOf i).toNat)
  case atStart => exact ⟨0, 1, rfl, rfl, rfl, by omega, by omega, rfl⟩
  case round =>
    obtain ⟨j, q, rfl, rfl, hq, hj, hqb, rfl⟩ := hrel
    have HQ := Lib.hid hq
    clear hq
    by_cases hjn : (j : Int) < n
    · have hq2 : q * 2 ≤ 2305843009213693952 := by
        have h1 := Nat.pow_le_pow_right (show 0 < 2 by decide) (show j + 1 ≤ 61 by omega)
        rw [Nat.pow_succ, ← HQ.out] at h1
        simpa using h1
      have hjn2 : decide ((j : Int) < n) = true := decide_eq_true hjn
      go_wp2_with fail
      go_roundw
      case rel => exact ⟨j + 1, q * 2, by go_num, by go_num, by rw [Nat.pow_succ, HQ.out], by omega, hq2, trivial⟩
      case measure => simp [intOf]; omega
    · have hjn2 : decide ((j : Int) < n) = false := decide_eq_false hjn
      have he : j = n := by omega
      subst he
      go_wp2_with fail
      go_ret
      exact ⟨ret_int (by rw [HQ.out, HP.out]), rfl⟩

/-! ### numbers -/
theorem tdiv_nat (a b : Nat) : Int.tdiv (a : Int) (b : Int) = ((a / b : Nat) : Int) := by
  rw [Int.tdiv_eq_ediv_of_nonneg (by omega)]; exact (Int.natCast_ediv a b).symm
theorem tmod_nat (a b : Nat) : Int.tmod (a : Int) (b : Int) = ((a % b : Nat) : Int) := by
  rw [Int.tmod_eq_emod_of_nonneg (by omega)]; exact (Int.natCast_emod a b).symm
theorem wrap_nat {a : Nat} (h : a ≤ 9223372036854775807) : IntKind.i64.wrap (a : Int) = a := by rw [IntKind.wrap_i64]; omega
theorem wrap_mul {a b c : Nat} (h : a * b = c) (hc : c ≤ 9223372036854775807) : IntKind.i64.wrap ((a : Int) * (b : Int)) = c := by
  subst h; rw [← Int.natCast_mul]; exact wrap_nat hc
theorem wrap_add {a b c : Nat} (h : a + b = c) (hc : c ≤ 9223372036854775807) : IntKind.i64.wrap ((a : Int) + (b : Int)) = c := by
  subst h; rw [← Int.natCast_add]; exact wrap_nat hc
theorem RecAt.l3 {w : World} {x : Nat} {a b c : Value} {t : TypeId} (k : RecAt w x #[a, b, c] t) : w.cell? ⟨x, 0, none⟩ = some a ∧ w.cell? ⟨x, 1, none⟩ = some b ∧ w.cell? ⟨x, 2, none⟩ = some c := ⟨k.cell rfl, k.cell rfl, k.cell rfl⟩
abbrev layC (o u c : Int) : Array Value := #[.int .i64 o, .int .i64 u, .int .i64 c]
set_option maxRecDepth 20000 in
set_option maxHeartbeats 3200000 in
theorem rplace_any (o u c off : Int) (w : World) : Calls Try.prog 9 #[.agg (layC o u c), .int .i64 off] w fun e w' => e = .returned (.tuple #[.int .i64 (placeI o u c off).1, .int .i64 (placeI o u c off).2]) ∧ Below w.heap.size w w' := by
  have HX0 := Lib.hid (RecAt.new w (layC o u c) 23)
  have HB0 := Lib.hid ((Below.refl w.heap.size w).alloc (Nat.le_refl _) (.cells (layC o u c) 23))
  obtain ⟨w1, hw1⟩ : ∃ W, w.alloc (.cells (layC o u c) 23) = W := ⟨_, rfl⟩
  rw [hw1] at HX0 HB0
  have HSH := Lib.hid (fun W => rshape_any o u c W)
  obtain ⟨R, hR⟩ : ∃ R, placeI o u c off = R := ⟨_, rfl⟩
  rw [hR]
  have HR := Lib.hid hR
  clear hR
  go_enter Try.func9, Try.ntmps9
  go_upto_region 1 with fail
  try rw [hw1]
  clear hw1
  obtain ⟨X, hX⟩ : ∃ X, w.heap.size = X := ⟨_, rfl⟩
  rw [hX] at HX0 ⊢
  have HXS := Lib.hid hX
  clear hX
  obtain ⟨x0, x1, x2⟩ := HX0.out.l3
  go_wp2_with fail
  refine (HSH.out w1).mono ?_
  rintro e w2 ⟨rfl, b2⟩
  have HX2 := Lib.hid (HX0.out.later b2)
  have HB2 := Lib.hid (HB0.out.trans (b2.mono (by have := HB0.out.size; rw [HXS.out] at this ⊢; exact this)))
  clear b2 x0 x1 x2 HSH
  by_cases hs : ShapeOk o u c
  · have hsd : decide (ShapeOk o u c) = true := decide_eq_true hs
    rw [hsd]
    by_cases h0 : off < 0
    · have hd0 : decide (off < 0) = true := decide_eq_true h0
      have HF : Hid (R = (0, 0)) := Lib.hid (by rw [← HR.out]; exact placeI_no (by omega))
      go_wp2_with fail
      go_ret2
      rw [HF.out]
      exact ⟨rfl, HB2.out⟩
    · have hd0 : decide (off < 0) = false := decide_eq_false h0
      by_cases h1 : 1073741824 < off
      · have hd1 : decide (off > 1073741824) = true := decide_eq_true h1
        have HF : Hid (R = (0, 0)) := Lib.hid (by rw [← HR.out]; exact placeI_no (by omega))
        go_wp2_with fail
        go_ret2
        rw [HF.out]
        exact ⟨rfl, HB2.out⟩
      · have hd1 : decide (off > 1073741824) = false := decide_eq_false h1
        obtain ⟨o, u, c, rfl, rfl, rfl, ho3, ho6, hu2, huo, hc1, hc4⟩ := shape_nat hs
        obtain ⟨O, hO⟩ : ∃ O : Nat, off = O := ⟨off.toNat, by omega⟩
        subst hO
        have hps := pow_small hu2 huo ho6
        have HF : Hid (R = (((objP (2 ^ u) (2 ^ (o - u)) c O : Nat) : Int), ((atP (2 ^ u) (2 ^ (o - u)) c O : Nat) : Int))) := Lib.hid (by rw [← HR.out]; exact placeI_yes hs (by omega))
        obtain ⟨U, hU⟩ : ∃ U, 2 ^ u = U := ⟨_, rfl⟩
        obtain ⟨Po, hPo⟩ : ∃ U, 2 ^ o = U := ⟨_, rfl⟩
        obtain ⟨P, hP⟩ : ∃ U, 2 ^ (o - u) = U := ⟨_, rfl⟩
        rw [hU, hP, hPo] at hps
        rw [hU, hP] at HF
        have HPU := Lib.hid (fun W => pow_any u U hU (by omega) W)
        have HPO := Lib.hid (fun W => pow_any o Po hPo (by omega) W)
        have HPP : Hid (Po / U = P) := Lib.hid (by rw [hps.2.2.2.2.1]; exact Nat.mul_div_cancel _ (by omega))
        have hU4 := hps.1
        have hU64 := hps.2.1
        have hP1 := hps.2.2.1
        have hP16 := hps.2.2.2.1
        have hPo64 := hps.2.2.2.2.2
        clear hU hP hPo hps hs hsd HR
        obtain ⟨V, hV⟩ : ∃ V, O / U = V := ⟨_, rfl⟩
        have hV1 : V ≤ O := by rw [← hV]; exact Nat.div_le_self _ _
        obtain ⟨Rw, hRw⟩ : ∃ r, V / c = r := ⟨_, rfl⟩
        have hRw1 : Rw ≤ V := by rw [← hRw]; exact Nat.div_le_self _ _
        obtain ⟨Q1, hQ1⟩ : ∃ r, Rw / P = r := ⟨_, rfl⟩
        have hQ11 : Q1 ≤ Rw := by rw [← hQ1]; exact Nat.div_le_self _ _
        obtain ⟨M1, hM1⟩ : ∃ r, V % c = r := ⟨_, rfl⟩
        have hM11 : M1 < c := by rw [← hM1]; exact Nat.mod_lt _ (by omega)
        obtain ⟨M2, hM2⟩ : ∃ r, Rw % P = r := ⟨_, rfl⟩
        have hM21 : M2 < P := by rw [← hM2]; exact Nat.mod_lt _ (by omega)
        obtain ⟨M3, hM3⟩ : ∃ r, O % U = r := ⟨_, rfl⟩
        have hM31 : M3 < U := by rw [← hM3]; exact Nat.mod_lt _ (by omega)
        have hb1 : Q1 * c ≤ 1073741824 * 4 := Nat.mul_le_mul (by omega) hc4
        have hb2 : M2 * U ≤ 16 * 64 := Nat.mul_le_mul (by omega) hU64
        obtain ⟨X1, hX1⟩ : ∃ r, Q1 * c = r := ⟨_, rfl⟩
        obtain ⟨X2, hX2⟩ : ∃ r, M2 * U = r := ⟨_, rfl⟩
        rw [hX1] at hb1
        rw [hX2] at hb2
        obtain ⟨OB, hOB⟩ : ∃ r, X1 + M1 = r := ⟨_, rfl⟩
        obtain ⟨AT, hAT⟩ : ∃ r, X2 + M3 = r := ⟨_, rfl⟩
        have HF2 : Hid (R = ((OB : Int), (AT : Int))) := Lib.hid (by
          rw [HF.out]; unfold objP atP
          rw [hV, hRw, hQ1, hM1, hM2, hM3, hX1, hX2, hOB, hAT])
        have H1 : Hid ((O : Int).tdiv (U : Int) = (V : Int)) := Lib.hid (by rw [tdiv_nat, hV])
        have H1' : Hid ((O : Int) / (U : Int) = (V : Int)) := Lib.hid (by rw [← Int.natCast_ediv, hV])
        have H2 : Hid ((Po : Int).tdiv (U : Int) = (P : Int)) := Lib.hid (by rw [tdiv_nat, HPP.out])
        have H3 : Hid ((V : Int).tdiv (c : Int) = (Rw : Int)) := Lib.hid (by rw [tdiv_nat, hRw])
        have H3' : Hid ((V : Int) / (c : Int) = (Rw : Int)) := Lib.hid (by rw [← Int.natCast_ediv, hRw])
        have H4 : Hid ((Rw : Int).tdiv (P : Int) = (Q1 : Int)) := Lib.hid (by rw [tdiv_nat, hQ1])
        have H5 : Hid (IntKind.i64.wrap ((Q1 : Int) * (c : Int)) = (X1 : Int)) := Lib.hid (wrap_mul hX1 (by omega))
        have H6 : Hid ((V : Int).tmod (c : Int) = (M1 : Int)) := Lib.hid (by rw [tmod_nat, hM1])
        have H7 : Hid (IntKind.i64.wrap ((X1 : Int) + (M1 : Int)) = (OB : Int)) := Lib.hid (wrap_add hOB (by omega))
        have H8 : Hid ((Rw : Int).tmod (P : Int) = (M2 : Int)) := Lib.hid (by rw [tmod_nat, hM2])
        have H9 : Hid (IntKind.i64.wrap ((M2 : Int) * (U : Int)) = (X2 : Int)) := Lib.hid (wrap_mul hX2 (by omega))
        have H10 : Hid ((O : Int).tmod (U : Int) = (M3 : Int)) := Lib.hid (by rw [tmod_nat, hM3])
        have H11 : Hid (IntKind.i64.wrap ((X2 : Int) + (M3 : Int)) = (AT : Int)) := Lib.hid (wrap_add hAT (by omega))
        clear hV hRw hQ1 hM1 hM2 hM3 hX1 hX2 hOB hAT HF
        obtain ⟨x0, x1, x2⟩ := HX2.out.l3
        have e1 := H1.out
        have e1' := H1'.out
        go_wp2_with fail
        refine (HPU.out _).mono ?_
        rintro e w3 ⟨rfl, rfl⟩
        go_upto_region 4 with fail
        clear e1 e1'
        have e2 := H2.out
        go_quiet ((first | (go_at_call_of 25 (o); exact Calls.quiet_of_same ((HPO.out _).mono fun e w' hh => ⟨hh.1, hh.2.symm⟩)) | (go_at_call_of 25 (u); exact Calls.quiet_of_same ((HPU.out _).mono fun e w' hh => ⟨hh.1, hh.2.symm⟩))))
        generalize hwd : (w2.drewN nq) = wD at *
        have hbD : Below w2.heap.size w2 wD := by rw [← hwd]; exact below_drewN _ _
        have HX3 := Lib.hid (HX2.out.later hbD)
        have HB3 := Lib.hid (HB2.out.trans (hbD.mono HB2.out.size))
        clear hwd hbD x0 x1 x2 e2
        obtain ⟨x0, x1, x2⟩ := HX3.out.l3
        have e3 := H3.out
        have e3' := H3'.out
        go_wp2_with fail
        go_upto_region 6 with fail
        clear e3 e3'
        have e4 := H4.out
        have e5 := H5.out
        have e6 := H6.out
        have e7 := H7.out
        have e8 := H8.out
        have e9 := H9.out
        have e10 := H10.out
        have e11 := H11.out
        go_quiet ((first | (go_at_call_of 25 (o); exact Calls.quiet_of_same ((HPO.out _).mono fun e w' hh => ⟨hh.1, hh.2.symm⟩)) | (go_at_call_of 25 (u); exact Calls.quiet_of_same ((HPU.out _).mono fun e w' hh => ⟨hh.1, hh.2.symm⟩))))
        go_wp2_with fail
        go_ret2
        rw [HF2.out]
        exact ⟨rfl, HB3.out.trans ((below_drewN _ _).mono HB3.out.size)⟩
  · have hsd : decide (ShapeOk o u c) = false := decide_eq_false hs
    rw [hsd]
    have HF : Hid (R = (0, 0)) := Lib.hid (by rw [← HR.out]; exact placeI_no (fun c => hs c.1))
    go_wp2_with fail
    go_ret2
    rw [HF.out]
    exact ⟨rfl, HB2.out⟩
set_option maxRecDepth 20000 in
set_option maxHeartbeats 3200000 in
theorem rback_any (o u c obj a : Int) (w : World) : Calls Try.prog 11 #[.agg (layC o u c), .int .i64 obj, .int .i64 a] w fun e w' => e = .returned (.int .i64 (backI o u c obj a)) ∧ Below w.heap.size w w' := by
  have HX0 := Lib.hid (RecAt.new w (layC o u c) 23)
  have HB0 := Lib.hid ((Below.refl w.heap.size w).alloc (Nat.le_refl _) (.cells (layC o u c) 23))
  obtain ⟨w1, hw1⟩ : ∃ W, w.alloc (.cells (layC o u c) 23) = W := ⟨_, rfl⟩
  rw [hw1] at HX0 HB0
  have HSH := Lib.hid (fun W => rshape_any o u c W)
  obtain ⟨R, hR⟩ : ∃ R, backI o u c obj a = R := ⟨_, rfl⟩
  rw [hR]
  have HR := Lib.hid hR
  clear hR
  go_enter Try.func11, Try.ntmps11
  go_upto_region 1 with fail
  try rw [hw1]
  clear hw1
  obtain ⟨X, hX⟩ : ∃ X, w.heap.size = X := ⟨_, rfl⟩
  rw [hX] at HX0 ⊢
  have HXS := Lib.hid hX
  clear hX
  obtain ⟨x0, x1, x2⟩ := HX0.out.l3
  go_wp2_with fail
  refine (HSH.out w1).mono ?_
  rintro e w2 ⟨rfl, b2⟩
  have HX2 := Lib.hid (HX0.out.later b2)
  have HB2 := Lib.hid (HB0.out.trans (b2.mono (by have := HB0.out.size; rw [HXS.out] at this ⊢; exact this)))
  clear b2 x0 x1 x2 HSH
  by_cases hs : ShapeOk o u c
  · have hsd : decide (ShapeOk o u c) = true := decide_eq_true hs
    rw [hsd]
    rcases (show obj < 0 ∨ (¬ obj < 0 ∧ 1048576 < obj) ∨ (¬ obj < 0 ∧ ¬ 1048576 < obj ∧ a < 0) ∨ (¬ obj < 0 ∧ ¬ 1048576 < obj ∧ ¬ a < 0) by omega) with h | ⟨h, h1⟩ | ⟨h, h1, h2⟩ | ⟨h, h1, h2⟩
    · have hd0 : decide (obj < 0) = true := decide_eq_true h
      have HF : Hid (R = 0) := Lib.hid (by rw [← HR.out]; exact backI_no (fun c => by omega))
      go_wp2_with fail
      go_ret
      rw [HF.out]
      exact ⟨rfl, HB2.out⟩
    · have hd0 : decide (obj < 0) = false := decide_eq_false h
      have hd1 : decide (obj > 1048576) = true := decide_eq_true h1
      have HF : Hid (R = 0) := Lib.hid (by rw [← HR.out]; exact backI_no (fun c => by omega))
      go_wp2_with fail
      go_ret
      rw [HF.out]
      exact ⟨rfl, HB2.out⟩
    · have hd0 : decide (obj < 0) = false := decide_eq_false h
      have hd1 : decide (obj > 1048576) = false := decide_eq_false h1
      have hd2 : decide (a < 0) = true := decide_eq_true h2
      have HF : Hid (R = 0) := Lib.hid (by rw [← HR.out]; exact backI_no (fun c => by omega))
      go_wp2_with fail
      go_ret
      rw [HF.out]
      exact ⟨rfl, HB2.out⟩
    have hd0 : decide (obj < 0) = false := decide_eq_false h
    have hd1 : decide (obj > 1048576) = false := decide_eq_false h1
    have hd2 : decide (a < 0) = false := decide_eq_false h2
    obtain ⟨o, u, c, rfl, rfl, rfl, ho3, ho6, hu2, huo, hc1, hc4⟩ := shape_nat hs
    obtain ⟨B, hB⟩ : ∃ O : Nat, obj = O := ⟨obj.toNat, by omega⟩
    subst hB
    obtain ⟨A, hA⟩ : ∃ O : Nat, a = O := ⟨a.toNat, by omega⟩
    subst hA
    have hps := pow_small hu2 huo ho6
    have HF0 : Hid (¬ A < 2 ^ o → R = 0) := Lib.hid (fun hh => by
      rw [← HR.out]; apply backI_no; intro cc
      have h5 := cc.2.2.2.2
      rw [Int.toNat_natCast] at h5
      exact hh (Int.ofNat_lt.1 (by simpa using h5)))
    have HF1 : Hid (A < 2 ^ o → R = ((backP (2 ^ u) (2 ^ (o - u)) c B A : Nat) : Int)) := Lib.hid (fun hh => by rw [← HR.out]; exact backI_yes hs (by omega) hh)
    obtain ⟨U, hU⟩ : ∃ U, 2 ^ u = U := ⟨_, rfl⟩
    obtain ⟨Po, hPo⟩ : ∃ U, 2 ^ o = U := ⟨_, rfl⟩
    obtain ⟨P, hP⟩ : ∃ U, 2 ^ (o - u) = U := ⟨_, rfl⟩
    rw [hU, hP, hPo] at hps
    rw [hU, hP, hPo] at HF1
    rw [hPo] at HF0
    have HPU := Lib.hid (fun W => pow_any u U hU (by omega) W)
    have HPO := Lib.hid (fun W => pow_any o Po hPo (by omega) W)
    have HPP : Hid (Po / U = P) := Lib.hid (by rw [hps.2.2.2.2.1]; exact Nat.mul_div_cancel _ (by omega))
    have hU4 := hps.1
    have hU64 := hps.2.1
    have hP1 := hps.2.2.1
    have hP16 := hps.2.2.2.1
    have hPo64 := hps.2.2.2.2.2
    have HPoE := Lib.hid hps.2.2.2.2.1
    clear hU hP hPo hps hs hsd HR
    obtain ⟨x0, x1, x2⟩ := HX2.out.l3
    by_cases hA : A < Po
    · have hdA : decide ((A : Int) ≥ (Po : Int)) = false := decide_eq_false (by omega)
      have HF := Lib.hid (HF1.out hA)
      obtain ⟨V, hV⟩ : ∃ V, B / c = V := ⟨_, rfl⟩
      have hV1 : V ≤ B := by rw [← hV]; exact Nat.div_le_self _ _
      obtain ⟨Q, hQ⟩ : ∃ r, A / U = r := ⟨_, rfl⟩
      have hQ1 : Q ≤ A := by rw [← hQ]; exact Nat.div_le_self _ _
      obtain ⟨M1, hM1⟩ : ∃ r, B % c = r := ⟨_, rfl⟩
      have hM11 : M1 < c := by rw [← hM1]; exact Nat.mod_lt _ (by omega)
      obtain ⟨M2, hM2⟩ : ∃ r, A % U = r := ⟨_, rfl⟩
      have hM21 : M2 < U := by rw [← hM2]; exact Nat.mod_lt _ (by omega)
      have hb1 : V * P ≤ 1048576 * 16 := Nat.mul_le_mul (by omega) hP16
      obtain ⟨X1, hX1⟩ : ∃ r, V * P = r := ⟨_, rfl⟩
      rw [hX1] at hb1
      obtain ⟨Rw, hRw⟩ : ∃ r, X1 + Q = r := ⟨_, rfl⟩
      have hb2 : Rw * c ≤ 16777280 * 4 := Nat.mul_le_mul (by omega) hc4
      obtain ⟨X2, hX2⟩ : ∃ r, Rw * c = r := ⟨_, rfl⟩
      rw [hX2] at hb2
      obtain ⟨X3, hX3⟩ : ∃ r, X2 + M1 = r := ⟨_, rfl⟩
      have hb3 : X3 * U ≤ 67109124 * 64 := Nat.mul_le_mul (by omega) hU64
      obtain ⟨X4, hX4⟩ : ∃ r, X3 * U = r := ⟨_, rfl⟩
      rw [hX4] at hb3
      obtain ⟨Z, hZ⟩ : ∃ r, X4 + M2 = r := ⟨_, rfl⟩
      have HF2 : Hid (R = (Z : Int)) := Lib.hid (by
        rw [HF.out]; unfold backP
        rw [hV, hQ, hM1, hM2, hX1, hRw, hX2, hX3, hX4, hZ])
      have H2 : Hid ((Po : Int).tdiv (U : Int) = (P : Int)) := Lib.hid (by rw [tdiv_nat, HPP.out])
      have H3 : Hid ((B : Int).tdiv (c : Int) = (V : Int)) := Lib.hid (by rw [tdiv_nat, hV])
      have H4 : Hid (IntKind.i64.wrap ((V : Int) * (P : Int)) = (X1 : Int)) := Lib.hid (wrap_mul hX1 (by omega))
      have H5 : Hid ((A : Int).tdiv (U : Int) = (Q : Int)) := Lib.hid (by rw [tdiv_nat, hQ])
      have H6 : Hid (IntKind.i64.wrap ((X1 : Int) + (Q : Int)) = (Rw : Int)) := Lib.hid (wrap_add hRw (by omega))
      have H7 : Hid (IntKind.i64.wrap ((Rw : Int) * (c : Int)) = (X2 : Int)) := Lib.hid (wrap_mul hX2 (by omega))
      have H8 : Hid ((B : Int).tmod (c : Int) = (M1 : Int)) := Lib.hid (by rw [tmod_nat, hM1])
      have H9 : Hid (IntKind.i64.wrap ((X2 : Int) + (M1 : Int)) = (X3 : Int)) := Lib.hid (wrap_add hX3 (by omega))
      have H10 : Hid (IntKind.i64.wrap ((X3 : Int) * (U : Int)) = (X4 : Int)) := Lib.hid (wrap_mul hX4 (by omega))
      have H11 : Hid ((A : Int).tmod (U : Int) = (M2 : Int)) := Lib.hid (by rw [tmod_nat, hM2])
      have H12 : Hid (IntKind.i64.wrap ((X4 : Int) + (M2 : Int)) = (Z : Int)) := Lib.hid (wrap_add hZ (by omega))
      clear hV hQ hM1 hM2 hX1 hRw hX2 hX3 hX4 hZ HF HF0 HF1
      go_wp2_with fail
      refine (HPO.out _).mono ?_
      rintro e w3 ⟨rfl, rfl⟩
      go_upto_region 3 with fail
      have e2 := H2.out
      go_quiet ((first | (go_at_call_of 25 (o); exact Calls.quiet_of_same ((HPO.out _).mono fun e w' hh => ⟨hh.1, hh.2.symm⟩)) | (go_at_call_of 25 (u); exact Calls.quiet_of_same ((HPU.out _).mono fun e w' hh => ⟨hh.1, hh.2.symm⟩))))
      generalize hwd : (w2.drewN nq) = wD at *
      have hbD : Below w2.heap.size w2 wD := by rw [← hwd]; exact below_drewN _ _
      have HX3 := Lib.hid (HX2.out.later hbD)
      have HB3 := Lib.hid (HB2.out.trans (hbD.mono HB2.out.size))
      clear hwd hbD x0 x1 x2 e2
      obtain ⟨x0, x1, x2⟩ := HX3.out.l3
      go_wp2_with fail
      go_upto_region 4 with fail
      have e3 := H3.out
      have e4 := H4.out
      have e5 := H5.out
      have e6 := H6.out
      go_quiet ((first | (go_at_call_of 25 (o); exact Calls.quiet_of_same ((HPO.out _).mono fun e w' hh => ⟨hh.1, hh.2.symm⟩)) | (go_at_call_of 25 (u); exact Calls.quiet_of_same ((HPU.out _).mono fun e w' hh => ⟨hh.1, hh.2.symm⟩))))
      generalize hwd : (wD.drewN nq) = wE at *
      have hbE : Below wD.heap.size wD wE := by rw [← hwd]; exact below_drewN _ _
      have HX4 := Lib.hid (HX3.out.later hbE)
      have HB4 := Lib.hid (HB3.out.trans (hbE.mono HB3.out.size))
      clear hwd hbE x0 x1 x2 e3 e4 e5 e6
      obtain ⟨x0, x1, x2⟩ := HX4.out.l3
      go_wp2_with fail
      go_upto_region 5 with fail
      have e7 := H7.out
      have e8 := H8.out
      have e9 := H9.out
      have e10 := H10.out
      have e11 := H11.out
      have e12 := H12.out
      go_quiet ((first | (go_at_call_of 25 (o); exact Calls.quiet_of_same ((HPO.out _).mono fun e w' hh => ⟨hh.1, hh.2.symm⟩)) | (go_at_call_of 25 (u); exact Calls.quiet_of_same ((HPU.out _).mono fun e w' hh => ⟨hh.1, hh.2.symm⟩))))
      go_wp2_with fail
      go_ret
      rw [HF2.out]
      exact ⟨rfl, HB4.out.trans ((below_drewN _ _).mono HB4.out.size)⟩
    · have hdA : decide ((A : Int) ≥ (Po : Int)) = true := decide_eq_true (by omega)
      have HF := Lib.hid (HF0.out hA)
      go_wp2_with fail
      refine (HPO.out _).mono ?_
      rintro e w3 ⟨rfl, rfl⟩
      go_wp2_with fail
      go_ret
      rw [HF.out]
      exact ⟨rfl, HB2.out⟩
  · have hsd : decide (ShapeOk o u c) = false := decide_eq_false hs
    rw [hsd]
    have HF : Hid (R = 0) := Lib.hid (by rw [← HR.out]; exact backI_no (fun c => hs c.1))
    go_wp2_with fail
    go_ret
    rw [HF.out]
    exact ⟨rfl, HB2.out⟩
end Go.Proofs.Ytalgjoeinllllaa
