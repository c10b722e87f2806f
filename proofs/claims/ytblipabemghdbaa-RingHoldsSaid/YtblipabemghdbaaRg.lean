/- Rings: the document's own Right, Num. -/
import Derived.Test.YtblipabemghdbaaRgPlain
import Derived.Test.YtblipabemghdbaaRec
import Derived.Test.YtblipabemghdbaaInts
import Derived.Deep.RegionWith
import Derived.Deep.DeepCutAuto
import Derived.BigQuiet
namespace Go.Proofs.Ytblipabemghdbaa
open Go.RowKit Go.Proofs
set_option linter.unusedVariables false
set_option linter.unusedSimpArgs false
set_option linter.unnecessarySimpa false

abbrev rgC (c : Rg) : Array Value := #[.int .i64 c.sp, .int .i64 c.st, .int .i64 c.sz]
abbrev rgV (c : Rg) : Value := .agg #[.int .i64 c.sp, .int .i64 c.st, .int .i64 c.sz]
abbrev flC (f : Fl) : Array Value := #[.int .i64 f.set, .int .i64 f.u0, .int .i64 f.u1, .int .i64 f.u2, .int .i64 f.u3]
abbrev flV (f : Fl) : Value := .agg #[.int .i64 f.set, .int .i64 f.u0, .int .i64 f.u1, .int .i64 f.u2, .int .i64 f.u3]
abbrev pcC (p : Pc) : Array Value := #[.int .i64 p.set, .int .i64 p.obj]
abbrev pcV (p : Pc) : Value := .agg #[.int .i64 p.set, .int .i64 p.obj]
theorem two_recsR (w : World) (cs ds : Array Value) (t u : TypeId) : RecAt ((w.alloc (.cells cs t)).alloc (.cells ds u)) w.heap.size cs t ∧ RecAt ((w.alloc (.cells cs t)).alloc (.cells ds u)) (w.heap.size + 1) ds u ∧ Below w.heap.size w ((w.alloc (.cells cs t)).alloc (.cells ds u)) := by
  have h1 := RecAt.new w cs t
  have h2 := RecAt.new (w.alloc (.cells cs t)) ds u
  rw [show (w.alloc (.cells cs t)).heap.size = w.heap.size + 1 by simp] at h2
  exact ⟨h1.later ((Below.refl _ _).alloc (Nat.le_refl _) _), h2, ((Below.refl _ _).alloc (Nat.le_refl _) _).trans (((Below.refl _ _).alloc (Nat.le_refl _) _).mono (by simp))⟩
theorem rgOk_no {c : Rg} (h : ¬ c.Ok) : decide c.Ok = false := decide_eq_false h
set_option maxRecDepth 20000 in
set_option maxHeartbeats 3200000 in
theorem rright10_any (c : Rg) (w : World) : Calls Try.prog 13 #[rgV c] w fun e w' => e = .returned (.bool (decide c.Ok)) ∧ Below w.heap.size w w' := by
  have HB0 := Lib.hid ((Below.refl w.heap.size w).alloc (Nat.le_refl _) (.cells (rgC c) 23))
  have HX0 := Lib.hid (RecAt.new w (rgC c) 23)
  have HF : Hid (¬ c.Ok → decide c.Ok = false) := Lib.hid fun h => decide_eq_false h
  have HT : Hid (c.Ok → decide c.Ok = true) := Lib.hid fun h => decide_eq_true h
  obtain ⟨R, hR⟩ : ∃ R, decide c.Ok = R := ⟨_, rfl⟩
  rw [hR] at HF HT ⊢
  unfold Rg.Ok at HF HT
  clear hR
  go_enter Try.func13, Try.ntmps13
  go_upto_region 1 with fail
  generalize (w.alloc (.cells (rgC c) 23)) = w1 at *
  obtain ⟨P, hP⟩ : ∃ P, w.heap.size = P := ⟨_, rfl⟩
  rw [hP]
  rw [hP] at HX0
  clear hP
  obtain ⟨y0, y1, y2⟩ := HX0.out.c3
  cases d1 : decide (1 ≤ c.sp) with
  | false =>
    have hb := HF.out (by simp at d1; omega)
    go_wp2_with fail
    go_ret
    exact ⟨ret_bool hb.symm, HB0.out⟩
  | true =>
  cases d2 : decide (c.sp ≤ 4) with
  | false =>
    have hb := HF.out (by simp at d2; omega)
    go_wp2_with fail
    go_ret
    exact ⟨ret_bool hb.symm, HB0.out⟩
  | true =>
  cases d3 : decide (4 ≤ c.st) with
  | false =>
    have hb := HF.out (by simp at d3; omega)
    go_wp2_with fail
    go_ret
    exact ⟨ret_bool hb.symm, HB0.out⟩
  | true =>
  cases d4 : decide (c.st ≤ 8) with
  | false =>
    have hb := HF.out (by simp at d4; omega)
    go_wp2_with fail
    go_ret
    exact ⟨ret_bool hb.symm, HB0.out⟩
  | true =>
  cases d5 : decide (512 ≤ c.sz) with
  | false =>
    have hb := HF.out (by simp at d5; omega)
    go_wp2_with fail
    go_ret
    exact ⟨ret_bool hb.symm, HB0.out⟩
  | true =>
  cases d6 : decide (c.sz ≤ 4096) with
  | false =>
    have hb := HF.out (by simp at d6; omega)
    go_wp2_with fail
    go_ret
    exact ⟨ret_bool hb.symm, HB0.out⟩
  | true =>
    have hb := HT.out (by simp at d1 d2 d3 d4 d5 d6; omega)
    go_wp2_with fail
    go_ret
    exact ⟨ret_bool hb.symm, HB0.out⟩
set_option maxRecDepth 20000 in
set_option maxHeartbeats 3200000 in
theorem rnum10_any (c : Rg) (p : Pc) (w : World) : Calls Try.prog 11 #[rgV c, pcV p] w fun e w' => e = .returned (.int .i64 (numR c p)) ∧ Below w.heap.size w w' := by
  obtain ⟨X2, X3, B1⟩ : RecAt ((w.alloc (.cells (rgC c) 23)).alloc (.cells (pcC p) 28)) w.heap.size (rgC c) 23 ∧ RecAt ((w.alloc (.cells (rgC c) 23)).alloc (.cells (pcC p) 28)) (w.heap.size + 1) (pcC p) 28 ∧ Below w.heap.size w ((w.alloc (.cells (rgC c) 23)).alloc (.cells (pcC p) 28)) := two_recsR w _ _ _ _
  have HX2 := Lib.hid X2
  have HX3 := Lib.hid X3
  have HB1 := Lib.hid B1
  have HF : Hid (¬ (c.Ok ∧ (0 ≤ p.set ∧ p.set ≤ 1073741824) ∧ 0 ≤ p.obj ∧ p.obj < c.sp) → numR c p = 0) := Lib.hid fun h => by unfold numR; rw [if_neg h]
  have HT : Hid (c.Ok ∧ (0 ≤ p.set ∧ p.set ≤ 1073741824) ∧ 0 ≤ p.obj ∧ p.obj < c.sp → numR c p = p.set % c.st * c.sp + p.obj) := Lib.hid fun h => by unfold numR; rw [if_pos h]
  obtain ⟨R, hR⟩ : ∃ R, numR c p = R := ⟨_, rfl⟩
  rw [hR] at HF HT ⊢
  have HRR := Lib.hid (fun W => rright10_any c W)
  clear hR X2 X3 B1
  go_enter Try.func11, Try.ntmps11
  go_upto_region 1 with fail
  generalize ((w.alloc (.cells (rgC c) 23)).alloc (.cells (pcC p) 28)) = w1 at *
  obtain ⟨P3, hP3⟩ : ∃ P, w.heap.size + 1 = P := ⟨_, rfl⟩
  rw [hP3] at HX3 ⊢
  clear hP3
  obtain ⟨P2, hP2⟩ : ∃ P, w.heap.size = P := ⟨_, rfl⟩
  rw [hP2]
  rw [hP2] at HX2
  clear hP2
  obtain ⟨y0, y1, y2⟩ := HX2.out.c3
  by_cases hc : c.Ok
  · have hd : decide c.Ok = true := decide_eq_true hc
    rw [hd] at HRR
    have HC := Lib.hid hc
    clear hd hc
    go_wp2_with fail
    refine (HRR.out w1).mono ?_
    rintro e w2 ⟨rfl, b2⟩
    have HB2 := Lib.hid (HB1.out.trans (b2.mono HB1.out.size))
    have HX22 := Lib.hid (HX2.out.later b2)
    have HX32 := Lib.hid (HX3.out.later b2)
    clear b2 y0 y1 y2 HRR
    obtain ⟨y0, y1, y2⟩ := HX22.out.c3
    have z0 := HX32.out.cell (i := 0) rfl
    have z1 := HX32.out.cell (i := 1) rfl
    cases d1 : decide (p.set < 0) with
    | true =>
      have hb := HF.out (by simp at d1; omega)
      go_wp2_with fail
      go_ret
      exact ⟨ret_int hb.symm, HB2.out⟩
    | false =>
    cases d2 : decide (1073741824 < p.set) with
    | true =>
      have hb := HF.out (by simp at d2; omega)
      go_wp2_with fail
      go_ret
      exact ⟨ret_int hb.symm, HB2.out⟩
    | false =>
    cases d3 : decide (p.obj < 0) with
    | true =>
      have hb := HF.out (by simp at d3; omega)
      go_wp2_with fail
      go_ret
      exact ⟨ret_int hb.symm, HB2.out⟩
    | false =>
    cases d4 : decide (c.sp ≤ p.obj) with
    | true =>
      have hb := HF.out (by simp at d4; omega)
      go_wp2_with fail
      go_ret
      exact ⟨ret_int hb.symm, HB2.out⟩
    | false =>
      have hk : c.Ok ∧ (0 ≤ p.set ∧ p.set ≤ 1073741824) ∧ 0 ≤ p.obj ∧ p.obj < c.sp := ⟨HC.out, by simp at d1 d2 d3 d4; omega⟩
      have hb := HT.out hk
      have hst : c.st ≠ 0 := by have := hk.1.2.1; omega
      have hs0 : 0 ≤ p.set := hk.2.1.1
      have hst0 : 0 < c.st := by have := hk.1.2.1; omega
      obtain ⟨M, hM⟩ : ∃ M, p.set % c.st = M := ⟨_, rfl⟩
      have hM0 : 0 ≤ M ∧ M < 8 := by
        have h1 := Int.emod_nonneg p.set hst
        have h2 := Int.emod_lt_of_pos p.set hst0
        have h3 := hk.1.2.1
        omega
      obtain ⟨T, hT⟩ : ∃ T, M * c.sp = T := ⟨_, rfl⟩
      have hT0 : 0 ≤ T ∧ T ≤ 28 := by
        rw [← hT]
        have h3 := hk.1.1
        have h4 := Int.mul_nonneg hM0.1 (show 0 ≤ c.sp by omega)
        have h5 := Int.mul_le_mul (show M ≤ 7 by omega) h3.2 (by omega) (by omega)
        omega
      have hw1 : IntKind.i64.wrap T = T := by rw [IntKind.wrap_i64]; omega
      have hw2 : IntKind.i64.wrap (T + p.obj) = T + p.obj := by have := hk.1.1; rw [IntKind.wrap_i64]; omega
      rw [hM, hT] at hb
      have HBB := Lib.hid hb
      clear hb hk HC HF HT
      go_upto_region 3 with fail
      go_quiet (fail)
      go_wp2_with fail
      go_ret
      exact ⟨ret_int HBB.out.symm, HB2.out.trans ((below_drewN _ _).mono HB2.out.size)⟩
  · have hb := HF.out (fun h => hc h.1)
    have hd : decide c.Ok = false := decide_eq_false hc
    rw [hd] at HRR
    clear hd hc
    go_wp2_with fail
    refine (HRR.out w1).mono ?_
    rintro e w2 ⟨rfl, b2⟩
    go_wp2_with fail
    go_ret
    exact ⟨ret_int hb.symm, HB1.out.trans (b2.mono HB1.out.size)⟩
end Go.Proofs.Ytblipabemghdbaa
