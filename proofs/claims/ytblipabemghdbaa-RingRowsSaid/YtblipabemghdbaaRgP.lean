/- Rings: the program's own package. -/
import Derived.Test.YtblipabemghdbaaRgC
namespace Go.Proofs.Ytblipabemghdbaa
open Go.RowKit Go.Proofs
set_option linter.unusedVariables false
set_option linter.unusedSimpArgs false
set_option linter.unnecessarySimpa false

def inI (z : Int) : Prop := -9223372036854775808 ≤ z ∧ z ≤ 9223372036854775807
def Rg.In (c : Rg) : Prop := inI c.sp ∧ inI c.st ∧ inI c.sz
def Fl.InI (f : Fl) : Prop := inI f.set ∧ inI f.u0 ∧ inI f.u1 ∧ inI f.u2 ∧ inI f.u3
def Pc.In (p : Pc) : Prop := inI p.set ∧ inI p.obj
theorem Rg.Ok.in {c : Rg} (h : c.Ok) : c.In := by unfold Rg.Ok at h; unfold Rg.In inI; omega
theorem noFl_in : noFl.InI := by unfold Fl.InI inI noFl; simp only; omega
theorem Fl.In.inI {f : Fl} {m : Int} (h : f.In m) (hm : m ≤ 4096) (hs : -9223372036854775808 ≤ f.set ∧ f.set ≤ 9223372036854775807) : f.InI := by unfold Fl.In at h; unfold Fl.InI Go.Proofs.Ytblipabemghdbaa.inI; omega
theorem Fl.InI.at {f : Fl} (h : f.InI) (k : Int) : inI (f.at k) := by
  obtain ⟨h0, h1, h2, h3, h4⟩ := h; unfold Fl.at; split <;> (try split) <;> (try split) <;> assumption
theorem between_fact {n a b : Int} (hn : inI n) (ha : 0 ≤ a) (hb : b ≤ 1099511627776) (hab : a ≤ b) :
    decide (IntKind.u64.wrap (wrap64 (n - a)) ≤ b - a) = decide (a ≤ n ∧ n ≤ b) := by
  unfold inI at hn
  unfold wrap64
  rw [IntKind.wrap_u64]
  exact decide_eq_decide.2 (by omega)
theorem between_any (n a b : Int) (hn : inI n) (ha : 0 ≤ a) (hb : b ≤ 1099511627776) (hab : a ≤ b) (w : World) : Calls Try.prog 22 #[.int .i64 n, .int .i64 a, .int .i64 b] w fun e w' => e = .returned (.bool (decide (a ≤ n ∧ n ≤ b))) ∧ w = w' := by
  have H := Lib.hid (between_fact hn ha hb hab)
  go_enter Try.func22, Try.ntmps22
  go_wp2_with fail
  go_ret
  exact ⟨ret_bool H.out, rfl⟩
theorem modulo_fact {q m : Int} (hq : 0 ≤ q) (hq2 : q ≤ 9223372036854775807) (hm : 0 < m) (hm2 : m ≤ 9223372036854775807) :
    IntKind.i64.wrap (IntKind.u64.wrap (IntKind.u64.wrap q % IntKind.u64.wrap m)) = q % m := by
  have h1 : IntKind.u64.wrap q = q := by rw [IntKind.wrap_u64]; omega
  have h2 : IntKind.u64.wrap m = m := by rw [IntKind.wrap_u64]; omega
  have h3 := Int.emod_nonneg q (show m ≠ 0 by omega)
  have h4 := Int.emod_lt_of_pos q hm
  rw [h1, h2, IntKind.wrap_u64, IntKind.wrap_i64]
  omega
theorem modulo_any (q m : Int) (hq : 0 ≤ q) (hq2 : q ≤ 9223372036854775807) (hm : 0 < m) (hm2 : m ≤ 9223372036854775807) (w : World) : Calls Try.prog 23 #[.int .i64 q, .int .i64 m] w fun e w' => e = .returned (.int .i64 (q % m)) ∧ w = w' := by
  have h1 : IntKind.u64.wrap q = q := by rw [IntKind.wrap_u64]; omega
  have h2 : IntKind.u64.wrap m = m := by rw [IntKind.wrap_u64]; omega
  have h3 : m ≠ 0 := by omega
  have h4 := Int.emod_nonneg q h3
  have h5 := Int.emod_lt_of_pos q hm
  obtain ⟨R, hR⟩ : ∃ R, q % m = R := ⟨_, rfl⟩
  rw [hR] at h4 h5
  have h6 : IntKind.u64.wrap R = R := by rw [IntKind.wrap_u64]; omega
  have h7 : IntKind.i64.wrap R = R := by rw [IntKind.wrap_i64]; omega
  rw [hR]
  go_enter Try.func23, Try.ntmps23
  go_wp2_with fail
  go_ret
  exact ⟨rfl, rfl⟩
theorem fsize_any (n : Int) (hn : 1 ≤ n ∧ n ≤ 90) (w : World) : Calls Try.prog 24 #[.int .i64 n] w fun e w' => e = .returned (.int .i64 (n + 22)) ∧ w = w' := by
  have h1 : max n 0 = n := by omega
  have h2 : min n 90 = n := by omega
  have h3 : IntKind.i64.wrap (22 + n) = 22 + n := by rw [IntKind.wrap_i64]; omega
  go_enter Try.func24, Try.ntmps24
  go_wp2_with fail
  go_ret
  exact ⟨ret_int (by omega), rfl⟩
set_option maxRecDepth 20000 in
set_option maxHeartbeats 3200000 in
theorem ringright_any (c : Rg) (hc : c.In) (w : World) : Calls Try.prog 12 #[rgV c] w fun e w' => e = .returned (.bool (decide c.Ok)) ∧ Below w.heap.size w w' := by
  have HB0 := Lib.hid ((Below.refl w.heap.size w).alloc (Nat.le_refl _) (.cells (rgC c) 23))
  have HX0 := Lib.hid (RecAt.new w (rgC c) 23)
  obtain ⟨i1, i2, i3⟩ := hc
  have H1 := Lib.hid (fun W => between_any c.sp 1 4 i1 (by decide) (by decide) (by decide) W)
  have H2 := Lib.hid (fun W => between_any c.st 4 8 i2 (by decide) (by decide) (by decide) W)
  have H3 := Lib.hid (fun W => between_any c.sz 512 4096 i3 (by decide) (by decide) (by decide) W)
  have HE : Hid (decide c.Ok = (decide (1 ≤ c.sp ∧ c.sp ≤ 4) && (decide (4 ≤ c.st ∧ c.st ≤ 8) && decide (512 ≤ c.sz ∧ c.sz ≤ 4096)))) := Lib.hid (by
    rw [← Bool.decide_and, ← Bool.decide_and]; exact decide_eq_decide.2 (by unfold Rg.Ok; exact Iff.rfl))
  obtain ⟨R, hR⟩ : ∃ R, decide c.Ok = R := ⟨_, rfl⟩
  obtain ⟨B1, hB1⟩ : ∃ R, decide (1 ≤ c.sp ∧ c.sp ≤ 4) = R := ⟨_, rfl⟩
  obtain ⟨B2, hB2⟩ : ∃ R, decide (4 ≤ c.st ∧ c.st ≤ 8) = R := ⟨_, rfl⟩
  obtain ⟨B3, hB3⟩ : ∃ R, decide (512 ≤ c.sz ∧ c.sz ≤ 4096) = R := ⟨_, rfl⟩
  rw [hR, hB1, hB2, hB3] at HE
  rw [hR]
  rw [hB1] at H1
  rw [hB2] at H2
  rw [hB3] at H3
  clear hR hB1 hB2 hB3 i1 i2 i3
  go_enter Try.func12, Try.ntmps12
  go_upto_region 1 with fail
  generalize (w.alloc (.cells (rgC c) 23)) = w1 at *
  obtain ⟨P, hP⟩ : ∃ P, w.heap.size = P := ⟨_, rfl⟩
  rw [hP]
  rw [hP] at HX0
  clear hP
  obtain ⟨y0, y1, y2⟩ := HX0.out.c3
  cases B1 with
  | false =>
    go_wp2_with fail
    refine (H1.out w1).mono ?_
    rintro e w2 ⟨rfl, rfl⟩
    go_wp2_with fail
    go_ret
    exact ⟨ret_bool HE.out.symm, HB0.out⟩
  | true =>
  cases B2 with
  | false =>
    go_wp2_with fail
    refine (H1.out w1).mono ?_
    rintro e w2 ⟨rfl, rfl⟩
    go_wp2_with fail
    refine (H2.out w1).mono ?_
    rintro e w2 ⟨rfl, rfl⟩
    go_wp2_with fail
    go_ret
    exact ⟨ret_bool HE.out.symm, HB0.out⟩
  | true =>
    go_wp2_with fail
    refine (H1.out w1).mono ?_
    rintro e w2 ⟨rfl, rfl⟩
    go_wp2_with fail
    refine (H2.out w1).mono ?_
    rintro e w2 ⟨rfl, rfl⟩
    go_wp2_with fail
    refine (H3.out w1).mono ?_
    rintro e w2 ⟨rfl, rfl⟩
    go_wp2_with fail
    go_ret
    exact ⟨ret_bool (by rw [HE.out]; rfl), HB0.out⟩
theorem fl_arr2 (w : World) (f g : Fl) : (Op.equalIn 9999 24 (.agg #[.int .i64 f.u0, .int .i64 f.u1, .int .i64 f.u2, .int .i64 f.u3]) (.agg #[.int .i64 g.u0, .int .i64 g.u1, .int .i64 g.u2, .int .i64 g.u3])).run Try.prog w = .ok (decide (f.u0 = g.u0 ∧ f.u1 = g.u1 ∧ f.u2 = g.u2 ∧ f.u3 = g.u3)) w := by
  have u3 := Try.underlying3
  have a3 := Try.isAgg3
  have z3 := Try.sizeOf3
  have u4 := Try.underlying24
  have a4 := Try.isAgg24
  have z4 := Try.sizeOf24
  rw [show (9999 : Nat) = 9998 + 1 from rfl]
  unfold Op.equalIn
  go_simp
  simp only [show List.range' 0 4 = [0, 1, 2, 3] from rfl, List.forIn_cons, List.forIn_nil]
  by_cases h0 : f.u0 = g.u0 <;> by_cases h1 : f.u1 = g.u1 <;> by_cases h2 : f.u2 = g.u2 <;> by_cases h3 : f.u3 = g.u3 <;> go_simp <;> simp [h0, h1, h2, h3]
theorem fl_eq_iff (f g : Fl) : (f.set == g.set && decide (f.u0 = g.u0 ∧ f.u1 = g.u1 ∧ f.u2 = g.u2 ∧ f.u3 = g.u3)) = decide (f = g) := by
  obtain ⟨a, b, c, d, e⟩ := f
  obtain ⟨a', b', c', d', e'⟩ := g
  simp only [Fl.mk.injEq, Bool.decide_and]
  rfl
theorem run_fl_in (w : World) (f g : Fl) : (Op.equalIn 10000 26 (.agg #[.int .i64 f.set, .int .i64 f.u0, .int .i64 f.u1, .int .i64 f.u2, .int .i64 f.u3]) (.agg #[.int .i64 g.set, .int .i64 g.u0, .int .i64 g.u1, .int .i64 g.u2, .int .i64 g.u3])).run Try.prog w = .ok (decide (f = g)) w := by
  have u3 := Try.underlying3
  have a3 := Try.isAgg3
  have z3 := Try.sizeOf3
  have u4 := Try.underlying24
  have a4 := Try.isAgg24
  have z4 := Try.sizeOf24
  have harr := fl_arr2 w f g
  obtain ⟨B, hB⟩ : ∃ B, decide (f.u0 = g.u0 ∧ f.u1 = g.u1 ∧ f.u2 = g.u2 ∧ f.u3 = g.u3) = B := ⟨_, rfl⟩
  rw [hB] at harr
  have hS : Try.prog.underlying 26 = some (.struct (Try.prog.fieldsOf 26)) := by kernel_rfl
  have hp : Try.prog.stoodInHeld 26 = false := by kernel_rfl
  rw [show (10000 : Nat) = 9999 + 1 from rfl, run_equalIn_agg w 9999 26 _ _ hS hp, ← fl_eq_iff, hB]
  simp only [Program.fieldsOf, Try.underlying26]
  go_simp
  clear hB harr
  by_cases h1 : f.set = g.set <;> cases B <;> simp [h1]
theorem fl_eql (w : World) (f g : Fl) : (binOp .eql 26 (.agg #[.int .i64 f.set, .int .i64 f.u0, .int .i64 f.u1, .int .i64 f.u2, .int .i64 f.u3]) (.agg #[.int .i64 g.set, .int .i64 g.u0, .int .i64 g.u1, .int .i64 g.u2, .int .i64 g.u3])).run Try.prog w = .ok (.bool (decide (f = g))) w := by
  rw [run_eql_struct, run_fl_in]; rfl
theorem fl_guard2 (w : World) (op : BinOp) (x y : Operand) (xs ys : Array Value) : (eqGuard op 26 x y (.agg xs) (.agg ys)).run Try.prog w = .ok () w := run_eqGuard_agg w op _ x y xs ys (by kernel_rfl)
set_option maxRecDepth 20000 in
theorem refused_any (f : Fl) (w : World) : Calls Try.prog 25 #[flV f] w fun e w' => e = .returned (.bool (decide (f = noFl))) ∧ Below w.heap.size w w' := by
  have HB0 := Lib.hid ((Below.refl w.heap.size w).alloc (Nat.le_refl _) (.cells (flC f) 26))
  have HX0 := Lib.hid (RecAt.new w (flC f) 26)
  have HE := Lib.hid (fl_eq_iff f noFl)
  have HA := Lib.hid (fun W => fl_arr2 W f noFl)
  obtain ⟨B, hB⟩ : ∃ B, decide (f.u0 = noFl.u0 ∧ f.u1 = noFl.u1 ∧ f.u2 = noFl.u2 ∧ f.u3 = noFl.u3) = B := ⟨_, rfl⟩
  rw [hB] at HE HA
  clear hB
  obtain ⟨R, hR⟩ : ∃ R, decide (f = noFl) = R := ⟨_, rfl⟩
  rw [hR] at HE ⊢
  clear hR
  simp only [noFl] at HE HA
  go_enter Try.func25, Try.ntmps25
  go_upto_region 1 with fail
  generalize (w.alloc (.cells (flC f) 26)) = w1 at *
  obtain ⟨P, hP⟩ : ∃ P, w.heap.size = P := ⟨_, rfl⟩
  rw [hP]
  rw [hP] at HX0
  clear hP
  obtain ⟨y0, y1, y2, y3, y4⟩ := HX0.out.e5
  have ha := HA.out w1
  cases hs : (f.set == 0) with
  | false =>
    have hs' : f.set ≠ 0 := by simpa using hs
    go_wp2_with fail
    go_ret
    exact ⟨ret_bool (by rw [← HE.out, hs]; rfl), HB0.out⟩
  | true =>
    have hs' : f.set = 0 := by simpa using hs
    cases B with
    | false =>
      go_wp2_with fail
      go_ret
      exact ⟨ret_bool (by rw [← HE.out, hs]; rfl), HB0.out⟩
    | true =>
      go_wp2_with fail
      go_ret
      exact ⟨ret_bool (by rw [← HE.out, hs]; rfl), HB0.out⟩
theorem In_bool (f : Fl) (m : Int) : decide (f.In m ∧ 0 ≤ f.set ∧ f.set ≤ 1073741823) = decide ((∀ j : Nat, j < 4 → 0 ≤ f.at (j : Nat) ∧ f.at (j : Nat) ≤ m) ∧ 0 ≤ f.set ∧ f.set ≤ 1073741823) := by
  refine decide_eq_decide.2 ⟨fun ⟨h, h2⟩ => ⟨fun j hj => Fl.at_in h _, h2⟩, fun ⟨h, h2⟩ => ⟨In_all h, h2⟩⟩
theorem run_ix_fl (w : World) (f : Fl) {j : Nat} (hj : j < 4) : (Instr.index 24 (.agg #[.int .i64 f.u0, .int .i64 f.u1, .int .i64 f.u2, .int .i64 f.u3]) (.int .i64 (j : Nat))).run Try.prog w = .ok (.int .i64 (f.at (j : Nat))) w := by
  match j, hj with
  | 0, _ => simp [Instr.index, asIntOf, run_underlying, go_sem, Fl.at]
  | 1, _ => simp [Instr.index, asIntOf, run_underlying, go_sem, Fl.at]
  | 2, _ => simp [Instr.index, asIntOf, run_underlying, go_sem, Fl.at]
  | 3, _ => simp [Instr.index, asIntOf, run_underlying, go_sem, Fl.at]
set_option maxRecDepth 20000 in
set_option maxHeartbeats 3200000 in
theorem rightFill_any (c : Rg) (hok : c.Ok) (f : Fl) (hf : f.InI) (w : World) : Calls Try.prog 21 #[rgV c, flV f] w fun e w' => e = .returned (.bool (decide (f.In c.sz ∧ 0 ≤ f.set ∧ f.set ≤ 1073741823))) ∧ Below w.heap.size w w' := by
  obtain ⟨X2, X3, B1⟩ := two_recsR w (rgC c) (flC f) 23 26
  have HX2 := Lib.hid X2
  have HX3 := Lib.hid X3
  have HB1 := Lib.hid B1
  have HZ : Hid (0 ≤ c.sz ∧ c.sz ≤ 1099511627776) := Lib.hid (by have := hok.2.2; omega)
  have HBJ := Lib.hid (fun (j : Nat) W => between_any (f.at (j : Nat)) 0 c.sz (hf.at _) (by decide) (by have := hok.2.2; omega) (by have := hok.2.2; omega) W)
  have HBS := Lib.hid (fun W => between_any f.set 0 1073741823 hf.1 (by decide) (by decide) (by decide) W)
  rw [In_bool]
  have HNO : Hid (∀ j : Nat, j < 4 → ¬ (0 ≤ f.at (j : Nat) ∧ f.at (j : Nat) ≤ c.sz) → decide ((∀ j : Nat, j < 4 → 0 ≤ f.at (j : Nat) ∧ f.at (j : Nat) ≤ c.sz) ∧ 0 ≤ f.set ∧ f.set ≤ 1073741823) = false) := Lib.hid (fun j hj h => decide_eq_false (fun k => h (k.1 j hj)))
  have HYE : Hid ((∀ j : Nat, j < 4 → 0 ≤ f.at (j : Nat) ∧ f.at (j : Nat) ≤ c.sz) → decide ((∀ j : Nat, j < 4 → 0 ≤ f.at (j : Nat) ∧ f.at (j : Nat) ≤ c.sz) ∧ 0 ≤ f.set ∧ f.set ≤ 1073741823) = decide (0 ≤ f.set ∧ f.set ≤ 1073741823)) := Lib.hid (fun h => decide_eq_decide.2 ⟨fun k => k.2, fun k => ⟨h, k⟩⟩)
  obtain ⟨R, hR⟩ : ∃ R, decide ((∀ j : Nat, j < 4 → 0 ≤ f.at (j : Nat) ∧ f.at (j : Nat) ≤ c.sz) ∧ 0 ≤ f.set ∧ f.set ≤ 1073741823) = R := ⟨_, rfl⟩
  rw [hR] at HNO HYE ⊢
  clear hR X2 X3 B1 hok hf
  go_enter Try.func21, Try.ntmps21
  go_upto_region 1 with fail
  generalize ((w.alloc (.cells (rgC c) 23)).alloc (.cells (flC f) 26)) = w1 at *
  obtain ⟨P3, hP3⟩ : ∃ P, w.heap.size + 1 = P := ⟨_, rfl⟩
  rw [hP3] at HX3 ⊢
  clear hP3
  obtain ⟨P2, hP2⟩ : ∃ P, w.heap.size = P := ⟨_, rfl⟩
  rw [hP2]
  rw [hP2] at HX2
  clear hP2
  obtain ⟨z0, z1, z2⟩ := HX2.out.c3
  obtain ⟨y0, y1, y2, y3, y4⟩ := HX3.out.e5
  go_wp2_with fail
  go_loopw [6, 9] (fun _ i wr => ∃ j : Nat, i = .int .i64 (j : Nat) ∧ j ≤ 4 ∧ w1 = wr ∧ Hid (∀ k : Nat, k < j → 0 ≤ f.at (k : Nat) ∧ f.at (k : Nat) ≤ c.sz)) (fun _ i _ => 4 - (intOf i).toNat)
  case atStart => exact ⟨0, rfl, by omega, rfl, Lib.hid (fun k h => by omega)⟩
  case round =>
    obtain ⟨j, rfl, hj, rfl, HA⟩ := hrel
    by_cases hj4 : (j : Int) < 4
    · have hix := run_ix_fl w1 f (j := j) (by omega)
      obtain ⟨U, hU⟩ : ∃ U, f.at (j : Nat) = U := ⟨_, rfl⟩
      have hbj := HBJ.out j
      rw [hU] at hix hbj
      have HU := Lib.hid hU
      have HBB := Lib.hid hbj
      clear hU hbj
      go_upto_region 4 with fail
      go_wp2_with fail
      refine (HBB.out w1).mono ?_
      rintro e w2 ⟨rfl, rfl⟩
      cases hd : decide (0 ≤ U ∧ U ≤ c.sz) with
      | false =>
        have hb := HNO.out j (by omega) (by rw [HU.out]; exact of_decide_eq_false hd)
        go_wp2_with fail
        go_ret
        exact ⟨ret_bool hb.symm, HB1.out⟩
      | true =>
        have HA2 : Hid (∀ k : Nat, k < j + 1 → 0 ≤ f.at (k : Nat) ∧ f.at (k : Nat) ≤ c.sz) := Lib.hid (fun k hk => by
          by_cases e : k = j
          · subst e; rw [HU.out]; exact of_decide_eq_true hd
          · exact HA.out k (by omega))
        go_wp2_with fail
        go_roundw
        case rel => exact ⟨j + 1, by go_num, by omega, trivial, HA2⟩
        case measure => simp [intOf]; omega
    · have hj4' : j = 4 := by omega
      subst hj4'
      have hb := HYE.out HA.out
      have HBB := Lib.hid hb
      clear hb
      go_wp2_with fail
      refine (HBS.out w1).mono ?_
      rintro e w2 ⟨rfl, rfl⟩
      go_wp2_with fail
      go_ret
      exact ⟨ret_bool (by rw [HBB.out, Bool.decide_and]), HB1.out⟩
set_option maxRecDepth 20000 in
set_option maxHeartbeats 3200000 in
theorem ringnum_any (c : Rg) (p : Pc) (hc : c.In) (hp : p.In) (w : World) : Calls Try.prog 10 #[rgV c, pcV p] w fun e w' => e = .returned (.int .i64 (numR c p)) ∧ Below w.heap.size w w' := by
  obtain ⟨X2, X3, B1⟩ := two_recsR w (rgC c) (pcC p) 23 28
  have HX2 := Lib.hid X2
  have HX3 := Lib.hid X3
  have HB1 := Lib.hid B1
  have HF : Hid (¬ (c.Ok ∧ (0 ≤ p.set ∧ p.set ≤ 1073741824) ∧ 0 ≤ p.obj ∧ p.obj < c.sp) → numR c p = 0) := Lib.hid fun h => by unfold numR; rw [if_neg h]
  have HT : Hid (c.Ok ∧ (0 ≤ p.set ∧ p.set ≤ 1073741824) ∧ 0 ≤ p.obj ∧ p.obj < c.sp → numR c p = p.set % c.st * c.sp + p.obj) := Lib.hid fun h => by unfold numR; rw [if_pos h]
  obtain ⟨R, hR⟩ : ∃ R, numR c p = R := ⟨_, rfl⟩
  rw [hR] at HF HT ⊢
  have HRR := Lib.hid (fun W => ringright_any c hc W)
  have HS1 := Lib.hid (fun W => between_any p.set 0 1073741824 hp.1 (by decide) (by decide) (by decide) W)
  have HPI := Lib.hid hp
  clear hR X2 X3 B1 hc hp
  go_enter Try.func10, Try.ntmps10
  go_upto_region 1 with fail
  generalize ((w.alloc (.cells (rgC c) 23)).alloc (.cells (pcC p) 28)) = w1 at *
  obtain ⟨P3, hP3⟩ : ∃ P, w.heap.size + 1 = P := ⟨_, rfl⟩
  rw [hP3] at HX3 ⊢
  clear hP3
  obtain ⟨P2, hP2⟩ : ∃ P, w.heap.size = P := ⟨_, rfl⟩
  rw [hP2]
  rw [hP2] at HX2
  clear hP2
  obtain ⟨y0, y1, y2⟩ := HX2.out.c3
  by_cases hc : c.Ok
  · have hd : decide c.Ok = true := decide_eq_true hc
    rw [hd] at HRR
    have HC := Lib.hid hc
    have hw0 : IntKind.i64.wrap (c.sp - 1) = c.sp - 1 := by have := hc.1; rw [IntKind.wrap_i64]; omega
    have HS2 := Lib.hid (fun W => between_any p.obj 0 (c.sp - 1) HPI.out.2 (by decide) (by have := hc.1; omega) (by have := hc.1; omega) W)
    clear hd hc
    go_wp2_with fail
    refine (HRR.out w1).mono ?_
    rintro e w2 ⟨rfl, b2⟩
    have HB2 := Lib.hid (HB1.out.trans (b2.mono HB1.out.size))
    have HX22 := Lib.hid (HX2.out.later b2)
    have HX32 := Lib.hid (HX3.out.later b2)
    clear b2 y0 y1 y2 HRR
    obtain ⟨y0, y1, y2⟩ := HX22.out.c3
    have z0 := HX32.out.cell (i := 0) rfl
    have z1 := HX32.out.cell (i := 1) rfl
    cases d1 : decide (0 ≤ p.set ∧ p.set ≤ 1073741824) with
    | false =>
      have hb := HF.out (fun h => of_decide_eq_false d1 h.2.1)
      rw [d1] at HS1
      clear d1
      go_wp2_with fail
      refine (HS1.out w2).mono ?_
      rintro e w3 ⟨rfl, rfl⟩
      go_wp2_with fail
      go_ret
      exact ⟨ret_int hb.symm, HB2.out⟩
    | true =>
    rw [d1] at HS1
    cases d2 : decide (0 ≤ p.obj ∧ p.obj ≤ c.sp - 1) with
    | false =>
      have hb := HF.out (fun h => of_decide_eq_false d2 (by have := h.2.2; omega))
      rw [d2] at HS2
      clear d1 d2
      go_wp2_with fail
      refine (HS1.out w2).mono ?_
      rintro e w3 ⟨rfl, rfl⟩
      go_wp2_with fail
      refine (HS2.out w2).mono ?_
      rintro e w3 ⟨rfl, rfl⟩
      go_wp2_with fail
      go_ret
      exact ⟨ret_int hb.symm, HB2.out⟩
    | true =>
      have hk : c.Ok ∧ (0 ≤ p.set ∧ p.set ≤ 1073741824) ∧ 0 ≤ p.obj ∧ p.obj < c.sp := ⟨HC.out, of_decide_eq_true d1, by have := of_decide_eq_true d2; omega⟩
      rw [d2] at HS2
      clear d1 d2
      have hb := HT.out hk
      have hst : c.st ≠ 0 := by have := hk.1.2.1; omega
      have hs0 : 0 ≤ p.set := hk.2.1.1
      have hst0 : 0 < c.st := by have := hk.1.2.1; omega
      have HM := Lib.hid (fun W => modulo_any p.set c.st hs0 (by have := hk.2.1; omega) hst0 (by have := hk.1.2.1; omega) W)
      obtain ⟨M, hM⟩ : ∃ M, p.set % c.st = M := ⟨_, rfl⟩
      have hM0 : 0 ≤ M ∧ M < 8 := by
        have h1 := Int.emod_nonneg p.set hst
        have h2 := Int.emod_lt_of_pos p.set hst0
        have h3 := hk.1.2.1
        omega
      rw [hM] at HM
      obtain ⟨T, hT⟩ : ∃ T, M * c.sp = T := ⟨_, rfl⟩
      have hT0 : 0 ≤ T ∧ T ≤ 28 := by
        rw [← hT]
        have h3 := hk.1.1
        have h4 := Int.mul_nonneg hM0.1 (show 0 ≤ c.sp by omega)
        have h5 := Int.mul_le_mul (show M ≤ 7 by omega) h3.2 (by omega) (by omega)
        omega
      have hw1 : IntKind.i64.wrap T = T := by rw [IntKind.wrap_i64]; omega
      have hw2 : IntKind.i64.wrap (T + p.obj) = T + p.obj := by have := hk.1.1; rw [IntKind.wrap_i64]; omega
      rw [hM, hT] at hb
      have HBB := Lib.hid hb
      clear hb hk HC HF HT hM
      go_wp2_with fail
      refine (HS1.out w2).mono ?_
      rintro e w3 ⟨rfl, rfl⟩
      go_wp2_with fail
      refine (HS2.out w2).mono ?_
      rintro e w3 ⟨rfl, rfl⟩
      go_upto_region 3 with fail
      go_quiet ((go_at_call 23; exact Calls.quiet_of_same ((HM.out _).mono fun e w' hh => ⟨hh.1, hh.2.symm⟩)))
      go_wp2_with fail
      go_ret
      exact ⟨ret_int HBB.out.symm, HB2.out.trans ((below_drewN _ _).mono HB2.out.size)⟩
  · have hb := HF.out (fun h => hc h.1)
    have hd : decide c.Ok = false := decide_eq_false hc
    rw [hd] at HRR
    clear hd hc
    go_wp2_with fail
    refine (HRR.out w1).mono ?_
    rintro e w2 ⟨rfl, b2⟩
    go_wp2_with fail
    go_ret
    exact ⟨ret_int hb.symm, HB1.out.trans (b2.mono HB1.out.size)⟩
end Go.Proofs.Ytblipabemghdbaa
