/- Rings: what comes in; the law's Shape; its own example. -/
import Derived.Test.YtblipabemghdbaaRgS
namespace Go.Proofs.Ytblipabemghdbaa
open Go.RowKit Go.Proofs
set_option linter.unusedVariables false
set_option linter.unusedSimpArgs false
set_option linter.unnecessarySimpa false

/-- An array of numbers. -/
theorem Opens.ints {w : World} {t e : TypeId} {n : Nat} (ht : Try.prog.underlying t = some (.array n e)) (he : Try.prog.underlying e = some (.int .i64)) (hc : Try.prog.cellsOf e = 1) (hn : Try.prog.cellsOf t = n) : Opens w t (fun cs (l : List Int) => l.length = n ∧ (∀ z ∈ l, inI z) ∧ cs = l.map fun z => Value.int .i64 z) := fun H enc fuel cs x h => by
  obtain ⟨xs, m, _, _, hl, hxl, hf⟩ := DataW.trod_array ht h
  rw [hn] at hl
  have h1 : ∀ i, i < n → ∃ z : Int, cs[i]? = some (.int .i64 z) ∧ inI z := fun i hi => by
    have h2 := hf i hi
    rw [List.getElem?_eq_getElem (by omega), hc, Nat.mul_one] at h2
    obtain ⟨z, hz, hwz⟩ := Opens.int (w := w) (k := .i64) he H enc _ _ _ h2
    refine ⟨z, ?_, wf_i64 hwz⟩
    have h3 := congrArg (fun l : List Value => l[0]?) hz
    simp only [List.getElem?_cons_zero] at h3
    rw [List.getElem?_take, if_pos (by decide), List.getElem?_drop] at h3
    exact h3
  obtain ⟨l, hll, hp⟩ := exists_list (P := fun i (z : Int) => cs[i]? = some (.int .i64 z) ∧ inI z) n h1
  refine ⟨l, hll, fun z hz => by
    obtain ⟨i, hi⟩ := List.mem_iff_getElem?.1 hz
    exact (hp i z hi).2, List.ext_getElem? fun i => ?_⟩
  rw [List.getElem?_map]
  by_cases hi : i < n
  · rw [List.getElem?_eq_getElem (l := l) (by omega), (hp i _ (List.getElem?_eq_getElem (l := l) (by omega))).1]; rfl
  · rw [List.getElem?_eq_none (by omega), List.getElem?_eq_none (by omega)]; rfl
def RgE (cs : List Value) (c : Rg) : Prop := cs = [.int .i64 c.sp, .int .i64 c.st, .int .i64 c.sz] ∧ c.In
def FlE (cs : List Value) (f : Fl) : Prop := cs = [.int .i64 f.set, .int .i64 f.u0, .int .i64 f.u1, .int .i64 f.u2, .int .i64 f.u3] ∧ f.InI
def PcE (cs : List Value) (p : Pc) : Prop := cs = [.int .i64 p.set, .int .i64 p.obj] ∧ p.In
set_option maxRecDepth 20000 in
theorem opens_rg {w : World} : Opens w 23 RgE :=
  Opens.fields Try.underlying23 (by kernel_rfl : Try.prog.cellsOf 23 = 3) fun cs hl hf => by
    obtain ⟨x0, h0, e_0⟩ := hf 0 _ rfl _ _ (Opens.int (k := .i64) Try.underlying3)
    obtain ⟨x1, h1, e_1⟩ := hf 1 _ rfl _ _ (Opens.int (k := .i64) Try.underlying3)
    obtain ⟨x2, h2, e_2⟩ := hf 2 _ rfl _ _ (Opens.int (k := .i64) Try.underlying3)
    refine ⟨⟨x0, x1, x2⟩, ?_, wf_i64 e_0, wf_i64 e_1, wf_i64 e_2⟩
    have e1 : Try.prog.cellsOf 3 = 1 := by kernel_rfl
    match cs, hl with
    | [a, b, c], _ =>
      simp [e1] at h0
      simp [e1] at h1
      simp [e1] at h2
      simp [h0, h1, h2]
set_option maxRecDepth 20000 in
theorem opens_pc {w : World} : Opens w 28 PcE :=
  Opens.fields Try.underlying28 (by kernel_rfl : Try.prog.cellsOf 28 = 2) fun cs hl hf => by
    obtain ⟨x0, h0, e_0⟩ := hf 0 _ rfl _ _ (Opens.int (k := .i64) Try.underlying3)
    obtain ⟨x1, h1, e_1⟩ := hf 1 _ rfl _ _ (Opens.int (k := .i64) Try.underlying3)
    refine ⟨⟨x0, x1⟩, ?_, wf_i64 e_0, wf_i64 e_1⟩
    have e1 : Try.prog.cellsOf 3 = 1 := by kernel_rfl
    match cs, hl with
    | [a, b], _ =>
      simp [e1] at h0
      simp [e1] at h1
      simp [h0, h1]
set_option maxRecDepth 20000 in
theorem opens_fl {w : World} : Opens w 26 FlE :=
  Opens.fields Try.underlying26 (by kernel_rfl : Try.prog.cellsOf 26 = 5) fun cs hl hf => by
    obtain ⟨x0, h0, e_0⟩ := hf 0 _ rfl _ _ (Opens.int (k := .i64) Try.underlying3)
    obtain ⟨x1, h1, h1b, h2⟩ := hf 1 _ rfl _ _ (Opens.ints (w := w) Try.underlying24 Try.underlying3 (by kernel_rfl) (by kernel_rfl))
    have e1 : Try.prog.cellsOf 3 = 1 := by kernel_rfl
    have e2 : Try.prog.cellsOf 24 = 4 := by kernel_rfl
    match cs, hl, x1, h1 with
    | [y0, y1, y2, y3, y4], _, [a, b, c, d], _ =>
      simp [e1] at h0
      simp [e2] at h2
      exact ⟨⟨x0, a, b, c, d⟩, by simp [h0, h2], wf_i64 e_0, h1b a (by simp), h1b b (by simp), h1b c (by simp), h1b d (by simp)⟩
theorem RgE.open {cs : Array Value} {c : Rg} (k : RgE cs.toList c) : cs = rgC c := by rw [← Array.toArray_toList (xs := cs), k.1]
theorem FlE.open {cs : Array Value} {c : Fl} (k : FlE cs.toList c) : cs = flC c := by rw [← Array.toArray_toList (xs := cs), k.1]
theorem PcE.open {cs : Array Value} {c : Pc} (k : PcE cs.toList c) : cs = pcC c := by rw [← Array.toArray_toList (xs := cs), k.1]
/-- A fill is equal to itself. -/
theorem fl_arr (w : World) (f : Fl) : (Op.equalIn 9999 24 (.agg #[.int .i64 f.u0, .int .i64 f.u1, .int .i64 f.u2, .int .i64 f.u3]) (.agg #[.int .i64 f.u0, .int .i64 f.u1, .int .i64 f.u2, .int .i64 f.u3])).run Try.prog w = .ok true w := by
  have u3 := Try.underlying3
  have a3 := Try.isAgg3
  have z3 := Try.sizeOf3
  have u4 := Try.underlying24
  have a4 := Try.isAgg24
  have z4 := Try.sizeOf24
  rw [show (9999 : Nat) = 9998 + 1 from rfl]
  unfold Op.equalIn
  go_simp
  simp only [show List.range' 0 4 = [0, 1, 2, 3] from rfl, List.forIn_cons, List.forIn_nil]
  go_simp
theorem fl_same_in (w : World) (f : Fl) : (Op.equalIn 10000 26 (flV f) (flV f)).run Try.prog w = .ok true w := by
  have u3 := Try.underlying3
  have a3 := Try.isAgg3
  have z3 := Try.sizeOf3
  have u4 := Try.underlying24
  have a4 := Try.isAgg24
  have z4 := Try.sizeOf24
  have harr := fl_arr w f
  have hS : Try.prog.underlying 26 = some (.struct (Try.prog.fieldsOf 26)) := by kernel_rfl
  have hp : Try.prog.stoodInHeld 26 = false := by kernel_rfl
  rw [show (10000 : Nat) = 9999 + 1 from rfl, run_equalIn_agg w 9999 26 _ _ hS hp]
  simp only [Program.fieldsOf, Try.underlying26]
  go_simp
theorem fl_same (w : World) (f : Fl) : (binOp .eql 26 (flV f) (flV f)).run Try.prog w = .ok (.bool true) w := by
  rw [run_eql_struct, fl_same_in]; rfl
theorem fl_guard (w : World) (op : BinOp) (x y : Operand) (xs ys : Array Value) : (eqGuard op 26 x y (.agg xs) (.agg ys)).run Try.prog w = .ok () w := run_eqGuard_agg w op _ x y xs ys (by kernel_rfl)
theorem pc_same (w : World) (p : Pc) : (binOp .eql 28 (pcV p) (pcV p)).run Try.prog w = .ok (.bool true) w := by
  have := pc_eql w p p
  simpa using this
/-! ### the law's Shape -/
set_option maxRecDepth 20000 in
set_option maxHeartbeats 1600000 in
theorem shape10_any (a b c : Int) (w : World) : Calls Try.prog 15 #[.int .i64 a, .int .i64 b, .int .i64 c] w fun e w' => ∃ s : Rg, e = .returned (rgV s) ∧ s.Ok ∧ Below w.heap.size w w' := by
  have HB1 := Lib.hid ((Below.refl w.heap.size w).alloc (Nat.le_refl _) (.cells #[.int .i64 0, .int .i64 0, .int .i64 0] 23))
  have HX1 := Lib.hid (RecAt.new w #[.int .i64 0, .int .i64 0, .int .i64 0] 23)
  obtain ⟨x, hx⟩ : ∃ z, bits .and .i64 a 3 = z := ⟨_, rfl⟩
  have hxr : 0 ≤ x ∧ x ≤ 3 := by rw [← hx]; exact and_range a 3 (by decide)
  obtain ⟨y, hy⟩ : ∃ z, bits .and .i64 b 255 = z := ⟨_, rfl⟩
  have hyr : 0 ≤ y ∧ y ≤ 255 := by rw [← hy]; exact and_range b 255 (by decide)
  obtain ⟨z, hz⟩ : ∃ z, bits .and .i64 c 65535 = z := ⟨_, rfl⟩
  have hzr : 0 ≤ z ∧ z ≤ 65535 := by rw [← hz]; exact and_range c 65535 (by decide)
  go_enter Try.func15, Try.ntmps15
  go_upto_region 1 with fail
  generalize (w.alloc (.cells #[.int .i64 0, .int .i64 0, .int .i64 0] 23)) = w1 at *
  obtain ⟨P, hP⟩ : ∃ P, w.heap.size = P := ⟨_, rfl⟩
  have HP := Lib.hid hP
  rw [hP]
  rw [hP] at HX1
  clear hP
  go_wp2_with (refine wpList_rec rfl rfl P #[.int .i64 0, .int .i64 0, .int .i64 0] #[.int .i64 (1 + x), .int .i64 (4 + y % 5), .int .i64 (512 + z % 3585)] rfl rfl HX1.out rfl (by kernel_rfl) (by kernel_rfl) ?_; intro w8 r1 r2 r3 r4)
  refine bodyPost_ret (results_c rfl rfl r1 Try.underlying23 rfl (by kernel_rfl)) rfl ?_
  exact ⟨⟨1 + x, 4 + y % 5, 512 + z % 3585⟩, rfl, by unfold Rg.Ok; simp only; omega, HB1.out.grown r4 HB1.out.size (fun k e => by cases e; exact Nat.le_of_eq HP.out)⟩
/-! ### known -/
def kRg : Rg := ⟨2, 4, 512⟩
theorem kRg_ok : kRg.Ok := by unfold Rg.Ok kRg; decide
theorem kPut : putR kRg noFl 1 10 = (⟨0, 0, 32, 0, 0⟩, ⟨0, 1⟩, false, true) := by decide
theorem kNum : numR kRg ⟨5, 1⟩ = 3 := by decide
theorem kSets : setsR kRg 0 [] = [] := by decide
theorem noRg : decide (Rg.Ok ⟨0, 0, 0⟩) = false := by decide
set_option maxRecDepth 20000 in
set_option maxHeartbeats 6400000 in
theorem knownRg_any (w : World) : Calls Try.prog 14 #[] w fun e w' => e = .returned (.bool true) ∧ Below w.heap.size w w' := by
  have HB1 := Lib.hid ((Below.refl w.heap.size w).alloc (Nat.le_refl _) (.cells #[.int .i64 2, .int .i64 4, .int .i64 512] 23))
  have HX1 := Lib.hid (RecAt.new w #[.int .i64 2, .int .i64 4, .int .i64 512] 23)
  have HPU := Lib.hid (fun W => ringput_any kRg noFl 1 10 kRg_ok.in noFl_in (by unfold inI; decide) (by unfold inI; decide) W)
  rw [kPut] at HPU
  have HRR := Lib.hid (fun W => ringright_any kRg kRg_ok.in W)
  rw [decide_eq_true kRg_ok] at HRR
  have HRN := Lib.hid (fun W => ringright_any ⟨0, 0, 0⟩ (by unfold Rg.In inI; decide) W)
  rw [noRg] at HRN
  have HNU := Lib.hid (fun W => ringnum_any kRg ⟨5, 1⟩ kRg_ok.in (by unfold Pc.In inI; decide) W)
  rw [kNum] at HNU
  have HSE := Lib.hid (fun W => ringsets_any kRg 0 none 0 0 [] kRg_ok.in (by unfold inI; decide) W ⟨Nat.le_refl _, by simp [maxLen], fun _ => rfl, fun z h => (by cases h), fun x h => (by cases h)⟩ rfl (by decide))
  rw [kSets] at HSE
  simp only [kRg, noFl] at HPU HRR HNU HSE
  go_enter Try.func14, Try.ntmps14
  go_upto_region 2 with fail
  generalize (w.alloc (.cells #[.int .i64 2, .int .i64 4, .int .i64 512] 23)) = w1 at *
  obtain ⟨P1, hP1⟩ : ∃ P, w.heap.size = P := ⟨_, rfl⟩
  rw [hP1]
  rw [hP1] at HX1
  clear hP1
  obtain ⟨y0, y1, y2⟩ := HX1.out.c3
  go_wp2_with fail
  refine (HPU.out w1).mono ?_
  rintro e w2 ⟨rfl, b2⟩
  obtain ⟨A2, A3, B3⟩ := two_recsR w2 (flC ⟨0, 0, 32, 0, 0⟩) (pcC ⟨0, 1⟩) 26 28
  have HA2 := Lib.hid A2
  have HA3 := Lib.hid A3
  have HX3 := Lib.hid ((HX1.out.later b2).later B3)
  have HB2 := HB1.out.trans (b2.mono HB1.out.size)
  have HB3 := Lib.hid (HB2.trans (B3.mono HB2.size))
  clear A2 A3 B3 b2 HB2 y0 y1 y2
  simp only [flC, pcC] at HA2 HA3 HX3 HB3
  go_upto_region 3 with fail
  generalize ((w2.alloc (.cells #[.int .i64 0, .int .i64 0, .int .i64 32, .int .i64 0, .int .i64 0] 26)).alloc (.cells #[.int .i64 0, .int .i64 1] 28)) = w3 at *
  obtain ⟨P3, hP3⟩ : ∃ P, w2.heap.size + 1 = P := ⟨_, rfl⟩
  rw [hP3] at HA3 ⊢
  clear hP3
  obtain ⟨P2, hP2⟩ : ∃ P, w2.heap.size = P := ⟨_, rfl⟩
  rw [hP2] at HA2
  rw [hP2]
  clear hP2
  obtain ⟨y0, y1, y2⟩ := HX3.out.c3
  go_wp2_with fail
  refine (HRR.out w3).mono ?_
  rintro e w4 ⟨rfl, b4⟩
  go_wp2_with fail
  refine (HRN.out w4).mono ?_
  rintro e w5 ⟨rfl, b5⟩
  have HX5 := Lib.hid ((HX3.out.later b4).later b5)
  have HA25 := Lib.hid ((HA2.out.later b4).later b5)
  have HA35 := Lib.hid ((HA3.out.later b4).later b5)
  have b45 := b4.trans (b5.mono b4.size)
  have HB5 := Lib.hid (HB3.out.trans (b45.mono HB3.out.size))
  clear b4 b5 b45 y0 y1 y2 HX3 HA2 HA3
  obtain ⟨y0, y1, y2⟩ := HX5.out.c3
  obtain ⟨x0, x1⟩ := HA35.out.c2
  obtain ⟨z0, z1, z2, z3, z4⟩ := HA25.out.e5
  go_wp2_with fail
  refine (HNU.out w5).mono ?_
  rintro e w6 ⟨rfl, b6⟩
  have HX6 := Lib.hid (HX5.out.later b6)
  have HB6 := Lib.hid (HB5.out.trans (b6.mono HB5.out.size))
  clear b6 y0 y1 y2 x0 x1 z0 z1 z2 z3 z4 HX5 HA25 HA35
  obtain ⟨y0, y1, y2⟩ := HX6.out.c3
  go_wp2_with fail
  refine (HSE.out w6).mono ?_
  rintro e w7 ⟨v7, rfl, o7⟩
  obtain ⟨a7, c7, rfl, _⟩ := o7.row_n pcOk (n := 0) rfl
  have HB7 := Lib.hid (HB6.out.trans (o7.below.mono HB6.out.size))
  go_wp2_with fail
  go_ret
  exact ⟨rfl, HB7.out⟩
end Go.Proofs.Ytblipabemghdbaa
