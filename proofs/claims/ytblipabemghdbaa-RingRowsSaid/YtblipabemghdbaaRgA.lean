/- Rings: the document's own Put. -/
import Derived.Test.YtblipabemghdbaaRg
import Derived.BigRegion
namespace Go.Proofs.Ytblipabemghdbaa
open Go.RowKit Go.Proofs
set_option linter.unusedVariables false
set_option linter.unusedSimpArgs false
set_option linter.unnecessarySimpa false

theorem RecAt.c2 {w : World} {x : Nat} {a b : Value} {t : TypeId} (k : RecAt w x #[a, b] t) : w.cell? ⟨x, 0, none⟩ = some a ∧ w.cell? ⟨x, 1, none⟩ = some b := ⟨k.cell rfl, k.cell rfl⟩
theorem RecAt.e5 {w : World} {x : Nat} {a b c d e : Value} {t : TypeId} (k : RecAt w x #[a, b, c, d, e] t) : w.cell? ⟨x, 0, none⟩ = some a ∧ w.cell? ⟨x, 1, none⟩ = some b ∧ w.cell? ⟨x, 2, none⟩ = some c ∧ w.cell? ⟨x, 3, none⟩ = some d ∧ w.cell? ⟨x, 4, none⟩ = some e :=
  ⟨k.cell rfl, k.cell rfl, k.cell rfl, k.cell rfl, k.cell rfl⟩
/-- The cell of Used[j]. -/
theorem fl_cell {w : World} {x : Nat} {f : Fl} {t : TypeId} (h : RecAt w x (flC f) t) {j : Nat} (hj : j < 4) : w.cell? ⟨x, 1 + j, none⟩ = some (.int .i64 (f.at (j : Nat))) := by
  match j, hj with
  | 0, _ => exact h.cell rfl
  | 1, _ => exact h.cell rfl
  | 2, _ => exact h.cell rfl
  | 3, _ => exact h.cell rfl
theorem fl_set {w : World} {x : Nat} {f : Fl} {t : TypeId} (h : RecAt w x (flC f) t) {j : Nat} (hj : j < 4) (v : Int) : RecAt (w.setCell ⟨x, 1 + j, none⟩ (.int .i64 v)) x (flC (f.put (j : Nat) v)) t := by
  have h2 := h.set (1 + j) (.int .i64 v)
  match j, hj with
  | 0, _ => exact h2
  | 1, _ => exact h2
  | 2, _ => exact h2
  | 3, _ => exact h2
theorem In_all {f : Fl} {m : Int} (h : ∀ j : Nat, j < 4 → 0 ≤ f.at (j : Nat) ∧ f.at (j : Nat) ≤ m) : f.In m := ⟨h 0 (by omega), h 1 (by omega), h 2 (by omega), h 3 (by omega)⟩
/-- A function's four results, two of them in blocks. -/
theorem results_cctt {P : Program} {fn : Func} {a b t u : Nat} {ty tz : TypeId} (hf : fn.results = #[.cell a ty, .cell b tz, .tmp t, .tmp u]) {tmps : Array Value} {w : World} {x y : Nat} {cs ds : Array Value} {d d' : TypeDesc}
    (hx : tmps.getD a undef = .pointer (some ⟨x, 0, none⟩)) (h : RecAt w x cs ty) (hu : P.underlying ty = some d) (hd : d.isRow = true) (hi : (P.info? ty).map (·.size) = some cs.toList.length)
    (hy : tmps.getD b undef = .pointer (some ⟨y, 0, none⟩)) (h' : RecAt w y ds tz) (hu' : P.underlying tz = some d') (hd' : d'.isRow = true) (hi' : (P.info? tz).map (·.size) = some ds.toList.length) :
    (results fn tmps).run P w = .ok (.tuple #[.agg cs, .agg ds, tmps.getD t undef, tmps.getD u undef]) w := by
  have hl := run_loadVar_mid (P := P) w x 0 ty cs.toList d h.range hu hd hi
  have hl' := run_loadVar_mid (P := P) w y 0 tz ds.toList d' h'.range hu' hd' hi'
  simp only [Array.toArray_toList] at hl hl'
  rw [Array.getD_eq_getD_getElem?] at hx hy
  simp [results, hf, hx, hy, asAddr, hl, hl']
theorem five_recsR (w : World) (c1 c2 c3 c4 c5 : Array Value) (t1 t2 t3 t4 t5 : TypeId) : ∀ W, ((((w.alloc (.cells c1 t1)).alloc (.cells c2 t2)).alloc (.cells c3 t3)).alloc (.cells c4 t4)).alloc (.cells c5 t5) = W →
    RecAt W w.heap.size c1 t1 ∧ RecAt W (w.heap.size + 1) c2 t2 ∧ RecAt W (w.heap.size + 1 + 1) c3 t3 ∧ RecAt W (w.heap.size + 1 + 1 + 1) c4 t4 ∧ RecAt W (w.heap.size + 1 + 1 + 1 + 1) c5 t5 ∧ Below w.heap.size w W := by
  intro W hW
  have b2 := fun (v : World) (o : Obj) => (Below.refl v.heap.size v).alloc (Nat.le_refl _) o
  have s1 : ∀ (v : World) (o : Obj), (v.alloc o).heap.size = v.heap.size + 1 := fun v o => by simp
  obtain ⟨p1, p2, p3⟩ := two_recsR w c1 c2 t1 t2
  have z2 : ((w.alloc (.cells c1 t1)).alloc (.cells c2 t2)).heap.size = w.heap.size + 1 + 1 := by simp
  generalize (w.alloc (.cells c1 t1)).alloc (.cells c2 t2) = w2 at *
  obtain ⟨q1, q2, q3⟩ := two_recsR w2 c3 c4 t3 t4
  have z4 : ((w2.alloc (.cells c3 t3)).alloc (.cells c4 t4)).heap.size = w.heap.size + 1 + 1 + 1 + 1 := by simp [z2]
  generalize (w2.alloc (.cells c3 t3)).alloc (.cells c4 t4) = w4 at *
  have r1 := RecAt.new w4 c5 t5
  have r3 := b2 w4 (.cells c5 t5)
  rw [hW] at r1 r3
  rw [z2] at q1 q2
  rw [z4] at r1
  have k2 := p3.trans ((q3.trans (r3.mono q3.size)).mono p3.size)
  exact ⟨(p1.later q3).later r3, (p2.later q3).later r3, q1.later r3, q2.later r3, r1, k2⟩
theorem arr5 {Z : Array Value} (h : Z.size = 5) : ∃ a b c d e, Z = #[a, b, c, d, e] := by
  obtain ⟨l⟩ := Z
  match l, h with
  | [a, b, c, d, e], _ => exact ⟨a, b, c, d, e, rfl⟩
theorem arr2 {Z : Array Value} (h : Z.size = 2) : ∃ a b, Z = #[a, b] := by
  obtain ⟨l⟩ := Z
  match l, h with
  | [a, b], _ => exact ⟨a, b, rfl⟩
theorem seven_sets {w0 w : World} {B x y : Nat} {t u : TypeId} {Z5 Z2 : Array Value} (a b c d e g h : Value) (h8 : RecAt w x Z5 t) (z5 : Z5.size = 5) (h9 : RecAt w y Z2 u) (z2 : Z2.size = 2) (hne : x ≠ y) (hx : B ≤ x) (hy : B ≤ y) (hb : Below B w0 w) : ∀ W, (((((((w.setCell ⟨x, 0, none⟩ a).setCell ⟨x, 1, none⟩ b).setCell ⟨x, 2, none⟩ c).setCell ⟨x, 3, none⟩ d).setCell ⟨x, 4, none⟩ e).setCell ⟨y, 0, none⟩ g).setCell ⟨y, 1, none⟩ h).drew = W →
    RecAt W x #[a, b, c, d, e] t ∧ RecAt W y #[g, h] u ∧ Below B w0 W := by
  intro W hW
  subst hW
  obtain ⟨p0, p1, p2, p3, p4, rfl⟩ := arr5 z5
  obtain ⟨q0, q1, rfl⟩ := arr2 z2
  have r1 := ((((((((h8.set 0 a).set 1 b).set 2 c).set 3 d).set 4 e).other hne 0 g).other hne 1 h).later (Below.refl _ _).drew)
  have r2 := (((((((h9.other hne.symm 0 a).other hne.symm 1 b).other hne.symm 2 c).other hne.symm 3 d).other hne.symm 4 e).set 0 g).set 1 h).later (Below.refl _ _).drew
  have b1 := (((((((hb.setCell (p := ⟨x, 0, none⟩) hx a).setCell (p := ⟨x, 1, none⟩) hx b).setCell (p := ⟨x, 2, none⟩) hx c).setCell (p := ⟨x, 3, none⟩) hx d).setCell (p := ⟨x, 4, none⟩) hx e).setCell (p := ⟨y, 0, none⟩) hy g).setCell (p := ⟨y, 1, none⟩) hy h).drew
  simp only [List.setIfInBounds_toArray, List.set_cons_zero, List.set_cons_succ] at r1 r2
  exact ⟨r1, r2, b1⟩
-- HEAD
theorem Below.grown2 {B : Nat} {w w1 w2 w3 : World} {x y : Nat} (h : Below B w w1) (g : w1.grownBy w2 (some x)) (g2 : w2.grownBy w3 (some y)) (hx : B ≤ x) (hy : B ≤ y) (hB : B ≤ w.heap.size := by exact Nat.le_refl _) : Below B w w3 :=
  (h.grown g (Nat.le_trans hB h.size) (fun k e => by cases e; exact hx)).grown g2 (Nat.le_trans hB (h.grown g (Nat.le_trans hB h.size) (fun k e => by cases e; exact hx)).size) (fun k e => by cases e; exact hy)
set_option maxRecDepth 20000 in
set_option maxHeartbeats 12800000 in
theorem rput10_any (c : Rg) (f : Fl) (q n : Int) (w : World) : Calls Try.prog 9 #[rgV c, flV f, .int .i64 q, .int .i64 n] w fun e w' => e = .returned (.tuple #[flV (putR c f q n).1, pcV (putR c f q n).2.1, .bool (putR c f q n).2.2.1, .bool (putR c f q n).2.2.2]) ∧ Below w.heap.size w w' := by
  obtain ⟨w1, hw1⟩ : ∃ W, ((((w.alloc (.cells (rgC c) 23)).alloc (.cells (flC f) 26)).alloc (.cells #[.int .i64 0, .int .i64 0, .int .i64 0, .int .i64 0, .int .i64 0] 26)).alloc (.cells #[.int .i64 0, .int .i64 0] 28)).alloc (.cells #[.int .i64 0, .int .i64 0, .int .i64 0, .int .i64 0, .int .i64 0] 26) = W := ⟨_, rfl⟩
  obtain ⟨X4, X5, X8, X9, X12, B1⟩ := five_recsR w _ _ _ _ _ _ _ _ _ _ w1 hw1
  have HX4 := Lib.hid X4
  have HX5 := Lib.hid X5
  have HX8 := Lib.hid X8
  have HX9 := Lib.hid X9
  have HX12 := Lib.hid X12
  have HB1 := Lib.hid B1
  clear X4 X5 X8 X9 X12 B1
  have HRR := Lib.hid (fun W => rright10_any c W)
  obtain ⟨Q, hQ⟩ : ∃ Q, (fun e w' => e = Ending.returned (.tuple #[flV (putR c f q n).1, pcV (putR c f q n).2.1, .bool (putR c f q n).2.2.1, .bool (putR c f q n).2.2.2]) ∧ Below w.heap.size w w') = Q := ⟨_, rfl⟩
  rw [hQ]
  have HQN : Hid (¬ PutOk c f q n → ∀ w', Below w.heap.size w w' → Q (.returned (.tuple #[.agg #[.int .i64 0, .int .i64 0, .int .i64 0, .int .i64 0, .int .i64 0], .agg #[.int .i64 0, .int .i64 0], .bool false, .bool false])) w') := Lib.hid (fun h w' hb => by rw [← hQ, putR_no h]; exact ⟨rfl, hb⟩)
  have HQY : Hid (∀ F P b, PutOk c f q n → putR c f q n = (F, P, b, true) → ∀ w', Below w.heap.size w w' → Q (.returned (.tuple #[flV F, pcV P, .bool b, .bool true])) w') := Lib.hid (fun F P b h h2 w' hb => by rw [← hQ, h2]; exact ⟨rfl, hb⟩)
  clear hQ
  go_enter Try.func9, Try.ntmps9
  go_upto_region 2 with fail
  try rw [hw1]
  clear hw1
  obtain ⟨P12, hP12⟩ : ∃ P, w.heap.size + 1 + 1 + 1 + 1 = P := ⟨_, rfl⟩
  obtain ⟨P9, hP9⟩ : ∃ P, w.heap.size + 1 + 1 + 1 = P := ⟨_, rfl⟩
  obtain ⟨P8, hP8⟩ : ∃ P, w.heap.size + 1 + 1 = P := ⟨_, rfl⟩
  obtain ⟨P5, hP5⟩ : ∃ P, w.heap.size + 1 = P := ⟨_, rfl⟩
  obtain ⟨P4, hP4⟩ : ∃ P, w.heap.size = P := ⟨_, rfl⟩
  have HPS : Hid (w.heap.size ≤ P4 ∧ P4 < P5 ∧ P5 < P8 ∧ P8 < P9 ∧ P9 < P12) := Lib.hid (by omega)
  rw [hP12] at HX12 ⊢
  rw [hP9] at HX9 ⊢
  rw [hP8] at HX8 ⊢
  rw [hP5] at HX5 ⊢
  rw [hP4]
  rw [hP4] at HX4
  clear hP12 hP9 hP8 hP5 hP4
  obtain ⟨a0, a1, a2⟩ := HX4.out.c3
  by_cases hc : c.Ok
  case neg =>
    have hno : ¬ PutOk c f q n := fun h => hc h.1
    rw [decide_eq_false hc] at HRR
    clear hc
    go_wp2_with fail
    refine (HRR.out w1).mono ?_
    rintro e w2 ⟨rfl, b2⟩
    have HB2 := Lib.hid (HB1.out.trans (b2.mono HB1.out.size))
    have HX82 := Lib.hid (HX8.out.later b2)
    have HX92 := Lib.hid (HX9.out.later b2)
    obtain ⟨z0, z1, z2, z3, z4⟩ := (HX12.out.later b2).e5
    go_wp2_with (first
      | (refine wpList_rec rfl rfl P8 #[.int .i64 0, .int .i64 0, .int .i64 0, .int .i64 0, .int .i64 0] #[.int .i64 0, .int .i64 0, .int .i64 0, .int .i64 0, .int .i64 0] rfl rfl HX82.out rfl (by kernel_rfl) (by kernel_rfl) ?_; intro wf r1 r2 r3 r4; have HX9f := Lib.hid (RecAt.keep HX92.out r3 (by have := HPS.out; omega)))
      | (refine wpList_rec rfl rfl P9 #[.int .i64 0, .int .i64 0] #[.int .i64 0, .int .i64 0] rfl rfl HX9f.out rfl (by kernel_rfl) (by kernel_rfl) ?_; intro wg s1 s2 s3 s4))
    refine bodyPost_ret (results_cctt rfl rfl (r1.keep s3 (by have := HPS.out; omega)) Try.underlying26 rfl (by kernel_rfl) rfl s1 Try.underlying28 rfl (by kernel_rfl)) rfl ?_
    exact HQN.out hno _ (Below.grown2 HB2.out r4 s4 (by have := HPS.out; omega) (by have := HPS.out; omega))
  have HC := Lib.hid hc
  rw [decide_eq_true hc] at HRR
  have hsp : c.sp ≠ 0 := by have := hc.1; omega
  clear hc
  go_wp2_with fail
  refine (HRR.out w1).mono ?_
  rintro e w2 ⟨rfl, b2⟩
  have HB2 := Lib.hid (HB1.out.trans (b2.mono HB1.out.size))
  have HX42 := Lib.hid (HX4.out.later b2)
  have HX52 := Lib.hid (HX5.out.later b2)
  have HX82 := Lib.hid (HX8.out.later b2)
  have HX92 := Lib.hid (HX9.out.later b2)
  have HX122 := Lib.hid (HX12.out.later b2)
  clear b2 a0 a1 a2 HRR HX4 HX5 HX8 HX9 HX12 HB1
  obtain ⟨z0, z1, z2, z3, z4⟩ := HX122.out.e5
  obtain ⟨a0, a1, a2⟩ := HX42.out.c3
  obtain ⟨y0, y1, y2, y3, y4⟩ := HX52.out.e5
  cases d1 : decide (f.set < 0) with
  | true =>
    have hno : ¬ PutOk c f q n := fun h => by unfold PutOk at h; simp at d1; omega
    go_wp2_with (first
      | (refine wpList_rec rfl rfl P8 #[.int .i64 0, .int .i64 0, .int .i64 0, .int .i64 0, .int .i64 0] #[.int .i64 0, .int .i64 0, .int .i64 0, .int .i64 0, .int .i64 0] rfl rfl HX82.out rfl (by kernel_rfl) (by kernel_rfl) ?_; intro wf r1 r2 r3 r4; have HX9f := Lib.hid (RecAt.keep HX92.out r3 (by have := HPS.out; omega)))
      | (refine wpList_rec rfl rfl P9 #[.int .i64 0, .int .i64 0] #[.int .i64 0, .int .i64 0] rfl rfl HX9f.out rfl (by kernel_rfl) (by kernel_rfl) ?_; intro wg s1 s2 s3 s4))
    refine bodyPost_ret (results_cctt rfl rfl (r1.keep s3 (by have := HPS.out; omega)) Try.underlying26 rfl (by kernel_rfl) rfl s1 Try.underlying28 rfl (by kernel_rfl)) rfl ?_
    exact HQN.out hno _ (Below.grown2 HB2.out r4 s4 (by have := HPS.out; omega) (by have := HPS.out; omega))
  | false =>
  cases d2 : decide (1073741824 ≤ f.set) with
  | true =>
    have hno : ¬ PutOk c f q n := fun h => by unfold PutOk at h; simp at d2; omega
    go_wp2_with (first
      | (refine wpList_rec rfl rfl P8 #[.int .i64 0, .int .i64 0, .int .i64 0, .int .i64 0, .int .i64 0] #[.int .i64 0, .int .i64 0, .int .i64 0, .int .i64 0, .int .i64 0] rfl rfl HX82.out rfl (by kernel_rfl) (by kernel_rfl) ?_; intro wf r1 r2 r3 r4; have HX9f := Lib.hid (RecAt.keep HX92.out r3 (by have := HPS.out; omega)))
      | (refine wpList_rec rfl rfl P9 #[.int .i64 0, .int .i64 0] #[.int .i64 0, .int .i64 0] rfl rfl HX9f.out rfl (by kernel_rfl) (by kernel_rfl) ?_; intro wg s1 s2 s3 s4))
    refine bodyPost_ret (results_cctt rfl rfl (r1.keep s3 (by have := HPS.out; omega)) Try.underlying26 rfl (by kernel_rfl) rfl s1 Try.underlying28 rfl (by kernel_rfl)) rfl ?_
    exact HQN.out hno _ (Below.grown2 HB2.out r4 s4 (by have := HPS.out; omega) (by have := HPS.out; omega))
  | false =>
  cases d3 : decide (q < 1) with
  | true =>
    have hno : ¬ PutOk c f q n := fun h => by unfold PutOk at h; simp at d3; omega
    go_wp2_with (first
      | (refine wpList_rec rfl rfl P8 #[.int .i64 0, .int .i64 0, .int .i64 0, .int .i64 0, .int .i64 0] #[.int .i64 0, .int .i64 0, .int .i64 0, .int .i64 0, .int .i64 0] rfl rfl HX82.out rfl (by kernel_rfl) (by kernel_rfl) ?_; intro wf r1 r2 r3 r4; have HX9f := Lib.hid (RecAt.keep HX92.out r3 (by have := HPS.out; omega)))
      | (refine wpList_rec rfl rfl P9 #[.int .i64 0, .int .i64 0] #[.int .i64 0, .int .i64 0] rfl rfl HX9f.out rfl (by kernel_rfl) (by kernel_rfl) ?_; intro wg s1 s2 s3 s4))
    refine bodyPost_ret (results_cctt rfl rfl (r1.keep s3 (by have := HPS.out; omega)) Try.underlying26 rfl (by kernel_rfl) rfl s1 Try.underlying28 rfl (by kernel_rfl)) rfl ?_
    exact HQN.out hno _ (Below.grown2 HB2.out r4 s4 (by have := HPS.out; omega) (by have := HPS.out; omega))
  | false =>
  cases d4 : decide (1099511627776 < q) with
  | true =>
    have hno : ¬ PutOk c f q n := fun h => by unfold PutOk at h; simp at d4; omega
    go_wp2_with (first
      | (refine wpList_rec rfl rfl P8 #[.int .i64 0, .int .i64 0, .int .i64 0, .int .i64 0, .int .i64 0] #[.int .i64 0, .int .i64 0, .int .i64 0, .int .i64 0, .int .i64 0] rfl rfl HX82.out rfl (by kernel_rfl) (by kernel_rfl) ?_; intro wf r1 r2 r3 r4; have HX9f := Lib.hid (RecAt.keep HX92.out r3 (by have := HPS.out; omega)))
      | (refine wpList_rec rfl rfl P9 #[.int .i64 0, .int .i64 0] #[.int .i64 0, .int .i64 0] rfl rfl HX9f.out rfl (by kernel_rfl) (by kernel_rfl) ?_; intro wg s1 s2 s3 s4))
    refine bodyPost_ret (results_cctt rfl rfl (r1.keep s3 (by have := HPS.out; omega)) Try.underlying26 rfl (by kernel_rfl) rfl s1 Try.underlying28 rfl (by kernel_rfl)) rfl ?_
    exact HQN.out hno _ (Below.grown2 HB2.out r4 s4 (by have := HPS.out; omega) (by have := HPS.out; omega))
  | false =>
  cases d5 : decide (n < 1) with
  | true =>
    have hno : ¬ PutOk c f q n := fun h => by unfold PutOk at h; simp at d5; omega
    go_wp2_with (first
      | (refine wpList_rec rfl rfl P8 #[.int .i64 0, .int .i64 0, .int .i64 0, .int .i64 0, .int .i64 0] #[.int .i64 0, .int .i64 0, .int .i64 0, .int .i64 0, .int .i64 0] rfl rfl HX82.out rfl (by kernel_rfl) (by kernel_rfl) ?_; intro wf r1 r2 r3 r4; have HX9f := Lib.hid (RecAt.keep HX92.out r3 (by have := HPS.out; omega)))
      | (refine wpList_rec rfl rfl P9 #[.int .i64 0, .int .i64 0] #[.int .i64 0, .int .i64 0] rfl rfl HX9f.out rfl (by kernel_rfl) (by kernel_rfl) ?_; intro wg s1 s2 s3 s4))
    refine bodyPost_ret (results_cctt rfl rfl (r1.keep s3 (by have := HPS.out; omega)) Try.underlying26 rfl (by kernel_rfl) rfl s1 Try.underlying28 rfl (by kernel_rfl)) rfl ?_
    exact HQN.out hno _ (Below.grown2 HB2.out r4 s4 (by have := HPS.out; omega) (by have := HPS.out; omega))
  | false =>
  cases d6 : decide (90 < n) with
  | true =>
    have hno : ¬ PutOk c f q n := fun h => by unfold PutOk at h; simp at d6; omega
    go_wp2_with (first
      | (refine wpList_rec rfl rfl P8 #[.int .i64 0, .int .i64 0, .int .i64 0, .int .i64 0, .int .i64 0] #[.int .i64 0, .int .i64 0, .int .i64 0, .int .i64 0, .int .i64 0] rfl rfl HX82.out rfl (by kernel_rfl) (by kernel_rfl) ?_; intro wf r1 r2 r3 r4; have HX9f := Lib.hid (RecAt.keep HX92.out r3 (by have := HPS.out; omega)))
      | (refine wpList_rec rfl rfl P9 #[.int .i64 0, .int .i64 0] #[.int .i64 0, .int .i64 0] rfl rfl HX9f.out rfl (by kernel_rfl) (by kernel_rfl) ?_; intro wg s1 s2 s3 s4))
    refine bodyPost_ret (results_cctt rfl rfl (r1.keep s3 (by have := HPS.out; omega)) Try.underlying26 rfl (by kernel_rfl) rfl s1 Try.underlying28 rfl (by kernel_rfl)) rfl ?_
    exact HQN.out hno _ (Below.grown2 HB2.out r4 s4 (by have := HPS.out; omega) (by have := HPS.out; omega))
  | false =>
  have HNB : Hid ((0 ≤ f.set ∧ f.set < 1073741824) ∧ (1 ≤ q ∧ q ≤ 1099511627776) ∧ (1 ≤ n ∧ n ≤ 90)) := Lib.hid (by simp at d1 d2 d3 d4 d5 d6; omega)
  have hq0 : 0 ≤ q := by have := HNB.out; omega
  go_upto_region 4 with fail
  clear d1 d2 d3 d4 d5 d6 y0 y1 y2 y3 y4 a0 a1 a2 z0 z1 z2 z3 z4
  go_wp2_with fail
  go_loopw [13] (fun i wr => ∃ j : Nat, i = .int .i64 (j : Nat) ∧ j ≤ 4 ∧ Hid (RecAt wr P4 (rgC c) 23) ∧ Hid (RecAt wr P5 (flC f) 26) ∧ Hid (RecAt wr P8 #[.int .i64 0, .int .i64 0, .int .i64 0, .int .i64 0, .int .i64 0] 26) ∧ Hid (RecAt wr P9 #[.int .i64 0, .int .i64 0] 28) ∧ Hid (RecAt wr P12 #[.int .i64 0, .int .i64 0, .int .i64 0, .int .i64 0, .int .i64 0] 26) ∧ Hid (Below w.heap.size w wr) ∧ Hid (∀ k : Nat, k < j → 0 ≤ f.at (k : Nat) ∧ f.at (k : Nat) ≤ c.sz)) (fun i _ => 4 - (intOf i).toNat)
  case atStart => exact ⟨0, rfl, by omega, HX42, HX52, HX82, HX92, HX122, HB2, Lib.hid (fun k h => by omega)⟩
  case round =>
    clear HX42 HX52 HX82 HX92 HX122 HB2
    obtain ⟨j, rfl, hj, HX4, HX5, HX8, HX9, HX12, HB, HA⟩ := hrel
    by_cases hj4 : (j : Int) < 4
    · have u0 := fl_cell HX5.out (j := j) (by omega)
      obtain ⟨a0, a1, a2⟩ := HX4.out.c3
      obtain ⟨U, hU⟩ : ∃ U, f.at (j : Nat) = U := ⟨_, rfl⟩
      rw [hU] at u0
      have HU := Lib.hid hU
      clear hU
      cases du : decide (U < 0) with
      | true =>
        have hno : ¬ PutOk c f q n := fun h => by have := Fl.at_in h.2.2.2.2 (j : Nat); rw [HU.out] at this; simp at du; omega
        go_upto_region 7 with fail
        go_quiet (fail)
        have z0 := fun nq => (HX12.out.later (below_drewN wr nq)).e5.1
        have z1 := fun nq => (HX12.out.later (below_drewN wr nq)).e5.2.1
        have z2 := fun nq => (HX12.out.later (below_drewN wr nq)).e5.2.2.1
        have z3 := fun nq => (HX12.out.later (below_drewN wr nq)).e5.2.2.2.1
        have z4 := fun nq => (HX12.out.later (below_drewN wr nq)).e5.2.2.2.2
        go_wp2_with (first
          | (refine wpList_rec rfl rfl P8 #[.int .i64 0, .int .i64 0, .int .i64 0, .int .i64 0, .int .i64 0] #[.int .i64 0, .int .i64 0, .int .i64 0, .int .i64 0, .int .i64 0] rfl rfl (HX8.out.later (below_drewN wr _)) rfl (by kernel_rfl) (by kernel_rfl) ?_; intro wf r1 r2 r3 r4; have HX9f := Lib.hid (RecAt.keep (HX9.out.later (below_drewN wr _)) r3 (by have := HPS.out; omega)))
          | (refine wpList_rec rfl rfl P9 #[.int .i64 0, .int .i64 0] #[.int .i64 0, .int .i64 0] rfl rfl HX9f.out rfl (by kernel_rfl) (by kernel_rfl) ?_; intro wg s1 s2 s3 s4))
        refine bodyPost_ret (results_cctt rfl rfl (r1.keep s3 (by have := HPS.out; omega)) Try.underlying26 rfl (by kernel_rfl) rfl s1 Try.underlying28 rfl (by kernel_rfl)) rfl ?_
        exact HQN.out hno _ (Below.grown2 (HB.out.trans ((below_drewN wr _).mono HB.out.size)) r4 s4 (by have := HPS.out; omega) (by have := HPS.out; omega))
      | false =>
      cases dv : decide (c.sz < U) with
      | true =>
        have hno : ¬ PutOk c f q n := fun h => by have := Fl.at_in h.2.2.2.2 (j : Nat); rw [HU.out] at this; simp at dv; omega
        go_upto_region 7 with fail
        go_quiet (fail)
        have z0 := fun nq => (HX12.out.later (below_drewN wr nq)).e5.1
        have z1 := fun nq => (HX12.out.later (below_drewN wr nq)).e5.2.1
        have z2 := fun nq => (HX12.out.later (below_drewN wr nq)).e5.2.2.1
        have z3 := fun nq => (HX12.out.later (below_drewN wr nq)).e5.2.2.2.1
        have z4 := fun nq => (HX12.out.later (below_drewN wr nq)).e5.2.2.2.2
        go_wp2_with (first
          | (refine wpList_rec rfl rfl P8 #[.int .i64 0, .int .i64 0, .int .i64 0, .int .i64 0, .int .i64 0] #[.int .i64 0, .int .i64 0, .int .i64 0, .int .i64 0, .int .i64 0] rfl rfl (HX8.out.later (below_drewN wr _)) rfl (by kernel_rfl) (by kernel_rfl) ?_; intro wf r1 r2 r3 r4; have HX9f := Lib.hid (RecAt.keep (HX9.out.later (below_drewN wr _)) r3 (by have := HPS.out; omega)))
          | (refine wpList_rec rfl rfl P9 #[.int .i64 0, .int .i64 0] #[.int .i64 0, .int .i64 0] rfl rfl HX9f.out rfl (by kernel_rfl) (by kernel_rfl) ?_; intro wg s1 s2 s3 s4))
        refine bodyPost_ret (results_cctt rfl rfl (r1.keep s3 (by have := HPS.out; omega)) Try.underlying26 rfl (by kernel_rfl) rfl s1 Try.underlying28 rfl (by kernel_rfl)) rfl ?_
        exact HQN.out hno _ (Below.grown2 (HB.out.trans ((below_drewN wr _).mono HB.out.size)) r4 s4 (by have := HPS.out; omega) (by have := HPS.out; omega))
      | false =>
        have HA2 : Hid (∀ k : Nat, k < j + 1 → 0 ≤ f.at (k : Nat) ∧ f.at (k : Nat) ≤ c.sz) := Lib.hid (fun k hk => by
          by_cases e : k = j
          · subst e; rw [HU.out]; simp at du dv; omega
          · exact HA.out k (by omega))
        go_upto_region 7 with fail
        go_quiet (fail)
        go_wp2_with fail
        go_roundw
        case rel => exact ⟨j + 1, by go_num, by omega, Lib.hid (HX4.out.later (below_drewN wr _)), Lib.hid (HX5.out.later (below_drewN wr _)), Lib.hid (HX8.out.later (below_drewN wr _)), Lib.hid (HX9.out.later (below_drewN wr _)), Lib.hid (HX12.out.later (below_drewN wr _)), Lib.hid (HB.out.trans ((below_drewN wr _).mono HB.out.size)), HA2⟩
        case measure => simp [intOf]; omega
    · have hj4' : j = 4 := by omega
      have HOK : Hid (PutOk c f q n) := Lib.hid ⟨HC.out, HNB.out.1, HNB.out.2.1, HNB.out.2.2, In_all (by rw [← hj4']; exact HA.out)⟩
      obtain ⟨a0, a1, a2⟩ := HX4.out.c3
      obtain ⟨K, hK, hK4⟩ : ∃ K : Nat, q % c.sp = (K : Nat) ∧ K < 4 := by
        have := Rg.mod HC.out q
        exact ⟨(q % c.sp).toNat, by omega, by omega⟩
      have hw1 : IntKind.i64.wrap (n + 22) = n + 22 := by have := HNB.out; rw [IntKind.wrap_i64]; omega
      obtain ⟨V, hV⟩ : ∃ V, f.at (K : Nat) = V := ⟨_, rfl⟩
      have hVr : 0 ≤ V ∧ V ≤ 4096 := by rw [← hV]; have h1 := Fl.at_in HOK.out.2.2.2.2 (K : Nat); have := HC.out.2.2; omega
      have hw2 : IntKind.i64.wrap (V + (n + 22)) = V + (n + 22) := by have := HNB.out; rw [IntKind.wrap_i64]; omega
      have u0 := fl_cell HX5.out (j := K) hK4
      rw [hV] at u0
      have HK := Lib.hid hK
      have HV := Lib.hid hV
      clear hV
      subst hj4'
      cases dl : decide (V + (n + 22) ≤ c.sz) with
      | true =>
        have HE : Hid (putR c f q n = (f.put (K : Nat) (V + (n + 22)), ⟨f.set, (K : Nat)⟩, false, true)) := Lib.hid (by
          have h2 : f.at (q % c.sp) + (n + 22) ≤ c.sz := by rw [HK.out, HV.out]; simpa using dl
          rw [putR_in HOK.out h2, HK.out, HV.out])
        go_upto_region 11 with fail
        go_quiet (fail)
        obtain ⟨wq, hwq⟩ : ∃ W, wr.drewN nq = W := ⟨_, rfl⟩
        have HX5q := Lib.hid (HX5.out.later (below_drewN wr nq))
        have HX8q := Lib.hid (HX8.out.later (below_drewN wr nq))
        have HX9q := Lib.hid (HX9.out.later (below_drewN wr nq))
        have HBq := Lib.hid (HB.out.trans ((below_drewN wr nq).mono HB.out.size))
        rw [hwq] at HX5q HX8q HX9q HBq ⊢
        clear hwq HX4 HX5 HX8 HX9 HX12 HB HA a0 a1 a2 u0 hq0 hsp
        have u0 := fl_cell HX5q.out (j := K) hK4
        rw [HV.out] at u0
        have f0 := HX5q.out.frozen (1 + K)
        have y0 := HX5q.out.cell (i := 0) rfl
        go_upto_region 13 with fail
        have HX5s := Lib.hid (fl_set HX5q.out hK4 (V + (n + 22)))
        have HX8s := Lib.hid (HX8q.out.other (y := P5) (by have := HPS.out; omega) (1 + K) (.int .i64 (V + (n + 22))))
        have HX9s := Lib.hid (HX9q.out.other (y := P5) (by have := HPS.out; omega) (1 + K) (.int .i64 (V + (n + 22))))
        have HBs := Lib.hid (HBq.out.setCell (p := ⟨P5, 1 + K, none⟩) (by have := HPS.out; simp only; omega) (.int .i64 (V + (n + 22))))
        generalize (wq.setCell ⟨P5, 1 + K, none⟩ (.int .i64 (V + (n + 22)))) = ws at *
        obtain ⟨F, hF⟩ : ∃ F, f.put (K : Nat) (V + (n + 22)) = F := ⟨_, rfl⟩
        have hFs : f.set = F.set := by rw [← hF, Fl.put_set]
        rw [hF] at HX5s HE
        rw [hFs] at HE
        clear hF u0 f0 y0 HX5q HX8q HX9q HBq
        obtain ⟨y0, y1, y2, y3, y4⟩ := HX5s.out.e5
        obtain ⟨b0, b1, b2, b3, b4⟩ := HX8s.out.e5
        obtain ⟨e0, e1⟩ := HX9s.out.c2
        have g0 := HX8s.out.frozen 0
        have g1 := HX8s.out.frozen 1
        have g2 := HX8s.out.frozen 2
        have g3 := HX8s.out.frozen 3
        have g4 := HX8s.out.frozen 4
        have k0 := HX9s.out.frozen 0
        have k1 := HX9s.out.frozen 1
        obtain ⟨hne1, hne2, hne3, hne4, hne5, hne6⟩ : P8 ≠ P9 ∧ P9 ≠ P8 ∧ P5 ≠ P8 ∧ P8 ≠ P5 ∧ P5 ≠ P9 ∧ P9 ≠ P5 := by have := HPS.out; omega
        go_region
        obtain ⟨wf, hwf⟩ : ∃ W, (((((((ws.setCell ⟨P8, 0, none⟩ (.int .i64 F.set)).setCell ⟨P8, 1, none⟩ (.int .i64 F.u0)).setCell ⟨P8, 2, none⟩ (.int .i64 F.u1)).setCell ⟨P8, 3, none⟩ (.int .i64 F.u2)).setCell ⟨P8, 4, none⟩ (.int .i64 F.u3)).setCell ⟨P9, 0, none⟩ (.int .i64 F.set)).setCell ⟨P9, 1, none⟩ (.int .i64 (K : Nat))).drew = W := ⟨_, rfl⟩
        obtain ⟨r8, r9, bf⟩ := seven_sets _ _ _ _ _ _ _ HX8s.out rfl HX9s.out rfl hne1 (by have := HPS.out; omega) (by have := HPS.out; omega) HBs.out wf hwf
        rw [hwf]
        clear hwf
        have HR8 := Lib.hid r8
        have HR9 := Lib.hid r9
        have HBF := Lib.hid bf
        clear r8 r9 bf b0 b1 b2 b3 b4 e0 e1 g0 g1 g2 g3 g4 k0 k1 y0 y1 y2 y3 y4
        go_wp2_with fail
        refine bodyPost_ret (results_cctt rfl rfl HR8.out Try.underlying26 rfl (by kernel_rfl) rfl HR9.out Try.underlying28 rfl (by kernel_rfl)) rfl ?_
        exact HQY.out _ _ _ HOK.out HE.out _ HBF.out
      | false =>
        have HE : Hid (putR c f q n = ((⟨f.set + 1, 0, 0, 0, 0⟩ : Fl).put (K : Nat) (n + 22), ⟨f.set + 1, (K : Nat)⟩, true, true)) := Lib.hid (by
          have h2 : ¬ f.at (q % c.sp) + (n + 22) ≤ c.sz := by rw [HK.out, HV.out]; simpa using dl
          rw [putR_on HOK.out h2, HK.out])
        have hw3 : IntKind.i64.wrap (f.set + 1) = f.set + 1 := by have := HNB.out; rw [IntKind.wrap_i64]; omega
        go_upto_region 11 with fail
        go_quiet (fail)
        obtain ⟨wq, hwq⟩ : ∃ W, wr.drewN nq = W := ⟨_, rfl⟩
        have HX5q := Lib.hid (HX5.out.later (below_drewN wr nq))
        have HX8q := Lib.hid (HX8.out.later (below_drewN wr nq))
        have HX9q := Lib.hid (HX9.out.later (below_drewN wr nq))
        have HX12q := Lib.hid (HX12.out.later (below_drewN wr nq))
        have HBq := Lib.hid (HB.out.trans ((below_drewN wr nq).mono HB.out.size))
        rw [hwq] at HX5q HX8q HX9q HX12q HBq ⊢
        clear hwq HX4 HX5 HX8 HX9 HX12 HB HA a0 a1 a2 u0 hq0 hsp
        have y0 := HX5q.out.cell (i := 0) rfl
        go_upto_region 15 with fail
        have hba : Below wq.heap.size wq (wq.alloc (.cells (flC ⟨f.set + 1, 0, 0, 0, 0⟩) 26)) := (Below.refl _ _).alloc (Nat.le_refl _) _
        have HX16 := Lib.hid (RecAt.new wq (flC ⟨f.set + 1, 0, 0, 0, 0⟩) 26)
        have HX8b := Lib.hid (HX8q.out.later hba)
        have HX9b := Lib.hid (HX9q.out.later hba)
        have HBb := Lib.hid (HBq.out.trans (hba.mono HBq.out.size))
        have HP16 : Hid (P12 < wq.heap.size) := Lib.hid HX12q.out.lt
        generalize (wq.alloc (.cells (flC ⟨f.set + 1, 0, 0, 0, 0⟩) 26)) = wb at *
        obtain ⟨P16, hP16⟩ : ∃ P, wq.heap.size = P := ⟨_, rfl⟩
        rw [hP16] at HX16 HP16
        rw [hP16]
        clear hP16 hba y0 HX5q HX8q HX9q HX12q HBq
        have u0 := fl_cell HX16.out (j := K) hK4
        have f0 := HX16.out.frozen (1 + K)
        have y0 := HX16.out.cell (i := 0) rfl
        obtain ⟨V0, hV0⟩ : ∃ V, Fl.at ⟨f.set + 1, 0, 0, 0, 0⟩ (K : Nat) = V := ⟨_, rfl⟩
        rw [hV0] at u0
        clear hV0
        go_upto_region 16 with fail
        have HX16s := Lib.hid (fl_set HX16.out hK4 (n + 22))
        have HX8s := Lib.hid (HX8b.out.other (y := P16) (by have := HPS.out; have := HP16.out; omega) (1 + K) (.int .i64 (n + 22)))
        have HX9s := Lib.hid (HX9b.out.other (y := P16) (by have := HPS.out; have := HP16.out; omega) (1 + K) (.int .i64 (n + 22)))
        have HBs := Lib.hid (HBb.out.setCell (p := ⟨P16, 1 + K, none⟩) (by have := HPS.out; have := HP16.out; simp only; omega) (.int .i64 (n + 22)))
        generalize (wb.setCell ⟨P16, 1 + K, none⟩ (.int .i64 (n + 22))) = ws at *
        obtain ⟨F, hF⟩ : ∃ F, (⟨f.set + 1, 0, 0, 0, 0⟩ : Fl).put (K : Nat) (n + 22) = F := ⟨_, rfl⟩
        have hFs : f.set + 1 = F.set := by rw [← hF, Fl.put_set]
        rw [hF] at HX16s HE
        rw [hFs] at HE
        clear hF u0 f0 y0 HX16 HX8b HX9b HBb
        obtain ⟨y0, y1, y2, y3, y4⟩ := HX16s.out.e5
        obtain ⟨b0, b1, b2, b3, b4⟩ := HX8s.out.e5
        obtain ⟨e0, e1⟩ := HX9s.out.c2
        have g0 := HX8s.out.frozen 0
        have g1 := HX8s.out.frozen 1
        have g2 := HX8s.out.frozen 2
        have g3 := HX8s.out.frozen 3
        have g4 := HX8s.out.frozen 4
        have k0 := HX9s.out.frozen 0
        have k1 := HX9s.out.frozen 1
        obtain ⟨hne1, hne2, hne3, hne4, hne5, hne6⟩ : P8 ≠ P9 ∧ P9 ≠ P8 ∧ P16 ≠ P8 ∧ P8 ≠ P16 ∧ P16 ≠ P9 ∧ P9 ≠ P16 := by have := HPS.out; have := HP16.out; omega
        go_region
        obtain ⟨wf, hwf⟩ : ∃ W, (((((((ws.setCell ⟨P8, 0, none⟩ (.int .i64 F.set)).setCell ⟨P8, 1, none⟩ (.int .i64 F.u0)).setCell ⟨P8, 2, none⟩ (.int .i64 F.u1)).setCell ⟨P8, 3, none⟩ (.int .i64 F.u2)).setCell ⟨P8, 4, none⟩ (.int .i64 F.u3)).setCell ⟨P9, 0, none⟩ (.int .i64 F.set)).setCell ⟨P9, 1, none⟩ (.int .i64 (K : Nat))).drew = W := ⟨_, rfl⟩
        obtain ⟨r8, r9, bf⟩ := seven_sets _ _ _ _ _ _ _ HX8s.out rfl HX9s.out rfl hne1 (by have := HPS.out; omega) (by have := HPS.out; omega) HBs.out wf hwf
        rw [hwf]
        clear hwf
        have HR8 := Lib.hid r8
        have HR9 := Lib.hid r9
        have HBF := Lib.hid bf
        clear r8 r9 bf b0 b1 b2 b3 b4 e0 e1 g0 g1 g2 g3 g4 k0 k1 y0 y1 y2 y3 y4
        go_wp2_with fail
        refine bodyPost_ret (results_cctt rfl rfl HR8.out Try.underlying26 rfl (by kernel_rfl) rfl HR9.out Try.underlying28 rfl (by kernel_rfl)) rfl ?_
        exact HQY.out _ _ _ HOK.out HE.out _ HBF.out
end Go.Proofs.Ytblipabemghdbaa
