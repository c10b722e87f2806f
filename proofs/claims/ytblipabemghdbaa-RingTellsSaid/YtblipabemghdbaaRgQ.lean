/- Rings: the program's own Put. -/
import Derived.Test.YtblipabemghdbaaRgP
import Derived.BigRegion
namespace Go.Proofs.Ytblipabemghdbaa
open Go.RowKit Go.Proofs
set_option linter.unusedVariables false
set_option linter.unusedSimpArgs false
set_option linter.unnecessarySimpa false

theorem results_cct {P : Program} {fn : Func} {a b t : Nat} {ty tz : TypeId} (hf : fn.results = #[.cell a ty, .cell b tz, .tmp t]) {tmps : Array Value} {w : World} {x y : Nat} {cs ds : Array Value} {d d' : TypeDesc}
    (hx : tmps.getD a undef = .pointer (some ⟨x, 0, none⟩)) (h : RecAt w x cs ty) (hu : P.underlying ty = some d) (hd : d.isRow = true) (hi : (P.info? ty).map (·.size) = some cs.toList.length)
    (hy : tmps.getD b undef = .pointer (some ⟨y, 0, none⟩)) (h' : RecAt w y ds tz) (hu' : P.underlying tz = some d') (hd' : d'.isRow = true) (hi' : (P.info? tz).map (·.size) = some ds.toList.length) :
    (results fn tmps).run P w = .ok (.tuple #[.agg cs, .agg ds, tmps.getD t undef]) w := by
  have hl := run_loadVar_mid (P := P) w x 0 ty cs.toList d h.range hu hd hi
  have hl' := run_loadVar_mid (P := P) w y 0 tz ds.toList d' h'.range hu' hd' hi'
  simp only [Array.toArray_toList] at hl hl'
  rw [Array.getD_eq_getD_getElem?] at hx hy
  simp [results, hf, hx, hy, asAddr, hl, hl']
theorem four_recsR (w : World) (c1 c2 c3 c4 : Array Value) (t1 t2 t3 t4 : TypeId) : ∀ W, (((w.alloc (.cells c1 t1)).alloc (.cells c2 t2)).alloc (.cells c3 t3)).alloc (.cells c4 t4) = W →
    RecAt W w.heap.size c1 t1 ∧ RecAt W (w.heap.size + 1) c2 t2 ∧ RecAt W (w.heap.size + 1 + 1) c3 t3 ∧ RecAt W (w.heap.size + 1 + 1 + 1) c4 t4 ∧ Below w.heap.size w W := by
  intro W hW
  obtain ⟨p1, p2, p3⟩ := two_recsR w c1 c2 t1 t2
  have z2 : ((w.alloc (.cells c1 t1)).alloc (.cells c2 t2)).heap.size = w.heap.size + 1 + 1 := by simp
  generalize (w.alloc (.cells c1 t1)).alloc (.cells c2 t2) = w2 at *
  obtain ⟨q1, q2, q3⟩ := two_recsR w2 c3 c4 t3 t4
  rw [hW, z2] at q1 q2
  rw [hW] at q3
  exact ⟨p1.later q3, p2.later q3, q1, q2, p3.trans (q3.mono p3.size)⟩
set_option maxRecDepth 20000 in
set_option maxHeartbeats 12800000 in
theorem ringput_any (c : Rg) (f : Fl) (q n : Int) (hci : c.In) (hfi : f.InI) (hqi : inI q) (hni : inI n) (w : World) : Calls Try.prog 8 #[rgV c, flV f, .int .i64 q, .int .i64 n] w fun e w' => e = .returned (.tuple #[flV (putR c f q n).1, pcV (putR c f q n).2.1, .bool (putR c f q n).2.2.1]) ∧ Below w.heap.size w w' := by
  obtain ⟨w1, hw1⟩ : ∃ W, (((w.alloc (.cells (rgC c) 23)).alloc (.cells (flC f) 26)).alloc (.cells #[.int .i64 0, .int .i64 0, .int .i64 0, .int .i64 0, .int .i64 0] 26)).alloc (.cells #[.int .i64 0, .int .i64 0] 28) = W := ⟨_, rfl⟩
  obtain ⟨X4, X5, X8, X9, B1⟩ := four_recsR w _ _ _ _ _ _ _ _ w1 hw1
  have HX4 := Lib.hid X4
  have HX5 := Lib.hid X5
  have HX8 := Lib.hid X8
  have HX9 := Lib.hid X9
  have HB1 := Lib.hid B1
  clear X4 X5 X8 X9 B1
  have HRR := Lib.hid (fun W => ringright_any c hci W)
  have HRF := Lib.hid (fun (h : c.Ok) W => rightFill_any c h f hfi W)
  have HB1q := Lib.hid (fun W => between_any q 1 1099511627776 hqi (by decide) (by decide) (by decide) W)
  have HB1n := Lib.hid (fun W => between_any n 1 90 hni (by decide) (by decide) (by decide) W)
  obtain ⟨Q, hQ⟩ : ∃ Q, (fun e w' => e = Ending.returned (.tuple #[flV (putR c f q n).1, pcV (putR c f q n).2.1, .bool (putR c f q n).2.2.1]) ∧ Below w.heap.size w w') = Q := ⟨_, rfl⟩
  rw [hQ]
  have HQN : Hid (¬ PutOk c f q n → ∀ w', Below w.heap.size w w' → Q (.returned (.tuple #[.agg #[.int .i64 0, .int .i64 0, .int .i64 0, .int .i64 0, .int .i64 0], .agg #[.int .i64 0, .int .i64 0], .bool false])) w') := Lib.hid (fun h w' hb => by rw [← hQ, putR_no h]; exact ⟨rfl, hb⟩)
  have HQY : Hid (∀ F P b, PutOk c f q n → putR c f q n = (F, P, b, true) → ∀ w', Below w.heap.size w w' → Q (.returned (.tuple #[flV F, pcV P, .bool b])) w') := Lib.hid (fun F P b h h2 w' hb => by rw [← hQ, h2]; exact ⟨rfl, hb⟩)
  clear hQ
  go_enter Try.func8, Try.ntmps8
  go_upto_region 1 with fail
  try rw [hw1]
  clear hw1
  obtain ⟨P9, hP9⟩ : ∃ P, w.heap.size + 1 + 1 + 1 = P := ⟨_, rfl⟩
  obtain ⟨P8, hP8⟩ : ∃ P, w.heap.size + 1 + 1 = P := ⟨_, rfl⟩
  obtain ⟨P5, hP5⟩ : ∃ P, w.heap.size + 1 = P := ⟨_, rfl⟩
  obtain ⟨P4, hP4⟩ : ∃ P, w.heap.size = P := ⟨_, rfl⟩
  have HPS : Hid (w.heap.size ≤ P4 ∧ P4 < P5 ∧ P5 < P8 ∧ P8 < P9) := Lib.hid (by omega)
  rw [hP9] at HX9 ⊢
  rw [hP8] at HX8 ⊢
  rw [hP5] at HX5 ⊢
  rw [hP4]
  rw [hP4] at HX4
  clear hP9 hP8 hP5 hP4
  obtain ⟨a0, a1, a2⟩ := HX4.out.c3
  obtain ⟨y0, y1, y2, y3, y4⟩ := HX5.out.e5
  by_cases hc : c.Ok
  case neg =>
    have hno : ¬ PutOk c f q n := fun h => hc h.1
    rw [decide_eq_false hc] at HRR
    clear hc
    go_wp2_with fail
    refine (HRR.out w1).mono ?_
    rintro e w2 ⟨rfl, b2⟩
    have HB2 := Lib.hid (HB1.out.trans (b2.mono HB1.out.size))
    have HX82 := Lib.hid (HX8.out.later b2)
    have HX92 := Lib.hid (HX9.out.later b2)
    go_wp2_with (first
      | (refine wpList_rec rfl rfl P8 #[.int .i64 0, .int .i64 0, .int .i64 0, .int .i64 0, .int .i64 0] #[.int .i64 0, .int .i64 0, .int .i64 0, .int .i64 0, .int .i64 0] rfl rfl HX82.out rfl (by kernel_rfl) (by kernel_rfl) ?_; intro wf r1 r2 r3 r4; have HX9f := Lib.hid (RecAt.keep HX92.out r3 (by have := HPS.out; omega)))
      | (refine wpList_rec rfl rfl P9 #[.int .i64 0, .int .i64 0] #[.int .i64 0, .int .i64 0] rfl rfl HX9f.out rfl (by kernel_rfl) (by kernel_rfl) ?_; intro wg s1 s2 s3 s4))
    refine bodyPost_ret (results_cct rfl rfl (r1.keep s3 (by have := HPS.out; omega)) Try.underlying26 rfl (by kernel_rfl) rfl s1 Try.underlying28 rfl (by kernel_rfl)) rfl ?_
    exact HQN.out hno _ (Below.grown2 HB2.out r4 s4 (by have := HPS.out; omega) (by have := HPS.out; omega))
  have HC := Lib.hid hc
  have HRF2 := Lib.hid (HRF.out hc)
  rw [decide_eq_true hc] at HRR
  clear hc HRF
  go_wp2_with fail
  refine (HRR.out w1).mono ?_
  rintro e w2 ⟨rfl, b2⟩
  have HB2 := Lib.hid (HB1.out.trans (b2.mono HB1.out.size))
  have HX42 := Lib.hid (HX4.out.later b2)
  have HX52 := Lib.hid (HX5.out.later b2)
  have HX82 := Lib.hid (HX8.out.later b2)
  have HX92 := Lib.hid (HX9.out.later b2)
  clear b2 a0 a1 a2 y0 y1 y2 y3 y4 HRR HX4 HX5 HX8 HX9 HB1
  obtain ⟨a0, a1, a2⟩ := HX42.out.c3
  obtain ⟨y0, y1, y2, y3, y4⟩ := HX52.out.e5
  cases d1 : decide (f.In c.sz ∧ 0 ≤ f.set ∧ f.set ≤ 1073741823) with
  | false =>
    have hno : ¬ PutOk c f q n := fun h => of_decide_eq_false d1 ⟨h.2.2.2.2, by have := h.2.1; omega⟩
    rw [d1] at HRF2
    clear d1
    go_wp2_with fail
    refine (HRF2.out w2).mono ?_
    rintro e w3 ⟨rfl, b3⟩
    have HB3 := Lib.hid (HB2.out.trans (b3.mono HB2.out.size))
    have HX83 := Lib.hid (HX82.out.later b3)
    have HX93 := Lib.hid (HX92.out.later b3)
    go_wp2_with (first
      | (refine wpList_rec rfl rfl P8 #[.int .i64 0, .int .i64 0, .int .i64 0, .int .i64 0, .int .i64 0] #[.int .i64 0, .int .i64 0, .int .i64 0, .int .i64 0, .int .i64 0] rfl rfl HX83.out rfl (by kernel_rfl) (by kernel_rfl) ?_; intro wf r1 r2 r3 r4; have HX9f := Lib.hid (RecAt.keep HX93.out r3 (by have := HPS.out; omega)))
      | (refine wpList_rec rfl rfl P9 #[.int .i64 0, .int .i64 0] #[.int .i64 0, .int .i64 0] rfl rfl HX9f.out rfl (by kernel_rfl) (by kernel_rfl) ?_; intro wg s1 s2 s3 s4))
    refine bodyPost_ret (results_cct rfl rfl (r1.keep s3 (by have := HPS.out; omega)) Try.underlying26 rfl (by kernel_rfl) rfl s1 Try.underlying28 rfl (by kernel_rfl)) rfl ?_
    exact HQN.out hno _ (Below.grown2 HB3.out r4 s4 (by have := HPS.out; omega) (by have := HPS.out; omega))
  | true =>
  have HNF := Lib.hid (of_decide_eq_true d1)
  rw [d1] at HRF2
  clear d1
  go_wp2_with fail
  refine (HRF2.out w2).mono ?_
  rintro e w3 ⟨rfl, b3⟩
  have HB3 := Lib.hid (HB2.out.trans (b3.mono HB2.out.size))
  have HX43 := Lib.hid (HX42.out.later b3)
  have HX53 := Lib.hid (HX52.out.later b3)
  have HX83 := Lib.hid (HX82.out.later b3)
  have HX93 := Lib.hid (HX92.out.later b3)
  clear b3 a0 a1 a2 y0 y1 y2 y3 y4 HRF2 HX42 HX52 HX82 HX92 HB2
  cases d2 : decide (1 ≤ q ∧ q ≤ 1099511627776) with
  | false =>
    have hno : ¬ PutOk c f q n := fun h => of_decide_eq_false d2 h.2.2.1
    rw [d2] at HB1q
    clear d2
    go_wp2_with fail
    refine (HB1q.out w3).mono ?_
    rintro e w4 ⟨rfl, rfl⟩
    go_wp2_with (first
      | (refine wpList_rec rfl rfl P8 #[.int .i64 0, .int .i64 0, .int .i64 0, .int .i64 0, .int .i64 0] #[.int .i64 0, .int .i64 0, .int .i64 0, .int .i64 0, .int .i64 0] rfl rfl HX83.out rfl (by kernel_rfl) (by kernel_rfl) ?_; intro wf r1 r2 r3 r4; have HX9f := Lib.hid (RecAt.keep HX93.out r3 (by have := HPS.out; omega)))
      | (refine wpList_rec rfl rfl P9 #[.int .i64 0, .int .i64 0] #[.int .i64 0, .int .i64 0] rfl rfl HX9f.out rfl (by kernel_rfl) (by kernel_rfl) ?_; intro wg s1 s2 s3 s4))
    refine bodyPost_ret (results_cct rfl rfl (r1.keep s3 (by have := HPS.out; omega)) Try.underlying26 rfl (by kernel_rfl) rfl s1 Try.underlying28 rfl (by kernel_rfl)) rfl ?_
    exact HQN.out hno _ (Below.grown2 HB3.out r4 s4 (by have := HPS.out; omega) (by have := HPS.out; omega))
  | true =>
  have HNQ := Lib.hid (of_decide_eq_true d2)
  rw [d2] at HB1q
  clear d2
  go_wp2_with fail
  refine (HB1q.out w3).mono ?_
  rintro e w4 ⟨rfl, rfl⟩
  clear HB1q
  cases d3 : decide (1 ≤ n ∧ n ≤ 90) with
  | false =>
    have hno : ¬ PutOk c f q n := fun h => of_decide_eq_false d3 h.2.2.2.1
    rw [d3] at HB1n
    clear d3
    go_wp2_with fail
    refine (HB1n.out w3).mono ?_
    rintro e w4 ⟨rfl, rfl⟩
    go_wp2_with (first
      | (refine wpList_rec rfl rfl P8 #[.int .i64 0, .int .i64 0, .int .i64 0, .int .i64 0, .int .i64 0] #[.int .i64 0, .int .i64 0, .int .i64 0, .int .i64 0, .int .i64 0] rfl rfl HX83.out rfl (by kernel_rfl) (by kernel_rfl) ?_; intro wf r1 r2 r3 r4; have HX9f := Lib.hid (RecAt.keep HX93.out r3 (by have := HPS.out; omega)))
      | (refine wpList_rec rfl rfl P9 #[.int .i64 0, .int .i64 0] #[.int .i64 0, .int .i64 0] rfl rfl HX9f.out rfl (by kernel_rfl) (by kernel_rfl) ?_; intro wg s1 s2 s3 s4))
    refine bodyPost_ret (results_cct rfl rfl (r1.keep s3 (by have := HPS.out; omega)) Try.underlying26 rfl (by kernel_rfl) rfl s1 Try.underlying28 rfl (by kernel_rfl)) rfl ?_
    exact HQN.out hno _ (Below.grown2 HB3.out r4 s4 (by have := HPS.out; omega) (by have := HPS.out; omega))
  | true =>
  have HNN := Lib.hid (of_decide_eq_true d3)
  rw [d3] at HB1n
  clear d3
  have HOK : Hid (PutOk c f q n) := Lib.hid ⟨HC.out, by have := HNF.out.2; omega, HNQ.out, HNN.out, HNF.out.1⟩
  have HMO := Lib.hid (fun W => modulo_any q c.sp (by have := HNQ.out; omega) (by have := HNQ.out; omega) (by have := HC.out.1; omega) (by have := HC.out.1; omega) W)
  have HSI := Lib.hid (fun W => fsize_any n HNN.out W)
  obtain ⟨K, hK, hK4⟩ : ∃ K : Nat, q % c.sp = (K : Nat) ∧ K < 4 := by
    have := Rg.mod HC.out q
    exact ⟨(q % c.sp).toNat, by omega, by omega⟩
  rw [hK] at HMO
  obtain ⟨a0, a1, a2⟩ := HX43.out.c3
  obtain ⟨V, hV⟩ : ∃ V, f.at (K : Nat) = V := ⟨_, rfl⟩
  have hVr : 0 ≤ V ∧ V ≤ 4096 := by rw [← hV]; have h1 := Fl.at_in HOK.out.2.2.2.2 (K : Nat); have := HC.out.2.2; omega
  obtain ⟨S, hS⟩ : ∃ S, n + 22 = S := ⟨_, rfl⟩
  have hSr : 23 ≤ S ∧ S ≤ 112 := by have := HNN.out; omega
  rw [hS] at HSI
  have hw2 : IntKind.i64.wrap (V + S) = V + S := by rw [IntKind.wrap_i64]; omega
  have u0 := fl_cell HX53.out (j := K) hK4
  rw [hV] at u0
  have HK := Lib.hid hK
  have HV := Lib.hid hV
  have HS := Lib.hid hS
  clear hV hS hK HNQ HNN HNF
  go_wp2_with fail
  refine (HB1n.out w3).mono ?_
  rintro e w4 ⟨rfl, rfl⟩
  clear HB1n
  go_wp2_with fail
  refine (HMO.out w3).mono ?_
  rintro e w4 ⟨rfl, rfl⟩
  go_wp2_with fail
  refine (HSI.out w3).mono ?_
  rintro e w4 ⟨rfl, rfl⟩
  clear HMO HSI
  go_upto_region 4 with fail
  cases dl : decide (c.sz < V + S) with
  | false =>
    have HE : Hid (putR c f q n = (f.put (K : Nat) (V + S), ⟨f.set, (K : Nat)⟩, false, true)) := Lib.hid (by
      have h2 : f.at (q % c.sp) + (n + 22) ≤ c.sz := by rw [HK.out, HV.out, HS.out]; simpa using dl
      rw [putR_in HOK.out h2, HK.out, HV.out, HS.out])
    go_quiet (fail)
    obtain ⟨wq, hwq⟩ : ∃ W, w3.drewN nq = W := ⟨_, rfl⟩
    have HX5q := Lib.hid (HX53.out.later (below_drewN w3 nq))
    have HX8q := Lib.hid (HX83.out.later (below_drewN w3 nq))
    have HX9q := Lib.hid (HX93.out.later (below_drewN w3 nq))
    have HBq := Lib.hid (HB3.out.trans ((below_drewN w3 nq).mono HB3.out.size))
    rw [hwq] at HX5q HX8q HX9q HBq ⊢
    clear hwq HX43 HX53 HX83 HX93 HB3 a0 a1 a2 u0
    obtain ⟨G, hG⟩ : ∃ G, f = G := ⟨_, rfl⟩
    have hGs : G.set = f.set := by rw [hG]
    rw [hG] at HX5q
    have u0 := fl_cell HX5q.out (j := K) hK4
    rw [← hG, HV.out] at u0
    have f0 := HX5q.out.frozen (1 + K)
    clear hGs
    subst hG
    go_upto_region 8 with fail
    have HX5s := Lib.hid (fl_set HX5q.out hK4 (V + S))
    have HX8s := Lib.hid (HX8q.out.other (y := P5) (by have := HPS.out; omega) (1 + K) (.int .i64 (V + S)))
    have HX9s := Lib.hid (HX9q.out.other (y := P5) (by have := HPS.out; omega) (1 + K) (.int .i64 (V + S)))
    have HBs := Lib.hid (HBq.out.setCell (p := ⟨P5, 1 + K, none⟩) (by have := HPS.out; simp only; omega) (.int .i64 (V + S)))
    generalize (wq.setCell ⟨P5, 1 + K, none⟩ (.int .i64 (V + S))) = ws at *
    obtain ⟨F, hF⟩ : ∃ F, f.put (K : Nat) (V + S) = F := ⟨_, rfl⟩
    have hFs : f.set = F.set := by rw [← hF, Fl.put_set]
    rw [hF] at HX5s HE
    rw [hFs] at HE
    clear hF u0 f0 HX5q HX8q HX9q HBq
    obtain ⟨y0, y1, y2, y3, y4⟩ := HX5s.out.e5
    obtain ⟨b0, b1, b2, b3, b4⟩ := HX8s.out.e5
    obtain ⟨e0, e1⟩ := HX9s.out.c2
    have g0 := HX8s.out.frozen 0
    have g1 := HX8s.out.frozen 1
    have g2 := HX8s.out.frozen 2
    have g3 := HX8s.out.frozen 3
    have g4 := HX8s.out.frozen 4
    have k0 := HX9s.out.frozen 0
    have k1 := HX9s.out.frozen 1
    obtain ⟨hne1, hne2, hne3, hne4, hne5, hne6⟩ : P8 ≠ P9 ∧ P9 ≠ P8 ∧ P5 ≠ P8 ∧ P8 ≠ P5 ∧ P5 ≠ P9 ∧ P9 ≠ P5 := by have := HPS.out; omega
    go_region
    obtain ⟨wf, hwf⟩ : ∃ W, (((((((ws.setCell ⟨P8, 0, none⟩ (.int .i64 F.set)).setCell ⟨P8, 1, none⟩ (.int .i64 F.u0)).setCell ⟨P8, 2, none⟩ (.int .i64 F.u1)).setCell ⟨P8, 3, none⟩ (.int .i64 F.u2)).setCell ⟨P8, 4, none⟩ (.int .i64 F.u3)).setCell ⟨P9, 0, none⟩ (.int .i64 F.set)).setCell ⟨P9, 1, none⟩ (.int .i64 (K : Nat))).drew = W := ⟨_, rfl⟩
    obtain ⟨r8, r9, bf⟩ := seven_sets _ _ _ _ _ _ _ HX8s.out rfl HX9s.out rfl hne1 (by have := HPS.out; omega) (by have := HPS.out; omega) HBs.out wf hwf
    rw [hwf]
    clear hwf
    have HR8 := Lib.hid r8
    have HR9 := Lib.hid r9
    have HBF := Lib.hid bf
    clear r8 r9 bf b0 b1 b2 b3 b4 e0 e1 g0 g1 g2 g3 g4 k0 k1 y0 y1 y2 y3 y4
    go_wp2_with fail
    refine bodyPost_ret (results_cct rfl rfl HR8.out Try.underlying26 rfl (by kernel_rfl) rfl HR9.out Try.underlying28 rfl (by kernel_rfl)) rfl ?_
    exact HQY.out _ _ _ HOK.out HE.out _ HBF.out
  | true =>
    have HE : Hid (putR c f q n = ((⟨f.set + 1, 0, 0, 0, 0⟩ : Fl).put (K : Nat) S, ⟨f.set + 1, (K : Nat)⟩, true, true)) := Lib.hid (by
      have h2 : ¬ f.at (q % c.sp) + (n + 22) ≤ c.sz := by rw [HK.out, HV.out, HS.out]; simpa using dl
      rw [putR_on HOK.out h2, HK.out, HS.out])
    have hw3 : IntKind.i64.wrap (f.set + 1) = f.set + 1 := by have := HOK.out.2.1; rw [IntKind.wrap_i64]; omega
    go_quiet (fail)
    obtain ⟨wq, hwq⟩ : ∃ W, w3.drewN nq = W := ⟨_, rfl⟩
    have HX5q := Lib.hid (HX53.out.later (below_drewN w3 nq))
    have HX8q := Lib.hid (HX83.out.later (below_drewN w3 nq))
    have HX9q := Lib.hid (HX93.out.later (below_drewN w3 nq))
    have HBq := Lib.hid (HB3.out.trans ((below_drewN w3 nq).mono HB3.out.size))
    rw [hwq] at HX5q HX8q HX9q HBq ⊢
    clear hwq HX43 HX53 HX83 HX93 HB3 a0 a1 a2 u0
    have y0 := HX5q.out.cell (i := 0) rfl
    go_upto_region 7 with (refine wpList_rec rfl rfl P5 (flC f) (flC ⟨f.set + 1, 0, 0, 0, 0⟩) rfl rfl HX5q.out rfl (by kernel_rfl) (by kernel_rfl) ?_; intro w8 r1 r2 r3 r4)
    have HX8b := Lib.hid (RecAt.keep HX8q.out r3 (by have := HPS.out; omega))
    have HX9b := Lib.hid (RecAt.keep HX9q.out r3 (by have := HPS.out; omega))
    have HX5b := Lib.hid r1
    have HBb := Lib.hid (HBq.out.grown r4 HBq.out.size (fun k e => by cases e; have := HPS.out; omega))
    clear r1 r2 r3 r4 HX5q HX8q HX9q HBq y0 hw2
    have u0 := fl_cell HX5b.out (j := K) hK4
    obtain ⟨V0, hV0⟩ : ∃ V, Fl.at ⟨f.set + 1, 0, 0, 0, 0⟩ (K : Nat) = V := ⟨_, rfl⟩
    have hV0' : V0 = 0 := by
      rw [← hV0]; unfold Fl.at; split <;> (try split) <;> (try split) <;> rfl
    rw [hV0, hV0'] at u0
    clear hV0 hV0'
    have hw2 : IntKind.i64.wrap (0 + S) = S := by rw [IntKind.wrap_i64]; omega
    have f0 := HX5b.out.frozen (1 + K)
    go_upto_region 8 with fail
    have HX5s := Lib.hid (fl_set HX5b.out hK4 (S))
    have HX8s := Lib.hid (HX8b.out.other (y := P5) (by have := HPS.out; omega) (1 + K) (.int .i64 (S)))
    have HX9s := Lib.hid (HX9b.out.other (y := P5) (by have := HPS.out; omega) (1 + K) (.int .i64 (S)))
    have HBs := Lib.hid (HBb.out.setCell (p := ⟨P5, 1 + K, none⟩) (by have := HPS.out; simp only; omega) (.int .i64 (S)))
    generalize (w8.setCell ⟨P5, 1 + K, none⟩ (.int .i64 (S))) = ws at *
    obtain ⟨F, hF⟩ : ∃ F, (⟨f.set + 1, 0, 0, 0, 0⟩ : Fl).put (K : Nat) (S) = F := ⟨_, rfl⟩
    have hFs : f.set + 1 = F.set := by rw [← hF, Fl.put_set]
    rw [hF] at HX5s HE
    rw [hFs] at HE
    clear hF u0 f0 HX5b HX8b HX9b HBb
    obtain ⟨y0, y1, y2, y3, y4⟩ := HX5s.out.e5
    obtain ⟨b0, b1, b2, b3, b4⟩ := HX8s.out.e5
    obtain ⟨e0, e1⟩ := HX9s.out.c2
    have g0 := HX8s.out.frozen 0
    have g1 := HX8s.out.frozen 1
    have g2 := HX8s.out.frozen 2
    have g3 := HX8s.out.frozen 3
    have g4 := HX8s.out.frozen 4
    have k0 := HX9s.out.frozen 0
    have k1 := HX9s.out.frozen 1
    obtain ⟨hne1, hne2, hne3, hne4, hne5, hne6⟩ : P8 ≠ P9 ∧ P9 ≠ P8 ∧ P5 ≠ P8 ∧ P8 ≠ P5 ∧ P5 ≠ P9 ∧ P9 ≠ P5 := by have := HPS.out; omega
    go_region
    obtain ⟨wf, hwf⟩ : ∃ W, (((((((ws.setCell ⟨P8, 0, none⟩ (.int .i64 F.set)).setCell ⟨P8, 1, none⟩ (.int .i64 F.u0)).setCell ⟨P8, 2, none⟩ (.int .i64 F.u1)).setCell ⟨P8, 3, none⟩ (.int .i64 F.u2)).setCell ⟨P8, 4, none⟩ (.int .i64 F.u3)).setCell ⟨P9, 0, none⟩ (.int .i64 F.set)).setCell ⟨P9, 1, none⟩ (.int .i64 (K : Nat))).drew = W := ⟨_, rfl⟩
    obtain ⟨r8, r9, bf⟩ := seven_sets _ _ _ _ _ _ _ HX8s.out rfl HX9s.out rfl hne1 (by have := HPS.out; omega) (by have := HPS.out; omega) HBs.out wf hwf
    rw [hwf]
    clear hwf
    have HR8 := Lib.hid r8
    have HR9 := Lib.hid r9
    have HBF := Lib.hid bf
    clear r8 r9 bf b0 b1 b2 b3 b4 e0 e1 g0 g1 g2 g3 g4 k0 k1 y0 y1 y2 y3 y4
    go_wp2_with fail
    refine bodyPost_ret (results_cct rfl rfl HR8.out Try.underlying26 rfl (by kernel_rfl) rfl HR9.out Try.underlying28 rfl (by kernel_rfl)) rfl ?_
    exact HQY.out _ _ _ HOK.out HE.out _ HBF.out
end Go.Proofs.Ytblipabemghdbaa
