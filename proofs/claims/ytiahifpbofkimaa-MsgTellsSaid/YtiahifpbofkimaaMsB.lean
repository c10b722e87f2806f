/- Messages: are two alike? The program's. Printed by gen_msb.py. -/
import Derived.Test.YtiahifpbofkimaaMsA
namespace Go.Proofs.Ytiahifpbofkimaa
open Go.RowKit Go.Proofs
set_option linter.unusedVariables false
set_option linter.unusedSimpArgs false
set_option linter.unnecessarySimpa false

set_option maxRecDepth 20000 in
set_option maxHeartbeats 6400000 in
theorem mssame_any (m g : Ms) (a b : MsAt) (w : World) (h1 : MsRows w m a) (h2 : MsRows w g b) :
    Calls Try.prog 17 #[msV m a, msV g b] w fun e w' => e = .returned (.bool (decide (m = g))) ∧ Below w.heap.size w w' := by
  rw [ms_eq_iff]
  obtain ⟨k1, n1, p1, f1, s1, u1, C1, E1, T1, D1⟩ := m
  obtain ⟨k2, n2, p2, f2, s2, u2, C2, E2, T2, D2⟩ := g
  obtain ⟨ac1, nc1, cc1, ae1, ne1, ce1, am1, nm1, cm1, ad1, nd1, cd1⟩ := a
  obtain ⟨ac2, nc2, cc2, ae2, ne2, ce2, am2, nm2, cm2, ad2, nd2, cd2⟩ := b
  obtain ⟨r1c, r1e, r1t, r1d, n1c, n1e, n1t, n1d⟩ := h1
  obtain ⟨r2c, r2e, r2t, r2d, n2c, n2e, n2t, n2d⟩ := h2
  simp only at *
  obtain ⟨X1, X2, hb2⟩ := two_recsM w #[.int .i64 k1, .int .i64 n1, .int .i64 p1, .int .i64 f1, .int .i64 s1, .int .i64 u1, .slice ac1 nc1 cc1, .slice ae1 ne1 ce1, .slice am1 nm1 cm1, .slice ad1 nd1 cd1] #[.int .i64 k2, .int .i64 n2, .int .i64 p2, .int .i64 f2, .int .i64 s2, .int .i64 u2, .slice ac2 nc2 cc2, .slice ae2 ne2 ce2, .slice am2 nm2 cm2, .slice ad2 nd2 cd2] 27 27
  obtain ⟨wa, hwa⟩ : ∃ W, w.alloc (.cells #[.int .i64 k1, .int .i64 n1, .int .i64 p1, .int .i64 f1, .int .i64 s1, .int .i64 u1, .slice ac1 nc1 cc1, .slice ae1 ne1 ce1, .slice am1 nm1 cm1, .slice ad1 nd1 cd1] 27) = W := ⟨_, rfl⟩
  rw [hwa] at X1 X2 hb2
  obtain ⟨wz, hwb⟩ : ∃ W, wa.alloc (.cells #[.int .i64 k2, .int .i64 n2, .int .i64 p2, .int .i64 f2, .int .i64 s2, .int .i64 u2, .slice ac2 nc2 cc2, .slice ae2 ne2 ce2, .slice am2 nm2 cm2, .slice ad2 nd2 cd2] 27) = W := ⟨_, rfl⟩
  rw [hwb] at X1 X2 hb2
  have hsa : wa.heap.size = w.heap.size + 1 := by rw [← hwa]; simp
  obtain ⟨Y, hY⟩ : ∃ n, wa.heap.size = n := ⟨_, rfl⟩
  rw [← hsa, hY] at X2
  obtain ⟨X, hX⟩ : ∃ n, w.heap.size = n := ⟨_, rfl⟩
  rw [hX] at X1
  clear hsa
  have HX1 := Lib.hid X1
  have HX2 := Lib.hid X2
  have HB0 := Lib.hid hb2
  obtain ⟨x0, x1, x2, x3, x4, x5, x6, x7, x8, x9⟩ := X1.c10
  obtain ⟨y0, y1, y2, y3, y4, y5, y6, y7, y8, y9⟩ := X2.c10
  clear X1 X2 hb2
  have HK1 := Lib.hid (fun W (hb : Below w.heap.size w W) => psame_any ac1 ac2 nc1 nc2 cc1 cc2 C1 C2 W (r1c.later hb) (r2c.later hb) n1c n2c)
  have HK2 := Lib.hid (fun W (hb : Below w.heap.size w W) => eEqual_any ae1 ae2 ne1 ne2 ce1 ce2 E1 E2 W (r1e.later hb) (r2e.later hb) n1e n2e)
  have HK3 := Lib.hid (fun W (hb : Below w.heap.size w W) => mEqual_any am1 am2 nm1 nm2 cm1 cm2 T1 T2 W (r1t.later hb) (r2t.later hb) n1t n2t)
  have HK4 := Lib.hid (fun W (hb : Below w.heap.size w W) => equal_any ad1 ad2 nd1 nd2 cd1 cd2 D1 D2 W (r1d.later hb) (r2d.later hb) n1d n2d)
  clear r1c r1e r1t r1d n1c n1e n1t n1d r2c r2e r2t r2d n2c n2e n2t n2d
  generalize decide (C1 = C2) = B1 at *
  generalize decide (E1 = E2) = B2 at *
  generalize decide (T1 = T2) = B3 at *
  generalize decide (D1 = D2) = B4 at *
  go_enter Try.func17, Try.ntmps17
  cases e0 : (k1 == k2) with
  | false =>
    go_wp2_with fail
    go_ret
    exact ⟨ret_bool (by simp only [Bool.true_and, Bool.false_and]), HB0.out⟩
  | true =>
    cases e1 : (n1 == n2) with
    | false =>
      go_wp2_with fail
      go_ret
      exact ⟨ret_bool (by simp only [Bool.true_and, Bool.false_and]), HB0.out⟩
    | true =>
      cases e2 : (p1 == p2) with
      | false =>
        go_wp2_with fail
        go_ret
        exact ⟨ret_bool (by simp only [Bool.true_and, Bool.false_and]), HB0.out⟩
      | true =>
        cases e3 : (f1 == f2) with
        | false =>
          go_wp2_with fail
          go_ret
          exact ⟨ret_bool (by simp only [Bool.true_and, Bool.false_and]), HB0.out⟩
        | true =>
          cases e4 : (s1 == s2) with
          | false =>
            go_wp2_with fail
            go_ret
            exact ⟨ret_bool (by simp only [Bool.true_and, Bool.false_and]), HB0.out⟩
          | true =>
            cases e5 : (u1 == u2) with
            | false =>
              go_wp2_with fail
              go_ret
              exact ⟨ret_bool (by simp only [Bool.true_and, Bool.false_and]), HB0.out⟩
            | true =>
              cases B1 with
              | false =>
                go_wp2_with (go_at_call 48; refine (HK1.out _ HB0.out).mono ?_; rintro e w6 ⟨rfl, hb6⟩; have HB1 := Lib.hid (HB0.out.trans (hb6.mono HB0.out.size)); have HY1 := Lib.hid (HX1.out.later hb6); have HZ1 := Lib.hid (HX2.out.later hb6); clear hb6 x0 x1 x2 x3 x4 x5 x6 x7 x8 x9 y0 y1 y2 y3 y4 y5 y6 y7 y8 y9; obtain ⟨x0, x1, x2, x3, x4, x5, x6, x7, x8, x9⟩ := HY1.out.c10; obtain ⟨y0, y1, y2, y3, y4, y5, y6, y7, y8, y9⟩ := HZ1.out.c10)
                go_ret
                exact ⟨ret_bool (by simp only [Bool.true_and, Bool.false_and]), HB1.out⟩
              | true =>
                cases B2 with
                | false =>
                  go_wp2_with (first | (go_at_call 48; refine (HK1.out _ HB0.out).mono ?_; rintro e w6 ⟨rfl, hb6⟩; have HB1 := Lib.hid (HB0.out.trans (hb6.mono HB0.out.size)); have HY1 := Lib.hid (HX1.out.later hb6); have HZ1 := Lib.hid (HX2.out.later hb6); clear hb6 x0 x1 x2 x3 x4 x5 x6 x7 x8 x9 y0 y1 y2 y3 y4 y5 y6 y7 y8 y9; obtain ⟨x0, x1, x2, x3, x4, x5, x6, x7, x8, x9⟩ := HY1.out.c10; obtain ⟨y0, y1, y2, y3, y4, y5, y6, y7, y8, y9⟩ := HZ1.out.c10) | (go_at_call 49; refine (HK2.out _ HB1.out).mono ?_; rintro e w7 ⟨rfl, hb7⟩; have HB2 := Lib.hid (HB1.out.trans (hb7.mono HB1.out.size)); have HY2 := Lib.hid (HY1.out.later hb7); have HZ2 := Lib.hid (HZ1.out.later hb7); clear hb7 x0 x1 x2 x3 x4 x5 x6 x7 x8 x9 y0 y1 y2 y3 y4 y5 y6 y7 y8 y9; obtain ⟨x0, x1, x2, x3, x4, x5, x6, x7, x8, x9⟩ := HY2.out.c10; obtain ⟨y0, y1, y2, y3, y4, y5, y6, y7, y8, y9⟩ := HZ2.out.c10))
                  go_ret
                  exact ⟨ret_bool (by simp only [Bool.true_and, Bool.false_and]), HB2.out⟩
                | true =>
                  cases B3 with
                  | false =>
                    go_wp2_with (first | (go_at_call 48; refine (HK1.out _ HB0.out).mono ?_; rintro e w6 ⟨rfl, hb6⟩; have HB1 := Lib.hid (HB0.out.trans (hb6.mono HB0.out.size)); have HY1 := Lib.hid (HX1.out.later hb6); have HZ1 := Lib.hid (HX2.out.later hb6); clear hb6 x0 x1 x2 x3 x4 x5 x6 x7 x8 x9 y0 y1 y2 y3 y4 y5 y6 y7 y8 y9; obtain ⟨x0, x1, x2, x3, x4, x5, x6, x7, x8, x9⟩ := HY1.out.c10; obtain ⟨y0, y1, y2, y3, y4, y5, y6, y7, y8, y9⟩ := HZ1.out.c10) | (go_at_call 49; refine (HK2.out _ HB1.out).mono ?_; rintro e w7 ⟨rfl, hb7⟩; have HB2 := Lib.hid (HB1.out.trans (hb7.mono HB1.out.size)); have HY2 := Lib.hid (HY1.out.later hb7); have HZ2 := Lib.hid (HZ1.out.later hb7); clear hb7 x0 x1 x2 x3 x4 x5 x6 x7 x8 x9 y0 y1 y2 y3 y4 y5 y6 y7 y8 y9; obtain ⟨x0, x1, x2, x3, x4, x5, x6, x7, x8, x9⟩ := HY2.out.c10; obtain ⟨y0, y1, y2, y3, y4, y5, y6, y7, y8, y9⟩ := HZ2.out.c10) | (go_at_call 51; refine (HK3.out _ HB2.out).mono ?_; rintro e w8 ⟨rfl, hb8⟩; have HB3 := Lib.hid (HB2.out.trans (hb8.mono HB2.out.size)); have HY3 := Lib.hid (HY2.out.later hb8); have HZ3 := Lib.hid (HZ2.out.later hb8); clear hb8 x0 x1 x2 x3 x4 x5 x6 x7 x8 x9 y0 y1 y2 y3 y4 y5 y6 y7 y8 y9; obtain ⟨x0, x1, x2, x3, x4, x5, x6, x7, x8, x9⟩ := HY3.out.c10; obtain ⟨y0, y1, y2, y3, y4, y5, y6, y7, y8, y9⟩ := HZ3.out.c10))
                    go_ret
                    exact ⟨ret_bool (by simp only [Bool.true_and, Bool.false_and]), HB3.out⟩
                  | true =>
                    go_wp2_with (first | (go_at_call 48; refine (HK1.out _ HB0.out).mono ?_; rintro e w6 ⟨rfl, hb6⟩; have HB1 := Lib.hid (HB0.out.trans (hb6.mono HB0.out.size)); have HY1 := Lib.hid (HX1.out.later hb6); have HZ1 := Lib.hid (HX2.out.later hb6); clear hb6 x0 x1 x2 x3 x4 x5 x6 x7 x8 x9 y0 y1 y2 y3 y4 y5 y6 y7 y8 y9; obtain ⟨x0, x1, x2, x3, x4, x5, x6, x7, x8, x9⟩ := HY1.out.c10; obtain ⟨y0, y1, y2, y3, y4, y5, y6, y7, y8, y9⟩ := HZ1.out.c10) | (go_at_call 49; refine (HK2.out _ HB1.out).mono ?_; rintro e w7 ⟨rfl, hb7⟩; have HB2 := Lib.hid (HB1.out.trans (hb7.mono HB1.out.size)); have HY2 := Lib.hid (HY1.out.later hb7); have HZ2 := Lib.hid (HZ1.out.later hb7); clear hb7 x0 x1 x2 x3 x4 x5 x6 x7 x8 x9 y0 y1 y2 y3 y4 y5 y6 y7 y8 y9; obtain ⟨x0, x1, x2, x3, x4, x5, x6, x7, x8, x9⟩ := HY2.out.c10; obtain ⟨y0, y1, y2, y3, y4, y5, y6, y7, y8, y9⟩ := HZ2.out.c10) | (go_at_call 51; refine (HK3.out _ HB2.out).mono ?_; rintro e w8 ⟨rfl, hb8⟩; have HB3 := Lib.hid (HB2.out.trans (hb8.mono HB2.out.size)); have HY3 := Lib.hid (HY2.out.later hb8); have HZ3 := Lib.hid (HZ2.out.later hb8); clear hb8 x0 x1 x2 x3 x4 x5 x6 x7 x8 x9 y0 y1 y2 y3 y4 y5 y6 y7 y8 y9; obtain ⟨x0, x1, x2, x3, x4, x5, x6, x7, x8, x9⟩ := HY3.out.c10; obtain ⟨y0, y1, y2, y3, y4, y5, y6, y7, y8, y9⟩ := HZ3.out.c10) | (go_at_call 32; refine (HK4.out _ HB3.out).mono ?_; rintro e w9 ⟨rfl, rfl⟩))
                    go_ret
                    exact ⟨ret_bool (by simp only [Bool.true_and, Bool.false_and]), HB3.out⟩
end Go.Proofs.Ytiahifpbofkimaa
