/- The law 'ModelStates', walked. -/
import Derived.Test.YtghglbaflmbeoaaMdK
import Derived.Test.YtghglbaflmbeoaaMdC
namespace Go.Proofs.Ytghglbaflmbeoaa
open Go.RowKit Go.Proofs
set_option linter.unusedVariables false
set_option linter.unusedSimpArgs false
set_option linter.unnecessarySimpa false

set_option maxRecDepth 100000 in
set_option maxHeartbeats 12800000 in
theorem modelStates_walk (d1 v1 : Value) (s : Sx) (d2 v2 : Value) (t : Sx) (ev : Ev) (ae : Option Addr) (ce : Nat) (TE : ByteArray) (T : ByteArray) (off num : Int) (w : World) (hs : StA allJ w d1 v1 s) (ht : StA allJ w d2 v2 t) (hr : Row w ae ce ev.data) (hTE : TE.data.toList = ev.name) (hTE2 : TE.size ≤ 9223372036854775807) (hT : T.size ≤ 9223372036854775807) (ho : inB off) (hm : inB num) :
    Calls Try.prog 4 #[.agg #[d1, v1], .agg #[d2, v2], .agg #[.int .i64 ev.kind, .int .i64 ev.off, .int .i64 ev.len, .slice ae ev.data.length ce, .string TE], .string T, .int .i64 off, .int .i64 num] w fun x w' => x = .returned (.bool true) ∧ Below w.heap.size w w' := by
  have HEE : Hid ((⟨ev.kind, ev.off, ev.len, ev.data, TE.data.toList⟩ : Ev) = ev) := Lib.hid (by rw [hTE])
  obtain ⟨a1, n1, c1, a2, n2, c2, rfl, rfl⟩ := hs.shape
  obtain ⟨a3, n3, c3, a4, n4, c4, rfl, rfl⟩ := ht.shape
  obtain ⟨K1, hK1⟩ : ∃ z, ev.kind = z := ⟨_, rfl⟩
  obtain ⟨K2, hK2⟩ : ∃ z, ev.off = z := ⟨_, rfl⟩
  obtain ⟨K3, hK3⟩ : ∃ z, ev.len = z := ⟨_, rfl⟩
  obtain ⟨L1, hL1⟩ : ∃ z, ev.data.length = z := ⟨_, rfl⟩
  rw [hK1, hK2, hK3] at HEE
  rw [hK1, hK2, hK3, hL1]
  have HL1 := Lib.hid hL1
  obtain ⟨X1, X2, X3, B3⟩ := three_recsS w #[.slice a1 n1 c1, .slice a2 n2 c2] #[.slice a3 n3 c3, .slice a4 n4 c4] #[.int .i64 K1, .int .i64 K2, .int .i64 K3, .slice ae L1 ce, .string TE] tSt tSt 33
  obtain ⟨wa, hwa⟩ : ∃ W, (((w.alloc (.cells #[.slice a1 n1 c1, .slice a2 n2 c2] tSt)).alloc (.cells #[.slice a3 n3 c3, .slice a4 n4 c4] tSt)).alloc (.cells #[.int .i64 K1, .int .i64 K2, .int .i64 K3, .slice ae L1 ce, .string TE] 33)) = W := ⟨_, rfl⟩
  rw [hwa] at X1 X2 X3 B3
  have HX1 := Lib.hid X1
  have HX2 := Lib.hid X2
  have HX3 := Lib.hid X3
  have HB := Lib.hid B3
  have HS := Lib.hid (hs.later B3)
  have HT := Lib.hid (ht.later B3)
  have HR := Lib.hid (hr.later B3)
  have HIO := Lib.hid ho
  have HIM := Lib.hid hm
  clear X1 X2 X3 B3 hs ht hr ho hm hK1 hK2 hK3 hL1 hTE
  go_enter Try.func4, Try.ntmps4
  go_upto_region 1 with fail
  try rw [hwa]
  clear hwa
  obtain ⟨X, hX⟩ : ∃ X, w.heap.size = X := ⟨_, rfl⟩
  simp only [hX] at HX1 HX2 HX3 ⊢
  have HXS := Lib.hid hX
  clear hX
  obtain ⟨x0, x1⟩ := HX1.out.c2
  go_wp2_with fail
  refine (may14_any (.slice a1 n1 c1) (.slice a2 n2 c2) s allJ _ HS.out).mono ?_
  rintro e w1 ⟨B1, rfl, hM1, b⟩
  replace HB := Lib.hid (HB.out.trans (b.mono HB.out.size))
  replace HX1 := Lib.hid (HX1.out.later b)
  replace HX2 := Lib.hid (HX2.out.later b)
  replace HX3 := Lib.hid (HX3.out.later b)
  replace HS := Lib.hid (HS.out.later b)
  replace HT := Lib.hid (HT.out.later b)
  replace HR := Lib.hid (HR.out.later b)
  have HM1 := Lib.hid hM1
  clear b x0 x1 hM1
  cases B1 with
  | false =>
    go_wp2_with fail
    refine (known14_any _).mono ?_
    rintro e wk ⟨rfl, bk⟩
    have HBk := Lib.hid (HB.out.trans (bk.mono HB.out.size))
    clear bk
    go_wp2_with fail
    go_ret
    exact ⟨rfl, HBk.out⟩
  | true =>
    obtain ⟨x0, x1⟩ := HX2.out.c2
    go_wp2_with fail
    refine (may14_any (.slice a3 n3 c3) (.slice a4 n4 c4) t allJ _ HT.out).mono ?_
    rintro e w2 ⟨B2, rfl, hM2, b⟩
    replace HB := Lib.hid (HB.out.trans (b.mono HB.out.size))
    replace HX1 := Lib.hid (HX1.out.later b)
    replace HX2 := Lib.hid (HX2.out.later b)
    replace HX3 := Lib.hid (HX3.out.later b)
    replace HS := Lib.hid (HS.out.later b)
    replace HT := Lib.hid (HT.out.later b)
    replace HR := Lib.hid (HR.out.later b)
    have HM2 := Lib.hid hM2
    clear b x0 x1 hM2
    cases B2 with
    | false =>
      go_wp2_with fail
      refine (known14_any _).mono ?_
      rintro e wk ⟨rfl, bk⟩
      have HBk := Lib.hid (HB.out.trans (bk.mono HB.out.size))
      clear bk
      go_wp2_with fail
      go_ret
      exact ⟨rfl, HBk.out⟩
    | true =>
      obtain ⟨y0, y1, y2, y3, y4⟩ := HX3.out.c5
      go_wp2_with fail
      refine (few14_any K1 K2 K3 ae L1 ce ev.data TE _ HR.out HL1.out hTE2).mono ?_
      rw [HEE.out]
      obtain ⟨BF, hBF⟩ : ∃ z, fewE ev = z := ⟨_, rfl⟩
      rw [hBF]
      rintro e w3 ⟨rfl, b⟩
      replace HB := Lib.hid (HB.out.trans (b.mono HB.out.size))
      replace HX1 := Lib.hid (HX1.out.later b)
      replace HX2 := Lib.hid (HX2.out.later b)
      replace HX3 := Lib.hid (HX3.out.later b)
      replace HS := Lib.hid (HS.out.later b)
      replace HT := Lib.hid (HT.out.later b)
      replace HR := Lib.hid (HR.out.later b)
      clear b y0 y1 y2 y3 y4 hBF
      rcases (show BF = false ∨ (BF = true ∧ 40 < T.size) ∨ (BF = true ∧ T.size ≤ 40) by cases BF <;> simp <;> omega) with rfl | ⟨rfl, hT4⟩ | ⟨rfl, hT4⟩
      · go_wp2_with fail
        refine (known14_any _).mono ?_
        rintro e wk ⟨rfl, bk⟩
        have HBk := Lib.hid (HB.out.trans (bk.mono HB.out.size))
        clear bk
        go_wp2_with fail
        go_ret
        exact ⟨rfl, HBk.out⟩
      · go_wp2_with fail
        refine (known14_any _).mono ?_
        rintro e wk ⟨rfl, bk⟩
        have HBk := Lib.hid (HB.out.trans (bk.mono HB.out.size))
        clear bk
        go_wp2_with fail
        go_ret
        exact ⟨rfl, HBk.out⟩
      · obtain ⟨x0, x1⟩ := HX1.out.c2
        go_wp2_with fail
        refine (rright14_any (.slice a1 n1 c1) (.slice a2 n2 c2) s allJ _ HS.out).mono ?_
        rintro e w4 ⟨RB, rfl, hRB, b⟩
        replace HB := Lib.hid (HB.out.trans (b.mono HB.out.size))
        replace HX1 := Lib.hid (HX1.out.later b)
        replace HX2 := Lib.hid (HX2.out.later b)
        replace HX3 := Lib.hid (HX3.out.later b)
        replace HS := Lib.hid (HS.out.later b)
        replace HT := Lib.hid (HT.out.later b)
        replace HR := Lib.hid (HR.out.later b)
        have HRB := Lib.hid hRB
        clear b x0 x1 hRB
        have hm1 := HM1.out (by simp)
        have hm2 := HM2.out (by simp)
        have HPR : Hid (∀ W, Below w4.heap.size w4 W → Calls Try.prog 21 #[.agg #[.slice a1 n1 c1, .slice a2 n2 c2]] W fun e w' => e = .returned (.bool RB) ∧ Below W.heap.size W w') := Lib.hid (fun W hb => (pright14_any (.slice a1 n1 c1) (.slice a2 n2 c2) s allJ W (HS.out.later hb) hm1).mono fun e w' ⟨B, q1, q2, q3⟩ => ⟨by rw [q1]; congr 2; rw [Bool.eq_iff_iff, q2, HRB.out], q3⟩)
        obtain ⟨DB, hDB⟩ : ∃ z, decide (s = t) = z := ⟨_, rfl⟩
        have HPS := Lib.hid (fun W (hb : Below w4.heap.size w4 W) => psame14_any (.slice a1 n1 c1) (.slice a2 n2 c2) (.slice a3 n3 c3) (.slice a4 n4 c4) s t allJ allJ W (HS.out.later hb) (HT.out.later hb) hm1 hm2)
        have HRS := Lib.hid (fun W (hb : Below w4.heap.size w4 W) => rsame14_any (.slice a1 n1 c1) (.slice a2 n2 c2) (.slice a3 n3 c3) (.slice a4 n4 c4) s t allJ allJ W (HS.out.later hb) (HT.out.later hb))
        have HPQ := Lib.hid (fun W (hb : Below w4.heap.size w4 W) => psame14_yes (.slice a1 n1 c1) (.slice a2 n2 c2) (.slice a1 n1 c1) (.slice a2 n2 c2) s s allJ allJ W (HS.out.later hb) (HS.out.later hb) hm1 hm1 rfl)
        rw [hDB] at HPS HRS
        clear hDB hm1 hm2
        go_upto_region 4 with fail
        -- REG A4
        refine wp_region_tab (L := [cV (.agg #[.slice a1 n1 c1, .slice a2 n2 c2]), cV (.bool RB), cV (.bool RB), cV (.bool false), cV (.bool false), cV (.agg #[.slice a1 n1 c1, .slice a2 n2 c2]), cV (.agg #[.slice a3 n3 c3, .slice a4 n4 c4]), cV (.bool DB), cV (.agg #[.slice a1 n1 c1, .slice a2 n2 c2]), cV (.agg #[.slice a3 n3 c3, .slice a4 n4 c4]), cV (.bool DB), cV (.bool false), cV (.bool false), cV (.bool false), cV (.agg #[.slice a1 n1 c1, .slice a2 n2 c2]), cV (.agg #[.slice a1 n1 c1, .slice a2 n2 c2]), cV (.bool true), cV (.bool false), cV (.bool false)]) [[(6, none)], [(43, some 0)], [(13, none)], [(44, some 1), (45, some 2)], [(46, some 3)], [(6, none), (47, some 4)], [(7, none), (47, some 4)], [(48, some 5), (49, some 6), (47, some 4)], [(6, none), (47, some 4)], [(7, none), (47, some 4)], [(51, some 8), (52, some 9), (47, some 4)], [(50, some 7), (53, some 10), (47, some 4)], [(47, some 4), (54, some 11)], [(55, some 12)], [(6, none), (56, some 13)], [(6, none), (56, some 13)], [(57, some 14), (58, some 15), (56, some 13)], [(59, some 16), (56, some 13)], [(56, some 13), (60, some 17)]] 19 123 (by kernel_rfl) rfl rfl (by kernel_rfl) (by kernel_rfl) ?_ ?_
        · show ∀ i, i < 19 → _
          iterate 19 (refine fls ?_ ?_)
          · exact fl0
          · intro a w1 hR hsz hs      -- 0: slot 43
            obtain ⟨h0, _⟩ := hs
            have h0 : a.tmps.getD 6 undef = .pointer (some ⟨X, 0, none⟩) := h0
            obtain ⟨x0, x1⟩ := (HX1.out.later hR).c2
            refine op_run rfl rfl (v := .agg #[.slice a1 n1 c1, .slice a2 n2 c2]) (w' := w1) ?_ rfl (Below.refl _ _)
            simp [execOp, Act.eval, h0, x0, x1, go_sem]
          · intro a w1 hR hsz hs      -- 1: slot 44
            obtain ⟨h0, _⟩ := hs
            have h0 : a.tmps.getD 43 undef = .agg #[.slice a1 n1 c1, .slice a2 n2 c2] := h0
            refine op_call rfl rfl (f := 21) (args := #[.agg #[.slice a1 n1 c1, .slice a2 n2 c2]]) (by simp [execOp, Act.eval, resolve, h0, go_sem]) ?_
            exact calls_c (HPR.out w1 hR)
          · intro a w1 hR hsz hs      -- 2: slot 45
            obtain ⟨h0, _⟩ := hs
            have h0 : a.tmps.getD 13 undef = .bool RB := h0
            refine op_run rfl rfl (v := .bool RB) (w' := w1) ?_ rfl (Below.refl _ _)
            simp [execOp, Act.eval, h0, go_sem]
          · intro a w1 hR hsz hs      -- 3: slot 46
            obtain ⟨h0, h1, _⟩ := hs
            have h0 : a.tmps.getD 44 undef = .bool RB := h0
            have h1 : a.tmps.getD 45 undef = .bool RB := h1
            refine op_run rfl rfl (v := .bool false) (w' := w1) ?_ rfl (Below.refl _ _)
            simp [execOp, Act.eval, h0, h1, go_sem]
          · intro a w1 hR hsz hs      -- 4: slot 47
            obtain ⟨h0, _⟩ := hs
            have h0 : a.tmps.getD 46 undef = .bool false := h0
            refine op_run rfl rfl (v := .bool false) (w' := w1) ?_ rfl (Below.refl _ _)
            simp [execOp, Act.eval, h0, go_sem]
          · intro a w1 hR hsz hs      -- 5: slot 48
            obtain ⟨h0, h1, _⟩ := hs
            have h0 : a.tmps.getD 6 undef = .pointer (some ⟨X, 0, none⟩) := h0
            have h1 : a.tmps.getD 47 undef = .bool false := h1
            obtain ⟨x0, x1⟩ := (HX1.out.later hR).c2
            refine opg_run rfl rfl rfl (by rw [hsz]; decide) h1 (v := .agg #[.slice a1 n1 c1, .slice a2 n2 c2]) (w' := w1) ?_ rfl (Below.refl _ _)
            simp [execOp, Act.eval, h0, x0, x1, go_sem]
          · intro a w1 hR hsz hs      -- 6: slot 49
            obtain ⟨h0, h1, _⟩ := hs
            have h0 : a.tmps.getD 7 undef = .pointer (some ⟨X + 1, 0, none⟩) := h0
            have h1 : a.tmps.getD 47 undef = .bool false := h1
            obtain ⟨x0, x1⟩ := (HX2.out.later hR).c2
            refine opg_run rfl rfl rfl (by rw [hsz]; decide) h1 (v := .agg #[.slice a3 n3 c3, .slice a4 n4 c4]) (w' := w1) ?_ rfl (Below.refl _ _)
            simp [execOp, Act.eval, h0, x0, x1, go_sem]
          · intro a w1 hR hsz hs      -- 7: slot 50
            obtain ⟨h0, h1, h2, _⟩ := hs
            have h0 : a.tmps.getD 48 undef = .agg #[.slice a1 n1 c1, .slice a2 n2 c2] := h0
            have h1 : a.tmps.getD 49 undef = .agg #[.slice a3 n3 c3, .slice a4 n4 c4] := h1
            have h2 : a.tmps.getD 47 undef = .bool false := h2
            refine opg_call rfl rfl rfl (by rw [hsz]; decide) h2 (f := 26) (args := #[.agg #[.slice a1 n1 c1, .slice a2 n2 c2], .agg #[.slice a3 n3 c3, .slice a4 n4 c4]]) (by simp [execOp, Act.eval, resolve, h0, h1, go_sem]) ?_
            exact calls_c (HPS.out w1 hR)
          · intro a w1 hR hsz hs      -- 8: slot 51
            obtain ⟨h0, h1, _⟩ := hs
            have h0 : a.tmps.getD 6 undef = .pointer (some ⟨X, 0, none⟩) := h0
            have h1 : a.tmps.getD 47 undef = .bool false := h1
            obtain ⟨x0, x1⟩ := (HX1.out.later hR).c2
            refine opg_run rfl rfl rfl (by rw [hsz]; decide) h1 (v := .agg #[.slice a1 n1 c1, .slice a2 n2 c2]) (w' := w1) ?_ rfl (Below.refl _ _)
            simp [execOp, Act.eval, h0, x0, x1, go_sem]
          · intro a w1 hR hsz hs      -- 9: slot 52
            obtain ⟨h0, h1, _⟩ := hs
            have h0 : a.tmps.getD 7 undef = .pointer (some ⟨X + 1, 0, none⟩) := h0
            have h1 : a.tmps.getD 47 undef = .bool false := h1
            obtain ⟨x0, x1⟩ := (HX2.out.later hR).c2
            refine opg_run rfl rfl rfl (by rw [hsz]; decide) h1 (v := .agg #[.slice a3 n3 c3, .slice a4 n4 c4]) (w' := w1) ?_ rfl (Below.refl _ _)
            simp [execOp, Act.eval, h0, x0, x1, go_sem]
          · intro a w1 hR hsz hs      -- 10: slot 53
            obtain ⟨h0, h1, h2, _⟩ := hs
            have h0 : a.tmps.getD 51 undef = .agg #[.slice a1 n1 c1, .slice a2 n2 c2] := h0
            have h1 : a.tmps.getD 52 undef = .agg #[.slice a3 n3 c3, .slice a4 n4 c4] := h1
            have h2 : a.tmps.getD 47 undef = .bool false := h2
            refine opg_call rfl rfl rfl (by rw [hsz]; decide) h2 (f := 18) (args := #[.agg #[.slice a1 n1 c1, .slice a2 n2 c2], .agg #[.slice a3 n3 c3, .slice a4 n4 c4]]) (by simp [execOp, Act.eval, resolve, h0, h1, go_sem]) ?_
            exact calls_c (HRS.out w1 hR)
          · intro a w1 hR hsz hs      -- 11: slot 54
            obtain ⟨h0, h1, h2, _⟩ := hs
            have h0 : a.tmps.getD 50 undef = .bool DB := h0
            have h1 : a.tmps.getD 53 undef = .bool DB := h1
            have h2 : a.tmps.getD 47 undef = .bool false := h2
            refine opg_run rfl rfl rfl (by rw [hsz]; decide) h2 (v := .bool false) (w' := w1) ?_ rfl (Below.refl _ _)
            simp [execOp, Act.eval, h0, h1, go_sem]
          · intro a w1 hR hsz hs      -- 12: slot 55
            obtain ⟨h0, h1, _⟩ := hs
            have h0 : a.tmps.getD 47 undef = .bool false := h0
            have h1 : a.tmps.getD 54 undef = .bool false := h1
            refine op_run rfl rfl (v := .bool false) (w' := w1) ?_ rfl (Below.refl _ _)
            simp [execOp, Act.eval, h0, h1, go_sem]
          · intro a w1 hR hsz hs      -- 13: slot 56
            obtain ⟨h0, _⟩ := hs
            have h0 : a.tmps.getD 55 undef = .bool false := h0
            refine op_run rfl rfl (v := .bool false) (w' := w1) ?_ rfl (Below.refl _ _)
            simp [execOp, Act.eval, h0, go_sem]
          · intro a w1 hR hsz hs      -- 14: slot 57
            obtain ⟨h0, h1, _⟩ := hs
            have h0 : a.tmps.getD 6 undef = .pointer (some ⟨X, 0, none⟩) := h0
            have h1 : a.tmps.getD 56 undef = .bool false := h1
            obtain ⟨x0, x1⟩ := (HX1.out.later hR).c2
            refine opg_run rfl rfl rfl (by rw [hsz]; decide) h1 (v := .agg #[.slice a1 n1 c1, .slice a2 n2 c2]) (w' := w1) ?_ rfl (Below.refl _ _)
            simp [execOp, Act.eval, h0, x0, x1, go_sem]
          · intro a w1 hR hsz hs      -- 15: slot 58
            obtain ⟨h0, h1, _⟩ := hs
            have h0 : a.tmps.getD 6 undef = .pointer (some ⟨X, 0, none⟩) := h0
            have h1 : a.tmps.getD 56 undef = .bool false := h1
            obtain ⟨x0, x1⟩ := (HX1.out.later hR).c2
            refine opg_run rfl rfl rfl (by rw [hsz]; decide) h1 (v := .agg #[.slice a1 n1 c1, .slice a2 n2 c2]) (w' := w1) ?_ rfl (Below.refl _ _)
            simp [execOp, Act.eval, h0, x0, x1, go_sem]
          · intro a w1 hR hsz hs      -- 16: slot 59
            obtain ⟨h0, h1, h2, _⟩ := hs
            have h0 : a.tmps.getD 57 undef = .agg #[.slice a1 n1 c1, .slice a2 n2 c2] := h0
            have h1 : a.tmps.getD 58 undef = .agg #[.slice a1 n1 c1, .slice a2 n2 c2] := h1
            have h2 : a.tmps.getD 56 undef = .bool false := h2
            refine opg_call rfl rfl rfl (by rw [hsz]; decide) h2 (f := 26) (args := #[.agg #[.slice a1 n1 c1, .slice a2 n2 c2], .agg #[.slice a1 n1 c1, .slice a2 n2 c2]]) (by simp [execOp, Act.eval, resolve, h0, h1, go_sem]) ?_
            exact calls_c (HPQ.out w1 hR)
          · intro a w1 hR hsz hs      -- 17: slot 60
            obtain ⟨h0, h1, _⟩ := hs
            have h0 : a.tmps.getD 59 undef = .bool true := h0
            have h1 : a.tmps.getD 56 undef = .bool false := h1
            refine opg_run rfl rfl rfl (by rw [hsz]; decide) h1 (v := .bool false) (w' := w1) ?_ rfl (Below.refl _ _)
            simp [execOp, Act.eval, h0, go_sem]
          · intro a w1 hR hsz hs      -- 18: slot 61
            obtain ⟨h0, h1, _⟩ := hs
            have h0 : a.tmps.getD 56 undef = .bool false := h0
            have h1 : a.tmps.getD 60 undef = .bool false := h1
            refine op_run rfl rfl (v := .bool false) (w' := w1) ?_ rfl (Below.refl _ _)
            simp [execOp, Act.eval, h0, h1, go_sem]
        intro f w1 hR hv
        have e61 : f 61 = .bool false := hv 18 _ 61 rfl rfl
        clear hv
        try simp only [Exit.then]
        simp only [putAll, List.foldl_cons, List.foldl_nil, Option.getD_some, Act.put, List.setIfInBounds_toArray, List.set_cons_succ, List.set_cons_zero]
        rw [e61]
        clear e61
        -- END A4
        replace HB := Lib.hid (HB.out.trans (hR.mono HB.out.size))
        replace HX1 := Lib.hid (HX1.out.later hR)
        replace HX2 := Lib.hid (HX2.out.later hR)
        replace HX3 := Lib.hid (HX3.out.later hR)
        replace HS := Lib.hid (HS.out.later hR)
        replace HT := Lib.hid (HT.out.later hR)
        replace HR := Lib.hid (HR.out.later hR)
        clear hR HPR HPS HRS HPQ
        cases RB with
        | false =>
          go_wp2_with fail
          refine (known14_any _).mono ?_
          rintro e wk ⟨rfl, bk⟩
          have HBk := Lib.hid (HB.out.trans (bk.mono HB.out.size))
          clear bk
          go_wp2_with fail
          go_ret
          exact ⟨rfl, HBk.out⟩
        | true =>
          have HOK := Lib.hid (HRB.out.1 (by simp))
          obtain ⟨s1, CE, hap⟩ : ∃ s1 CE, applyM s ev = (s1, CE) := ⟨_, _, rfl⟩
          have HAPQ := Lib.hid hap
          clear hap
          obtain ⟨x0, x1⟩ := HX1.out.c2
          obtain ⟨y0, y1, y2, y3, y4⟩ := HX3.out.c5
          go_wp2_with fail
          refine (papply14_any (.slice a1 n1 c1) (.slice a2 n2 c2) s K1 K2 K3 ae L1 ce ev.data TE allJ _ HS.out HOK.out HR.out HL1.out hTE2).mono ?_
          unfold PApplyIs
          rw [HEE.out, HAPQ.out]
          rintro e w5 ⟨d, v, rfl, hst, b⟩
          obtain ⟨p1, p2, p3, p4, p5, p6, rfl, rfl⟩ := hst.shape
          have b2 := below_st w5 #[.slice p1 p2 p3, .slice p4 p5 p6]
          have HA := Lib.hid (SAt.new hst.all)
          replace HB := Lib.hid (HB.out.trans (b.mono HB.out.size))
          replace HX1 := Lib.hid (HX1.out.later b)
          replace HX2 := Lib.hid (HX2.out.later b)
          replace HX3 := Lib.hid (HX3.out.later b)
          replace HS := Lib.hid (HS.out.later b)
          replace HT := Lib.hid (HT.out.later b)
          replace HR := Lib.hid (HR.out.later b)
          replace HB := Lib.hid (HB.out.trans (b2.mono HB.out.size))
          replace HX1 := Lib.hid (HX1.out.later b2)
          replace HX2 := Lib.hid (HX2.out.later b2)
          replace HX3 := Lib.hid (HX3.out.later b2)
          replace HS := Lib.hid (HS.out.later b2)
          replace HT := Lib.hid (HT.out.later b2)
          replace HR := Lib.hid (HR.out.later b2)
          clear hst b b2 x0 x1 y0 y1 y2 y3 y4
          go_upto_region 9 with fail
          obtain ⟨w6, hw⟩ : ∃ W, w5.alloc (.cells #[.slice p1 p2 p3, .slice p4 p5 p6] tSt) = W := ⟨_, rfl⟩
          rw [hw] at HA HB HX1 HX2 HX3 HS HT HR
          try rw [hw]
          obtain ⟨PC, hX⟩ : ∃ X, w5.heap.size = X := ⟨_, rfl⟩
          rw [hX] at HA ⊢
          clear hw hX
          obtain ⟨x0, x1⟩ := HX1.out.c2
          obtain ⟨y0, y1, y2, y3, y4⟩ := HX3.out.c5
          go_wp2_with fail
          refine (rapply14_any (.slice a1 n1 c1) (.slice a2 n2 c2) s K1 K2 K3 ae L1 ce ev.data TE allJ _ (allJ_new _) HS.out HR.out HL1.out hTE2 (by have := HOK.out.size; omega) (by have := HOK.out.many; omega) (fun q hq => by have := HOK.out.sizes q hq; omega)).mono ?_
          unfold ApplyIs
          rw [HEE.out, HAPQ.out]
          rintro e w7 ⟨d, v, rfl, hst, b⟩
          obtain ⟨q1, q2, q3, q4, q5, q6, rfl, rfl⟩ := hst.shape
          have b2 := below_st w7 #[.slice q1 q2 q3, .slice q4 q5 q6]
          have HC := Lib.hid (SAt.new hst)
          replace HB := Lib.hid (HB.out.trans (b.mono HB.out.size))
          replace HX1 := Lib.hid (HX1.out.later b)
          replace HX2 := Lib.hid (HX2.out.later b)
          replace HX3 := Lib.hid (HX3.out.later b)
          replace HS := Lib.hid (HS.out.later b)
          replace HT := Lib.hid (HT.out.later b)
          replace HR := Lib.hid (HR.out.later b)
          replace HA := Lib.hid (HA.out.later b)
          replace HB := Lib.hid (HB.out.trans (b2.mono HB.out.size))
          replace HX1 := Lib.hid (HX1.out.later b2)
          replace HX2 := Lib.hid (HX2.out.later b2)
          replace HX3 := Lib.hid (HX3.out.later b2)
          replace HS := Lib.hid (HS.out.later b2)
          replace HT := Lib.hid (HT.out.later b2)
          replace HR := Lib.hid (HR.out.later b2)
          replace HA := Lib.hid (HA.out.later b2)
          clear hst b b2 x0 x1 y0 y1 y2 y3 y4
          go_upto_region 10 with fail
          obtain ⟨w8, hw⟩ : ∃ W, w7.alloc (.cells #[.slice q1 q2 q3, .slice q4 q5 q6] tSt) = W := ⟨_, rfl⟩
          rw [hw] at HC HA HB HX1 HX2 HX3 HS HT HR
          try rw [hw]
          obtain ⟨PD, hX⟩ : ∃ X, w7.heap.size = X := ⟨_, rfl⟩
          rw [hX] at HC ⊢
          clear hw hX
          obtain ⟨x0, x1⟩ := HX1.out.c2
          go_wp2_with fail
          refine (pread14_any (.slice a1 n1 c1) (.slice a2 n2 c2) s T off num _ _ HS.out HOK.out hT HIO.out HIM.out).mono ?_
          obtain ⟨RL, RE, hRR⟩ : ∃ a b, readM s T.data.toList off num = (a, b) := ⟨_, _, rfl⟩
          rw [hRR]
          rintro e w9 ⟨v8, rfl, o8⟩
          have b := o8.below
          replace HB := Lib.hid (HB.out.trans (b.mono HB.out.size))
          replace HX1 := Lib.hid (HX1.out.later b)
          replace HX2 := Lib.hid (HX2.out.later b)
          replace HX3 := Lib.hid (HX3.out.later b)
          replace HS := Lib.hid (HS.out.later b)
          replace HT := Lib.hid (HT.out.later b)
          replace HR := Lib.hid (HR.out.later b)
          replace HA := Lib.hid (HA.out.later b)
          replace HC := Lib.hid (HC.out.later b)
          obtain ⟨a8, c8, rfl, r8⟩ := o8.row_n (n := RL.length) rfl
          have HR8 := Lib.hid r8
          clear o8 b r8 x0 x1
          obtain ⟨NL, hNL⟩ : ∃ z, RL.length = z := ⟨_, rfl⟩
          rw [hNL]
          have HNL := Lib.hid hNL
          clear hNL
          obtain ⟨x0, x1⟩ := HX1.out.c2
          go_wp2_with fail
          refine (rread14_any (.slice a1 n1 c1) (.slice a2 n2 c2) s T off num _ _ HS.out hT HIO.out HIM.out ⟨by have := HOK.out.size; omega, fun o ho => by have := HOK.out.sizes o ho; omega⟩).mono ?_
          rw [hRR]
          rintro e w10 ⟨v9, rfl, o9⟩
          have b := o9.below
          replace HB := Lib.hid (HB.out.trans (b.mono HB.out.size))
          replace HX1 := Lib.hid (HX1.out.later b)
          replace HX2 := Lib.hid (HX2.out.later b)
          replace HX3 := Lib.hid (HX3.out.later b)
          replace HS := Lib.hid (HS.out.later b)
          replace HT := Lib.hid (HT.out.later b)
          replace HR := Lib.hid (HR.out.later b)
          replace HA := Lib.hid (HA.out.later b)
          replace HC := Lib.hid (HC.out.later b)
          replace HR8 := Lib.hid (HR8.out.later b)
          obtain ⟨a9, c9, rfl, r9⟩ := o9.row_n HNL.out
          have HR9 := Lib.hid r9
          clear o9 b r9 x0 x1 hRR
          obtain ⟨xa, xn, xc, xd, xm, xe, hXA, hSA⟩ := HA.out
          obtain ⟨za, zn, zc, zd, zm, ze, hXC, hSC⟩ := HC.out
          obtain ⟨u0, u1⟩ := hXA.c2
          obtain ⟨z0, z1⟩ := hXC.c2
          have HSA := Lib.hid hSA
          have HSC := Lib.hid hSC
          clear hXA hXC hSA hSC HA HC
          go_wp2_with fail
          refine (rsame14_yes (.slice xa xn xc) (.slice xd xm xe) (.slice za zn zc) (.slice zd zm ze) s1 s1 _ _ _ HSA.out HSC.out rfl).mono ?_
          rintro e w11 ⟨rfl, b⟩
          replace HB := Lib.hid (HB.out.trans (b.mono HB.out.size))
          replace HX1 := Lib.hid (HX1.out.later b)
          replace HX2 := Lib.hid (HX2.out.later b)
          replace HX3 := Lib.hid (HX3.out.later b)
          replace HS := Lib.hid (HS.out.later b)
          replace HT := Lib.hid (HT.out.later b)
          replace HR := Lib.hid (HR.out.later b)
          replace HR8 := Lib.hid (HR8.out.later b)
          replace HR9 := Lib.hid (HR9.out.later b)
          clear b u0 u1 z0 z1 HSA HSC
          obtain ⟨x0, x1⟩ := HX1.out.c2
          obtain ⟨y0, y1, y2, y3, y4⟩ := HX3.out.c5
          go_wp2_with fail
          refine (pcheck14_any (.slice a1 n1 c1) (.slice a2 n2 c2) s K1 K2 K3 ae L1 ce ev.data TE allJ _ HS.out HOK.out HR.out HL1.out hTE2).mono ?_
          rw [HEE.out, applyM_check HAPQ.out]
          rintro e w12 ⟨rfl, b⟩
          replace HB := Lib.hid (HB.out.trans (b.mono HB.out.size))
          replace HR8 := Lib.hid (HR8.out.later b)
          replace HR9 := Lib.hid (HR9.out.later b)
          clear b x0 x1 y0 y1 y2 y3 y4
          have k8 := conv_row_n HR8.out HNL.out
          have k9 := conv_row_n HR9.out HNL.out
          have hsb : ((⟨RL.toArray⟩ : ByteArray).toList == (⟨RL.toArray⟩ : ByteArray).toList) = true := (sbeq_iff _ _).2 rfl
          obtain ⟨TX, hTX⟩ : ∃ z, (⟨RL.toArray⟩ : ByteArray) = z := ⟨_, rfl⟩
          rw [hTX] at k8 k9 hsb
          clear hTX
          go_wp2_with fail
          refine (known14_any _).mono ?_
          rintro e wk ⟨rfl, bk⟩
          have HBk := Lib.hid (HB.out.trans (bk.mono HB.out.size))
          clear bk
          go_wp2_with fail
          go_ret
          exact ⟨rfl, HBk.out⟩
end Go.Proofs.Ytghglbaflmbeoaa
