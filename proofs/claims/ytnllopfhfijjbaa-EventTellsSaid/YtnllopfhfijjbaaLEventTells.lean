/- The law 'EventTells', walked. -/
import Derived.Test.YtnllopfhfijjbaaEvO
import Derived.Test.YtnllopfhfijjbaaRv
namespace Go.Proofs.Ytnllopfhfijjbaa
open Go.RowKit
set_option linter.unusedVariables false
set_option linter.unusedSimpArgs false

set_option maxRecDepth 100000 in
set_option maxHeartbeats 3200000 in
theorem etells_known (k o m : Int) (ad a1 : Option Addr) (n c m1 c1 : Nat) (S s : ByteArray) (w : World) (hb : 200 < n ∨ 200 < m1 ∨ 60 < s.size ∨ 60 < S.size) :
    Calls Try.prog 3 #[.agg #[.int .i64 k, .int .i64 o, .int .i64 m, .slice ad n c, .string S], .slice a1 m1 c1, .string s] w fun x w' => x = .returned (.bool true) ∧ Below w.heap.size w w' := by
  have HB : Hid (Below w.heap.size w (w.alloc (.cells #[.int .i64 k, .int .i64 o, .int .i64 m, .slice ad n c, .string S] 24))) := Lib.hid ((Below.refl _ _).alloc (Nat.le_refl _) _)
  rcases (show 200 < (n : Int) ∨ (decide (200 < (n : Int)) = false ∧ 200 < (m1 : Int)) ∨ (decide (200 < (n : Int)) = false ∧ decide (200 < (m1 : Int)) = false ∧ 60 < (s.size : Int)) ∨ (decide (200 < (n : Int)) = false ∧ decide (200 < (m1 : Int)) = false ∧ decide (60 < (s.size : Int)) = false ∧ 60 < (S.size : Int)) by
    simp only [decide_eq_false_iff_not]; omega) with h | ⟨h1, h⟩ | ⟨h1, h2, h⟩ | ⟨h1, h2, h3, h⟩
  all_goals
    clear hb
    go_enter Try.func3, Try.ntmps3
    go_wp2_with fail
    refine (known_any _).mono ?_
    rintro y w2 ⟨rfl, hb2⟩
    go_wp2_with fail
    go_ret
    exact ⟨rfl, HB.out.trans (hb2.mono HB.out.size)⟩

/-- 'Same' of two events is told by their fields. -/
def sameB (k o m : Int) (S : ByteArray) (d : List UInt8) (k2 o2 m2 : Int) (S2 : ByteArray) (d2 : List UInt8) : Bool := decide (k = k2 ∧ o = o2 ∧ m = m2 ∧ S = S2 ∧ d = d2)
set_option maxRecDepth 100000 in
set_option maxHeartbeats 6400000 in
theorem etells_walk (k o m : Int) (ad a1 : Option Addr) (n c m1 c1 : Nat) (S s : ByteArray) (d l : List UInt8) (w : World) (hr : Row w ad c d) (hn : d.length = n) (hn2 : n ≤ 200) (hl : Row w a1 c1 l) (hm : l.length = m1) (hm2 : m1 ≤ 200) (hs : s.size ≤ 60) (hS : S.size ≤ 60) :
    Calls Try.prog 3 #[.agg #[.int .i64 k, .int .i64 o, .int .i64 m, .slice ad n c, .string S], .slice a1 m1 c1, .string s] w fun x w' => x = .returned (.bool true) ∧ Below w.heap.size w w' := by
  have hd1 : decide (200 < (n : Int)) = false := by simp; omega
  have hd2 : decide (200 < (m1 : Int)) = false := by simp; omega
  have hd3 : decide (60 < (s.size : Int)) = false := by simp; omega
  have hd4 : decide (60 < (S.size : Int)) = false := by simp; omega
  have HB : Hid (Below w.heap.size w (w.alloc (.cells #[.int .i64 k, .int .i64 o, .int .i64 m, .slice ad n c, .string S] 24))) := Lib.hid ((Below.refl _ _).alloc (Nat.le_refl _) _)
  have HX := Lib.hid (RecAt.new w #[.int .i64 k, .int .i64 o, .int .i64 m, .slice ad n c, .string S] 24)
  have HR := Lib.hid hr
  have HN := Lib.hid hn
  have HL := Lib.hid hl
  have HM := Lib.hid hm
  have HS := Lib.hid hS
  have Hs := Lib.hid hs
  clear hr hn hl hm hS hs
  obtain ⟨X, g, hXg⟩ : ∃ X g, putEv ⟨k, o, m, d, S.data.toList⟩ = (X, g) := ⟨_, _, rfl⟩
  obtain ⟨Q, er, hA⟩ : ∃ Q er, getEv l = (Q, er) := ⟨_, _, rfl⟩
  obtain ⟨f1, f2, hsp⟩ : ∃ f1 f2, spanA ⟨k, o, m, d, S.data.toList⟩ = (f1, f2) := ⟨_, _, rfl⟩
  obtain ⟨R, hRt⟩ : ∃ R, (Ev.mk k o m d S.data.toList).right = R := ⟨_, rfl⟩
  obtain ⟨PL, hPL⟩ : ∃ PL, (Ev.mk k o m d S.data.toList).plain = PL := ⟨_, rfl⟩
  obtain ⟨NM, hNM⟩ : ∃ NM, nameOk s.data.toList = NM := ⟨_, rfl⟩
  have PA := Lib.hid (fun (W : World) (h : Below w.heap.size w W) => eput_any o m ad n c d S W k (HR.out.later h) HN.out (by have := HS.out; omega))
  have PB := Lib.hid (fun (W : World) (h : Below w.heap.size w W) => rputE_any o m ad n c d S W k (HR.out.later h) HN.out (by have := HS.out; omega))
  have GA := Lib.hid (fun (W : World) (h : Below w.heap.size w W) => eget_any a1 m1 c1 l W (HL.out.later h) HM.out (by omega))
  have GB := Lib.hid (fun (W : World) (h : Below w.heap.size w W) => rget_any a1 m1 c1 l W (HL.out.later h) HM.out (by omega))
  have SA := Lib.hid (fun (W : World) (h : Below w.heap.size w W) => espan_any k o m ad n c d S W (HR.out.later h) HN.out (by have := HS.out; omega))
  have SB := Lib.hid (fun (W : World) (h : Below w.heap.size w W) => rspan_any k o m ad n c d S W (HR.out.later h) HN.out (by have := HS.out; omega))
  have RA := Lib.hid (fun (W : World) (h : Below w.heap.size w W) => eright_any o m ad n c d S W k (HR.out.later h) HN.out (by have := HS.out; omega))
  have RB := Lib.hid (fun (W : World) (h : Below w.heap.size w W) => rright_any o m ad n c d S W k (HR.out.later h) HN.out (by have := HS.out; omega))
  have LA := Lib.hid (fun (W : World) (h : Below w.heap.size w W) => eplain_any k o m ad n c d S W (HR.out.later h) HN.out (by have := HS.out; omega))
  have LB := Lib.hid (fun (W : World) (h : Below w.heap.size w W) => rplain_any k o m ad n c d S W (HR.out.later h) HN.out (by have := HS.out; omega))
  have NA := Lib.hid (fun (W : World) => name_any s W (by have := Hs.out; omega))
  have NB := Lib.hid (fun (W : World) => rname_any s W (by have := Hs.out; omega))
  rw [hXg] at PA PB
  unfold EGot at GA GB
  rw [hA] at GA GB
  rw [hsp] at SA SB
  rw [hRt] at RA RB
  rw [hPL] at LA LB
  rw [hNM] at NA NB
  clear hXg hA hsp hRt hPL hNM
  obtain ⟨k2, o2, m2, d2, nm2⟩ := Q
  obtain ⟨S2, hS2⟩ : ∃ S2 : ByteArray, ⟨nm2.toArray⟩ = S2 := ⟨_, rfl⟩
  obtain ⟨n2, hn2⟩ : ∃ n2, d2.length = n2 := ⟨_, rfl⟩
  unfold evV at GA GB
  simp only at GA GB PA PB SA SB
  rw [hS2, hn2] at GA GB
  have HD2 := Lib.hid hn2
  clear hS2 hn2
  go_enter Try.func3, Try.ntmps3
  go_wp2_with fail
  refine (PA.out _ HB.out).mono ?_
  rintro y w1 ⟨v1, rfl, o1⟩
  have HB1 := Lib.hid (HB.out.trans (o1.below.mono HB.out.size))
  have HX1 := Lib.hid (HX.out.later o1.below)
  obtain ⟨aX, cX, rfl, rX⟩ := o1.row
  obtain ⟨x0, x1, x2, x3, x4⟩ := HX1.out.c5
  clear o1 PA
  go_wp2_with fail
  refine (PB.out _ HB1.out).mono ?_
  rintro y w2 ⟨v2, rfl, o2'⟩
  have HB2 := Lib.hid (HB1.out.trans (o2'.below.mono HB1.out.size))
  have HX2 := Lib.hid (HX1.out.later o2'.below)
  have RX2 := Lib.hid (rX.later o2'.below)
  obtain ⟨aY, cY, rfl, rY⟩ := o2'.row
  have RY2 := Lib.hid rY
  clear o2' rX rY PB x0 x1 x2 x3 x4 HX HX1 HB HB1
  go_wp2_with fail
  refine (GA.out _ HB2.out).mono ?_
  rintro y w3 ⟨ap, cp, rfl, rp, hb3⟩
  have hba : Below w3.heap.size w3 (w3.alloc (.cells #[.int .i64 k2, .int .i64 o2, .int .i64 m2, .slice ap n2 cp, .string S2] 24)) := (Below.refl _ _).alloc (Nat.le_refl _) _
  have hbb := hb3.trans (hba.mono hb3.size)
  have HB4 := Lib.hid (HB2.out.trans (hbb.mono HB2.out.size))
  have HX4 := Lib.hid (HX2.out.later hbb)
  have RX4 := Lib.hid (RX2.out.later hbb)
  have RY4 := Lib.hid (RY2.out.later hbb)
  have HP4 := Lib.hid (RecAt.new w3 #[.int .i64 k2, .int .i64 o2, .int .i64 m2, .slice ap n2 cp, .string S2] 24)
  have RP4 := Lib.hid (rp.later hba)
  clear rp hb3 hba hbb GA HB2 HX2 RX2 RY2
  go_upto_region 6 with fail
  generalize (w3.alloc (.cells #[.int .i64 k2, .int .i64 o2, .int .i64 m2, .slice ap n2 cp, .string S2] 24)) = w4 at *
  generalize w3.heap.size = p1 at *
  go_wp2_with fail
  refine (GB.out _ HB4.out).mono ?_
  rintro y w5 ⟨aq, cq, rfl, rq, hb5⟩
  have hba : Below w5.heap.size w5 (w5.alloc (.cells #[.int .i64 k2, .int .i64 o2, .int .i64 m2, .slice aq n2 cq, .string S2] 24)) := (Below.refl _ _).alloc (Nat.le_refl _) _
  have hbb := hb5.trans (hba.mono hb5.size)
  have HB6 := Lib.hid (HB4.out.trans (hbb.mono HB4.out.size))
  have HX6 := Lib.hid (HX4.out.later hbb)
  have RX6 := Lib.hid (RX4.out.later hbb)
  have RY6 := Lib.hid (RY4.out.later hbb)
  have HP6 := Lib.hid (HP4.out.later hbb)
  have RP6 := Lib.hid (RP4.out.later hbb)
  have HQ6 := Lib.hid (RecAt.new w5 #[.int .i64 k2, .int .i64 o2, .int .i64 m2, .slice aq n2 cq, .string S2] 24)
  have RQ6 := Lib.hid (rq.later hba)
  clear rq hb5 hba hbb GB HX4 HB4 RX4 RY4 HP4 RP4
  go_upto_region 7 with fail
  generalize (w5.alloc (.cells #[.int .i64 k2, .int .i64 o2, .int .i64 m2, .slice aq n2 cq, .string S2] 24)) = w6 at *
  generalize w5.heap.size = p2 at *
  obtain ⟨x0, x1, x2, x3, x4⟩ := HX6.out.c5
  go_wp2_with fail
  refine (SA.out _ HB6.out).mono ?_
  rintro y w7 ⟨rfl, hb7⟩
  have HB7 := Lib.hid (HB6.out.trans (hb7.mono HB6.out.size))
  have HX7 := Lib.hid (HX6.out.later hb7)
  clear x0 x1 x2 x3 x4
  obtain ⟨x0, x1, x2, x3, x4⟩ := HX7.out.c5
  go_wp2_with fail
  refine (SB.out _ HB7.out).mono ?_
  rintro y w8 ⟨rfl, hb8⟩
  have hbb := hb7.trans (hb8.mono hb7.size)
  have HB8 := Lib.hid (HB6.out.trans (hbb.mono HB6.out.size))
  have HX8 := Lib.hid (HX6.out.later hbb)
  have RX8 := Lib.hid (RX6.out.later hbb)
  have RY8 := Lib.hid (RY6.out.later hbb)
  have HP8 := Lib.hid (HP6.out.later hbb)
  have RP8 := Lib.hid (RP6.out.later hbb)
  have HQ8 := Lib.hid (HQ6.out.later hbb)
  have RQ8 := Lib.hid (RQ6.out.later hbb)
  clear x0 x1 x2 x3 x4 hb7 hb8 hbb SA SB HB6 HX6 RX6 RY6 HP6 RP6 HQ6 RQ6 HB7 HX7
  obtain ⟨XS, hXS⟩ : ∃ XS, (⟨X.toArray⟩ : ByteArray) = XS := ⟨_, rfl⟩
  have hcx := conv_row RX8.out
  have hcy := conv_row RY8.out
  rw [hXS] at hcx hcy
  generalize X.length = xn at *
  clear hXS RX8 RY8
  obtain ⟨x0, x1, x2, x3, x4⟩ := HP8.out.c5
  obtain ⟨y0, y1, y2, y3, y4⟩ := HQ8.out.c5
  have e1 : (XS.toList != XS.toList) = false := by simp
  have e2 : (XS.toList == XS.toList) = true := by simp
  go_wp2_with (go_at_call 15; refine (rsame_any _ _ _ _ _ _ _ _ _ _ _ _ _ _ _ _ _ RP8.out RQ8.out HD2.out HD2.out true (by simp)).mono ?_; rintro e w9 ⟨rfl, hb9⟩)
  have HB9 := Lib.hid (HB8.out.trans (hb9.mono HB8.out.size))
  have HX9 := Lib.hid (HX8.out.later hb9)
  have HQ9 := Lib.hid (HQ8.out.later hb9)
  have RQ9 := Lib.hid (RQ8.out.later hb9)
  clear x0 x1 x2 x3 x4 y0 y1 y2 y3 y4 hb9 HB8 HX8 HP8 RP8 HQ8 RQ8 hcx hcy e1 e2
  obtain ⟨SB2, hSB⟩ : ∃ B, sameB k o m S d k2 o2 m2 S2 d2 = B := ⟨_, rfl⟩
  have HSB : Hid (SB2 = true ↔ k = k2 ∧ o = o2 ∧ m = m2 ∧ S = S2 ∧ d = d2) := Lib.hid (by rw [← hSB]; unfold sameB; exact decide_eq_true_iff)
  clear hSB
  -- REG 11
  refine wp_region_tab (L := [cV (.agg #[.int .i64 k, .int .i64 o, .int .i64 m, .slice ad n c, .string S]), cV (.bool R), cV (.agg #[.int .i64 k, .int .i64 o, .int .i64 m, .slice ad n c, .string S]), cV (.bool R), cV (.bool true), cV (.bool true), cV (.agg #[.int .i64 k, .int .i64 o, .int .i64 m, .slice ad n c, .string S]), cV (.bool PL), cV (.agg #[.int .i64 k, .int .i64 o, .int .i64 m, .slice ad n c, .string S]), cV (.bool PL), cV (.bool true), cV (.bool true), cV (.bool true), cV (.string s), cV (.bool NM), cV (.string s), cV (.bool NM), cV (.bool true), cV (.bool true), cV (.bool true), cV (.agg #[.int .i64 k, .int .i64 o, .int .i64 m, .slice ad n c, .string S]), cV (.agg #[.int .i64 k2, .int .i64 o2, .int .i64 m2, .slice aq n2 cq, .string S2]), cV (.bool SB2), cV (.agg #[.int .i64 k, .int .i64 o, .int .i64 m, .slice ad n c, .string S]), cV (.agg #[.int .i64 k2, .int .i64 o2, .int .i64 m2, .slice aq n2 cq, .string S2]), cV (.bool SB2), cV (.bool true), cV (.bool true), cV (.bool true), cV (.agg #[.int .i64 k, .int .i64 o, .int .i64 m, .slice ad n c, .string S]), cV (.agg #[.int .i64 k, .int .i64 o, .int .i64 m, .slice ad n c, .string S]), cV (.bool true), cV (.bool true), cV (.bool true), cV (.bool true), cV (.bool true), cV (.bool true)]) [[(3, none)], [(101, some 0)], [(3, none)], [(103, some 2)], [(102, some 1), (104, some 3)], [(105, some 4)], [(3, none), (106, some 5)], [(107, some 6), (106, some 5)], [(3, none), (106, some 5)], [(109, some 8), (106, some 5)], [(108, some 7), (110, some 9), (106, some 5)], [(106, some 5), (111, some 10)], [(112, some 11)], [(2, none), (113, some 12)], [(114, some 13), (113, some 12)], [(2, none), (113, some 12)], [(116, some 15), (113, some 12)], [(115, some 14), (117, some 16), (113, some 12)], [(113, some 12), (118, some 17)], [(119, some 18)], [(3, none), (120, some 19)], [(13, none), (120, some 19)], [(121, some 20), (122, some 21), (120, some 19)], [(3, none), (120, some 19)], [(13, none), (120, some 19)], [(124, some 23), (125, some 24), (120, some 19)], [(123, some 22), (126, some 25), (120, some 19)], [(120, some 19), (127, some 26)], [(128, some 27)], [(3, none), (129, some 28)], [(3, none), (129, some 28)], [(130, some 29), (131, some 30), (129, some 28)], [(129, some 28), (132, some 31)], [(133, some 32)], [(134, some 33)], [(134, some 33), (135, some 34)], [(136, some 35)]] 37 137 (by kernel_rfl) rfl rfl (by kernel_rfl) (by kernel_rfl) ?_ ?_
  · show ∀ i, i < 37 → _
    iterate 37 (refine fls ?_ ?_)
    · exact fl0
    · intro a w1 hR hsz hs      -- 0: slot 101
      obtain ⟨h0, _⟩ := hs
      have h0 : a.tmps.getD 3 undef = .pointer (some ⟨w.heap.size, 0, none⟩) := h0
      obtain ⟨x0, x1, x2, x3, x4⟩ := (HX9.out.later hR).c5
      refine op_run rfl rfl (v := .agg #[.int .i64 k, .int .i64 o, .int .i64 m, .slice ad n c, .string S]) (w' := w1) ?_ rfl (Below.refl _ _)
      simp [execOp, Act.eval, h0, x0, x1, x2, x3, x4, go_sem]
    · intro a w1 hR hsz hs      -- 1: slot 102
      obtain ⟨h0, _⟩ := hs
      have h0 : a.tmps.getD 101 undef = .agg #[.int .i64 k, .int .i64 o, .int .i64 m, .slice ad n c, .string S] := h0
      refine op_call rfl rfl (f := 16) (args := #[.agg #[.int .i64 k, .int .i64 o, .int .i64 m, .slice ad n c, .string S]]) (by simp [execOp, Act.eval, resolve, h0, go_sem]) ?_
      exact calls_c (RA.out w1 (HB9.out.trans (hR.mono HB9.out.size)))
    · intro a w1 hR hsz hs      -- 2: slot 103
      obtain ⟨h0, _⟩ := hs
      have h0 : a.tmps.getD 3 undef = .pointer (some ⟨w.heap.size, 0, none⟩) := h0
      obtain ⟨x0, x1, x2, x3, x4⟩ := (HX9.out.later hR).c5
      refine op_run rfl rfl (v := .agg #[.int .i64 k, .int .i64 o, .int .i64 m, .slice ad n c, .string S]) (w' := w1) ?_ rfl (Below.refl _ _)
      simp [execOp, Act.eval, h0, x0, x1, x2, x3, x4, go_sem]
    · intro a w1 hR hsz hs      -- 3: slot 104
      obtain ⟨h0, _⟩ := hs
      have h0 : a.tmps.getD 103 undef = .agg #[.int .i64 k, .int .i64 o, .int .i64 m, .slice ad n c, .string S] := h0
      refine op_call rfl rfl (f := 17) (args := #[.agg #[.int .i64 k, .int .i64 o, .int .i64 m, .slice ad n c, .string S]]) (by simp [execOp, Act.eval, resolve, h0, go_sem]) ?_
      exact calls_c (RB.out w1 (HB9.out.trans (hR.mono HB9.out.size)))
    · intro a w1 hR hsz hs      -- 4: slot 105
      obtain ⟨h0, h1, _⟩ := hs
      have h0 : a.tmps.getD 102 undef = .bool R := h0
      have h1 : a.tmps.getD 104 undef = .bool R := h1
      refine op_run rfl rfl (v := .bool true) (w' := w1) ?_ rfl (Below.refl _ _)
      simp [execOp, Act.eval, h0, h1, go_sem]
    · intro a w1 hR hsz hs      -- 5: slot 106
      obtain ⟨h0, _⟩ := hs
      have h0 : a.tmps.getD 105 undef = .bool true := h0
      refine op_run rfl rfl (v := .bool true) (w' := w1) ?_ rfl (Below.refl _ _)
      simp [execOp, Act.eval, h0, go_sem]
    · intro a w1 hR hsz hs      -- 6: slot 107
      obtain ⟨h0, h1, _⟩ := hs
      have h0 : a.tmps.getD 3 undef = .pointer (some ⟨w.heap.size, 0, none⟩) := h0
      have h1 : a.tmps.getD 106 undef = .bool true := h1
      obtain ⟨x0, x1, x2, x3, x4⟩ := (HX9.out.later hR).c5
      refine opg_run rfl rfl rfl (by rw [hsz]; decide) h1 (v := .agg #[.int .i64 k, .int .i64 o, .int .i64 m, .slice ad n c, .string S]) (w' := w1) ?_ rfl (Below.refl _ _)
      simp [execOp, Act.eval, h0, x0, x1, x2, x3, x4, go_sem]
    · intro a w1 hR hsz hs      -- 7: slot 108
      obtain ⟨h0, h1, _⟩ := hs
      have h0 : a.tmps.getD 107 undef = .agg #[.int .i64 k, .int .i64 o, .int .i64 m, .slice ad n c, .string S] := h0
      have h1 : a.tmps.getD 106 undef = .bool true := h1
      refine opg_call rfl rfl rfl (by rw [hsz]; decide) h1 (f := 18) (args := #[.agg #[.int .i64 k, .int .i64 o, .int .i64 m, .slice ad n c, .string S]]) (by simp [execOp, Act.eval, resolve, h0, go_sem]) ?_
      exact calls_c (LA.out w1 (HB9.out.trans (hR.mono HB9.out.size)))
    · intro a w1 hR hsz hs      -- 8: slot 109
      obtain ⟨h0, h1, _⟩ := hs
      have h0 : a.tmps.getD 3 undef = .pointer (some ⟨w.heap.size, 0, none⟩) := h0
      have h1 : a.tmps.getD 106 undef = .bool true := h1
      obtain ⟨x0, x1, x2, x3, x4⟩ := (HX9.out.later hR).c5
      refine opg_run rfl rfl rfl (by rw [hsz]; decide) h1 (v := .agg #[.int .i64 k, .int .i64 o, .int .i64 m, .slice ad n c, .string S]) (w' := w1) ?_ rfl (Below.refl _ _)
      simp [execOp, Act.eval, h0, x0, x1, x2, x3, x4, go_sem]
    · intro a w1 hR hsz hs      -- 9: slot 110
      obtain ⟨h0, h1, _⟩ := hs
      have h0 : a.tmps.getD 109 undef = .agg #[.int .i64 k, .int .i64 o, .int .i64 m, .slice ad n c, .string S] := h0
      have h1 : a.tmps.getD 106 undef = .bool true := h1
      refine opg_call rfl rfl rfl (by rw [hsz]; decide) h1 (f := 19) (args := #[.agg #[.int .i64 k, .int .i64 o, .int .i64 m, .slice ad n c, .string S]]) (by simp [execOp, Act.eval, resolve, h0, go_sem]) ?_
      exact calls_c (LB.out w1 (HB9.out.trans (hR.mono HB9.out.size)))
    · intro a w1 hR hsz hs      -- 10: slot 111
      obtain ⟨h0, h1, h2, _⟩ := hs
      have h0 : a.tmps.getD 108 undef = .bool PL := h0
      have h1 : a.tmps.getD 110 undef = .bool PL := h1
      have h2 : a.tmps.getD 106 undef = .bool true := h2
      refine opg_run rfl rfl rfl (by rw [hsz]; decide) h2 (v := .bool true) (w' := w1) ?_ rfl (Below.refl _ _)
      simp [execOp, Act.eval, h0, h1, go_sem]
    · intro a w1 hR hsz hs      -- 11: slot 112
      obtain ⟨h0, h1, _⟩ := hs
      have h0 : a.tmps.getD 106 undef = .bool true := h0
      have h1 : a.tmps.getD 111 undef = .bool true := h1
      refine op_run rfl rfl (v := .bool true) (w' := w1) ?_ rfl (Below.refl _ _)
      simp [execOp, Act.eval, h0, h1, go_sem]
    · intro a w1 hR hsz hs      -- 12: slot 113
      obtain ⟨h0, _⟩ := hs
      have h0 : a.tmps.getD 112 undef = .bool true := h0
      refine op_run rfl rfl (v := .bool true) (w' := w1) ?_ rfl (Below.refl _ _)
      simp [execOp, Act.eval, h0, go_sem]
    · intro a w1 hR hsz hs      -- 13: slot 114
      obtain ⟨h0, h1, _⟩ := hs
      have h0 : a.tmps.getD 2 undef = .string s := h0
      have h1 : a.tmps.getD 113 undef = .bool true := h1
      refine opg_run rfl rfl rfl (by rw [hsz]; decide) h1 (v := .string s) (w' := w1) ?_ rfl (Below.refl _ _)
      simp [execOp, Act.eval, h0, go_sem]
    · intro a w1 hR hsz hs      -- 14: slot 115
      obtain ⟨h0, h1, _⟩ := hs
      have h0 : a.tmps.getD 114 undef = .string s := h0
      have h1 : a.tmps.getD 113 undef = .bool true := h1
      refine opg_call rfl rfl rfl (by rw [hsz]; decide) h1 (f := 20) (args := #[.string s]) (by simp [execOp, Act.eval, resolve, h0, go_sem]) ?_
      exact calls_eq (NA.out w1)
    · intro a w1 hR hsz hs      -- 15: slot 116
      obtain ⟨h0, h1, _⟩ := hs
      have h0 : a.tmps.getD 2 undef = .string s := h0
      have h1 : a.tmps.getD 113 undef = .bool true := h1
      refine opg_run rfl rfl rfl (by rw [hsz]; decide) h1 (v := .string s) (w' := w1) ?_ rfl (Below.refl _ _)
      simp [execOp, Act.eval, h0, go_sem]
    · intro a w1 hR hsz hs      -- 16: slot 117
      obtain ⟨h0, h1, _⟩ := hs
      have h0 : a.tmps.getD 116 undef = .string s := h0
      have h1 : a.tmps.getD 113 undef = .bool true := h1
      refine opg_call rfl rfl rfl (by rw [hsz]; decide) h1 (f := 21) (args := #[.string s]) (by simp [execOp, Act.eval, resolve, h0, go_sem]) ?_
      exact calls_eq (NB.out w1)
    · intro a w1 hR hsz hs      -- 17: slot 118
      obtain ⟨h0, h1, h2, _⟩ := hs
      have h0 : a.tmps.getD 115 undef = .bool NM := h0
      have h1 : a.tmps.getD 117 undef = .bool NM := h1
      have h2 : a.tmps.getD 113 undef = .bool true := h2
      refine opg_run rfl rfl rfl (by rw [hsz]; decide) h2 (v := .bool true) (w' := w1) ?_ rfl (Below.refl _ _)
      simp [execOp, Act.eval, h0, h1, go_sem]
    · intro a w1 hR hsz hs      -- 18: slot 119
      obtain ⟨h0, h1, _⟩ := hs
      have h0 : a.tmps.getD 113 undef = .bool true := h0
      have h1 : a.tmps.getD 118 undef = .bool true := h1
      refine op_run rfl rfl (v := .bool true) (w' := w1) ?_ rfl (Below.refl _ _)
      simp [execOp, Act.eval, h0, h1, go_sem]
    · intro a w1 hR hsz hs      -- 19: slot 120
      obtain ⟨h0, _⟩ := hs
      have h0 : a.tmps.getD 119 undef = .bool true := h0
      refine op_run rfl rfl (v := .bool true) (w' := w1) ?_ rfl (Below.refl _ _)
      simp [execOp, Act.eval, h0, go_sem]
    · intro a w1 hR hsz hs      -- 20: slot 121
      obtain ⟨h0, h1, _⟩ := hs
      have h0 : a.tmps.getD 3 undef = .pointer (some ⟨w.heap.size, 0, none⟩) := h0
      have h1 : a.tmps.getD 120 undef = .bool true := h1
      obtain ⟨x0, x1, x2, x3, x4⟩ := (HX9.out.later hR).c5
      refine opg_run rfl rfl rfl (by rw [hsz]; decide) h1 (v := .agg #[.int .i64 k, .int .i64 o, .int .i64 m, .slice ad n c, .string S]) (w' := w1) ?_ rfl (Below.refl _ _)
      simp [execOp, Act.eval, h0, x0, x1, x2, x3, x4, go_sem]
    · intro a w1 hR hsz hs      -- 21: slot 122
      obtain ⟨h0, h1, _⟩ := hs
      have h0 : a.tmps.getD 13 undef = .pointer (some ⟨p2, 0, none⟩) := h0
      have h1 : a.tmps.getD 120 undef = .bool true := h1
      obtain ⟨x0, x1, x2, x3, x4⟩ := (HQ9.out.later hR).c5
      refine opg_run rfl rfl rfl (by rw [hsz]; decide) h1 (v := .agg #[.int .i64 k2, .int .i64 o2, .int .i64 m2, .slice aq n2 cq, .string S2]) (w' := w1) ?_ rfl (Below.refl _ _)
      simp [execOp, Act.eval, h0, x0, x1, x2, x3, x4, go_sem]
    · intro a w1 hR hsz hs      -- 22: slot 123
      obtain ⟨h0, h1, h2, _⟩ := hs
      have h0 : a.tmps.getD 121 undef = .agg #[.int .i64 k, .int .i64 o, .int .i64 m, .slice ad n c, .string S] := h0
      have h1 : a.tmps.getD 122 undef = .agg #[.int .i64 k2, .int .i64 o2, .int .i64 m2, .slice aq n2 cq, .string S2] := h1
      have h2 : a.tmps.getD 120 undef = .bool true := h2
      refine opg_call rfl rfl rfl (by rw [hsz]; decide) h2 (f := 22) (args := #[.agg #[.int .i64 k, .int .i64 o, .int .i64 m, .slice ad n c, .string S], .agg #[.int .i64 k2, .int .i64 o2, .int .i64 m2, .slice aq n2 cq, .string S2]]) (by simp [execOp, Act.eval, resolve, h0, h1, go_sem]) ?_
      exact calls_c (esame_any _ _ _ _ _ _ _ _ _ _ _ _ _ _ _ _ w1 (HR.out.later (HB9.out.trans (hR.mono HB9.out.size))) (RQ9.out.later hR) HN.out HD2.out SB2 HSB.out)
    · intro a w1 hR hsz hs      -- 23: slot 124
      obtain ⟨h0, h1, _⟩ := hs
      have h0 : a.tmps.getD 3 undef = .pointer (some ⟨w.heap.size, 0, none⟩) := h0
      have h1 : a.tmps.getD 120 undef = .bool true := h1
      obtain ⟨x0, x1, x2, x3, x4⟩ := (HX9.out.later hR).c5
      refine opg_run rfl rfl rfl (by rw [hsz]; decide) h1 (v := .agg #[.int .i64 k, .int .i64 o, .int .i64 m, .slice ad n c, .string S]) (w' := w1) ?_ rfl (Below.refl _ _)
      simp [execOp, Act.eval, h0, x0, x1, x2, x3, x4, go_sem]
    · intro a w1 hR hsz hs      -- 24: slot 125
      obtain ⟨h0, h1, _⟩ := hs
      have h0 : a.tmps.getD 13 undef = .pointer (some ⟨p2, 0, none⟩) := h0
      have h1 : a.tmps.getD 120 undef = .bool true := h1
      obtain ⟨x0, x1, x2, x3, x4⟩ := (HQ9.out.later hR).c5
      refine opg_run rfl rfl rfl (by rw [hsz]; decide) h1 (v := .agg #[.int .i64 k2, .int .i64 o2, .int .i64 m2, .slice aq n2 cq, .string S2]) (w' := w1) ?_ rfl (Below.refl _ _)
      simp [execOp, Act.eval, h0, x0, x1, x2, x3, x4, go_sem]
    · intro a w1 hR hsz hs      -- 25: slot 126
      obtain ⟨h0, h1, h2, _⟩ := hs
      have h0 : a.tmps.getD 124 undef = .agg #[.int .i64 k, .int .i64 o, .int .i64 m, .slice ad n c, .string S] := h0
      have h1 : a.tmps.getD 125 undef = .agg #[.int .i64 k2, .int .i64 o2, .int .i64 m2, .slice aq n2 cq, .string S2] := h1
      have h2 : a.tmps.getD 120 undef = .bool true := h2
      refine opg_call rfl rfl rfl (by rw [hsz]; decide) h2 (f := 15) (args := #[.agg #[.int .i64 k, .int .i64 o, .int .i64 m, .slice ad n c, .string S], .agg #[.int .i64 k2, .int .i64 o2, .int .i64 m2, .slice aq n2 cq, .string S2]]) (by simp [execOp, Act.eval, resolve, h0, h1, go_sem]) ?_
      exact calls_c (rsame_any _ _ _ _ _ _ _ _ _ _ _ _ _ _ _ _ w1 (HR.out.later (HB9.out.trans (hR.mono HB9.out.size))) (RQ9.out.later hR) HN.out HD2.out SB2 HSB.out)
    · intro a w1 hR hsz hs      -- 26: slot 127
      obtain ⟨h0, h1, h2, _⟩ := hs
      have h0 : a.tmps.getD 123 undef = .bool SB2 := h0
      have h1 : a.tmps.getD 126 undef = .bool SB2 := h1
      have h2 : a.tmps.getD 120 undef = .bool true := h2
      refine opg_run rfl rfl rfl (by rw [hsz]; decide) h2 (v := .bool true) (w' := w1) ?_ rfl (Below.refl _ _)
      simp [execOp, Act.eval, h0, h1, go_sem]
    · intro a w1 hR hsz hs      -- 27: slot 128
      obtain ⟨h0, h1, _⟩ := hs
      have h0 : a.tmps.getD 120 undef = .bool true := h0
      have h1 : a.tmps.getD 127 undef = .bool true := h1
      refine op_run rfl rfl (v := .bool true) (w' := w1) ?_ rfl (Below.refl _ _)
      simp [execOp, Act.eval, h0, h1, go_sem]
    · intro a w1 hR hsz hs      -- 28: slot 129
      obtain ⟨h0, _⟩ := hs
      have h0 : a.tmps.getD 128 undef = .bool true := h0
      refine op_run rfl rfl (v := .bool true) (w' := w1) ?_ rfl (Below.refl _ _)
      simp [execOp, Act.eval, h0, go_sem]
    · intro a w1 hR hsz hs      -- 29: slot 130
      obtain ⟨h0, h1, _⟩ := hs
      have h0 : a.tmps.getD 3 undef = .pointer (some ⟨w.heap.size, 0, none⟩) := h0
      have h1 : a.tmps.getD 129 undef = .bool true := h1
      obtain ⟨x0, x1, x2, x3, x4⟩ := (HX9.out.later hR).c5
      refine opg_run rfl rfl rfl (by rw [hsz]; decide) h1 (v := .agg #[.int .i64 k, .int .i64 o, .int .i64 m, .slice ad n c, .string S]) (w' := w1) ?_ rfl (Below.refl _ _)
      simp [execOp, Act.eval, h0, x0, x1, x2, x3, x4, go_sem]
    · intro a w1 hR hsz hs      -- 30: slot 131
      obtain ⟨h0, h1, _⟩ := hs
      have h0 : a.tmps.getD 3 undef = .pointer (some ⟨w.heap.size, 0, none⟩) := h0
      have h1 : a.tmps.getD 129 undef = .bool true := h1
      obtain ⟨x0, x1, x2, x3, x4⟩ := (HX9.out.later hR).c5
      refine opg_run rfl rfl rfl (by rw [hsz]; decide) h1 (v := .agg #[.int .i64 k, .int .i64 o, .int .i64 m, .slice ad n c, .string S]) (w' := w1) ?_ rfl (Below.refl _ _)
      simp [execOp, Act.eval, h0, x0, x1, x2, x3, x4, go_sem]
    · intro a w1 hR hsz hs      -- 31: slot 132
      obtain ⟨h0, h1, h2, _⟩ := hs
      have h0 : a.tmps.getD 130 undef = .agg #[.int .i64 k, .int .i64 o, .int .i64 m, .slice ad n c, .string S] := h0
      have h1 : a.tmps.getD 131 undef = .agg #[.int .i64 k, .int .i64 o, .int .i64 m, .slice ad n c, .string S] := h1
      have h2 : a.tmps.getD 129 undef = .bool true := h2
      refine opg_call rfl rfl rfl (by rw [hsz]; decide) h2 (f := 22) (args := #[.agg #[.int .i64 k, .int .i64 o, .int .i64 m, .slice ad n c, .string S], .agg #[.int .i64 k, .int .i64 o, .int .i64 m, .slice ad n c, .string S]]) (by simp [execOp, Act.eval, resolve, h0, h1, go_sem]) ?_
      exact calls_c (esame_any _ _ _ _ _ _ _ _ _ _ _ _ _ _ _ _ w1 (HR.out.later (HB9.out.trans (hR.mono HB9.out.size))) (HR.out.later (HB9.out.trans (hR.mono HB9.out.size))) HN.out HN.out true (by simp))
    · intro a w1 hR hsz hs      -- 32: slot 133
      obtain ⟨h0, h1, _⟩ := hs
      have h0 : a.tmps.getD 129 undef = .bool true := h0
      have h1 : a.tmps.getD 132 undef = .bool true := h1
      refine op_run rfl rfl (v := .bool true) (w' := w1) ?_ rfl (Below.refl _ _)
      simp [execOp, Act.eval, h0, h1, go_sem]
    · intro a w1 hR hsz hs      -- 33: slot 134
      obtain ⟨h0, _⟩ := hs
      have h0 : a.tmps.getD 133 undef = .bool true := h0
      refine op_run rfl rfl (v := .bool true) (w' := w1) ?_ rfl (Below.refl _ _)
      simp [execOp, Act.eval, h0, go_sem]
    · intro a w1 hR hsz hs      -- 34: slot 135
      obtain ⟨h0, _⟩ := hs
      have h0 : a.tmps.getD 134 undef = .bool true := h0
      refine opg_call rfl rfl rfl (by rw [hsz]; decide) h0 (f := 8) (args := #[]) (by simp [execOp, Act.eval, resolve, go_sem]) ?_
      exact calls_c (known_any w1)
    · intro a w1 hR hsz hs      -- 35: slot 136
      obtain ⟨h0, h1, _⟩ := hs
      have h0 : a.tmps.getD 134 undef = .bool true := h0
      have h1 : a.tmps.getD 135 undef = .bool true := h1
      refine op_run rfl rfl (v := .bool true) (w' := w1) ?_ rfl (Below.refl _ _)
      simp [execOp, Act.eval, h0, h1, go_sem]
    · intro a w1 hR hsz hs      -- 36: slot 6
      obtain ⟨h0, _⟩ := hs
      have h0 : a.tmps.getD 136 undef = .bool true := h0
      refine op_run rfl rfl (v := .bool true) (w' := w1) ?_ rfl (Below.refl _ _)
      simp [execOp, Act.eval, h0, go_sem]
  · intro f w1 hR hv
    have e6 : f 6 = .bool true := hv 36 _ 6 rfl rfl
    clear hv
    try simp only [Exit.then]
    simp only [putAll, List.foldl_cons, List.foldl_nil, Option.getD_some, Act.put, List.setIfInBounds_toArray, List.set_cons_succ, List.set_cons_zero]
    go_wp2_with fail
    go_ret
    exact ⟨congrArg Ending.returned e6, HB9.out.trans (hR.mono HB9.out.size)⟩
  -- END 11

theorem eventTells_walk (cs : Array Value) (e : Ev) (a1 : Option Addr) (m1 c1 : Nat) (l : List UInt8) (s : ByteArray) (w : World) (he : EvE w cs.toList e) (hl : Row w a1 c1 l) (hm : l.length = m1) :
    Calls Try.prog 3 #[.agg cs, .slice a1 m1 c1, .string s] w fun x w' => x = .returned (.bool true) ∧ Below w.heap.size w w' := by
  obtain ⟨a, c, S, rfl, hS, hSs, hr⟩ := he.open
  by_cases hb : 200 < e.data.length ∨ 200 < m1 ∨ 60 < s.size ∨ 60 < S.size
  · exact etells_known _ _ _ a a1 _ c m1 c1 S s w hb
  · exact etells_walk _ _ _ a a1 _ c m1 c1 S s e.data l w hr rfl (by omega) hl hm (by omega) (by omega) (by omega)
end Go.Proofs.Ytnllopfhfijjbaa
