/- The law 'FrameTells', walked. -/
import Derived.Test.YtnecbhioekmcgaaFrK
import Derived.Test.YtnecbhioekmcgaaFrE
import Derived.Test.YtnecbhioekmcgaaRv
import Derived.Test.YtnecbhioekmcgaaCrcKnown
namespace Go.Proofs.Ytnecbhioekmcgaa
open Go.RowKit
set_option linter.unusedVariables false
set_option linter.unusedSimpArgs false

/-- A slice of one entry. -/
def eV (e : En) : SV := ⟨fun w v => ∃ b c, v = .slice b 1 c ∧ ERow w b c [e], fun w w' v ⟨b, c, h, r⟩ hb => ⟨b, c, h, r.later hb⟩⟩
theorem eV_new (w : World) (e : En) (a : Option Addr) (n c : Nat) (hn : e.data.length = n) (hr : Row w a c e.data) : (eV e).p (w.alloc (.cells #[.int .i64 e.tag, .int .i64 e.seq, .slice a n c] 24)) (.slice (some ⟨w.heap.size, 0, none⟩) 1 1) := by
  subst hn
  have hrec := RecAt.new w #[.int .i64 e.tag, .int .i64 e.seq, .slice a e.data.length c] 24
  refine ⟨_, _, rfl, by simp, by simp [maxLen], (fun h => by cases h), fun x hx i u hu => ?_⟩
  cases hx
  match i, hu with
  | 0, hu =>
    simp at hu
    subst hu
    refine ⟨rfl, a, c, hrec.cell rfl, hrec.cell rfl, hrec.cell rfl, hr.later ((Below.refl _ _).alloc (Nat.le_refl _) _)⟩

set_option maxRecDepth 100000 in
set_option maxHeartbeats 3200000 in
theorem ftells_known (e : En) (ad a1 : Option Addr) (n c m c1 : Nat) (p q : Int) (w : World) (hb : 500 < m ∨ 200 < n) :
    Calls Try.prog 3 #[.agg #[.int .i64 e.tag, .int .i64 e.seq, .slice ad n c], .slice a1 m c1, .int .i64 p, .int .i64 q] w fun x w' => x = .returned (.bool true) ∧ Below w.heap.size w w' := by
  have HB : Hid (Below w.heap.size w (w.alloc (.cells #[.int .i64 e.tag, .int .i64 e.seq, .slice ad n c] 24))) := Lib.hid ((Below.refl _ _).alloc (Nat.le_refl _) _)
  rcases (show 500 < (m : Int) ∨ (decide (500 < (m : Int)) = false ∧ 200 < (n : Int)) by simp only [decide_eq_false_iff_not]; omega) with h | ⟨h1, h⟩
  all_goals
    clear hb
    go_enter Try.func3, Try.ntmps3
    go_wp2_with fail
    refine (known_any _).mono ?_
    rintro y w2 ⟨rfl, hb2⟩
    go_wp2_with fail
    go_ret
    exact ⟨rfl, HB.out.trans (hb2.mono HB.out.size)⟩

set_option maxRecDepth 100000 in
set_option maxHeartbeats 6400000 in
theorem ftells_walk (e : En) (ad a1 : Option Addr) (n c m c1 : Nat) (l : List UInt8) (p nn : Int) (w : World) (hr : Row w ad c e.data) (hn : e.data.length = n) (hn2 : n ≤ 200) (hl : Row w a1 c1 l) (hm : l.length = m) (hm2 : m ≤ 500)
    (hp0 : -9223372036854775808 ≤ p) (hp1 : p ≤ 9223372036854775807) :
    Calls Try.prog 3 #[.agg #[.int .i64 e.tag, .int .i64 e.seq, .slice ad n c], .slice a1 m c1, .int .i64 p, .int .i64 nn] w fun x w' => x = .returned (.bool true) ∧ Below w.heap.size w w' := by
  have hd1 : decide (500 < (m : Int)) = false := by simp; omega
  have hd2 : decide (200 < (n : Int)) = false := by simp; omega
  have HB : Hid (Below w.heap.size w (w.alloc (.cells #[.int .i64 e.tag, .int .i64 e.seq, .slice ad n c] 24))) := Lib.hid ((Below.refl _ _).alloc (Nat.le_refl _) _)
  have HX := Lib.hid (RecAt.new w #[.int .i64 e.tag, .int .i64 e.seq, .slice ad n c] 24)
  have HR := Lib.hid hr
  have HN := Lib.hid hn
  have HL := Lib.hid hl
  have HM := Lib.hid hm
  clear hr hn hl hm
  obtain ⟨X, g, hXg⟩ : ∃ X g, layA e = (X, g) := ⟨_, _, rfl⟩
  obtain ⟨A, nx, er, hA⟩ : ∃ A nx er, takeA l p = (A, nx, er) := ⟨_, _, _, rfl⟩
  have LA := Lib.hid (fun (W : World) (h : Below w.heap.size w W) => lay_any e ad c n W (HR.out.later h) HN.out (by omega))
  have LB := Lib.hid (fun (W : World) (h : Below w.heap.size w W) => rlay_any e ad c n W (HR.out.later h) HN.out (by omega))
  have TA := Lib.hid (fun (W : World) (h : Below w.heap.size w W) => take_any a1 m c1 l p W (HL.out.later h) HM.out (by omega) hp0 hp1)
  have TB := Lib.hid (fun (W : World) (h : Below w.heap.size w W) => rtake_any a1 m c1 l p W (HL.out.later h) HM.out (by omega) hp0 hp1)
  rw [hXg] at LA LB
  rw [hA] at TA TB
  have HAL : Hid (A.data.length ≤ 100) := by
    refine Lib.hid ?_
    have h1 : A = (takeA l p).1 := by rw [hA]
    rw [h1]
    unfold takeA
    split
    · simp [noE]
    · simp only
      rcases takeM_two (l.drop p.toNat) with ⟨d, h2, _⟩ | ⟨e2, h2, h3, _⟩
      · rw [h2]; simp [noE]
      · rw [h2]; have := (rightE_iff.1 h3).2.2.2.2; simp only; omega
  clear hXg hA
  go_enter Try.func3, Try.ntmps3
  go_wp2_with fail
  refine (LA.out _ HB.out).mono ?_
  rintro y w1 ⟨v1, rfl, o1⟩
  simp only at o1 ⊢
  have HB1 := Lib.hid (HB.out.trans (o1.below.mono HB.out.size))
  have HX1 := Lib.hid (HX.out.later o1.below)
  obtain ⟨aX, cX, rfl, rX⟩ := o1.row
  obtain ⟨c00, c01, c02⟩ := HX1.out.c3
  clear o1 LA
  go_wp2_with fail
  refine (LB.out _ HB1.out).mono ?_
  rintro y w2 ⟨v2, rfl, o2⟩
  simp only at o2 ⊢
  have HB2 := Lib.hid (HB1.out.trans (o2.below.mono HB1.out.size))
  have HX2 := Lib.hid (HX1.out.later o2.below)
  have RX2 := Lib.hid (rX.later o2.below)
  obtain ⟨aY, cY, rfl, rY⟩ := o2.row
  have RY2 := Lib.hid rY
  clear o2 rX rY LB c00 c01 c02
  go_wp2_with fail
  refine (TA.out _ HB2.out).mono ?_
  rintro y w3 ⟨ap, cp, rfl, rp, hb3, -⟩
  simp only at rp ⊢
  unfold entV
  generalize hdl : A.data.length = dl at *
  have HDL := Lib.hid hdl
  clear hdl TA
  have hba : Below w3.heap.size w3 (w3.alloc (.cells #[.int .i64 A.tag, .int .i64 A.seq, .slice ap dl cp] 24)) := (Below.refl _ _).alloc (Nat.le_refl _) _
  have hbb := hb3.trans (hba.mono hb3.size)
  have HB4 := Lib.hid (HB2.out.trans (hbb.mono HB2.out.size))
  have HX4 := Lib.hid (HX2.out.later hbb)
  have RX4 := Lib.hid (RX2.out.later hbb)
  have RY4 := Lib.hid (RY2.out.later hbb)
  have HP4 := Lib.hid (RecAt.new w3 #[.int .i64 A.tag, .int .i64 A.seq, .slice ap dl cp] 24)
  have RP4 := Lib.hid (rp.later hba)
  clear rp hb3 hba hbb
  go_upto_region 6 with fail
  generalize (w3.alloc (.cells #[.int .i64 A.tag, .int .i64 A.seq, .slice ap dl cp] 24)) = w4 at *
  generalize w3.heap.size = p1 at *
  go_wp2_with fail
  refine (TB.out _ HB4.out).mono ?_
  rintro y w5 ⟨aq, cq, rfl, rq, hb5, -⟩
  simp only at rq ⊢
  unfold entV
  rw [HDL.out]
  have hba : Below w5.heap.size w5 (w5.alloc (.cells #[.int .i64 A.tag, .int .i64 A.seq, .slice aq dl cq] 24)) := (Below.refl _ _).alloc (Nat.le_refl _) _
  have hbb := hb5.trans (hba.mono hb5.size)
  have HB6 := Lib.hid (HB4.out.trans (hbb.mono HB4.out.size))
  have HX6 := Lib.hid (HX4.out.later hbb)
  have RX6 := Lib.hid (RX4.out.later hbb)
  have RY6 := Lib.hid (RY4.out.later hbb)
  have HP6 := Lib.hid (HP4.out.later hbb)
  have RP6 := Lib.hid (RP4.out.later hbb)
  have HQ6 := Lib.hid (RecAt.new w5 #[.int .i64 A.tag, .int .i64 A.seq, .slice aq dl cq] 24)
  have RQ6 := Lib.hid (rq.later hba)
  clear rq hb5 hba hbb TB HX HX1 HX2 HX4 HB HB1 HB2 HB4 RX2 RY2 RX4 RY4 HP4 RP4
  go_upto_region 7 with fail
  generalize (w5.alloc (.cells #[.int .i64 A.tag, .int .i64 A.seq, .slice aq dl cq] 24)) = w6 at *
  generalize w5.heap.size = p2 at *
  obtain ⟨S, hS⟩ : ∃ S, (⟨X.toArray⟩ : ByteArray) = S := ⟨_, rfl⟩
  have HS := Lib.hid hS
  clear hS
  -- REG 7
  refine wp_region_tab (L := [cV (.int .i64 g), cV (.int .i64 g), cV (.bool true), cV (.bool true), cV (.slice aX X.length cX), cV (.string S), cV (.slice aY X.length cY), cV (.string S), cV (.bool true), cV (.bool true), cV (.bool true), cV (.int .i64 er), cV (.int .i64 er), cV (.bool true), cV (.bool true), cV (.bool true), cV (.int .i64 nx), cV (.int .i64 nx), cV (.bool true), cV (.bool true), cV (.bool true), cV (.agg #[.int .i64 A.tag, .int .i64 A.seq, .slice ap dl cp]), eV A, cV (.agg #[.int .i64 A.tag, .int .i64 A.seq, .slice aq dl cq]), eV A, cV (.bool true), cV (.bool true), cV (.bool true), cV (.agg #[.int .i64 e.tag, .int .i64 e.seq, .slice ad n c]), cV (.bool (rightE e.tag e.seq n)), cV (.agg #[.int .i64 e.tag, .int .i64 e.seq, .slice ad n c]), cV (.bool (rightE e.tag e.seq n)), cV (.bool true), cV (.bool true), cV (.bool true), cV (.int .i64 nn), cV (.int .i64 (min (max nn 0) 90 + 22)), cV (.int .i64 nn), cV (.int .i64 (min (max nn 0) 90 + 22)), cV (.bool true), cV (.bool true), cV (.bool true), cV (.bool true), cV (.bool true), cV (.bool true)]) [[(10, none)], [(12, none)], [(53, some 0), (54, some 1)], [(55, some 2)], [(9, none), (56, some 3)], [(57, some 4), (56, some 3)], [(11, none), (56, some 3)], [(59, some 6), (56, some 3)], [(58, some 5), (60, some 7), (56, some 3)], [(56, some 3), (61, some 8)], [(62, some 9)], [(15, none), (63, some 10)], [(18, none), (63, some 10)], [(64, some 11), (65, some 12), (63, some 10)], [(63, some 10), (66, some 13)], [(67, some 14)], [(14, none), (68, some 15)], [(17, none), (68, some 15)], [(69, some 16), (70, some 17), (68, some 15)], [(68, some 15), (71, some 18)], [(72, some 19)], [(13, none), (73, some 20)], [(74, some 21), (73, some 20)], [(16, none), (73, some 20)], [(76, some 23), (73, some 20)], [(75, some 22), (77, some 24), (73, some 20)], [(73, some 20), (78, some 25)], [(79, some 26)], [(4, none), (80, some 27)], [(81, some 28), (80, some 27)], [(4, none), (80, some 27)], [(83, some 30), (80, some 27)], [(82, some 29), (84, some 31), (80, some 27)], [(80, some 27), (85, some 32)], [(86, some 33)], [(3, none), (87, some 34)], [(88, some 35), (87, some 34)], [(3, none), (87, some 34)], [(90, some 37), (87, some 34)], [(89, some 36), (91, some 38), (87, some 34)], [(87, some 34), (92, some 39)], [(93, some 40)], [(94, some 41)], [(94, some 41), (95, some 42)], [(96, some 43)]] 45 97 (by kernel_rfl) rfl rfl (by kernel_rfl) (by kernel_rfl) ?_ ?_
  · show ∀ i, i < 45 → _
    iterate 45 (refine fls ?_ ?_)
    · exact fl0
    · intro a w1 hR hsz hs      -- 0: slot 53
      obtain ⟨h0, _⟩ := hs
      have h0 : a.tmps.getD 10 undef = .int .i64 g := h0
      refine op_run rfl rfl (v := .int .i64 g) (w' := w1) ?_ rfl (Below.refl _ _)
      simp [execOp, Act.eval, h0, go_sem]
    · intro a w1 hR hsz hs      -- 1: slot 54
      obtain ⟨h0, _⟩ := hs
      have h0 : a.tmps.getD 12 undef = .int .i64 g := h0
      refine op_run rfl rfl (v := .int .i64 g) (w' := w1) ?_ rfl (Below.refl _ _)
      simp [execOp, Act.eval, h0, go_sem]
    · intro a w1 hR hsz hs      -- 2: slot 55
      obtain ⟨h0, h1, _⟩ := hs
      have h0 : a.tmps.getD 53 undef = .int .i64 g := h0
      have h1 : a.tmps.getD 54 undef = .int .i64 g := h1
      refine op_run rfl rfl (v := .bool true) (w' := w1) ?_ rfl (Below.refl _ _)
      simp [execOp, Act.eval, h0, h1, go_sem]
    · intro a w1 hR hsz hs      -- 3: slot 56
      obtain ⟨h0, _⟩ := hs
      have h0 : a.tmps.getD 55 undef = .bool true := h0
      refine op_run rfl rfl (v := .bool true) (w' := w1) ?_ rfl (Below.refl _ _)
      simp [execOp, Act.eval, h0, go_sem]
    · intro a w1 hR hsz hs      -- 4: slot 57
      obtain ⟨h0, h1, _⟩ := hs
      have h0 : a.tmps.getD 9 undef = .slice aX X.length cX := h0
      have h1 : a.tmps.getD 56 undef = .bool true := h1
      refine opg_run rfl rfl rfl (by rw [hsz]; decide) h1 (v := .slice aX X.length cX) (w' := w1) ?_ rfl (Below.refl _ _)
      simp [execOp, Act.eval, h0, go_sem]
    · intro a w1 hR hsz hs      -- 5: slot 58
      obtain ⟨h0, h1, _⟩ := hs
      have h0 : a.tmps.getD 57 undef = .slice aX X.length cX := h0
      have h1 : a.tmps.getD 56 undef = .bool true := h1
      have hcv := conv_row (RX6.out.later hR); rw [HS.out] at hcv
      refine opg_run rfl rfl rfl (by rw [hsz]; decide) h1 (v := .string S) (w' := w1) ?_ rfl (Below.refl _ _)
      simp [execOp, Act.eval, h0, hcv, go_sem]
    · intro a w1 hR hsz hs      -- 6: slot 59
      obtain ⟨h0, h1, _⟩ := hs
      have h0 : a.tmps.getD 11 undef = .slice aY X.length cY := h0
      have h1 : a.tmps.getD 56 undef = .bool true := h1
      refine opg_run rfl rfl rfl (by rw [hsz]; decide) h1 (v := .slice aY X.length cY) (w' := w1) ?_ rfl (Below.refl _ _)
      simp [execOp, Act.eval, h0, go_sem]
    · intro a w1 hR hsz hs      -- 7: slot 60
      obtain ⟨h0, h1, _⟩ := hs
      have h0 : a.tmps.getD 59 undef = .slice aY X.length cY := h0
      have h1 : a.tmps.getD 56 undef = .bool true := h1
      have hcv := conv_row (RY6.out.later hR); rw [HS.out] at hcv
      refine opg_run rfl rfl rfl (by rw [hsz]; decide) h1 (v := .string S) (w' := w1) ?_ rfl (Below.refl _ _)
      simp [execOp, Act.eval, h0, hcv, go_sem]
    · intro a w1 hR hsz hs      -- 8: slot 61
      obtain ⟨h0, h1, h2, _⟩ := hs
      have h0 : a.tmps.getD 58 undef = .string S := h0
      have h1 : a.tmps.getD 60 undef = .string S := h1
      have h2 : a.tmps.getD 56 undef = .bool true := h2
      refine opg_run rfl rfl rfl (by rw [hsz]; decide) h2 (v := .bool true) (w' := w1) ?_ rfl (Below.refl _ _)
      simp [execOp, Act.eval, h0, h1, go_sem]
    · intro a w1 hR hsz hs      -- 9: slot 62
      obtain ⟨h0, h1, _⟩ := hs
      have h0 : a.tmps.getD 56 undef = .bool true := h0
      have h1 : a.tmps.getD 61 undef = .bool true := h1
      refine op_run rfl rfl (v := .bool true) (w' := w1) ?_ rfl (Below.refl _ _)
      simp [execOp, Act.eval, h0, h1, go_sem]
    · intro a w1 hR hsz hs      -- 10: slot 63
      obtain ⟨h0, _⟩ := hs
      have h0 : a.tmps.getD 62 undef = .bool true := h0
      refine op_run rfl rfl (v := .bool true) (w' := w1) ?_ rfl (Below.refl _ _)
      simp [execOp, Act.eval, h0, go_sem]
    · intro a w1 hR hsz hs      -- 11: slot 64
      obtain ⟨h0, h1, _⟩ := hs
      have h0 : a.tmps.getD 15 undef = .int .i64 er := h0
      have h1 : a.tmps.getD 63 undef = .bool true := h1
      refine opg_run rfl rfl rfl (by rw [hsz]; decide) h1 (v := .int .i64 er) (w' := w1) ?_ rfl (Below.refl _ _)
      simp [execOp, Act.eval, h0, go_sem]
    · intro a w1 hR hsz hs      -- 12: slot 65
      obtain ⟨h0, h1, _⟩ := hs
      have h0 : a.tmps.getD 18 undef = .int .i64 er := h0
      have h1 : a.tmps.getD 63 undef = .bool true := h1
      refine opg_run rfl rfl rfl (by rw [hsz]; decide) h1 (v := .int .i64 er) (w' := w1) ?_ rfl (Below.refl _ _)
      simp [execOp, Act.eval, h0, go_sem]
    · intro a w1 hR hsz hs      -- 13: slot 66
      obtain ⟨h0, h1, h2, _⟩ := hs
      have h0 : a.tmps.getD 64 undef = .int .i64 er := h0
      have h1 : a.tmps.getD 65 undef = .int .i64 er := h1
      have h2 : a.tmps.getD 63 undef = .bool true := h2
      refine opg_run rfl rfl rfl (by rw [hsz]; decide) h2 (v := .bool true) (w' := w1) ?_ rfl (Below.refl _ _)
      simp [execOp, Act.eval, h0, h1, go_sem]
    · intro a w1 hR hsz hs      -- 14: slot 67
      obtain ⟨h0, h1, _⟩ := hs
      have h0 : a.tmps.getD 63 undef = .bool true := h0
      have h1 : a.tmps.getD 66 undef = .bool true := h1
      refine op_run rfl rfl (v := .bool true) (w' := w1) ?_ rfl (Below.refl _ _)
      simp [execOp, Act.eval, h0, h1, go_sem]
    · intro a w1 hR hsz hs      -- 15: slot 68
      obtain ⟨h0, _⟩ := hs
      have h0 : a.tmps.getD 67 undef = .bool true := h0
      refine op_run rfl rfl (v := .bool true) (w' := w1) ?_ rfl (Below.refl _ _)
      simp [execOp, Act.eval, h0, go_sem]
    · intro a w1 hR hsz hs      -- 16: slot 69
      obtain ⟨h0, h1, _⟩ := hs
      have h0 : a.tmps.getD 14 undef = .int .i64 nx := h0
      have h1 : a.tmps.getD 68 undef = .bool true := h1
      refine opg_run rfl rfl rfl (by rw [hsz]; decide) h1 (v := .int .i64 nx) (w' := w1) ?_ rfl (Below.refl _ _)
      simp [execOp, Act.eval, h0, go_sem]
    · intro a w1 hR hsz hs      -- 17: slot 70
      obtain ⟨h0, h1, _⟩ := hs
      have h0 : a.tmps.getD 17 undef = .int .i64 nx := h0
      have h1 : a.tmps.getD 68 undef = .bool true := h1
      refine opg_run rfl rfl rfl (by rw [hsz]; decide) h1 (v := .int .i64 nx) (w' := w1) ?_ rfl (Below.refl _ _)
      simp [execOp, Act.eval, h0, go_sem]
    · intro a w1 hR hsz hs      -- 18: slot 71
      obtain ⟨h0, h1, h2, _⟩ := hs
      have h0 : a.tmps.getD 69 undef = .int .i64 nx := h0
      have h1 : a.tmps.getD 70 undef = .int .i64 nx := h1
      have h2 : a.tmps.getD 68 undef = .bool true := h2
      refine opg_run rfl rfl rfl (by rw [hsz]; decide) h2 (v := .bool true) (w' := w1) ?_ rfl (Below.refl _ _)
      simp [execOp, Act.eval, h0, h1, go_sem]
    · intro a w1 hR hsz hs      -- 19: slot 72
      obtain ⟨h0, h1, _⟩ := hs
      have h0 : a.tmps.getD 68 undef = .bool true := h0
      have h1 : a.tmps.getD 71 undef = .bool true := h1
      refine op_run rfl rfl (v := .bool true) (w' := w1) ?_ rfl (Below.refl _ _)
      simp [execOp, Act.eval, h0, h1, go_sem]
    · intro a w1 hR hsz hs      -- 20: slot 73
      obtain ⟨h0, _⟩ := hs
      have h0 : a.tmps.getD 72 undef = .bool true := h0
      refine op_run rfl rfl (v := .bool true) (w' := w1) ?_ rfl (Below.refl _ _)
      simp [execOp, Act.eval, h0, go_sem]
    · intro a w1 hR hsz hs      -- 21: slot 74
      obtain ⟨h0, h1, _⟩ := hs
      have h0 : a.tmps.getD 13 undef = .pointer (some ⟨p1, 0, none⟩) := h0
      have h1 : a.tmps.getD 73 undef = .bool true := h1
      obtain ⟨k0, k1, k2⟩ := (HP6.out.later hR).c3
      refine opg_run rfl rfl rfl (by rw [hsz]; decide) h1 (v := .agg #[.int .i64 A.tag, .int .i64 A.seq, .slice ap dl cp]) (w' := w1) ?_ rfl (Below.refl _ _)
      simp [execOp, Act.eval, h0, k0, k1, k2, go_sem]
    · intro a w1 hR hsz hs      -- 22: slot 75
      obtain ⟨h0, h1, _⟩ := hs
      have h0 : a.tmps.getD 74 undef = .agg #[.int .i64 A.tag, .int .i64 A.seq, .slice ap dl cp] := h0
      have h1 : a.tmps.getD 73 undef = .bool true := h1
      have g0 : a.tmps[74]?.getD undef = .agg #[.int .i64 A.tag, .int .i64 A.seq, .slice ap dl cp] := (Array.getD_eq_getD_getElem? ..).symm.trans h0
      refine opg_run rfl rfl rfl (by rw [hsz]; decide) h1 (v := .slice (some ⟨w1.heap.size, 0, none⟩) 1 1) (w' := w1.alloc (.cells #[.int .i64 A.tag, .int .i64 A.seq, .slice ap dl cp] 24)) ?_ (eV_new w1 A _ dl _ HDL.out (RP6.out.later hR)) ((Below.refl _ _).alloc (Nat.le_refl _) _)
      simp [execOp, Act.eval, h0, g0, go_sem]
    · intro a w1 hR hsz hs      -- 23: slot 76
      obtain ⟨h0, h1, _⟩ := hs
      have h0 : a.tmps.getD 16 undef = .pointer (some ⟨p2, 0, none⟩) := h0
      have h1 : a.tmps.getD 73 undef = .bool true := h1
      obtain ⟨k0, k1, k2⟩ := (HQ6.out.later hR).c3
      refine opg_run rfl rfl rfl (by rw [hsz]; decide) h1 (v := .agg #[.int .i64 A.tag, .int .i64 A.seq, .slice aq dl cq]) (w' := w1) ?_ rfl (Below.refl _ _)
      simp [execOp, Act.eval, h0, k0, k1, k2, go_sem]
    · intro a w1 hR hsz hs      -- 24: slot 77
      obtain ⟨h0, h1, _⟩ := hs
      have h0 : a.tmps.getD 76 undef = .agg #[.int .i64 A.tag, .int .i64 A.seq, .slice aq dl cq] := h0
      have h1 : a.tmps.getD 73 undef = .bool true := h1
      have g0 : a.tmps[76]?.getD undef = .agg #[.int .i64 A.tag, .int .i64 A.seq, .slice aq dl cq] := (Array.getD_eq_getD_getElem? ..).symm.trans h0
      refine opg_run rfl rfl rfl (by rw [hsz]; decide) h1 (v := .slice (some ⟨w1.heap.size, 0, none⟩) 1 1) (w' := w1.alloc (.cells #[.int .i64 A.tag, .int .i64 A.seq, .slice aq dl cq] 24)) ?_ (eV_new w1 A _ dl _ HDL.out (RQ6.out.later hR)) ((Below.refl _ _).alloc (Nat.le_refl _) _)
      simp [execOp, Act.eval, h0, g0, go_sem]
    · intro a w1 hR hsz hs      -- 25: slot 78
      obtain ⟨h0, h1, h2, _⟩ := hs
      obtain ⟨b0, c0, h0, r0⟩ : ∃ b c, a.tmps.getD 75 undef = .slice b 1 c ∧ ERow w1 b c [A] := h0
      obtain ⟨b1, c1, h1, r1⟩ : ∃ b c, a.tmps.getD 77 undef = .slice b 1 c ∧ ERow w1 b c [A] := h1
      have h2 : a.tmps.getD 73 undef = .bool true := h2
      refine opg_call rfl rfl rfl (by rw [hsz]; decide) h2 (f := 14) (args := #[.slice b0 1 c0, .slice b1 1 c1]) (by simp [execOp, Act.eval, resolve, h0, h1, go_sem]) ?_
      exact calls_c (same_any _ _ 1 _ _ [A] w1 r0 r1 rfl (by decide))
    · intro a w1 hR hsz hs      -- 26: slot 79
      obtain ⟨h0, h1, _⟩ := hs
      have h0 : a.tmps.getD 73 undef = .bool true := h0
      have h1 : a.tmps.getD 78 undef = .bool true := h1
      refine op_run rfl rfl (v := .bool true) (w' := w1) ?_ rfl (Below.refl _ _)
      simp [execOp, Act.eval, h0, h1, go_sem]
    · intro a w1 hR hsz hs      -- 27: slot 80
      obtain ⟨h0, _⟩ := hs
      have h0 : a.tmps.getD 79 undef = .bool true := h0
      refine op_run rfl rfl (v := .bool true) (w' := w1) ?_ rfl (Below.refl _ _)
      simp [execOp, Act.eval, h0, go_sem]
    · intro a w1 hR hsz hs      -- 28: slot 81
      obtain ⟨h0, h1, _⟩ := hs
      have h0 : a.tmps.getD 4 undef = .pointer (some ⟨w.heap.size, 0, none⟩) := h0
      have h1 : a.tmps.getD 80 undef = .bool true := h1
      obtain ⟨k0, k1, k2⟩ := (HX6.out.later hR).c3
      refine opg_run rfl rfl rfl (by rw [hsz]; decide) h1 (v := .agg #[.int .i64 e.tag, .int .i64 e.seq, .slice ad n c]) (w' := w1) ?_ rfl (Below.refl _ _)
      simp [execOp, Act.eval, h0, k0, k1, k2, go_sem]
    · intro a w1 hR hsz hs      -- 29: slot 82
      obtain ⟨h0, h1, _⟩ := hs
      have h0 : a.tmps.getD 81 undef = .agg #[.int .i64 e.tag, .int .i64 e.seq, .slice ad n c] := h0
      have h1 : a.tmps.getD 80 undef = .bool true := h1
      refine opg_call rfl rfl rfl (by rw [hsz]; decide) h1 (f := 15) (args := #[.agg #[.int .i64 e.tag, .int .i64 e.seq, .slice ad n c]]) (by simp [execOp, Act.eval, resolve, h0, go_sem]) ?_
      exact calls_c (right_any _ _ _ _ _ w1 (by omega))
    · intro a w1 hR hsz hs      -- 30: slot 83
      obtain ⟨h0, h1, _⟩ := hs
      have h0 : a.tmps.getD 4 undef = .pointer (some ⟨w.heap.size, 0, none⟩) := h0
      have h1 : a.tmps.getD 80 undef = .bool true := h1
      obtain ⟨k0, k1, k2⟩ := (HX6.out.later hR).c3
      refine opg_run rfl rfl rfl (by rw [hsz]; decide) h1 (v := .agg #[.int .i64 e.tag, .int .i64 e.seq, .slice ad n c]) (w' := w1) ?_ rfl (Below.refl _ _)
      simp [execOp, Act.eval, h0, k0, k1, k2, go_sem]
    · intro a w1 hR hsz hs      -- 31: slot 84
      obtain ⟨h0, h1, _⟩ := hs
      have h0 : a.tmps.getD 83 undef = .agg #[.int .i64 e.tag, .int .i64 e.seq, .slice ad n c] := h0
      have h1 : a.tmps.getD 80 undef = .bool true := h1
      refine opg_call rfl rfl rfl (by rw [hsz]; decide) h1 (f := 16) (args := #[.agg #[.int .i64 e.tag, .int .i64 e.seq, .slice ad n c]]) (by simp [execOp, Act.eval, resolve, h0, go_sem]) ?_
      exact calls_c (rright_any _ _ _ _ _ w1 (by omega))
    · intro a w1 hR hsz hs      -- 32: slot 85
      obtain ⟨h0, h1, h2, _⟩ := hs
      have h0 : a.tmps.getD 82 undef = .bool (rightE e.tag e.seq n) := h0
      have h1 : a.tmps.getD 84 undef = .bool (rightE e.tag e.seq n) := h1
      have h2 : a.tmps.getD 80 undef = .bool true := h2
      refine opg_run rfl rfl rfl (by rw [hsz]; decide) h2 (v := .bool true) (w' := w1) ?_ rfl (Below.refl _ _)
      simp [execOp, Act.eval, h0, h1, go_sem]
    · intro a w1 hR hsz hs      -- 33: slot 86
      obtain ⟨h0, h1, _⟩ := hs
      have h0 : a.tmps.getD 80 undef = .bool true := h0
      have h1 : a.tmps.getD 85 undef = .bool true := h1
      refine op_run rfl rfl (v := .bool true) (w' := w1) ?_ rfl (Below.refl _ _)
      simp [execOp, Act.eval, h0, h1, go_sem]
    · intro a w1 hR hsz hs      -- 34: slot 87
      obtain ⟨h0, _⟩ := hs
      have h0 : a.tmps.getD 86 undef = .bool true := h0
      refine op_run rfl rfl (v := .bool true) (w' := w1) ?_ rfl (Below.refl _ _)
      simp [execOp, Act.eval, h0, go_sem]
    · intro a w1 hR hsz hs      -- 35: slot 88
      obtain ⟨h0, h1, _⟩ := hs
      have h0 : a.tmps.getD 3 undef = .int .i64 nn := h0
      have h1 : a.tmps.getD 87 undef = .bool true := h1
      refine opg_run rfl rfl rfl (by rw [hsz]; decide) h1 (v := .int .i64 nn) (w' := w1) ?_ rfl (Below.refl _ _)
      simp [execOp, Act.eval, h0, go_sem]
    · intro a w1 hR hsz hs      -- 36: slot 89
      obtain ⟨h0, h1, _⟩ := hs
      have h0 : a.tmps.getD 88 undef = .int .i64 nn := h0
      have h1 : a.tmps.getD 87 undef = .bool true := h1
      refine opg_call rfl rfl rfl (by rw [hsz]; decide) h1 (f := 17) (args := #[.int .i64 nn]) (by simp [execOp, Act.eval, resolve, h0, go_sem]) ?_
      exact calls_eq (size_any nn w1)
    · intro a w1 hR hsz hs      -- 37: slot 90
      obtain ⟨h0, h1, _⟩ := hs
      have h0 : a.tmps.getD 3 undef = .int .i64 nn := h0
      have h1 : a.tmps.getD 87 undef = .bool true := h1
      refine opg_run rfl rfl rfl (by rw [hsz]; decide) h1 (v := .int .i64 nn) (w' := w1) ?_ rfl (Below.refl _ _)
      simp [execOp, Act.eval, h0, go_sem]
    · intro a w1 hR hsz hs      -- 38: slot 91
      obtain ⟨h0, h1, _⟩ := hs
      have h0 : a.tmps.getD 90 undef = .int .i64 nn := h0
      have h1 : a.tmps.getD 87 undef = .bool true := h1
      refine opg_call rfl rfl rfl (by rw [hsz]; decide) h1 (f := 18) (args := #[.int .i64 nn]) (by simp [execOp, Act.eval, resolve, h0, go_sem]) ?_
      exact calls_eq (rsize_any nn w1)
    · intro a w1 hR hsz hs      -- 39: slot 92
      obtain ⟨h0, h1, h2, _⟩ := hs
      have h0 : a.tmps.getD 89 undef = .int .i64 (min (max nn 0) 90 + 22) := h0
      have h1 : a.tmps.getD 91 undef = .int .i64 (min (max nn 0) 90 + 22) := h1
      have h2 : a.tmps.getD 87 undef = .bool true := h2
      refine opg_run rfl rfl rfl (by rw [hsz]; decide) h2 (v := .bool true) (w' := w1) ?_ rfl (Below.refl _ _)
      simp [execOp, Act.eval, h0, h1, go_sem]
    · intro a w1 hR hsz hs      -- 40: slot 93
      obtain ⟨h0, h1, _⟩ := hs
      have h0 : a.tmps.getD 87 undef = .bool true := h0
      have h1 : a.tmps.getD 92 undef = .bool true := h1
      refine op_run rfl rfl (v := .bool true) (w' := w1) ?_ rfl (Below.refl _ _)
      simp [execOp, Act.eval, h0, h1, go_sem]
    · intro a w1 hR hsz hs      -- 41: slot 94
      obtain ⟨h0, _⟩ := hs
      have h0 : a.tmps.getD 93 undef = .bool true := h0
      refine op_run rfl rfl (v := .bool true) (w' := w1) ?_ rfl (Below.refl _ _)
      simp [execOp, Act.eval, h0, go_sem]
    · intro a w1 hR hsz hs      -- 42: slot 95
      obtain ⟨h0, _⟩ := hs
      have h0 : a.tmps.getD 94 undef = .bool true := h0
      refine opg_call rfl rfl rfl (by rw [hsz]; decide) h0 (f := 9) (args := #[]) (by simp [execOp, Act.eval, resolve, go_sem]) ?_
      exact calls_c (known_any w1)
    · intro a w1 hR hsz hs      -- 43: slot 96
      obtain ⟨h0, h1, _⟩ := hs
      have h0 : a.tmps.getD 94 undef = .bool true := h0
      have h1 : a.tmps.getD 95 undef = .bool true := h1
      refine op_run rfl rfl (v := .bool true) (w' := w1) ?_ rfl (Below.refl _ _)
      simp [execOp, Act.eval, h0, h1, go_sem]
    · intro a w1 hR hsz hs      -- 44: slot 8
      obtain ⟨h0, _⟩ := hs
      have h0 : a.tmps.getD 96 undef = .bool true := h0
      refine op_run rfl rfl (v := .bool true) (w' := w1) ?_ rfl (Below.refl _ _)
      simp [execOp, Act.eval, h0, go_sem]
  · intro f w1 hR hv
    have e8 : f 8 = .bool true := hv 44 _ 8 rfl rfl
    clear hv
    try simp only [Exit.then]
    simp only [putAll, List.foldl_cons, List.foldl_nil, Option.getD_some, Act.put, List.setIfInBounds_toArray, List.set_cons_succ, List.set_cons_zero]
    go_wp2_with fail
    go_ret
    exact ⟨congrArg Ending.returned e8, HB6.out.trans (hR.mono HB6.out.size)⟩
  -- END 7

theorem frameTells_walk (cs : Array Value) (e : En) (a1 : Option Addr) (m c1 : Nat) (l : List UInt8) (p nn : Int) (w : World) (he : EnE w cs.toList e) (hl : Row w a1 c1 l) (hm : l.length = m) (w2 : (Lit.int .i64 p).wf = true) :
    Calls Try.prog 3 #[.agg cs, .slice a1 m c1, .int .i64 p, .int .i64 nn] w fun x w' => x = .returned (.bool true) ∧ Below w.heap.size w w' := by
  obtain ⟨a, c, hcs, hr⟩ := he
  obtain rfl : cs = #[.int .i64 e.tag, .int .i64 e.seq, .slice a e.data.length c] := by
    rw [← Array.toArray_toList (xs := cs), hcs]
  have hp := wf_int w2
  by_cases hb : 500 < m ∨ 200 < e.data.length
  · exact ftells_known e a a1 _ c m c1 p nn w hb
  · exact ftells_walk e a a1 _ c m c1 l p nn w hr rfl (by omega) hl hm (by omega) hp.1 hp.2
end Go.Proofs.Ytnecbhioekmcgaa
