/- Stripes: the document's own examples; shapes by numbers; marks of rows of pieces. -/
import Derived.Test.YtalgjoeinllllaaSpR
import Derived.Test.YtalgjoeinllllaaFree
import Derived.Test.YtalgjoeinllllaaRd
import Derived.Test.YtalgjoeinllllaaZi
namespace Go.Proofs.Ytalgjoeinllllaa
open Go.RowKit Go.Proofs
set_option linter.unusedVariables false
set_option linter.unusedSimpArgs false
set_option linter.unnecessarySimpa false

/-! ### layouts that come in -/
def LayE (cs : List Value) (t : Int × Int × Int) : Prop := cs = [.int .i64 t.1, .int .i64 t.2.1, .int .i64 t.2.2]
theorem opens_layS {w : World} : Opens w 23 LayE :=
  Opens.fields Try.underlying23 (by kernel_rfl : Try.prog.cellsOf 23 = 3) fun cs hl hf => by
    obtain ⟨t, ht, _⟩ := hf 0 _ rfl _ _ (Opens.int (k := .i64) Try.underlying3)
    obtain ⟨s, hs, _⟩ := hf 1 _ rfl _ _ (Opens.int (k := .i64) Try.underlying3)
    obtain ⟨r, hr, _⟩ := hf 2 _ rfl _ _ (Opens.int (k := .i64) Try.underlying3)
    refine ⟨(t, s, r), ?_⟩
    match cs, hl with
    | [x, y, z], _ =>
      have h1 : Try.prog.cellsOf 3 = 1 := by kernel_rfl
      simp [h1] at ht
      simp [h1] at hs
      simp [h1] at hr
      unfold LayE
      simp [ht, hs, hr]
def gX (W0 : World) (ts : List Xt) : SV := ⟨fun w v => GOwn xtT W0 w v ts, fun w w' v h hb => h.later hb⟩
theorem gx_of {W0 w : World} {ts : List Xt} {f : FuncId} {args : Array Value} (h : Calls Try.prog f args w fun e w' => ∃ v, e = .returned v ∧ GOwn xtT w w' v ts) (hb : Below W0.heap.size W0 w) :
    Calls Try.prog f args w fun e w' => ∃ v, e = .returned v ∧ (gX W0 ts).p w' v ∧ Below w.heap.size w w' :=
  h.mono fun e w' ⟨v, h, o⟩ => ⟨_, h, o.back hb, o.below⟩
theorem samext_refl (a1 a2 : Option Addr) (n c1 c2 : Nat) (ts : List Xt) (w : World) (h1 : GRow xtT w a1 c1 ts) (h2 : GRow xtT w a2 c2 ts) (hn : ts.length = n) :
    Calls Try.prog 12 #[.slice a1 n c1, .slice a2 n c2] w fun e w' => e = .returned (.bool true) ∧ Below w.heap.size w w' := by
  have := samext_any a1 a2 n n c1 c2 ts ts w h1 h2 hn hn
  simpa using this
/-- A shape by three numbers. -/
def shapeZ (a b c : Int) : Int × Int × Int := (3 + bits .and .i64 a 3, 2 + bits .and .i64 b 255 % (3 + bits .and .i64 a 3 - 1), 1 + bits .and .i64 c 3)
theorem shapeZ_ok (a b c : Int) : ShapeOk (shapeZ a b c).1 (shapeZ a b c).2.1 (shapeZ a b c).2.2 := by
  have h1 : 0 ≤ bits .and .i64 a 3 ∧ bits .and .i64 a 3 ≤ 3 := and_range a 3 (by decide)
  have h2 : 0 ≤ bits .and .i64 c 3 ∧ bits .and .i64 c 3 ≤ 3 := and_range c 3 (by decide)
  have h3 := Int.emod_nonneg (bits .and .i64 b 255) (show (3 + bits .and .i64 a 3 - 1) ≠ 0 by omega)
  have h4 := Int.emod_lt_of_pos (bits .and .i64 b 255) (show 0 < (3 + bits .and .i64 a 3 - 1) by omega)
  unfold shapeZ ShapeOk
  simp only
  omega
set_option maxRecDepth 20000 in
set_option maxHeartbeats 3200000 in
theorem shape12_any (a b c : Int) (w : World) : Calls Try.prog 20 #[.int .i64 a, .int .i64 b, .int .i64 c] w fun e w' => e = .returned (.agg (layC (shapeZ a b c).1 (shapeZ a b c).2.1 (shapeZ a b c).2.2)) ∧ Below w.heap.size w w' := by
  obtain ⟨R, hR⟩ : ∃ R, shapeZ a b c = R := ⟨_, rfl⟩
  rw [hR]
  unfold shapeZ at hR
  obtain ⟨A, hA⟩ : ∃ z, bits .and .i64 a 3 = z := ⟨_, rfl⟩
  have hAr : 0 ≤ A ∧ A ≤ 3 := by rw [← hA]; exact and_range a 3 (by decide)
  obtain ⟨B, hB⟩ : ∃ z, bits .and .i64 b 255 = z := ⟨_, rfl⟩
  have hBr : 0 ≤ B ∧ B ≤ 255 := by rw [← hB]; exact and_range b 255 (by decide)
  obtain ⟨C, hC⟩ : ∃ z, bits .and .i64 c 3 = z := ⟨_, rfl⟩
  have hCr : 0 ≤ C ∧ C ≤ 3 := by rw [← hC]; exact and_range c 3 (by decide)
  rw [hA, hB, hC] at hR
  obtain ⟨O, hO⟩ : ∃ z, 3 + A = z := ⟨_, rfl⟩
  rw [hO] at hR
  have hOr : 3 ≤ O ∧ O ≤ 6 := by omega
  have hM : 0 ≤ B % (O - 1) ∧ B % (O - 1) ≤ 255 := by
    have h3 := Int.emod_nonneg B (show O - 1 ≠ 0 by omega)
    have h4 := Int.emod_lt_of_pos B (show 0 < O - 1 by omega)
    omega
  have HR := Lib.hid hR
  have HX : Hid (RecAt ((w.alloc (.cells #[.int .i64 O, .int .i64 (2 + B % (O - 1)), .int .i64 (1 + C)] 23)).alloc (.cells #[.int .i64 O, .int .i64 (2 + B % (O - 1)), .int .i64 (1 + C)] 23)) w.heap.size #[.int .i64 O, .int .i64 (2 + B % (O - 1)), .int .i64 (1 + C)] 23) := Lib.hid ((RecAt.new w _ _).later ((Below.refl _ _).alloc (Nat.le_refl _) _))
  have HB2 := Lib.hid (((Below.refl w.heap.size w).alloc (Nat.le_refl _) (.cells #[.int .i64 O, .int .i64 (2 + B % (O - 1)), .int .i64 (1 + C)] 23)).alloc (by simp) (.cells #[.int .i64 O, .int .i64 (2 + B % (O - 1)), .int .i64 (1 + C)] 23))
  clear hR
  go_enter Try.func20, Try.ntmps20
  go_wp2_with fail
  refine bodyPost_ret (results_c rfl rfl HX.out Try.underlying23 rfl (by kernel_rfl)) rfl ?_
  rw [← HR.out]
  exact ⟨rfl, HB2.out⟩
/-! ### the document's own examples -/
theorem kl_place : placeI 3 2 2 4 = (1, 0) := by decide
theorem kl_map : mapI 3 2 2 0 8 = [⟨0, 0, 4, 0⟩, ⟨1, 0, 4, 4⟩] := by decide
theorem kl_objs0 : objsI 3 2 2 0 = 0 := by decide
theorem kl_objs : objsI 3 2 2 17 = 3 := by decide
theorem kl_bytes : bytesI 3 2 2 6 1 = 2 := by decide
set_option maxRecDepth 20000 in
set_option maxHeartbeats 3200000 in
theorem known12_any (w : World) : Calls Try.prog 19 #[] w fun e w' => e = .returned (.bool true) ∧ Below w.heap.size w w' := by
  have HX0 := Lib.hid (RecAt.new w (layC 3 2 2) 23)
  have HB0 := Lib.hid ((Below.refl w.heap.size w).alloc (Nat.le_refl _) (.cells (layC 3 2 2) 23))
  obtain ⟨w1, hw1⟩ : ∃ W, w.alloc (.cells (layC 3 2 2) 23) = W := ⟨_, rfl⟩
  rw [hw1] at HX0 HB0
  have HQ : Hid (∀ W, (binOp .eql 36 (.agg #[.int .i64 1, .int .i64 0, .int .i64 4, .int .i64 4]) (.agg #[.int .i64 1, .int .i64 0, .int .i64 4, .int .i64 4])).run Try.prog W = .ok (.bool true) W) := Lib.hid (fun W => by
    have h := xt_eql W ⟨1, 0, 4, 4⟩ ⟨1, 0, 4, 4⟩
    rw [decide_eq_true rfl] at h
    exact h)
  go_enter Try.func19, Try.ntmps19
  go_upto_region 2 with fail
  try rw [hw1]
  clear hw1
  obtain ⟨X, hX⟩ : ∃ X, w.heap.size = X := ⟨_, rfl⟩
  rw [hX] at HX0 ⊢
  have HXS := Lib.hid hX
  clear hX
  have HP := Lib.hid (fun W (hb : Below w1.heap.size w1 W) => HX0.out.later hb)
  obtain ⟨x0, x1, x2⟩ := HX0.out.l3
  go_wp2_with fail
  refine (splace_any 3 2 2 4 w1).mono ?_
  rw [kl_place]
  rintro e w2 ⟨rfl, b2⟩
  obtain ⟨y0, y1, y2⟩ := (HP.out _ b2).l3
  have HB2 := Lib.hid b2
  clear b2 x0 x1 x2
  go_wp2_with fail
  refine (smap_any 3 2 2 0 8 (by decide) w2).mono ?_
  rw [kl_map]
  rintro e w3 ⟨v3, rfl, o3⟩
  obtain ⟨a3, c3, rfl, r3⟩ := o3.row_n (n := 2) xtOk rfl
  obtain ⟨b3, off3, rfl, p0, p1, p2, p3⟩ := r3.x4 (i := 1) (t := ⟨1, 0, 4, 4⟩) rfl
  have hc3 := r3.1
  have hm3 := r3.2.1
  unfold maxLen at hm3
  simp only [List.length_cons, List.length_nil] at hc3
  simp only [Nat.one_mul] at p0 p1 p2 p3
  have HB3 := Lib.hid (HB2.out.trans (o3.below.mono HB2.out.size))
  obtain ⟨x0, x1, x2⟩ := (HP.out _ HB3.out).l3
  have hq := HQ.out
  clear o3 r3 y0 y1 y2
  go_wp2_with fail
  refine (sobjects_any 3 2 2 0 _).mono ?_
  rw [kl_objs0]
  rintro e w4 ⟨rfl, b4⟩
  have HB4 := Lib.hid (HB3.out.trans (b4.mono HB3.out.size))
  obtain ⟨y0, y1, y2⟩ := (HP.out _ HB4.out).l3
  clear b4 x0 x1 x2 p0 p1 p2 p3 hq
  go_wp2_with fail
  refine (sobjects_any 3 2 2 17 _).mono ?_
  rw [kl_objs]
  rintro e w5 ⟨rfl, b5⟩
  have HB5 := Lib.hid (HB4.out.trans (b5.mono HB4.out.size))
  obtain ⟨x0, x1, x2⟩ := (HP.out _ HB5.out).l3
  clear b5 y0 y1 y2
  go_wp2_with fail
  refine (sbytes_any 3 2 2 6 1 _).mono ?_
  rw [kl_bytes]
  rintro e w6 ⟨rfl, b6⟩
  have HB6 := Lib.hid (HB5.out.trans (b6.mono HB5.out.size))
  have HBW := Lib.hid (HB0.out.trans (HB6.out.mono HB0.out.size))
  clear b6 x0 x1 x2
  go_wp2_with fail
  go_ret
  exact ⟨rfl, HBW.out⟩
end Go.Proofs.Ytalgjoeinllllaa
