/- The law 'StripeOne', walked. -/
import Derived.Test.YtalgjoeinllllaaSpK
namespace Go.Proofs.Ytalgjoeinllllaa
open Go.RowKit Go.Proofs
set_option linter.unusedVariables false
set_option linter.unusedSimpArgs false
set_option linter.unnecessarySimpa false

theorem one_place {U P off : Nat} : objP U P 1 off = off / (P * U) ∧ atP U P 1 off = off % (P * U) := by
  unfold objP atP
  simp only [Nat.div_one, Nat.mul_one, Nat.mod_one, Nat.add_zero]
  refine ⟨by rw [Nat.div_div_eq_div_mul, Nat.mul_comm], ?_⟩
  rw [Nat.mul_comm P U, Nat.mod_mul, Nat.mul_comm U]
  omega
theorem whole_place {U C off : Nat} : objP U 1 C off = off / U ∧ atP U 1 C off = off % U := by
  unfold objP atP
  simp only [Nat.div_one, Nat.mod_one, Nat.zero_mul, Nat.zero_add]
  exact ⟨by rw [Nat.mul_comm, Nat.div_add_mod], trivial⟩

set_option maxRecDepth 100000 in
set_option maxHeartbeats 12800000 in
theorem stripeOne_walk (a b off0 : Int) (w : World) : Calls Try.prog 7 #[.int .i64 a, .int .i64 b, .int .i64 off0] w fun x w' => x = .returned (.bool true) ∧ Below w.heap.size w w' := by
  have HSH := Lib.hid (fun W => shape12_any a b 0 W)
  have hok := shapeZ_ok a b 0
  have hc1 : (shapeZ a b 0).2.2 = 1 := by
    unfold shapeZ
    simp only
    have : bits .and .i64 0 3 = 0 := by decide
    rw [this]
    rfl
  obtain ⟨⟨o, u, c⟩, hsz⟩ : ∃ s, shapeZ a b 0 = s := ⟨_, rfl⟩
  rw [hsz] at HSH hok hc1
  simp only at HSH hok hc1
  subst hc1
  obtain ⟨o, u, c', rfl, rfl, hcc, ho3, ho6, hu2, huo, -, -⟩ := shape_nat hok
  clear hcc c'
  obtain ⟨off, hoff⟩ : ∃ z, bits .and .i64 off0 65535 = z := ⟨_, rfl⟩
  have hofr : 0 ≤ off ∧ off ≤ 65535 := by rw [← hoff]; exact and_range off0 65535 (by decide)
  obtain ⟨k, rfl⟩ : ∃ k : Nat, off = k := ⟨off.toNat, by omega⟩
  obtain ⟨d, hd⟩ : ∃ z, bits .and .i64 b 3 = z := ⟨_, rfl⟩
  have hdr : 0 ≤ d ∧ d ≤ 3 := by rw [← hd]; exact and_range b 3 (by decide)
  obtain ⟨d, rfl⟩ : ∃ e : Nat, d = e := ⟨d.toNat, by omega⟩
  obtain ⟨p1, p2, p3, p4, p5, p6⟩ := pow_small hu2 huo ho6
  obtain ⟨N, hN⟩ : ∃ N, 2 ^ o = N := ⟨_, rfl⟩
  have hP : placeI o u 1 k = (((k / N : Nat) : Int), ((k % N : Nat) : Int)) := by
    show placeI o u ((1 : Nat) : Int) k = _
    rw [placeI_yes hok (by omega), one_place.1, one_place.2, ← p5, hN]
  have hok2 : ShapeOk (o : Int) (o : Int) ((1 + d : Nat) : Int) := by
    unfold ShapeOk at hok ⊢
    omega
  have hW : placeI o o (1 + d) k = (((k / N : Nat) : Int), ((k % N : Nat) : Int)) := by
    rw [show (1 : Int) + (d : Int) = ((1 + d : Nat) : Int) from by omega]
    rw [placeI_yes hok2 (by omega), Nat.sub_self, Nat.pow_zero, whole_place.1, whole_place.2, hN]
  have HP1 := Lib.hid (fun W => splace_any o u 1 k W)
  have HP2 := Lib.hid (fun W => splace_any o o (1 + d) k W)
  rw [hP] at HP1
  rw [hW] at HP2
  have hN64 : 8 ≤ N ∧ N ≤ 64 := by
    rw [← hN]
    refine ⟨?_, p6⟩
    exact Nat.pow_le_pow_right (n := 2) (by decide) ho3
  obtain ⟨X, hX⟩ : ∃ X, k / N = X := ⟨_, rfl⟩
  obtain ⟨Y, hY⟩ : ∃ Y, k % N = Y := ⟨_, rfl⟩
  rw [hX, hY] at HP1 HP2
  have hq : (k : Int) / (N : Int) = (X : Int) := by rw [← hX]; rfl
  have hr : (k : Int) % (N : Int) = (Y : Int) := by rw [← hY]; rfl
  have hXk : X ≤ k := by rw [← hX]; exact Nat.div_le_self _ _
  have hwq : wrap64 (X : Int) = (X : Int) := by unfold wrap64; omega
  simp only at HP1 HP2
  clear hsz hok hok2 hP hW p1 p2 p3 p4 p5 p6 hX hY
  go_enter Try.func7, Try.ntmps7
  go_wp2_with fail
  refine (HSH.out w).mono ?_
  rintro e w0 ⟨rfl, b0⟩
  have HX0 := Lib.hid (RecAt.new w0 (layC o u 1) 23)
  have HB1 := Lib.hid (b0.trans (((Below.refl w0.heap.size w0).alloc (Nat.le_refl _) (.cells (layC o u 1) 23)).mono b0.size))
  obtain ⟨w1, hw1⟩ : ∃ W, w0.alloc (.cells (layC o u 1) 23) = W := ⟨_, rfl⟩
  rw [hw1] at HX0 HB1
  clear b0
  go_upto_region 3 with fail
  try rw [hw1]
  clear hw1
  obtain ⟨P5, hP5⟩ : ∃ P, w0.heap.size = P := ⟨_, rfl⟩
  rw [hP5] at HX0 ⊢
  clear hP5
  obtain ⟨x0, x1, x2⟩ := HX0.out.l3
  go_wp2_with fail
  refine (HP1.out w1).mono ?_
  rintro e w2 ⟨rfl, b2⟩
  have HX2 := Lib.hid (HX0.out.later b2)
  have HB2 := Lib.hid (HB1.out.trans (b2.mono HB1.out.size))
  clear x0 x1 x2 b2
  go_upto_region 4 with fail
  obtain ⟨x0, x1, x2⟩ := HX2.out.l3
  have HY0 := Lib.hid (RecAt.new w2 (layC o o (1 + d)) 23)
  have HB3 := Lib.hid (HB2.out.trans (((Below.refl w2.heap.size w2).alloc (Nat.le_refl _) (.cells (layC o o (1 + d)) 23)).mono HB2.out.size))
  have HX3 := Lib.hid (HX2.out.later ((Below.refl w2.heap.size w2).alloc (Nat.le_refl _) (.cells (layC o o (1 + d)) 23)))
  obtain ⟨w3, hw3⟩ : ∃ W, w2.alloc (.cells (layC o o (1 + d)) 23) = W := ⟨_, rfl⟩
  rw [hw3] at HY0 HB3 HX3
  go_upto_region 5 with fail
  try rw [hw3]
  clear hw3
  obtain ⟨P6, hP6⟩ : ∃ P, w2.heap.size = P := ⟨_, rfl⟩
  rw [hP6] at HY0 ⊢
  clear hP6 x0 x1 x2
  obtain ⟨x0, x1, x2⟩ := HY0.out.l3
  go_wp2_with fail
  refine (HP2.out w3).mono ?_
  rintro e w4 ⟨rfl, b4⟩
  have HX4 := Lib.hid (HX3.out.later b4)
  have HB4 := Lib.hid (HB3.out.trans (b4.mono HB3.out.size))
  clear x0 x1 x2 b4
  go_upto_region 6 with fail
  obtain ⟨x0, x1, x2⟩ := HX4.out.l3
  have hsh : (1 : Int) * 2 ^ o = N := by
    have : ((2 ^ o : Nat) : Int) = (N : Int) := by rw [hN]
    push_cast at this
    omega
  go_upto_region 7 with fail
  clear hN hsh x0 x1 x2
  have hN0 : ¬ (N : Int) = 0 := by omega
  clear hofr hN64 hXk hdr ho3 ho6 hu2 huo
  go_wp2_with fail
  refine (known12_any w4).mono ?_
  rintro e w5 ⟨rfl, b5⟩
  have HB5 := Lib.hid (HB4.out.trans (b5.mono HB4.out.size))
  clear b5
  go_wp2_with fail
  go_ret
  exact ⟨rfl, HB5.out⟩
end Go.Proofs.Ytalgjoeinllllaa
