/- The law 'FrameFields', walked. -/
import Derived.Test.YtnecbhioekmcgaaFrK
namespace Go.Proofs.Ytnecbhioekmcgaa
open Go.RowKit
set_option linter.unusedVariables false
set_option linter.unusedSimpArgs false

theorem takeM_code {F : List UInt8} {c : Int} (h : (takeM F).2.2 = c) (hc : c ≠ 0) : takeA F ((0 : Nat) : Int) = (noE, 0, c) := by
  rcases takeM_two F with ⟨d, h1, h2⟩ | ⟨e, h1, _, _⟩
  · rw [h1] at h; simp only at h; subst h
    exact takeA_err (by omega) (by rw [List.drop_zero]; exact h1) hc
  · rw [h1] at h; simp only at h; exact absurd h.symm hc
def tE : En := ⟨7, 9, [120, 121, 122]⟩
theorem tE_lay : layA tE = (layL tE, 0) := layA_yes (by decide)
theorem tE_len : (layL tE).length = 25 := layL_len tE
theorem and255 (n : Int) : ∃ X : Nat, bits .and .i64 n 255 = X ∧ X ≤ 255 := by
  have e : (BitVec.ofInt 64 n &&& BitVec.ofInt 64 255).toNat ≤ 255 := by
    rw [BitVec.toNat_and]
    exact Nat.le_trans Nat.and_le_right (by decide)
  refine ⟨(BitVec.ofInt 64 n &&& BitVec.ofInt 64 255).toNat, ?_, e⟩
  show IntKind.i64.wrap (((BitVec.ofInt 64 n &&& BitVec.ofInt 64 255).toNat : Nat) : Int) = _
  exact i64_small _ (by omega)
theorem f0 : takeA ((layL tE).set 0 88) ((0 : Nat) : Int) = (noE, 0, 2) := takeM_code (by decide +kernel) (by decide)
theorem f1 : takeA ((layL tE).take 21) ((0 : Nat) : Int) = (noE, 0, 2) := takeM_code (by decide +kernel) (by decide)
theorem f2 : takeA ((layL tE).set 4 0) ((0 : Nat) : Int) = (noE, 0, 2) := takeM_code (by decide +kernel) (by decide)
theorem f3 : takeA ((layL tE).set 8 0) ((0 : Nat) : Int) = (noE, 0, 2) := takeM_code (by decide +kernel) (by decide)
theorem f4 : takeA ((layL tE).set 16 91) ((0 : Nat) : Int) = (noE, 0, 2) := takeM_code (by decide +kernel) (by decide)
theorem f5 : takeA ((layL tE).set 16 4) ((0 : Nat) : Int) = (noE, 0, 2) := takeM_code (by decide +kernel) (by decide)
theorem f6 : takeA ((layL tE).set 18 88) ((0 : Nat) : Int) = (noE, 0, 13) := takeM_code (by decide +kernel) (by decide)
theorem f7 : takeA ((layL tE).set 16 2) ((0 : Nat) : Int) = (noE, 0, 13) := takeM_code (by decide +kernel) (by decide)
theorem f8 : takeA ((layL tE).set 24 (((layL tE)[24]'(by rw [tE_len]; decide)) ^^^ 1)) ((0 : Nat) : Int) = (noE, 0, 13) := takeM_code (by decide +kernel) (by decide)

set_option maxRecDepth 20000 in
set_option maxHeartbeats 6400000 in
theorem frameFields_walk (n : Int) (w : World) :
    Calls Try.prog 8 #[.int .i64 n] w fun e w' => e = .returned (.bool true) ∧ Below w.heap.size w w' := by
  have kc := fun (w : World) (C : Array Value) (n c : Nat) => Lib.run_convert_bytes_const (P := Try.prog) w 22 5 C n c Try.underlying22 Try.underlying5
  have HR : Hid (Row (w.alloc (.cells #[.int .u8 120, .int .u8 121, .int .u8 122] 5 (3, 4))) (some ⟨w.heap.size, 0, none⟩) 3 [120, 121, 122]) := Lib.hid (row_mark w [120, 121, 122] (3, 4) (by decide))
  obtain ⟨X, hX, hX2⟩ := and255 n
  go_enter Try.func8, Try.ntmps8
  go_wp2_with fail
  have HB : Hid (Below w.heap.size w ((w.alloc (.cells #[.int .u8 120, .int .u8 121, .int .u8 122] 5 (3, 4))).alloc (.cells #[.int .i64 7, .int .i64 9, .slice (some ⟨w.heap.size, 0, none⟩) 3 3] 24))) := Lib.hid (((Below.refl _ _).alloc (Nat.le_refl _) _).alloc (by simp) _)
  refine (rlay_any tE (some ⟨w.heap.size, 0, none⟩) 3 3 _ (HR.out.later ((Below.refl _ _).alloc (Nat.le_refl _) _)) rfl (by decide)).mono ?_
  rintro e w1 ⟨v1, rfl, o0⟩
  rw [tE_lay] at o0 ⊢
  simp only at o0 ⊢
  have o := o0.back HB.out
  clear o0 kc
  have hl := tE_len
  obtain ⟨g, c, rfl, hc, hm⟩ := o.at hl (by decide)
  have HO := Lib.hid o
  have k0 := o.cellAt hl (j := 0) (List.getElem?_eq_getElem (by omega))
  have k4 := o.cellAt hl (j := 4) (List.getElem?_eq_getElem (by omega))
  have k8 := o.cellAt hl (j := 8) (List.getElem?_eq_getElem (by omega))
  have k16 := o.cellAt hl (j := 16) (List.getElem?_eq_getElem (by omega))
  have k18 := o.cellAt hl (j := 18) (List.getElem?_eq_getElem (by omega))
  have k24 := o.cellAt hl (j := 24) (List.getElem?_eq_getElem (by omega))
  have r0 := o.frozenAt hl 0
  have r4 := o.frozenAt hl 4
  have r8 := o.frozenAt hl 8
  have r16 := o.frozenAt hl 16
  have r18 := o.frozenAt hl 18
  have r24 := o.frozenAt hl 24
  have HF8 := Lib.hid f8
  have HO8 := Lib.hid (o.stored hl 24 ((layL tE)[24] ^^^ 1))
  obtain ⟨u24, hu24⟩ : ∃ u, (layL tE)[24] = u := ⟨_, rfl⟩
  rw [hu24] at k24 HO8 HF8
  have h8 := u24.toNat_lt
  unfold B8 at k24 HO8
  clear o hu24
  obtain ⟨K, hK, hK9⟩ : ∃ K : Nat, (X : Int) % 9 = K ∧ K < 9 := ⟨X % 9, by omega, by omega⟩
  go_upto_region 6 with fail
  rw [hK]
  clear hK hX hX2
  rcases (show K = 0 ∨ K = 1 ∨ K = 2 ∨ K = 3 ∨ K = 4 ∨ K = 5 ∨ K = 6 ∨ K = 7 ∨ K = 8 by omega) with rfl | rfl | rfl | rfl | rfl | rfl | rfl | rfl | rfl
  · have oF := HO.out.stored hl 0 88
    have hF : ((layL tE).set 0 88).length = 25 := by rw [List.length_set]; exact hl
    obtain ⟨aF, cF, hv, rF⟩ := oF.row_n hF
    cases hv
    go_wp2_with fail
    refine (take_any (some ⟨g, 0, none⟩) 25 c _ ((0 : Nat) : Int) _ rF hF (by decide) (by decide) (by decide)).mono ?_
    rw [f0]
    rintro e w2 ⟨a2, c2, rfl, r2, hb2, -⟩
    unfold entV noE
    simp only [List.length_nil]
    have HB2 := Lib.hid (oF.below.trans (hb2.mono oF.below.size))
    go_wp2_with fail
    refine (known_any _).mono ?_
    rintro e w3 ⟨rfl, hb3⟩
    go_wp2_with fail
    go_ret
    exact ⟨rfl, (HB2.out.alloc HB2.out.size _).trans (hb3.mono (HB2.out.alloc HB2.out.size _).size)⟩
  · have oF := HO.out
    obtain ⟨aF, cF, hv, rF⟩ := oF.row_n hl
    cases hv
    have rF := rF.take 21
    go_wp2_with fail
    refine (take_any (some ⟨g, 0, none⟩) 21 c _ ((0 : Nat) : Int) w1 rF (by rw [List.length_take, hl]; decide) (by decide) (by decide) (by decide)).mono ?_
    rw [f1]
    rintro e w2 ⟨a2, c2, rfl, r2, hb2, -⟩
    unfold entV noE
    simp only [List.length_nil]
    have HB2 := Lib.hid (oF.below.trans (hb2.mono oF.below.size))
    go_wp2_with fail
    refine (known_any _).mono ?_
    rintro e w3 ⟨rfl, hb3⟩
    go_wp2_with fail
    go_ret
    exact ⟨rfl, (HB2.out.alloc HB2.out.size _).trans (hb3.mono (HB2.out.alloc HB2.out.size _).size)⟩
  · have oF := HO.out.stored hl 4 0
    have hF : ((layL tE).set 4 0).length = 25 := by rw [List.length_set]; exact hl
    obtain ⟨aF, cF, hv, rF⟩ := oF.row_n hF
    cases hv
    go_wp2_with fail
    refine (take_any (some ⟨g, 0, none⟩) 25 c _ ((0 : Nat) : Int) _ rF hF (by decide) (by decide) (by decide)).mono ?_
    rw [f2]
    rintro e w2 ⟨a2, c2, rfl, r2, hb2, -⟩
    unfold entV noE
    simp only [List.length_nil]
    have HB2 := Lib.hid (oF.below.trans (hb2.mono oF.below.size))
    go_wp2_with fail
    refine (known_any _).mono ?_
    rintro e w3 ⟨rfl, hb3⟩
    go_wp2_with fail
    go_ret
    exact ⟨rfl, (HB2.out.alloc HB2.out.size _).trans (hb3.mono (HB2.out.alloc HB2.out.size _).size)⟩
  · have oF := HO.out.stored hl 8 0
    have hF : ((layL tE).set 8 0).length = 25 := by rw [List.length_set]; exact hl
    obtain ⟨aF, cF, hv, rF⟩ := oF.row_n hF
    cases hv
    go_wp2_with fail
    refine (take_any (some ⟨g, 0, none⟩) 25 c _ ((0 : Nat) : Int) _ rF hF (by decide) (by decide) (by decide)).mono ?_
    rw [f3]
    rintro e w2 ⟨a2, c2, rfl, r2, hb2, -⟩
    unfold entV noE
    simp only [List.length_nil]
    have HB2 := Lib.hid (oF.below.trans (hb2.mono oF.below.size))
    go_wp2_with fail
    refine (known_any _).mono ?_
    rintro e w3 ⟨rfl, hb3⟩
    go_wp2_with fail
    go_ret
    exact ⟨rfl, (HB2.out.alloc HB2.out.size _).trans (hb3.mono (HB2.out.alloc HB2.out.size _).size)⟩
  · have oF := HO.out.stored hl 16 91
    have hF : ((layL tE).set 16 91).length = 25 := by rw [List.length_set]; exact hl
    obtain ⟨aF, cF, hv, rF⟩ := oF.row_n hF
    cases hv
    go_wp2_with fail
    refine (take_any (some ⟨g, 0, none⟩) 25 c _ ((0 : Nat) : Int) _ rF hF (by decide) (by decide) (by decide)).mono ?_
    rw [f4]
    rintro e w2 ⟨a2, c2, rfl, r2, hb2, -⟩
    unfold entV noE
    simp only [List.length_nil]
    have HB2 := Lib.hid (oF.below.trans (hb2.mono oF.below.size))
    go_wp2_with fail
    refine (known_any _).mono ?_
    rintro e w3 ⟨rfl, hb3⟩
    go_wp2_with fail
    go_ret
    exact ⟨rfl, (HB2.out.alloc HB2.out.size _).trans (hb3.mono (HB2.out.alloc HB2.out.size _).size)⟩
  · have oF := HO.out.stored hl 16 4
    have hF : ((layL tE).set 16 4).length = 25 := by rw [List.length_set]; exact hl
    obtain ⟨aF, cF, hv, rF⟩ := oF.row_n hF
    cases hv
    go_wp2_with fail
    refine (take_any (some ⟨g, 0, none⟩) 25 c _ ((0 : Nat) : Int) _ rF hF (by decide) (by decide) (by decide)).mono ?_
    rw [f5]
    rintro e w2 ⟨a2, c2, rfl, r2, hb2, -⟩
    unfold entV noE
    simp only [List.length_nil]
    have HB2 := Lib.hid (oF.below.trans (hb2.mono oF.below.size))
    go_wp2_with fail
    refine (known_any _).mono ?_
    rintro e w3 ⟨rfl, hb3⟩
    go_wp2_with fail
    go_ret
    exact ⟨rfl, (HB2.out.alloc HB2.out.size _).trans (hb3.mono (HB2.out.alloc HB2.out.size _).size)⟩
  · have oF := HO.out.stored hl 18 88
    have hF : ((layL tE).set 18 88).length = 25 := by rw [List.length_set]; exact hl
    obtain ⟨aF, cF, hv, rF⟩ := oF.row_n hF
    cases hv
    go_wp2_with fail
    refine (take_any (some ⟨g, 0, none⟩) 25 c _ ((0 : Nat) : Int) _ rF hF (by decide) (by decide) (by decide)).mono ?_
    rw [f6]
    rintro e w2 ⟨a2, c2, rfl, r2, hb2, -⟩
    unfold entV noE
    simp only [List.length_nil]
    have HB2 := Lib.hid (oF.below.trans (hb2.mono oF.below.size))
    go_wp2_with fail
    refine (known_any _).mono ?_
    rintro e w3 ⟨rfl, hb3⟩
    go_wp2_with fail
    go_ret
    exact ⟨rfl, (HB2.out.alloc HB2.out.size _).trans (hb3.mono (HB2.out.alloc HB2.out.size _).size)⟩
  · have oF := HO.out.stored hl 16 2
    have hF : ((layL tE).set 16 2).length = 25 := by rw [List.length_set]; exact hl
    obtain ⟨aF, cF, hv, rF⟩ := oF.row_n hF
    cases hv
    go_wp2_with fail
    refine (take_any (some ⟨g, 0, none⟩) 25 c _ ((0 : Nat) : Int) _ rF hF (by decide) (by decide) (by decide)).mono ?_
    rw [f7]
    rintro e w2 ⟨a2, c2, rfl, r2, hb2, -⟩
    unfold entV noE
    simp only [List.length_nil]
    have HB2 := Lib.hid (oF.below.trans (hb2.mono oF.below.size))
    go_wp2_with fail
    refine (known_any _).mono ?_
    rintro e w3 ⟨rfl, hb3⟩
    go_wp2_with fail
    go_ret
    exact ⟨rfl, (HB2.out.alloc HB2.out.size _).trans (hb3.mono (HB2.out.alloc HB2.out.size _).size)⟩
  · have hF : ((layL tE).set 24 (u24 ^^^ 1)).length = 25 := by rw [List.length_set]; exact hl
    have oF := HO8.out
    obtain ⟨aF, cF, hv, rF⟩ := oF.row_n hF
    cases hv
    have hx : bits .xor .u8 (u24.toNat : Int) 1 = ((u24 ^^^ 1).toNat : Int) := u8_xor u24 1
    go_wp2_with fail
    refine (take_any (some ⟨g, 0, none⟩) 25 c _ ((0 : Nat) : Int) _ rF hF (by decide) (by decide) (by decide)).mono ?_
    rw [HF8.out]
    rintro e w2 ⟨a2, c2, rfl, r2, hb2, -⟩
    unfold entV noE
    simp only [List.length_nil]
    have HB2 := Lib.hid (oF.below.trans (hb2.mono oF.below.size))
    go_wp2_with fail
    refine (known_any _).mono ?_
    rintro e w3 ⟨rfl, hb3⟩
    go_wp2_with fail
    go_ret
    exact ⟨rfl, (HB2.out.alloc HB2.out.size _).trans (hb3.mono (HB2.out.alloc HB2.out.size _).size)⟩
end Go.Proofs.Ytnecbhioekmcgaa
