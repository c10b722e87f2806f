/- The law 'MapSized', walked. -/
import Derived.Test.YtikbhekcpddoeaaOmK
namespace Go.Proofs.Ytikbhekcpddoeaa
open Go.RowKit Go.Proofs
set_option linter.unusedVariables false
set_option linter.unusedSimpArgs false
set_option linter.unnecessarySimpa false

theorem heldO_nat {k : Nat} (h : k ≤ 512) : heldO (k : Int) = k := by unfold heldO; omega
theorem heldO_of {k : Int} {n : Nat} (h : min (max k 0) 512 = n) : heldO k = n := by unfold heldO; omega
theorem sizeO_right {l : List Int} (h : ∀ x ∈ l, stOk x) (n : Int) : rightO (sizeO l n) = true := by
  rw [rightO_iff]
  refine ⟨by rw [sizeO_len]; unfold heldO; omega, fun x hx => ?_⟩
  obtain ⟨i, hi⟩ := List.mem_iff_getElem?.1 hx
  have hl := (List.getElem?_eq_some_iff.1 hi).1
  rw [sizeO_len] at hl
  rw [sizeO_at l hl] at hi
  cases hi
  cases hx : l[i]? with
  | none => unfold stOk; simp
  | some y => simpa using h y (List.mem_of_getElem? hx)
theorem sized_at {l : List Int} {k i : Nat} (hk : k ≤ 512) : atO (sizeO l (k : Int)) (i : Int) = if i < k then atO l (i : Int) else 0 := by
  have h0 : ¬ (i : Int) < 0 := by omega
  simp only [atO, if_neg h0, Int.toNat_natCast]
  split
  · rename_i h; rw [sizeO_at l (by rw [heldO_nat hk]; exact h)]; rfl
  · rename_i h; rw [List.getElem?_eq_none (by rw [sizeO_len, heldO_nat hk]; omega)]; rfl

set_option maxRecDepth 100000 in
set_option maxHeartbeats 12800000 in
theorem mapSized_walk (a : Option Addr) (n cap : Nat) (l : List Int) (num i_ : Int) (w : World) (hr : GRow inT w a cap l) (hn : l.length = n) :
    Calls Try.prog 5 #[.slice a n cap, .int .i64 num, .int .i64 i_] w fun x w' => x = .returned (.bool true) ∧ Below w.heap.size w w' := by
  have HR := Lib.hid hr
  have HN := Lib.hid hn
  have hcap := hr.1
  have hcm := hr.2.1
  unfold maxLen at hcm
  rw [hn] at hcap
  clear hr hn
  obtain ⟨K0, hK0⟩ : ∃ z, bits .and .i64 num 511 = z := ⟨_, rfl⟩
  have hKr : 0 ≤ K0 ∧ K0 ≤ 511 := by rw [← hK0]; exact and_range num 511 (by decide)
  obtain ⟨I0, hI0⟩ : ∃ z, bits .and .i64 i_ 511 = z := ⟨_, rfl⟩
  have hIr : 0 ≤ I0 ∧ I0 ≤ 511 := by rw [← hI0]; exact and_range i_ 511 (by decide)
  obtain ⟨K, hK⟩ : ∃ F : Nat, K0 = (F : Int) := ⟨K0.toNat, by omega⟩
  obtain ⟨I, hI⟩ : ∃ F : Nat, I0 = (F : Int) := ⟨I0.toNat, by omega⟩
  have hK5 : K ≤ 511 := by omega
  have hI5 : I ≤ 511 := by omega
  rw [hK] at hK0
  rw [hI] at hI0
  clear hKr hIr hK hI K0 I0
  go_enter Try.func5, Try.ntmps5
  by_cases hbig : (n : Int) > 300
  · go_wp2_with fail
    refine (known13_any w).mono ?_
    rintro e w2 ⟨rfl, hb⟩
    have HB := Lib.hid hb
    clear hb
    go_wp2_with fail
    go_ret
    exact ⟨rfl, HB.out⟩
  · have hn3 : n ≤ 300 := by omega
    go_wp2_with fail
    refine (states13_any a n cap l w HR.out HN.out (by omega)).mono ?_
    rintro e w1 ⟨v1, rfl, o1⟩
    have HOK := Lib.hid (statesO_ok (l := l) (by rw [HN.out]; omega))
    obtain ⟨L, hL⟩ : ∃ L, statesO l = L := ⟨_, rfl⟩
    have HLN : Hid (L.length = n) := Lib.hid (by rw [← hL, statesO_len, HN.out])
    rw [hL] at o1 HOK
    clear hL
    obtain ⟨a1, c1, rfl, r1⟩ := o1.row_n inOk HLN.out
    have HR1 := Lib.hid r1
    have HB1 := Lib.hid o1.below
    have hc1 := r1.1
    have hcm1 := r1.2.1
    unfold maxLen at hcm1
    rw [HLN.out] at hc1
    clear o1 r1
    go_wp2_with fail
    refine (osize_any a1 n c1 L K (by unfold inB; omega) w1 HR1.out HLN.out (by omega)).mono ?_
    rintro e w2 ⟨v2, rfl, o2⟩
    have HS2 : Hid ((sizeO L K).length = K) := Lib.hid (by rw [sizeO_len, heldO_nat (by omega)])
    obtain ⟨a2, c2, rfl, r2⟩ := o2.row_n inOk HS2.out
    have HR2 := Lib.hid r2
    have HB2 := Lib.hid (HB1.out.trans (o2.below.mono HB1.out.size))
    have HR12 := Lib.hid (HR1.out.later o2.below)
    have hc2 := r2.1
    have hcm2 := r2.2.1
    unfold maxLen at hcm2
    rw [HS2.out] at hc2
    clear o2 r2
    go_wp2_with fail
    refine (oright_any a2 K c2 _ w2 HR2.out HS2.out (by omega)).mono ?_
    rw [sizeO_right HOK.out.2]
    rintro e w3 ⟨rfl, b3⟩
    have HR23 := Lib.hid (HR2.out.later b3)
    have HR13 := Lib.hid (HR12.out.later b3)
    have HB3 := Lib.hid (HB2.out.trans (b3.mono HB2.out.size))
    clear b3
    have HAT := Lib.hid (sized_at (l := L) (k := K) (i := I) (by omega))
    by_cases hik : (I : Int) < K
    all_goals
      first
        | rw [if_pos (by omega)] at HAT
          go_wp2_with fail
          refine (oat_any a1 n c1 L I w3 HR13.out HLN.out).mono ?_
          rintro e w4 ⟨rfl, b4⟩
          have HR14 := Lib.hid (HR13.out.later b4)
          have HR24 := Lib.hid (HR23.out.later b4)
          have HB4 := Lib.hid (HB3.out.trans (b4.mono HB3.out.size))
          clear b4
        | rw [if_neg (by omega)] at HAT
          obtain ⟨w4, HR14, HR24, HB4, hw4⟩ : ∃ w4, Hid (GRow inT w4 a1 c1 L) ∧ Hid (GRow inT w4 a2 c2 (sizeO L K)) ∧ Hid (Below w.heap.size w w4) ∧ w3 = w4 := ⟨w3, HR13, HR23, HB3, rfl⟩
          rw [hw4]
          clear hw4
      go_wp2_with fail
      refine (oat_any a2 K c2 _ I w4 HR24.out HS2.out).mono ?_
      rw [HAT.out]
      rintro e w5 ⟨rfl, b5⟩
      have HR15 := Lib.hid (HR14.out.later b5)
      have HB5 := Lib.hid (HB4.out.trans (b5.mono HB4.out.size))
      clear b5
      go_wp2_with fail
      refine (osize_any a1 n c1 L ((n : Int) + (K : Int)) (by unfold inB; omega) w5 HR15.out HLN.out (by omega)).mono ?_
      rintro e w6 ⟨v6, rfl, o6⟩
      obtain ⟨M, hM⟩ : ∃ M, heldO ((n : Int) + (K : Int)) = M := ⟨_, rfl⟩
      have hM5 : M ≤ 512 := by rw [← hM]; unfold heldO; omega
      have hMn : n ≤ M := by rw [← hM]; unfold heldO; omega
      have HS6 : Hid ((sizeO L ((n : Int) + (K : Int))).length = M) := Lib.hid (by rw [sizeO_len, hM])
      have HBK := Lib.hid (sizeO_back (l := L) (n := (n : Int) + (K : Int)) (k := (n : Int)) (by rw [heldO_nat (by omega), HLN.out]) (by rw [HLN.out, hM]; exact hMn))
      obtain ⟨a6, c6, rfl, r6⟩ := o6.row_n inOk HS6.out
      have HR6 := Lib.hid r6
      have HR16 := Lib.hid (HR15.out.later o6.below)
      have HB6 := Lib.hid (HB5.out.trans (o6.below.mono HB5.out.size))
      clear o6 r6 hM hMn
      go_wp2_with fail
      refine (osize_any a6 M c6 _ n (by unfold inB; omega) w6 HR6.out HS6.out (by omega)).mono ?_
      rw [HBK.out]
      rintro e w7 ⟨v7, rfl, o7⟩
      obtain ⟨a7, c7, rfl, r7⟩ := o7.row_n inOk HLN.out
      have HR7 := Lib.hid r7
      have HR17 := Lib.hid (HR16.out.later o7.below)
      have HB7 := Lib.hid (HB6.out.trans (o7.below.mono HB6.out.size))
      clear o7 r7
      go_wp2_with fail
      refine (zsame_any a7 a1 n n c7 c1 L L w7 HR7.out.zrow HR17.out.zrow HLN.out HLN.out).mono ?_
      rw [decide_eq_true rfl]
      rintro e w8 ⟨rfl, b8⟩
      have HB8 := Lib.hid (HB7.out.trans (b8.mono HB7.out.size))
      clear b8
      go_wp2_with fail
      refine (known13_any w8).mono ?_
      rintro e w9 ⟨rfl, b9⟩
      have HB9 := Lib.hid (HB8.out.trans (b9.mono HB8.out.size))
      clear b9
      go_wp2_with fail
      go_ret
      exact ⟨rfl, HB9.out⟩
end Go.Proofs.Ytikbhekcpddoeaa
