/- The law 'MapFrozen', walked. -/
import Derived.Test.YtikbhekcpddoeaaOmK
import Derived.Test.YtikbhekcpddoeaaOmLaw
namespace Go.Proofs.Ytikbhekcpddoeaa
open Go.RowKit Go.Proofs
set_option linter.unusedVariables false
set_option linter.unusedSimpArgs false
set_option linter.unnecessarySimpa false

set_option maxRecDepth 100000 in
set_option maxHeartbeats 12800000 in
theorem mapFrozen_walk (a : Option Addr) (n cap : Nat) (l : List Int) (i_ : Int) (w : World) (hr : GRow inT w a cap l) (hn : l.length = n) :
    Calls Try.prog 4 #[.slice a n cap, .int .i64 i_] w fun x w' => x = .returned (.bool true) ∧ Below w.heap.size w w' := by
  have HR := Lib.hid hr
  have HN := Lib.hid hn
  have hcap := hr.1
  have hcm := hr.2.1
  unfold maxLen at hcm
  rw [hn] at hcap
  clear hr hn
  obtain ⟨I0, hI0⟩ : ∃ z, bits .and .i64 i_ 255 = z := ⟨_, rfl⟩
  have hIr : 0 ≤ I0 ∧ I0 ≤ 255 := by rw [← hI0]; exact and_range i_ 255 (by decide)
  obtain ⟨I, hI⟩ : ∃ F : Nat, I0 = (F : Int) := ⟨I0.toNat, by omega⟩
  have hI5 : I ≤ 255 := by omega
  rw [hI] at hI0
  clear hIr hI I0
  go_enter Try.func4, Try.ntmps4
  by_cases hbig : (n : Int) > 300
  · go_wp2_with fail
    refine (known13_any w).mono ?_
    rintro e w2 ⟨rfl, hb⟩
    have HB := Lib.hid hb
    clear hb
    go_wp2_with fail
    go_ret
    exact ⟨rfl, HB.out⟩
  · have hn3 : n ≤ 300 := by omega
    have HOK := Lib.hid (statesO_ok (l := l) (by rw [HN.out]; omega))
    have HLS : Hid ((statesO l).length = n) := Lib.hid (by rw [statesO_len, HN.out])
    have HLF : Hid ((freezeO (statesO l)).length = n) := Lib.hid (by rw [freezeO_len, HLS.out])
    have HFZ := Lib.hid (freezeO_froz HOK.out.2)
    go_wp2_with fail
    refine (states13_any a n cap l w HR.out HN.out (by omega)).mono ?_
    rintro e w1 ⟨v1, rfl, o1⟩
    obtain ⟨aS, cS, rfl, r1⟩ := o1.row_n inOk HLS.out
    have hcS := r1.1
    have hmS := r1.2.1
    unfold maxLen at hmS
    rw [HLS.out] at hcS
    have HB1 := Lib.hid (o1.below)
    have HS1 := Lib.hid r1
    clear o1 r1
    go_wp2_with fail
    refine (ofreeze_any aS n cS _ w1 HS1.out HLS.out (by omega)).mono ?_
    rintro e w2 ⟨v2, rfl, o2⟩
    obtain ⟨aA, cA, rfl, r2⟩ := o2.row_n inOk HLF.out
    have hcA := r2.1
    have hmA := r2.2.1
    unfold maxLen at hmA
    rw [HLF.out] at hcA
    have HS2 := Lib.hid (HS1.out.later o2.below)
    have HB2 := Lib.hid (HB1.out.trans ((o2.below).mono HB1.out.size))
    have HA2 := Lib.hid r2
    clear o2 r2
    obtain ⟨L, hL⟩ : ∃ L, freezeO (statesO l) = L := ⟨_, rfl⟩
    rw [hL] at HLF HFZ HA2
    clear hL
    have HT1 : Hid ((turnO L (I : Int) 1).length = max n (I + 1)) := Lib.hid (by rw [turnO_len (by omega) (by unfold stOk; omega), HLF.out])
    have HT0 : Hid ((turnO L (I : Int) 0).length = max n (I + 1)) := Lib.hid (by rw [turnO_len (by omega) (by unfold stOk; omega), HLF.out])
    obtain ⟨M, hM⟩ : ∃ M, max n (I + 1) = M := ⟨_, rfl⟩
    rw [hM] at HT1 HT0
    have hM5 : M ≤ 300 := by omega
    clear hM
    go_wp2_with fail
    refine (oturn_any aA n cA L I 1 (by unfold inB; omega) (by unfold inB; omega) w2 HA2.out HLF.out (by omega)).mono ?_
    rintro e w3 ⟨v3, rfl, o3⟩
    obtain ⟨aT, cT, rfl, r3⟩ := o3.row_n inOk HT1.out
    have hcT := r3.1
    have hmT := r3.2.1
    unfold maxLen at hmT
    rw [HT1.out] at hcT
    have HA3 := Lib.hid (HA2.out.later o3.below)
    have HB3 := Lib.hid (HB2.out.trans ((o3.below).mono HB2.out.size))
    have HT3 := Lib.hid r3
    clear o3 r3
    have HD1 : Hid ((diffO L (turnO L (I : Int) 1)).length = 1) := Lib.hid (by rw [froz_live HFZ.out (by omega)]; rfl)
    go_wp2_with fail
    refine (odiff_any aA aT n M cA cT _ _ w3 HA3.out HT3.out HLF.out HT1.out (by omega) (by omega)).mono ?_
    rintro e w4 ⟨v4, rfl, o4⟩
    obtain ⟨aD, cD, rfl, r4⟩ := o4.row_n inOk HD1.out
    have hcD := r4.1
    have hmD := r4.2.1
    unfold maxLen at hmD
    rw [HD1.out] at hcD
    have HA4 := Lib.hid (HA3.out.later o4.below)
    have HT4 := Lib.hid (HT3.out.later o4.below)
    have HB4 := Lib.hid (HB3.out.trans ((o4.below).mono HB3.out.size))
    have HD4 := Lib.hid r4
    clear o4 r4
    have HDV := Lib.hid (froz_live HFZ.out (I := I) (by omega))
    rw [HDV.out] at HD4
    go_wp2_with fail
    refine (oturn_any aA n cA L I 0 (by unfold inB; omega) (by unfold inB; omega) w4 HA4.out HLF.out (by omega)).mono ?_
    rintro e w5 ⟨v5, rfl, o5⟩
    obtain ⟨aC, cC, rfl, r5⟩ := o5.row_n inOk HT0.out
    have hcC := r5.1
    have hmC := r5.2.1
    unfold maxLen at hmC
    rw [HT0.out] at hcC
    have HA5 := Lib.hid (HA4.out.later o5.below)
    have HD5 := Lib.hid (HD4.out.later o5.below)
    have HB5 := Lib.hid (HB4.out.trans ((o5.below).mono HB4.out.size))
    have HC5 := Lib.hid r5
    clear o5 r5
    obtain ⟨Z, hZ⟩ : ∃ z, gO L I = z := ⟨_, rfl⟩
    have HAT : Hid (atO L (I : Int) = Z) := Lib.hid (by rw [atO_nat, hZ])
    have HG0 : Hid (Z = 0 → diffO L (turnO L (I : Int) 0) = [] ∧ diffO (turnO L (I : Int) 0) L = []) := Lib.hid fun h => froz_gone HFZ.out (by omega) (by rw [hZ]; exact h)
    have HG1 : Hid (Z ≠ 0 → diffO L (turnO L (I : Int) 0) = [(I : Int)] ∧ diffO (turnO L (I : Int) 0) L = [(I : Int)]) := Lib.hid fun h => froz_come HFZ.out (by omega) (by rw [hZ]; exact h)
    have HFS := Lib.hid (freezeO_same HFZ.out)
    have HAA := Lib.hid (froz_diff HFZ.out)
    clear hZ
    by_cases hz : Z = 0
    · obtain ⟨hg, hh⟩ := HG0.out hz
      have HGG := Lib.hid hg
      have HHH := Lib.hid hh
      have hzd : (Z == 0) = true := by simp [hz]
      have HGL : Hid ((diffO L (turnO L (I : Int) 0)).length = 0) := Lib.hid (by rw [hg]; rfl)
      have HHL : Hid ((diffO (turnO L (I : Int) 0) L).length = 0) := Lib.hid (by rw [hh]; rfl)
      clear hg hh hz
      go_wp2_with fail
      refine (odiff_any aA aC n M cA cC _ _ w5 HA5.out HC5.out HLF.out HT0.out (by omega) (by omega)).mono ?_
      rintro e w6 ⟨v6, rfl, o6⟩
      obtain ⟨aG, cG, rfl, r6⟩ := o6.row_n inOk HGL.out
      have hcG := r6.1
      have hmG := r6.2.1
      unfold maxLen at hmG
      rw [HGL.out] at hcG
      have HA6 := Lib.hid (HA5.out.later o6.below)
      have HD6 := Lib.hid (HD5.out.later o6.below)
      have HC6 := Lib.hid (HC5.out.later o6.below)
      have HB6 := Lib.hid (HB5.out.trans ((o6.below).mono HB5.out.size))
      have HG6 := Lib.hid r6
      clear o6 r6
      go_wp2_with fail
      refine (odiff_any aC aA M n cC cA _ _ w6 HC6.out HA6.out HT0.out HLF.out (by omega) (by omega)).mono ?_
      rintro e w7 ⟨v7, rfl, o7⟩
      obtain ⟨aE, cE, rfl, r7⟩ := o7.row_n inOk HHL.out
      have hcE := r7.1
      have hmE := r7.2.1
      unfold maxLen at hmE
      rw [HHL.out] at hcE
      have HA7 := Lib.hid (HA6.out.later o7.below)
      have HD7 := Lib.hid (HD6.out.later o7.below)
      have HC7 := Lib.hid (HC6.out.later o7.below)
      have HG7 := Lib.hid (HG6.out.later o7.below)
      have HB7 := Lib.hid (HB6.out.trans ((o7.below).mono HB6.out.size))
      have HE7 := Lib.hid r7
      clear o7 r7
      rw [HGG.out] at HG7
      rw [HHH.out] at HE7
      go_wp2_with fail
      refine (oat_any aA n cA L I w7 HA7.out HLF.out).mono ?_
      rw [HAT.out]
      rintro e w8 ⟨rfl, b8⟩
      have HA8 := Lib.hid (HA7.out.later b8)
      have HD8 := Lib.hid (HD7.out.later b8)
      have HG8 := Lib.hid (HG7.out.later b8)
      have HE8 := Lib.hid (HE7.out.later b8)
      have HB8 := Lib.hid (HB7.out.trans ((b8).mono HB7.out.size))
      clear b8
      have HAL : Hid ((diffO L L).length = 0) := Lib.hid (by rw [HAA.out]; rfl)
      go_wp2_with fail
      refine (odiff_any aA aA n n cA cA _ _ w8 HA8.out HA8.out HLF.out HLF.out (by omega) (by omega)).mono ?_
      rintro e w9 ⟨v9, rfl, o9⟩
      obtain ⟨aQ, cQ, rfl, r9⟩ := o9.row_n inOk HAL.out
      have hcQ := r9.1
      have hmQ := r9.2.1
      unfold maxLen at hmQ
      rw [HAL.out] at hcQ
      have HA9 := Lib.hid (HA8.out.later o9.below)
      have HD9 := Lib.hid (HD8.out.later o9.below)
      have HG9 := Lib.hid (HG8.out.later o9.below)
      have HE9 := Lib.hid (HE8.out.later o9.below)
      have HB9 := Lib.hid (HB8.out.trans ((o9.below).mono HB8.out.size))
      have HQ9 := Lib.hid r9
      clear o9 r9
      obtain ⟨bD, offD, rfl, pD⟩ := HD9.out.at (i := 0) (t := (I : Int)) rfl
      have qD := pD 0 (.int .i64 (I : Int)) rfl
      simp only [Nat.zero_mul, Nat.add_zero] at qD
      clear pD
      have hii : ((I : Int) == (I : Int)) = true := by simp
      have hin : ((I : Int) != (I : Int)) = false := by simp
      go_wp2_with fail
      refine (ofreeze_any aA n cA _ w9 HA9.out HLF.out (by omega)).mono ?_
      rintro e w10 ⟨v10, rfl, o10⟩
      obtain ⟨aF, cF, rfl, r10⟩ := o10.row_n inOk (show (freezeO L).length = n by rw [HFS.out, HLF.out])
      have hcF := r10.1
      have hmF := r10.2.1
      unfold maxLen at hmF
      rw [(show (freezeO L).length = n by rw [HFS.out, HLF.out])] at hcF
      have HA10 := Lib.hid (HA9.out.later o10.below)
      have HB10 := Lib.hid (HB9.out.trans ((o10.below).mono HB9.out.size))
      have HF10 := Lib.hid r10
      clear o10 r10
      rw [HFS.out] at HF10
      go_wp2_with fail
      refine (zsame_any aF aA n n cF cA L L w10 HF10.out.zrow HA10.out.zrow HLF.out HLF.out).mono ?_
      rw [decide_eq_true rfl]
      rintro e w11 ⟨rfl, b11⟩
      have HA11 := Lib.hid (HA10.out.later b11)
      have HF11 := Lib.hid (HF10.out.later b11)
      have HB11 := Lib.hid (HB10.out.trans ((b11).mono HB10.out.size))
      clear b11
      go_wp2_with fail
      refine (known13_any w11).mono ?_
      rintro e w12 ⟨rfl, b12⟩
      have HB12 := Lib.hid (HB11.out.trans ((b12).mono HB11.out.size))
      clear b12
      go_wp2_with fail
      go_ret
      exact ⟨rfl, HB12.out⟩
    · obtain ⟨hg, hh⟩ := HG1.out hz
      have HGG := Lib.hid hg
      have HHH := Lib.hid hh
      have hzd : (Z == 0) = false := by simp [hz]
      have HGL : Hid ((diffO L (turnO L (I : Int) 0)).length = 1) := Lib.hid (by rw [hg]; rfl)
      have HHL : Hid ((diffO (turnO L (I : Int) 0) L).length = 1) := Lib.hid (by rw [hh]; rfl)
      clear hg hh hz
      go_wp2_with fail
      refine (odiff_any aA aC n M cA cC _ _ w5 HA5.out HC5.out HLF.out HT0.out (by omega) (by omega)).mono ?_
      rintro e w6 ⟨v6, rfl, o6⟩
      obtain ⟨aG, cG, rfl, r6⟩ := o6.row_n inOk HGL.out
      have hcG := r6.1
      have hmG := r6.2.1
      unfold maxLen at hmG
      rw [HGL.out] at hcG
      have HA6 := Lib.hid (HA5.out.later o6.below)
      have HD6 := Lib.hid (HD5.out.later o6.below)
      have HC6 := Lib.hid (HC5.out.later o6.below)
      have HB6 := Lib.hid (HB5.out.trans ((o6.below).mono HB5.out.size))
      have HG6 := Lib.hid r6
      clear o6 r6
      go_wp2_with fail
      refine (odiff_any aC aA M n cC cA _ _ w6 HC6.out HA6.out HT0.out HLF.out (by omega) (by omega)).mono ?_
      rintro e w7 ⟨v7, rfl, o7⟩
      obtain ⟨aE, cE, rfl, r7⟩ := o7.row_n inOk HHL.out
      have hcE := r7.1
      have hmE := r7.2.1
      unfold maxLen at hmE
      rw [HHL.out] at hcE
      have HA7 := Lib.hid (HA6.out.later o7.below)
      have HD7 := Lib.hid (HD6.out.later o7.below)
      have HC7 := Lib.hid (HC6.out.later o7.below)
      have HG7 := Lib.hid (HG6.out.later o7.below)
      have HB7 := Lib.hid (HB6.out.trans ((o7.below).mono HB6.out.size))
      have HE7 := Lib.hid r7
      clear o7 r7
      rw [HGG.out] at HG7
      rw [HHH.out] at HE7
      go_wp2_with fail
      refine (oat_any aA n cA L I w7 HA7.out HLF.out).mono ?_
      rw [HAT.out]
      rintro e w8 ⟨rfl, b8⟩
      have HA8 := Lib.hid (HA7.out.later b8)
      have HD8 := Lib.hid (HD7.out.later b8)
      have HG8 := Lib.hid (HG7.out.later b8)
      have HE8 := Lib.hid (HE7.out.later b8)
      have HB8 := Lib.hid (HB7.out.trans ((b8).mono HB7.out.size))
      clear b8
      have HAL : Hid ((diffO L L).length = 0) := Lib.hid (by rw [HAA.out]; rfl)
      go_wp2_with fail
      refine (odiff_any aA aA n n cA cA _ _ w8 HA8.out HA8.out HLF.out HLF.out (by omega) (by omega)).mono ?_
      rintro e w9 ⟨v9, rfl, o9⟩
      obtain ⟨aQ, cQ, rfl, r9⟩ := o9.row_n inOk HAL.out
      have hcQ := r9.1
      have hmQ := r9.2.1
      unfold maxLen at hmQ
      rw [HAL.out] at hcQ
      have HA9 := Lib.hid (HA8.out.later o9.below)
      have HD9 := Lib.hid (HD8.out.later o9.below)
      have HG9 := Lib.hid (HG8.out.later o9.below)
      have HE9 := Lib.hid (HE8.out.later o9.below)
      have HB9 := Lib.hid (HB8.out.trans ((o9.below).mono HB8.out.size))
      have HQ9 := Lib.hid r9
      clear o9 r9
      obtain ⟨bD, offD, rfl, pD⟩ := HD9.out.at (i := 0) (t := (I : Int)) rfl
      have qD := pD 0 (.int .i64 (I : Int)) rfl
      simp only [Nat.zero_mul, Nat.add_zero] at qD
      clear pD
      obtain ⟨bG, offG, rfl, pG⟩ := HG9.out.at (i := 0) (t := (I : Int)) rfl
      have qG := pG 0 (.int .i64 (I : Int)) rfl
      simp only [Nat.zero_mul, Nat.add_zero] at qG
      clear pG
      obtain ⟨bE, offE, rfl, pE⟩ := HE9.out.at (i := 0) (t := (I : Int)) rfl
      have qE := pE 0 (.int .i64 (I : Int)) rfl
      simp only [Nat.zero_mul, Nat.add_zero] at qE
      clear pE
      have hii : ((I : Int) == (I : Int)) = true := by simp
      have hin : ((I : Int) != (I : Int)) = false := by simp
      go_wp2_with fail
      refine (ofreeze_any aA n cA _ w9 HA9.out HLF.out (by omega)).mono ?_
      rintro e w10 ⟨v10, rfl, o10⟩
      obtain ⟨aF, cF, rfl, r10⟩ := o10.row_n inOk (show (freezeO L).length = n by rw [HFS.out, HLF.out])
      have hcF := r10.1
      have hmF := r10.2.1
      unfold maxLen at hmF
      rw [(show (freezeO L).length = n by rw [HFS.out, HLF.out])] at hcF
      have HA10 := Lib.hid (HA9.out.later o10.below)
      have HB10 := Lib.hid (HB9.out.trans ((o10.below).mono HB9.out.size))
      have HF10 := Lib.hid r10
      clear o10 r10
      rw [HFS.out] at HF10
      go_wp2_with fail
      refine (zsame_any aF aA n n cF cA L L w10 HF10.out.zrow HA10.out.zrow HLF.out HLF.out).mono ?_
      rw [decide_eq_true rfl]
      rintro e w11 ⟨rfl, b11⟩
      have HA11 := Lib.hid (HA10.out.later b11)
      have HF11 := Lib.hid (HF10.out.later b11)
      have HB11 := Lib.hid (HB10.out.trans ((b11).mono HB10.out.size))
      clear b11
      go_wp2_with fail
      refine (known13_any w11).mono ?_
      rintro e w12 ⟨rfl, b12⟩
      have HB12 := Lib.hid (HB11.out.trans ((b12).mono HB11.out.size))
      clear b12
      go_wp2_with fail
      go_ret
      exact ⟨rfl, HB12.out⟩
end Go.Proofs.Ytikbhekcpddoeaa
