/- The law 'MapDiffs', walked. -/
import Derived.Test.YtikbhekcpddoeaaOmK
import Derived.Test.YtikbhekcpddoeaaOmLaw
namespace Go.Proofs.Ytikbhekcpddoeaa
open Go.RowKit Go.Proofs
set_option linter.unusedVariables false
set_option linter.unusedSimpArgs false
set_option linter.unnecessarySimpa false

set_option maxRecDepth 100000 in
set_option maxHeartbeats 12800000 in
theorem mapDiffs_walk (a1 : Option Addr) (n cap1 : Nat) (l : List Int) (a2 : Option Addr) (m cap2 : Nat) (l2 : List Int) (w : World) (hr : GRow inT w a1 cap1 l) (hn : l.length = n) (hr2 : GRow inT w a2 cap2 l2) (hm : l2.length = m) :
    Calls Try.prog 6 #[.slice a1 n cap1, .slice a2 m cap2] w fun x w' => x = .returned (.bool true) ∧ Below w.heap.size w w' := by
  have HR := Lib.hid hr
  have HN := Lib.hid hn
  have HR2 := Lib.hid hr2
  have HM := Lib.hid hm
  have hcap := hr.1
  have hcm := hr.2.1
  have hcap2 := hr2.1
  have hcm2 := hr2.2.1
  unfold maxLen at hcm hcm2
  rw [hn] at hcap
  rw [hm] at hcap2
  clear hr hn hr2 hm
  go_enter Try.func6, Try.ntmps6
  by_cases hbig : (n : Int) > 300 ∨ (m : Int) > 300
  · rcases (show (n : Int) > 300 ∨ (¬ (n : Int) > 300 ∧ (m : Int) > 300) by omega) with h1 | ⟨h1, h2⟩
    all_goals
      clear hbig
      go_wp2_with fail
      refine (known13_any w).mono ?_
      rintro e w2 ⟨rfl, hb⟩
      have HB := Lib.hid hb
      clear hb
      go_wp2_with fail
      go_ret
      exact ⟨rfl, HB.out⟩
  · have hn3 : n ≤ 300 := by omega
    have hm3 : m ≤ 300 := by omega
    clear hbig
    obtain ⟨A, hA⟩ : ∃ z, statesO l = z := ⟨_, rfl⟩
    obtain ⟨B, hB⟩ : ∃ z, statesO l2 = z := ⟨_, rfl⟩
    have HLA : Hid (A.length = n) := Lib.hid (by rw [← hA, statesO_len, HN.out])
    have HLB : Hid (B.length = m) := Lib.hid (by rw [← hB, statesO_len, HM.out])
    go_wp2_with fail
    refine (states13_any a1 n cap1 l w HR.out HN.out (by omega)).mono ?_
    rw [hA]
    rintro e w1 ⟨v1, rfl, o1⟩
    obtain ⟨aA, cA, rfl, r1⟩ := o1.row_n inOk HLA.out
    have HR3 := Lib.hid (HR2.out.later o1.below)
    have HB1 := Lib.hid o1.below
    have HA1 := Lib.hid r1
    have hcA := r1.1
    have hmA := r1.2.1
    unfold maxLen at hmA
    rw [HLA.out] at hcA
    clear o1 r1
    go_wp2_with fail
    refine (states13_any a2 m cap2 l2 w1 HR3.out HM.out (by omega)).mono ?_
    rw [hB]
    rintro e w2 ⟨v2, rfl, o2⟩
    obtain ⟨aB, cB, rfl, r2⟩ := o2.row_n inOk HLB.out
    have HA2 := Lib.hid (HA1.out.later o2.below)
    have HB2 := Lib.hid (HB1.out.trans (o2.below.mono HB1.out.size))
    have HT2 := Lib.hid r2
    have hcB := r2.1
    have hmB := r2.2.1
    unfold maxLen at hmB
    rw [HLB.out] at hcB
    clear o2 r2 hA hB
    go_wp2_with fail
    obtain ⟨M, hMM⟩ : ∃ M, max n m = M := ⟨_, rfl⟩
    obtain ⟨D, hD⟩ : ∃ D, (diffO A B).length = D := ⟨_, rfl⟩
    have HDK : Hid (diffO A B = diffK A B M) := Lib.hid (by rw [diffK_all, HLA.out, HLB.out, hMM])
    have hD6 : D ≤ 300 := by rw [← hD, HDK.out]; have := diffK_len A B M; omega
    refine (odiff_any aA aB n m cA cB A B w2 HA2.out HT2.out HLA.out HLB.out (by omega) (by omega)).mono ?_
    rintro e w3 ⟨v3, rfl, o3⟩
    obtain ⟨aD, cD, rfl, r3⟩ := o3.row_n inOk hD
    have HA3 := Lib.hid (HA2.out.later o3.below)
    have HT3 := Lib.hid (HT2.out.later o3.below)
    have HB3 := Lib.hid (HB2.out.trans (o3.below.mono HB2.out.size))
    have HD3 := Lib.hid r3
    have hcD := r3.1
    have hmD := r3.2.1
    unfold maxLen at hmD
    rw [hD] at hcD
    have HDL := Lib.hid hD
    clear o3 r3 hD
    go_wp2_with fail
    rcases Nat.lt_or_ge n m with hnm | hnm
    all_goals
      go_loopw [8, 9] (fun k i wr => ∃ j q : Nat, i = .int .i64 j ∧ k = .int .i64 q ∧ j ≤ M ∧ Below w3.heap.size w3 wr ∧ q ≤ j ∧ Hid (q = (diffK A B j).length)) (fun _ i _ => M - (intOf i).toNat)
      case atStart => exact ⟨0, 0, rfl, rfl, by omega, Below.refl _ _, by omega, Lib.hid rfl⟩
      case round =>
        obtain ⟨j, q, rfl, rfl, hj, hb, hq, HQ⟩ := hrel
        have HBR := Lib.hid hb
        clear hb
        by_cases hjn : (j : Int) < M
        · have hjn2 : (j : Int) < (max n m : Nat) := by omega
          obtain ⟨X, hX⟩ : ∃ X, gO A j = X := ⟨_, rfl⟩
          obtain ⟨Y, hY⟩ : ∃ X, gO B j = X := ⟨_, rfl⟩
          have HMAY : Hid (mayB A B j = ((Y == 1) || (((X == 0) && !(Y == 0)) || (!(X == 0) && (Y == 0))))) := Lib.hid (by rw [mayB_eq, hX, hY]; rfl)
          have HXA : Hid (atO A (j : Int) = X) := Lib.hid (by rw [atO_nat, hX])
          have HYB : Hid (atO B (j : Int) = Y) := Lib.hid (by rw [atO_nat, hY])
          have HNX : Hid (mayB A B j = true → (diffO A B)[q]? = some (j : Int)) := Lib.hid fun h => by rw [HDK.out, HQ.out]; exact diffK_next (by omega) h
          have HYES : Hid (mayB A B j = true → q + 1 = (diffK A B (j + 1)).length) := Lib.hid fun h => by rw [diffK_yes h, List.length_append, List.length_singleton, ← HQ.out]
          have HNO : Hid (mayB A B j = false → q = (diffK A B (j + 1)).length) := Lib.hid fun h => by rw [diffK_no h, ← HQ.out]
          clear hX hY
          go_wp2_with fail
          refine (oat_any aA n cA A j _ (HA3.out.later HBR.out) HLA.out).mono ?_
          rw [HXA.out]
          rintro e w4 ⟨rfl, b4⟩
          have HB4 := Lib.hid (HBR.out.trans (b4.mono HBR.out.size))
          clear b4
          go_wp2_with fail
          refine (oat_any aB m cB B j w4 (HT3.out.later HB4.out) HLB.out).mono ?_
          rw [HYB.out]
          rintro e w5 ⟨rfl, b5⟩
          have HB5 := Lib.hid (HB4.out.trans (b5.mono HB4.out.size))
          clear b5
          rcases (show mayB A B j = true ∨ mayB A B j = false by cases mayB A B j <;> simp) with hmay | hmay
          · have HN1 := Lib.hid (HNX.out hmay)
            have HY1 := Lib.hid (HYES.out hmay)
            rw [hmay] at HMAY
            have hqD : q < D := by have := (List.getElem?_eq_some_iff.1 HN1.out).1; rw [HDL.out] at this; exact this
            obtain ⟨bD, offD, rfl, pD⟩ := (HD3.out.later HB5.out).at HN1.out
            have qD := pD 0 (.int .i64 (j : Int)) rfl
            simp only [Nat.mul_one, Nat.add_zero] at qD
            have hjj : ((j : Int) != (j : Int)) = false := by simp
            have hqg : decide ((q : Int) ≥ (D : Int)) = false := decide_eq_false (by omega)
            clear pD hmay
            obtain ⟨p1, hp1⟩ : ∃ z, (Y == 1) = z := ⟨_, rfl⟩
            obtain ⟨p2, hp2⟩ : ∃ z, (X == 0) = z := ⟨_, rfl⟩
            obtain ⟨p3, hp3⟩ : ∃ z, (Y == 0) = z := ⟨_, rfl⟩
            have hp4 : (X != 0) = !p2 := by rw [← hp2]; rfl
            have hp5 : (Y != 0) = !p3 := by rw [← hp3]; rfl
            rw [hp1, hp2, hp3] at HMAY
            cases p1 <;> cases p2 <;> cases p3 <;> simp only [Bool.not_true, Bool.not_false] at hp4 hp5 <;> first | (exfalso; have := HMAY.out; simp at this; done) | skip
            all_goals
              go_wp2_with fail
              go_roundw
              case rel => exact ⟨j + 1, q + 1, by go_num, by go_num, by omega, HB5.out, by omega, Lib.hid HY1.out⟩
              case measure => simp [intOf]; omega
          · have HY1 := Lib.hid (HNO.out hmay)
            rw [hmay] at HMAY
            clear hmay
            obtain ⟨p1, hp1⟩ : ∃ z, (Y == 1) = z := ⟨_, rfl⟩
            obtain ⟨p2, hp2⟩ : ∃ z, (X == 0) = z := ⟨_, rfl⟩
            obtain ⟨p3, hp3⟩ : ∃ z, (Y == 0) = z := ⟨_, rfl⟩
            have hp4 : (X != 0) = !p2 := by rw [← hp2]; rfl
            have hp5 : (Y != 0) = !p3 := by rw [← hp3]; rfl
            rw [hp1, hp2, hp3] at HMAY
            cases p1 <;> cases p2 <;> cases p3 <;> simp only [Bool.not_true, Bool.not_false] at hp4 hp5 <;> first | (exfalso; have := HMAY.out; simp at this; done) | skip
            all_goals
              go_wp2_with fail
              go_roundw
              case rel => exact ⟨j + 1, q, by go_num, rfl, by omega, HB5.out, by omega, Lib.hid HY1.out⟩
              case measure => simp [intOf]; omega
        · have hjN : j = M := by omega
          have hqD : q = D := by rw [HQ.out, hjN, ← HDL.out, HDK.out]
          subst hqD
          clear hjN
          go_wp2_with fail
          refine (known13_any _).mono ?_
          rintro e w9 ⟨rfl, b9⟩
          have HB9 := Lib.hid (HB3.out.trans ((HBR.out.trans (b9.mono HBR.out.size)).mono HB3.out.size))
          clear b9
          go_wp2_with fail
          go_ret
          exact ⟨rfl, HB9.out⟩
end Go.Proofs.Ytikbhekcpddoeaa
