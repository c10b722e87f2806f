/- The law 'ScanWhole', walked. -/
import Derived.Test.YtabeleihpnnadaaScK
import Derived.Test.YtabeleihpnnadaaScL
import Derived.BigQuiet
namespace Go.Proofs.Ytabeleihpnnadaa
open Go.RowKit Go.Proofs
set_option linter.unusedVariables false
set_option linter.unusedSimpArgs false
set_option linter.unnecessarySimpa false

theorem few_sbW {n : Nat} {rows : List (List UInt8)} (hn : rows.length = n) (h : n ≤ 40 ∧ ∀ l ∈ rows, l.length ≤ 1500) : SB rows := ⟨by omega, fun l hl => by have := h.2 l hl; omega⟩
set_option maxRecDepth 100000 in
set_option maxHeartbeats 12800000 in
theorem scanWhole_walk (a : Option Addr) (n cap : Nat) (ps : List (List UInt8)) (from_ sp_ skip : Int) (w : World) (hr : SRow w a cap ps) (hn : ps.length = n) :
    Calls Try.prog 5 #[.slice a n cap, .int .i64 from_, .int .i64 sp_, .int .i64 skip] w fun x w' => x = .returned (.bool true) ∧ Below w.heap.size w w' := by
  have HR := Lib.hid hr
  have HN := Lib.hid hn
  have HFEW := Lib.hid (few_any a n cap ps w hr hn)
  have hcap := hr.1
  have hcm := hr.2.1
  unfold maxLen at hcm
  rw [hn] at hcap
  clear hr hn
  obtain ⟨A, hA⟩ : ∃ z, bits .and .i64 from_ 65535 = z := ⟨_, rfl⟩
  have hAr : 0 ≤ A ∧ A ≤ 65535 := by rw [← hA]; exact and_range from_ 65535 (by decide)
  obtain ⟨S, hS⟩ : ∃ z, bits .and .i64 sp_ 3 = z := ⟨_, rfl⟩
  have hSr : 0 ≤ S ∧ S ≤ 3 := by rw [← hS]; exact and_range sp_ 3 (by decide)
  obtain ⟨D, hD⟩ : ∃ z, bits .and .i64 skip 255 = z := ⟨_, rfl⟩
  have hDr : 0 ≤ D ∧ D ≤ 255 := by rw [← hD]; exact and_range skip 255 (by decide)
  obtain ⟨F, hF⟩ : ∃ F : Nat, 1 + A = (F : Int) := ⟨(1 + A).toNat, by omega⟩
  obtain ⟨sp, hsp⟩ : ∃ F : Nat, 1 + S = (F : Int) := ⟨(1 + S).toNat, by omega⟩
  have hF1 : 1 ≤ F ∧ F ≤ 65536 := by omega
  have hs1 : 1 ≤ sp ∧ sp ≤ 4 := by omega
  go_enter Try.func5, Try.ntmps5
  go_wp2_with fail
  refine HFEW.out.mono ?_
  rintro e w1 ⟨B, rfl, rfl, hB⟩
  cases B with
  | false =>
    clear hB
    go_wp2_with fail
    refine (known11_any w).mono ?_
    rintro e w2 ⟨rfl, hb⟩
    have HB := Lib.hid hb
    clear hb
    go_wp2_with fail
    go_ret
    exact ⟨rfl, HB.out⟩
  | true =>
    have HSB := Lib.hid (few_sbW HN.out (hB rfl))
    have hn40 := (hB rfl).1
    clear hB
    go_wp2_with fail
    refine (rows_any a n cap F sp ps w HR.out HN.out HSB.out hF1.1 (by omega) hs1.1 hs1.2).mono ?_
    rintro e w1 ⟨g, rfl, o1⟩
    obtain ⟨es, hes⟩ : ∃ es, ensF F ps = es := ⟨_, rfl⟩
    rw [hes] at o1
    have HES : Hid (∀ (i : Nat) p, ps[i]? = some p → es[i]? = some ⟨3, ((F + i : Nat) : Int), normP p⟩) := Lib.hid fun i p h => by rw [← hes]; exact ensF_get h
    have HEL : Hid (es.length = n) := Lib.hid (by rw [← hes, ensF_len, HN.out])
    have HRI : Hid (∀ e ∈ es, e.right = true) := Lib.hid (by rw [← hes]; exact ensF_right hF1.1 (by rw [HN.out]; omega))
    have HRU : Hid (Runs F es) := Lib.hid (by rw [← hes]; exact Runs.ens F ps)
    have HRB : Hid (SB (rowsP sp es)) := Lib.hid (rowsP_SB hs1.2 (by rw [HEL.out]; omega) (by rw [← hes]; exact ensF_short))
    have HSR := Lib.hid (o1.srow (by omega))
    have HB1 := Lib.hid o1.below
    obtain ⟨k, hk⟩ : ∃ k : Nat, D % ((n : Int) + 1) = (k : Int) := ⟨(D % ((n : Int) + 1)).toNat, by have := Int.emod_nonneg D (show ((n : Int) + 1) ≠ 0 by omega); omega⟩
    have hkn : k ≤ n := by have := Int.emod_lt_of_pos D (show 0 < ((n : Int) + 1) by omega); omega
    clear o1 hes hA hS hF hsp
    go_upto_region 6 with fail
    rw [hk]
    clear hk hD
    go_wp2_with fail
    refine (merge_any _ sp sp (rowsP sp es) ((F : Int) + (k : Int)) w1 HSR.out (rowsP_len _ _) HRB.out (by omega) (by omega)).mono ?_
    rw [HRU.out.merge hs1.1 HRI.out (by rw [HEL.out]; exact hkn)]
    rintro e w2 ⟨v2, rfl, o2⟩
    obtain ⟨M, hM⟩ : ∃ M, n - k = M := ⟨_, rfl⟩
    have hMl : (es.drop k).length = M := by rw [List.length_drop, HEL.out, hM]
    have hMi : (n : Int) - (k : Int) = (M : Int) := by omega
    obtain ⟨a2, c2, rfl⟩ := o2.val enT_ok hMl
    have HE2 := Lib.hid (o2.row enT_ok en_rel (fromJ_new _)).erow.2
    have HB2 := Lib.hid (HB1.out.trans (o2.below.mono HB1.out.size))
    have HSR2 := Lib.hid (HSR.out.later o2.below)
    have hcap2 := HE2.out.1
    rw [hMl] at hcap2
    have hcm2 := HE2.out.2.1
    unfold maxLen at hcm2
    have hq : ((M : Int) != (M : Int)) = false := by simp
    clear o2 hMl
    go_wp2_with fail
    go_loopw [12] (fun i wr => ∃ (j : Nat), i = .int .i64 j ∧ j ≤ M ∧ Below w2.heap.size w2 wr) (fun i _ => M - (intOf i).toNat)
    case atStart => exact ⟨0, rfl, by omega, Below.refl _ _⟩
    case round =>
      obtain ⟨j, rfl, hj, hb⟩ := hrel
      have HBR := Lib.hid hb
      clear hb
      by_cases hjM : (j : Int) < M
      · have hjM2 : decide ((j : Int) < M) = true := decide_eq_true hjM
        obtain ⟨p, hp⟩ : ∃ l, ps[k + j]? = some l := ⟨ps[k + j]'(by have := HN.out; omega), List.getElem?_eq_getElem _⟩
        have he : (es.drop k)[j]? = some ⟨3, ((F + (k + j) : Nat) : Int), normP p⟩ := by rw [List.getElem?_drop]; exact HES.out _ _ hp
        have hFk : ((F + (k + j) : Nat) : Int) = (F : Int) + (k : Int) + (j : Int) := by omega
        rw [hFk] at he
        obtain ⟨b1, o1, a1, c1, rfl, p0, R1⟩ := (HR.out.later (HB2.out.trans (HBR.out.mono HB2.out.size))).at hp
        obtain ⟨b2, o2, a3, c3, rfl, q0, q1, q2, R3⟩ := (HE2.out.later HBR.out).at he
        simp only at q0 q1 q2 R3
        obtain ⟨Q, hQ⟩ : ∃ Q, k + j = Q := ⟨_, rfl⟩
        have hQi : (k : Int) + (j : Int) = (Q : Int) := by omega
        have hQn : Q < n := by omega
        rw [hQ] at p0
        have hnl := normP_len p
        have hll := HSB.out.2 p (List.mem_of_getElem? hp)
        obtain ⟨m, hm⟩ : ∃ m, p.length = m := ⟨_, rfl⟩
        rw [hm] at p0 hll
        have HNR : Hid ((m = 0 → normP p = [0]) ∧ (m ≠ 0 → normP p = p.take (min m 40))) := Lib.hid ⟨fun h => by rw [List.length_eq_zero_iff.1 (hm.trans h)]; exact normP_nil, fun h => by rw [normP_some (by omega), hm]⟩
        have HM := Lib.hid hm
        have HR1 := Lib.hid R1
        have HR3 := Lib.hid R3
        have HC1 := fun nq => conv_row (R3.later (below_drewN wr nq))
        obtain ⟨L, hL⟩ : ∃ L, (normP p).length = L := ⟨_, rfl⟩
        rw [hL] at q2 HC1
        have HL := Lib.hid hL
        have hqq : ((F : Int) + (k : Int) + (j : Int) != (F : Int) + (k : Int) + (j : Int)) = false := by simp
        clear hp hm R1 hnl he hFk hQ R3 hL
        by_cases hm0 : m = 0
        · have HNP := Lib.hid (HNR.out.1 hm0)
          subst hm0
          have hba := (Below.refl wr.heap.size wr).alloc (Nat.le_refl _) (.cells #[.int .u8 0] 5)
          have HBA := Lib.hid (HBR.out.trans (hba.mono HBR.out.size))
          have HTK : Hid (Row (wr.alloc (.cells #[.int .u8 0] 5)) (some ⟨wr.heap.size, 0, none⟩) 1 (normP p)) := Lib.hid (by rw [HNP.out]; exact row_new wr [0] (by decide))
          have HTL : Hid ((normP p).length = 1) := Lib.hid (by rw [HNP.out]; rfl)
          have HSL : ∀ W, (Instr.slice 34 (.slice (some ⟨wr.heap.size, 0, none⟩) 1 1) none (some (.int .i64 1)) none).run Try.prog W = .ok (.slice (some ⟨wr.heap.size, 0, none⟩) 1 1) W := fun W => run_slB (W := W) (hi := 1) HTK.out HTL.out (Nat.le_refl 1)
          have HC2 := fun nq => conv_row_n (HTK.out.later (below_drewN (wr.alloc (.cells #[.int .u8 0] 5)) nq)) HTL.out
          have HCA := fun nq => conv_row_n (HR3.out.later (hba.trans ((below_drewN (wr.alloc (.cells #[.int .u8 0] 5)) nq).mono hba.size))) HL.out
          have hq0 : (wr.alloc (.cells #[.int .u8 0] 5)).cell? _ = _ := (hba.cell (World.block_lt_of_cell? _ _ q0)).trans q0
          have hq1 : (wr.alloc (.cells #[.int .u8 0] 5)).cell? _ = _ := (hba.cell (World.block_lt_of_cell? _ _ q1)).trans q1
          have hq2 : (wr.alloc (.cells #[.int .u8 0] 5)).cell? _ = _ := (hba.cell (World.block_lt_of_cell? _ _ q2)).trans q2
          generalize (⟨(normP p).toArray⟩ : ByteArray) = S at *
          clear q0 q1 q2 HTK HNP HNR hba HC1
          go_upto_region 15 with fail
          generalize (wr.alloc (.cells #[.int .u8 0] 5)) = wA at *
          generalize wr.heap.size = X at *
          go_quiet (fail)
          clear HC2 HCA
          go_wp2_with fail
          go_roundw
          case rel => exact ⟨j + 1, by go_num, by omega, HBA.out.trans ((below_drewN _ _).mono HBA.out.size)⟩
          case measure => simp [intOf]; omega
        · have hmq : ((m : Int) == 0) = false := by simp; omega
          have HNP := Lib.hid (HNR.out.2 hm0)
          by_cases hm40 : m ≤ 40
          · have hk : min m 40 = m := by omega
            rw [hk] at HNP
            have HLm : Hid (L = m) := Lib.hid (by rw [← HL.out, HNP.out, List.length_take, HM.out]; omega)
            have HSL := fun W => run_slB (W := W) (hi := m) HR1.out HM.out (by omega)
            have HTK := HR1.out.take m
            rw [← HNP.out] at HTK
            have HC2 := fun nq => conv_row_n (HTK.later (below_drewN wr nq)) (HL.out.trans HLm.out)
            have hmn : min (m : Int) 40 = (m : Int) := by omega
            generalize (⟨(normP p).toArray⟩ : ByteArray) = S at *
            clear HTK HNP HNR hk
            go_upto_region 15 with fail
            go_quiet (fail)
            clear HC1 HC2
            go_wp2_with fail
            go_roundw
            case rel => exact ⟨j + 1, by go_num, by omega, HBR.out.trans ((below_drewN _ _).mono HBR.out.size)⟩
            case measure => simp [intOf]; omega
          · have hk : min m 40 = 40 := by omega
            rw [hk] at HNP
            have HLm : Hid (L = 40) := Lib.hid (by rw [← HL.out, HNP.out, List.length_take, HM.out]; omega)
            have HSL : ∀ W, (Instr.slice 34 (.slice a1 m c1) none (some (.int .i64 40)) none).run Try.prog W = .ok (.slice a1 40 c1) W := fun W => run_slB (W := W) (hi := 40) HR1.out HM.out (by omega)
            have HTK := HR1.out.take 40
            rw [← HNP.out] at HTK
            have HC2 := fun nq => conv_row_n (HTK.later (below_drewN wr nq)) (HL.out.trans HLm.out)
            have hmn : min (m : Int) 40 = 40 := by omega
            generalize (⟨(normP p).toArray⟩ : ByteArray) = S at *
            clear HTK HNP HNR hk
            go_upto_region 15 with fail
            go_quiet (fail)
            clear HC1 HC2
            go_wp2_with fail
            go_roundw
            case rel => exact ⟨j + 1, by go_num, by omega, HBR.out.trans ((below_drewN _ _).mono HBR.out.size)⟩
            case measure => simp [intOf]; omega
      · have hjM2 : decide ((j : Int) < M) = false := decide_eq_false hjM
        obtain ⟨w5, hw5⟩ : ∃ W, W = wr := ⟨_, rfl⟩
        subst hw5
        have HB5 := Lib.hid (HB2.out.trans (HBR.out.mono HB2.out.size))
        have HS5 := Lib.hid (HSR2.out.later HBR.out)
        have HTN : Hid (tornS (rowsP sp es) ((F : Int) + (n : Int)) = false) := Lib.hid (torn_rowsB hs1.1 HRU.out.rising HRI.out _ ⟨fun h => (by cases h), fun ⟨e, he, h2⟩ => by
          obtain ⟨i, hi⟩ := List.mem_iff_getElem?.1 he
          have h3 := HRU.out i e hi
          have h4 := (List.getElem?_eq_some_iff.1 hi).1
          have h5 := HEL.out
          omega⟩)
        have HTC := Lib.hid (fun W (hb : Below w5.heap.size w5 W) => torn_any _ sp sp (rowsP sp es) ((F : Int) + (n : Int)) W (HS5.out.later hb) (rowsP_len _ _) HRB.out)
        rw [HTN.out] at HTC
        by_cases hn0 : n = 0
        · have hq0 : ((n : Int) == 0) = true := by simp [hn0]
          clear hn0
          go_wp2_with fail
          refine (HTC.out w5 (Below.refl _ _)).mono ?_
          rintro e w8 ⟨rfl, b8⟩
          have HB8 := Lib.hid (HB5.out.trans (b8.mono HB5.out.size))
          clear b8
          go_wp2_with fail
          refine (known11_any w8).mono ?_
          rintro e w9 ⟨rfl, b9⟩
          have HB9 := Lib.hid (HB8.out.trans (b9.mono HB8.out.size))
          clear b9
          go_wp2_with fail
          go_ret
          exact ⟨rfl, HB9.out⟩
        · have hq0 : ((n : Int) == 0) = false := by simp; omega
          have HFI : Hid (firstS (rowsP sp es) = F) := Lib.hid (HRU.out.first hF1.1 hs1.1 HRI.out (fun e => hn0 (by rw [← HEL.out, e]; rfl)))
          have hFF : ((F : Int) == (F : Int)) = true := by simp
          go_wp2_with fail
          refine (first_any _ sp sp (rowsP sp es) w5 HS5.out (rowsP_len _ _) HRB.out).mono ?_
          rw [HFI.out]
          rintro e w7 ⟨rfl, b7⟩
          have HB7 := Lib.hid (HB5.out.trans (b7.mono HB5.out.size))
          have HT7 := Lib.hid (HTC.out w7 b7)
          clear b7
          go_wp2_with fail
          refine HT7.out.mono ?_
          rintro e w8 ⟨rfl, b8⟩
          have HB8 := Lib.hid (HB7.out.trans (b8.mono HB7.out.size))
          clear b8
          go_wp2_with fail
          refine (known11_any w8).mono ?_
          rintro e w9 ⟨rfl, b9⟩
          have HB9 := Lib.hid (HB8.out.trans (b9.mono HB8.out.size))
          clear b9
          go_wp2_with fail
          go_ret
          exact ⟨rfl, HB9.out⟩
end Go.Proofs.Ytabeleihpnnadaa
