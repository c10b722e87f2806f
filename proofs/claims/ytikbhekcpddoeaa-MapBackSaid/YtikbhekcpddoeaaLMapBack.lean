/- The law 'MapBack', walked. -/
import Derived.Test.YtikbhekcpddoeaaOmK
import Derived.Test.YtikbhekcpddoeaaOmLaw
import Derived.Test.YtikbhekcpddoeaaSlB
namespace Go.Proofs.Ytikbhekcpddoeaa
open Go.RowKit Go.Proofs
set_option linter.unusedVariables false
set_option linter.unusedSimpArgs false
set_option linter.unnecessarySimpa false

theorem getOE_yes {b : List UInt8} {n : Nat} (hn : n ≤ 512) (h : FormO b n) : getOE b (n : Int) = 0 ∧ getOL b (n : Int) = readO b n := by
  unfold getOE getOL
  rw [if_pos ⟨by omega, by omega⟩, Int.toNat_natCast, if_pos h, if_pos ⟨by omega, by omega, h⟩]
  exact ⟨rfl, rfl⟩
theorem getOE_no {b : List UInt8} {n : Nat} (hn : n ≤ 512) (h : ¬ FormO b n) : getOE b (n : Int) = 2 ∧ getOL b (n : Int) = [] := by
  unfold getOE getOL
  rw [if_pos ⟨by omega, by omega⟩, Int.toNat_natCast, if_neg h, if_neg (fun c => h c.2.2)]
  exact ⟨rfl, rfl⟩
theorem form_no {b : List UInt8} {n : Nat} (h : b.length ≠ (n + 3) / 4) : ¬ FormO b n := fun c => h c.1

set_option maxRecDepth 100000 in
set_option maxHeartbeats 25600000 in
theorem mapBack_walk (a : Option Addr) (n cap : Nat) (l : List Int) (x : Int) (z : Int) (w : World) (hr : GRow inT w a cap l) (hn : l.length = n) (wu : (Lit.int .u8 x).wf = true) :
    Calls Try.prog 3 #[.slice a n cap, .int .u8 x, .int .i64 z] w fun x w' => x = .returned (.bool true) ∧ Below w.heap.size w w' := by
  obtain ⟨u, rfl⟩ := wf_u8c wu
  clear wu
  have HR := Lib.hid hr
  have HN := Lib.hid hn
  have hcap := hr.1
  have hcm := hr.2.1
  unfold maxLen at hcm
  rw [hn] at hcap
  clear hr hn
  obtain ⟨I0, hI0⟩ : ∃ y, bits .and .i64 z 255 = y := ⟨_, rfl⟩
  have hIr : 0 ≤ I0 ∧ I0 ≤ 255 := by rw [← hI0]; exact and_range z 255 (by decide)
  obtain ⟨K, hI⟩ : ∃ F : Nat, I0 = (F : Int) := ⟨I0.toNat, by omega⟩
  have hK5 : K ≤ 255 := by omega
  rw [hI] at hI0
  clear hIr hI I0
  go_enter Try.func3, Try.ntmps3
  by_cases hbig : (n : Int) > 300
  · go_wp2_with fail
    refine (known13_any w).mono ?_
    rintro e w2 ⟨rfl, hb⟩
    have HB := Lib.hid hb
    clear hb
    go_wp2_with fail
    go_ret
    exact ⟨rfl, HB.out⟩
  · have hn3 : n ≤ 300 := by omega
    obtain ⟨A, hA⟩ : ∃ y, statesO l = y := ⟨_, rfl⟩
    have HLA : Hid (A.length = n) := Lib.hid (by rw [← hA, statesO_len, HN.out])
    have HOK : Hid (MapOk A) := Lib.hid (by rw [← hA]; exact statesO_ok (by rw [HN.out]; omega))
    go_wp2_with fail
    refine (states13_any a n cap l w HR.out HN.out (by omega)).mono ?_
    rw [hA]
    rintro e w1 ⟨v1, rfl, o1⟩
    obtain ⟨aA, cA, rfl, r1⟩ := o1.row_n inOk HLA.out
    have HB1 := Lib.hid o1.below
    have HA1 := Lib.hid r1
    clear o1 r1 hA
    have HF0 : Hid (FormO (putO A) n) := Lib.hid (by have := FormO.put HOK.out; rw [HLA.out] at this; exact this)
    have HRD : Hid (readO (putO A) n = A) := Lib.hid (by have := readO_put HOK.out; rw [HLA.out] at this; exact this)
    have hRO := rightO_iff.2 HOK.out
    have hk2 : (putO A).length = (n + 3) / 4 := by rw [putO_len, HLA.out]
    obtain ⟨X, hX⟩ : ∃ X, putO A = X := ⟨_, rfl⟩
    rw [hX] at HF0 HRD hk2
    obtain ⟨k2, hkk⟩ : ∃ k, (n + 3) / 4 = k := ⟨_, rfl⟩
    rw [hkk] at hk2
    have HK2 := Lib.hid hk2
    have HKI : Hid (((n : Int) + 3).tdiv 4 = (k2 : Int)) := Lib.hid (by rw [Int.tdiv_eq_ediv_of_nonneg (by omega)]; omega)
    have HKI2 : Hid (((n : Int) + 3) / 4 = (k2 : Int)) := Lib.hid (by omega)
    have hk76 : k2 ≤ 76 := by omega
    have HGX := Lib.hid (getOE_yes (by omega) HF0.out)
    have HGM := Lib.hid (getOE_no (b := X ++ [u]) (n := n) (by omega) (form_no (by rw [List.length_append, HK2.out, hkk]; simp)))
    have HGT : Hid (0 < k2 → getOE (X.take (k2 - 1)) (n : Int) = 2 ∧ getOL (X.take (k2 - 1)) (n : Int) = []) := Lib.hid fun h => getOE_no (by omega) (form_no (by rw [List.length_take, HK2.out, hkk]; omega))
    clear hk2 hkk
    go_wp2_with fail
    refine (oput_any aA n cA A w1 HA1.out HLA.out (by omega)).mono ?_
    rw [if_pos hRO, if_pos hRO, hX]
    rintro e w2 ⟨v2, rfl, o2⟩
    obtain ⟨aX, cX, rfl, r2⟩ := o2.row_n HK2.out
    have HB2 := Lib.hid (HB1.out.trans (o2.below.mono HB1.out.size))
    have HA2 := Lib.hid (HA1.out.later o2.below)
    have HX2 := Lib.hid r2
    clear o2 r2
    go_wp2_with fail
    refine (oget_any aX k2 cX X n (by unfold inB; omega) w2 HX2.out HK2.out (by omega)).mono ?_
    rw [HGX.out.1, HGX.out.2, HRD.out]
    rintro e w3 ⟨v3, rfl, o3⟩
    obtain ⟨aP, cP, rfl, r3⟩ := o3.row_n inOk HLA.out
    have HB3 := Lib.hid (HB2.out.trans (o3.below.mono HB2.out.size))
    have HA3 := Lib.hid (HA2.out.later o3.below)
    have HX3 := Lib.hid (HX2.out.later o3.below)
    have HP3 := Lib.hid r3
    clear o3 r3
    go_wp2_with fail
    refine (zsame_any aA aP n n cA cP A A w3 HA3.out.zrow HP3.out.zrow HLA.out HLA.out).mono ?_
    rw [decide_eq_true rfl]
    rintro e w4 ⟨rfl, b4⟩
    have HB4 := Lib.hid (HB3.out.trans (b4.mono HB3.out.size))
    have HA4 := Lib.hid (HA3.out.later b4)
    have HX4 := Lib.hid (HX3.out.later b4)
    clear b4
    have hki := HKI.out
    have hki2 := HKI2.out
    have hkn : ((k2 : Int) != (k2 : Int)) = false := by simp
    have HE0 := Lib.hid (own_empty (W0 := w4) (w := w4) (Below.refl _ _))
    have hba : Below w4.heap.size w4 (w4.alloc (.cells #[] 5)) := (Below.refl _ _).alloc (Nat.le_refl _) _
    have HX5 := Lib.hid (HX4.out.later hba)
    clear hba
    go_wp2_with (first | (at_builtin; refine wp_row rfl (.tmp 61) (.tmp 62) rfl _ [] rfl w4 HE0.out aX cX k2 X HX5.out HK2.out rfl (by have := HK2.out; simp; omega) ?_; intro v6 w6 o6) | (at_builtin; refine wp_byte rfl (.tmp 63) (.tmp 65) rfl _ _ rfl w4 o6 _ u rfl rfl (by have := HK2.out; simp; omega) ?_; intro v7 w7 o7))
    rw [List.nil_append] at o7
    have HM7 : Hid ((X ++ [u]).length = k2 + 1) := Lib.hid (by rw [List.length_append, HK2.out]; rfl)
    obtain ⟨k4, hk4⟩ : ∃ k4, k2 + 1 = k4 := ⟨_, rfl⟩
    rw [hk4] at HM7
    have hk4' : k4 ≤ 77 := by omega
    obtain ⟨a7, c7, rfl, r7⟩ := o7.row_n HM7.out
    have HB7 := Lib.hid (HB4.out.trans (o7.below.mono HB4.out.size))
    have HA7 := Lib.hid (HA4.out.later o7.below)
    have HX7 := Lib.hid (HX4.out.later o7.below)
    have HM8 := Lib.hid r7
    clear o7 r7 o6 hk4 hki hki2 hkn HX5 HE0
    refine (oget_any a7 k4 c7 (X ++ [u]) n (by unfold inB; omega) w7 HM8.out HM7.out (by omega)).mono ?_
    rw [HGM.out.1, HGM.out.2]
    rintro e w8 ⟨v8, rfl, o8⟩
    have HB8 := Lib.hid (HB7.out.trans (o8.below.mono HB7.out.size))
    have HA8 := Lib.hid (HA7.out.later o8.below)
    have HX8 := Lib.hid (HX7.out.later o8.below)
    clear o8
    rcases Classical.em (FormO X K) with hF | hF
    · have hg := getOE_yes (by omega) hF
      have HG1 := Lib.hid hg.1
      have HG2 := Lib.hid hg.2
      have HRR := Lib.hid (rightO_iff.2 (readO_ok hF (by omega)))
      have HPR := Lib.hid (putO_read hF)
      have HRL := Lib.hid (readO_len X K)
      clear hg hF
      go_wp2_with fail
      refine (oget_any aX k2 cX X K (by unfold inB; omega) w8 HX8.out HK2.out (by omega)).mono ?_
      rw [HG1.out, HG2.out]
      rintro e w9 ⟨v9, rfl, o9⟩
      obtain ⟨aY, cY, rfl, r9⟩ := o9.row_n inOk HRL.out
      have HA9 := Lib.hid (HA8.out.later o9.below)
      have HX9 := Lib.hid (HX8.out.later o9.below)
      have HB9 := Lib.hid (HB8.out.trans ((o9.below).mono HB8.out.size))
      have HY9 := Lib.hid r9
      clear o9 r9
      go_wp2_with fail
      refine (oput_any aY K cY _ w9 HY9.out HRL.out (by omega)).mono ?_
      rw [if_pos HRR.out, if_pos HRR.out, HPR.out]
      rintro e w10 ⟨v10, rfl, o10⟩
      obtain ⟨aC, cC, rfl, r10⟩ := o10.row_n HK2.out
      have HA10 := Lib.hid (HA9.out.later o10.below)
      have HX10 := Lib.hid (HX9.out.later o10.below)
      have HB10 := Lib.hid (HB9.out.trans ((o10.below).mono HB9.out.size))
      have q1 := conv_row_n r10 HK2.out
      have q2 := conv_row_n HX10.out HK2.out
      have hkk : ((K : Int) != (K : Int)) = false := by simp
      have hss : ((⟨X.toArray⟩ : ByteArray).toList == (⟨X.toArray⟩ : ByteArray).toList) = true := by simp
      have hss2 : ((⟨X.toArray⟩ : ByteArray).toList != (⟨X.toArray⟩ : ByteArray).toList) = false := by simp
      generalize (⟨X.toArray⟩ : ByteArray) = S1 at *
      clear o10 r10
      by_cases hk0 : (k2 : Int) > 0
      · have HGT2 := Lib.hid (HGT.out (by omega))
        obtain ⟨k3, hk3⟩ : ∃ k3, k2 - 1 = k3 := ⟨_, rfl⟩
        have hsub : IntKind.i64.wrap ((k2 : Nat) - 1 : Int) = (k3 : Nat) := by rw [IntKind.wrap_i64]; omega
        have hsub2 : ((k2 : Nat) - 1 : Int) = (k3 : Nat) := by omega
        rw [hk3] at HGT2
        have HS := fun W => run_slB (W := W) (hi := k3) HX10.out HK2.out (by omega)
        have HT10 := Lib.hid (HX10.out.take k3)
        have HTL : Hid ((X.take k3).length = k3) := Lib.hid (by rw [List.length_take, HK2.out]; omega)
        have hk3' : k3 ≤ 76 := by omega
        clear hk3
        go_wp2_with fail
        refine (oget_any aX k3 cX (X.take k3) n (by unfold inB; omega) w10 HT10.out HTL.out (by omega)).mono ?_
        rw [HGT2.out.1, HGT2.out.2]
        rintro e w11 ⟨v11, rfl, o11⟩
        have HB11 := Lib.hid (HB10.out.trans (o11.below.mono HB10.out.size))
        clear o11 hsub hsub2 HS
        go_wp2_with fail
        refine (known13_any w11).mono ?_
        rintro e w12 ⟨rfl, b12⟩
        have HB12 := Lib.hid (HB11.out.trans (b12.mono HB11.out.size))
        clear b12
        go_wp2_with fail
        go_ret
        exact ⟨rfl, HB12.out⟩
      · go_wp2_with fail
        refine (known13_any w10).mono ?_
        rintro e w12 ⟨rfl, b12⟩
        have HB12 := Lib.hid (HB10.out.trans (b12.mono HB10.out.size))
        clear b12
        go_wp2_with fail
        go_ret
        exact ⟨rfl, HB12.out⟩
    · have hg := getOE_no (by omega) hF
      have HG1 := Lib.hid hg.1
      have HG2 := Lib.hid hg.2
      clear hg hF
      go_wp2_with fail
      refine (oget_any aX k2 cX X K (by unfold inB; omega) w8 HX8.out HK2.out (by omega)).mono ?_
      rw [HG1.out, HG2.out]
      rintro e w10 ⟨v9, rfl, o9⟩
      have HA10 := Lib.hid (HA8.out.later o9.below)
      have HX10 := Lib.hid (HX8.out.later o9.below)
      have HB10 := Lib.hid (HB8.out.trans ((o9.below).mono HB8.out.size))
      clear o9
      by_cases hk0 : (k2 : Int) > 0
      · have HGT2 := Lib.hid (HGT.out (by omega))
        obtain ⟨k3, hk3⟩ : ∃ k3, k2 - 1 = k3 := ⟨_, rfl⟩
        have hsub : IntKind.i64.wrap ((k2 : Nat) - 1 : Int) = (k3 : Nat) := by rw [IntKind.wrap_i64]; omega
        have hsub2 : ((k2 : Nat) - 1 : Int) = (k3 : Nat) := by omega
        rw [hk3] at HGT2
        have HS := fun W => run_slB (W := W) (hi := k3) HX10.out HK2.out (by omega)
        have HT10 := Lib.hid (HX10.out.take k3)
        have HTL : Hid ((X.take k3).length = k3) := Lib.hid (by rw [List.length_take, HK2.out]; omega)
        have hk3' : k3 ≤ 76 := by omega
        clear hk3
        go_wp2_with fail
        refine (oget_any aX k3 cX (X.take k3) n (by unfold inB; omega) w10 HT10.out HTL.out (by omega)).mono ?_
        rw [HGT2.out.1, HGT2.out.2]
        rintro e w11 ⟨v11, rfl, o11⟩
        have HB11 := Lib.hid (HB10.out.trans (o11.below.mono HB10.out.size))
        clear o11 hsub hsub2 HS
        go_wp2_with fail
        refine (known13_any w11).mono ?_
        rintro e w12 ⟨rfl, b12⟩
        have HB12 := Lib.hid (HB11.out.trans (b12.mono HB11.out.size))
        clear b12
        go_wp2_with fail
        go_ret
        exact ⟨rfl, HB12.out⟩
      · go_wp2_with fail
        refine (known13_any w10).mono ?_
        rintro e w12 ⟨rfl, b12⟩
        have HB12 := Lib.hid (HB10.out.trans (b12.mono HB10.out.size))
        clear b12
        go_wp2_with fail
        go_ret
        exact ⟨rfl, HB12.out⟩
end Go.Proofs.Ytikbhekcpddoeaa
