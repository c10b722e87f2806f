/- The law 'MsgBack', walked. -/
import Derived.Test.YtiahifpbofkimaaMsS
import Derived.Test.YtiahifpbofkimaaGU
import Derived.Test.YtiahifpbofkimaaMsZ
import Derived.Test.YtiahifpbofkimaaGP
import Derived.Test.YtiahifpbofkimaaGD
import Derived.Lib.MinMax
namespace Go.Proofs.Ytiahifpbofkimaa
open Go.RowKit Go.Proofs
set_option linter.unusedVariables false
set_option linter.unusedSimpArgs false
set_option linter.unnecessarySimpa false

set_option maxRecDepth 100000 in
set_option maxHeartbeats 6400000 in
theorem msgBack_known (kd : Int) (ad : Option Addr) (n c : Nat) (ap : Option Addr) (np cp : Nat) (at' : Int) (x : Int) (w : World) (hb : 40 < n ∨ 200 < np ∨ at' < 0) :
    Calls Try.prog 5 #[.int .i64 kd, .slice ad n c, .slice ap np cp, .int .i64 at', .int .u8 x] w fun x w' => x = .returned (.bool true) ∧ Below w.heap.size w w' := by
  rcases (show 40 < (n : Int) ∨ (decide (40 < (n : Int)) = false ∧ 200 < (np : Int)) ∨ (decide (40 < (n : Int)) = false ∧ decide (200 < (np : Int)) = false ∧ at' < 0) by simp only [decide_eq_false_iff_not]; omega) with h | ⟨h1, h⟩ | ⟨h1, h2, h⟩
  all_goals
    clear hb
    go_enter Try.func5, Try.ntmps5
    go_wp2_with fail
    refine (knownMs_any _).mono ?_
    rintro y w2 ⟨rfl, hb2⟩
    go_wp2_with fail
    go_ret
    exact ⟨rfl, hb2⟩
set_option maxRecDepth 100000 in
set_option maxHeartbeats 25600000 in
theorem msgBack_main (kd : Int) (ad : Option Addr) (n c : Nat) (zs : List Int) (ap : Option Addr) (np cp : Nat) (pl : List UInt8) (A : Nat) (x : UInt8) (w : World) (hr : ZRow w ad c zs) (hn : zs.length = n) (hn2 : n ≤ 40) (hp : Row w ap cp pl) (hpl : pl.length = np) (hp2 : np ≤ 200) (hA : (A : Int) ≤ 9223372036854775807) :
    Calls Try.prog 5 #[.int .i64 kd, .slice ad n c, .slice ap np cp, .int .i64 (A : Nat), .int .u8 (x.toNat : Int)] w fun x w' => x = .returned (.bool true) ∧ Below w.heap.size w w' := by
  have hd0 : decide (40 < (n : Int)) = false := by simp; omega
  have hd1 : decide (200 < (np : Int)) = false := by simp; omega
  have hd2 : decide (((A : Nat) : Int) < 0) = false := by simp
  have HMK := Lib.hid (makeMs_any kd ad n c zs ap np cp pl w hr hn (by omega) hp hpl)
  have hx8 := x.toNat_lt
  clear hr hn hp hpl
  go_enter Try.func5, Try.ntmps5
  go_wp2_with fail
  refine HMK.out.mono ?_
  rintro e w1 ⟨M, q1, rfl, hok, hr1, hb1⟩
  have HOK := Lib.hid hok
  have HL := Lib.hid (bodyMs_len hok)
  have HRT := Lib.hid (rightMs_iff.2 hok)
  have hba : Below w1.heap.size w1 (w1.alloc (.cells (msC M q1) 27)) := (Below.refl _ _).alloc (Nat.le_refl _) _
  have HX2 := Lib.hid (RecAt.new w1 (msC M q1) 27)
  have HB2 := Lib.hid (hb1.trans (hba.mono hb1.size))
  have HR2 := Lib.hid (hr1.later hba)
  clear hok hr1 hb1 hba HMK hd0 hd1 hd2
  go_upto_region 4 with fail
  generalize (w1.alloc (.cells (msC M q1) 27)) = w2 at *
  obtain ⟨P11, hP11⟩ : ∃ P, w1.heap.size = P := ⟨_, rfl⟩
  rw [hP11] at HX2
  rw [hP11]
  clear hP11
  obtain ⟨y0, y1, y2, y3, y4, y5, y6, y7, y8, y9⟩ := HX2.out.c10
  have HPU := Lib.hid (msput_any M q1 w2 HR2.out)
  unfold PutP at HPU
  rw [putMs_yes HRT.out] at HPU
  go_wp2_with fail
  refine HPU.out.mono ?_
  rintro e w3 ⟨v3, rfl, o3⟩
  have o3 : Own w2 w3 v3 (sealL (bodyMs M)) := o3
  obtain ⟨k2, hk2⟩ : ∃ k, (sealL (bodyMs M)).length = k := ⟨_, rfl⟩
  have hk2b : 10 ≤ k2 ∧ k2 ≤ 894 := by rw [← hk2, sealL_len]; have := HL.out; omega
  obtain ⟨b2, d2, rfl, r2⟩ := o3.row_n hk2
  have HK2 := Lib.hid hk2
  have HB3 := Lib.hid (HB2.out.trans (o3.below.mono HB2.out.size))
  have HX3 := Lib.hid (HX2.out.later o3.below)
  have HR3 := Lib.hid (HR2.out.later o3.below)
  have HQ3 := Lib.hid r2
  clear o3 r2 hk2 HPU y0 y1 y2 y3 y4 y5 y6 y7 y8 y9 HX2 HR2
  have HG0 := Lib.hid (getMs_some (open_seal _) HOK.out rfl)
  have HBY := Lib.hid (fun (k : Nat) (u : UInt8) (h : (sealL (bodyMs M))[k]? = some u) => byte_openM x h)
  obtain ⟨X, hX⟩ : ∃ X, sealL (bodyMs M) = X := ⟨_, rfl⟩
  rw [hX] at HK2 HQ3 HG0 HBY
  clear hX
  have HGE := Lib.hid (msget_any b2 k2 d2 X w3 HQ3.out HK2.out (by omega))
  unfold MsGot at HGE
  rw [HG0.out] at HGE
  go_wp2_with fail
  refine HGE.out.mono ?_
  rintro e w4 ⟨q4, rfl, r4, b4⟩
  have hba : Below w4.heap.size w4 (w4.alloc (.cells (msC M q4) 27)) := (Below.refl _ _).alloc (Nat.le_refl _) _
  have HY5 := Lib.hid (RecAt.new w4 (msC M q4) 27)
  have hb5 := b4.trans (hba.mono b4.size)
  have HB5 := Lib.hid (HB3.out.trans (hb5.mono HB3.out.size))
  have HX5 := Lib.hid (HX3.out.later hb5)
  have HR5 := Lib.hid (HR3.out.later hb5)
  have HQ5 := Lib.hid (HQ3.out.later hb5)
  have HS5 := Lib.hid (r4.later hba)
  clear hba hb5 r4 b4 HX3 HR3 HQ3 HGE
  go_upto_region 6 with fail
  generalize (w4.alloc (.cells (msC M q4) 27)) = w5 at *
  obtain ⟨P14, hP14⟩ : ∃ P, w4.heap.size = P := ⟨_, rfl⟩
  rw [hP14] at HY5
  rw [hP14]
  clear hP14
  obtain ⟨y0, y1, y2, y3, y4, y5, y6, y7, y8, y9⟩ := HX5.out.c10
  obtain ⟨z0, z1, z2, z3, z4, z5, z6, z7, z8, z9⟩ := HY5.out.c10
  have HSM := Lib.hid (msrsame_any M M q1 q4 w5 HR5.out HS5.out)
  rw [decide_eq_true (rfl : M = M)] at HSM
  have hd5 : decide (((k2 : Nat) : Int) < 10) = false := by simp; omega
  have hd6 : decide (4096 < ((k2 : Nat) : Int)) = false := by simp; omega
  have hk20 : 0 < ((k2 : Nat) : Int) := by omega
  go_upto_region 8 with (go_at_call 14; refine HSM.out.mono ?_; rintro e w6 ⟨rfl, hb6⟩)
  have HB6 := Lib.hid (HB5.out.trans (hb6.mono HB5.out.size))
  have HQ6 := Lib.hid (HQ5.out.later hb6)
  clear hb6 y0 y1 y2 y3 y4 y5 y6 y7 y8 y9 z0 z1 z2 z3 z4 z5 z6 z7 z8 z9 HX5 HY5 HR5 HS5 HQ5 hd5 hd6 HSM
  have HE0 := Lib.hid (own_empty (W0 := w6) (w := w6) (Below.refl _ _))
  have hba : Below w6.heap.size w6 (w6.alloc (.cells #[] 5)) := (Below.refl _ _).alloc (Nat.le_refl _) _
  have HQ7 := Lib.hid (HQ6.out.later hba)
  clear hba
  go_upto_region 9 with (at_builtin; refine wp_row rfl (.tmp 68) (.tmp 69) rfl _ [] rfl w6 HE0.out b2 d2 k2 X HQ7.out HK2.out rfl (by have := HK2.out; simp; omega) ?_; intro v8 w8 o8)
  rw [List.nil_append] at o8
  obtain ⟨g, c8, rfl, hc8, hd8⟩ := o8.at HK2.out (by omega)
  obtain ⟨K, hK, hKk⟩ : ∃ K : Nat, (A : Int) % ((k2 : Nat) : Int) = K ∧ K < k2 := by
    have h1 := Int.emod_nonneg (A : Int) (show ((k2 : Nat) : Int) ≠ 0 by omega)
    have h2 := Int.emod_lt_of_pos (A : Int) (show 0 < ((k2 : Nat) : Int) by omega)
    exact ⟨((A : Int) % ((k2 : Nat) : Int)).toNat, by omega, by omega⟩
  obtain ⟨u, hu⟩ : ∃ u, X[K]? = some u := ⟨X[K]'(by have := HK2.out; omega), List.getElem?_eq_getElem _⟩
  have HOP := Lib.hid (HBY.out K u hu)
  have fc := o8.cellAt HK2.out hu
  have fr := o8.frozenAt HK2.out K
  have oS := o8.stored HK2.out K (u ^^^ x)
  have hu8 := u.toNat_lt
  have hux := u8_xor u x
  unfold B8 at fc oS
  rw [UInt8.toNat_xor] at oS
  have HB8 := Lib.hid (HB6.out.trans (oS.below.mono HB6.out.size))
  have HOS := Lib.hid oS
  have HXL : Hid ((X.set K (u ^^^ x)).length = k2) := Lib.hid (by rw [List.length_set, HK2.out])
  clear o8 oS hu HBY
  go_upto_region 10 with fail
  generalize (w8.setCell ⟨g, K, none⟩ (.int .u8 ((u.toNat ^^^ x.toNat : Nat) : Int))) = w9 at *
  clear fc fr hux hK
  obtain ⟨_, _, e9, r9⟩ := HOS.out.row_n HXL.out
  cases e9
  have HRW := Lib.hid r9
  clear r9 HOS
  obtain ⟨D, cd, hD, hcd⟩ : ∃ (D : Ms) (cd : Int), getMs (X.set K (u ^^^ x)) = (D, cd) ∧ ((x = 0 ∧ cd = 0) ∨ (x ≠ 0 ∧ cd = 13 ∧ D = noMs)) := by
    have h1 := HOP.out
    by_cases hx : x = 0
    · rw [if_pos hx] at h1
      exact ⟨M, 0, getMs_some h1 HOK.out rfl, .inl ⟨hx, rfl⟩⟩
    · rw [if_neg hx] at h1
      exact ⟨noMs, 13, getMs_sum h1, .inr ⟨hx, rfl, rfl⟩⟩
  have HD := Lib.hid hD
  have HCD := Lib.hid hcd
  clear hD hcd HOP
  have HGE := Lib.hid (msget_any (some ⟨g, 0, none⟩) k2 c8 _ w9 HRW.out HXL.out (by omega))
  unfold MsGot at HGE
  rw [HD.out] at HGE
  go_wp2_with fail
  refine HGE.out.mono ?_
  rintro e w10 ⟨q10, rfl, r10, b10⟩
  have hba : Below w10.heap.size w10 (w10.alloc (.cells (msC D q10) 27)) := (Below.refl _ _).alloc (Nat.le_refl _) _
  have HZ11 := Lib.hid (RecAt.new w10 (msC D q10) 27)
  have hb11 := b10.trans (hba.mono b10.size)
  have HB11 := Lib.hid (HB8.out.trans (hb11.mono HB8.out.size))
  clear hba hb11 r10 b10 HGE
  go_upto_region 11 with fail
  generalize (w10.alloc (.cells (msC D q10) 27)) = w11 at *
  obtain ⟨P17, hP17⟩ : ∃ P, w10.heap.size = P := ⟨_, rfl⟩
  rw [hP17] at HZ11
  rw [hP17]
  clear hP17
  rcases HCD.out with ⟨hx, rfl⟩ | ⟨hx, rfl, rfl⟩
  · have hx0 : ((x.toNat : Int) == 0) = true := by rw [hx]; rfl
    obtain ⟨y0, y1, y2, y3, y4, y5, y6, y7, y8, y9⟩ := HZ11.out.c10
    go_wp2_with (go_at_call 8; refine (knownMs_any _).mono ?_; rintro y w14 ⟨rfl, hb14⟩)
    go_ret
    exact ⟨rfl, HB11.out.trans (hb14.mono HB11.out.size)⟩
  · have hx0 : ((x.toNat : Int) == 0) = false := by
      simp only [beq_eq_false_iff_ne]
      intro e
      exact hx (by rw [← UInt8.toNat_inj]; show x.toNat = 0; omega)
    obtain ⟨y0, y1, y2, y3, y4, y5, y6, y7, y8, y9⟩ := HZ11.out.c10
    simp only [noMs] at y0
    go_wp2_with (go_at_call 8; refine (knownMs_any _).mono ?_; rintro y w14 ⟨rfl, hb14⟩)
    go_ret
    exact ⟨rfl, HB11.out.trans (hb14.mono HB11.out.size)⟩
theorem msgBack_walk (kd : Int) (ad : Option Addr) (n c : Nat) (zs : List Int) (ap : Option Addr) (np cp : Nat) (pl : List UInt8) (at' x : Int) (w : World) (hr : ZRow w ad c zs) (hn : zs.length = n) (hp : Row w ap cp pl) (hpl : pl.length = np) (hw : (Lit.int .i64 at').wf = true) (hw2 : (Lit.int .u8 x).wf = true) :
    Calls Try.prog 5 #[.int .i64 kd, .slice ad n c, .slice ap np cp, .int .i64 at', .int .u8 x] w fun x w' => x = .returned (.bool true) ∧ Below w.heap.size w w' := by
  obtain ⟨u, rfl⟩ := wf_u8c hw2
  have hb := wf_i64 hw
  by_cases hc : 40 < n ∨ 200 < np ∨ at' < 0
  · exact msgBack_known kd ad n c ap np cp at' _ w hc
  · obtain ⟨A, rfl⟩ : ∃ A : Nat, at' = A := ⟨at'.toNat, by omega⟩
    exact msgBack_main kd ad n c zs ap np cp pl A u w hr hn (by omega) hp hpl (by omega) (by omega)
end Go.Proofs.Ytiahifpbofkimaa
