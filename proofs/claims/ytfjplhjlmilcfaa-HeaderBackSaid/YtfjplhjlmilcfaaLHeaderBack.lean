/- The law 'HeaderBack', walked. -/
import Derived.Test.YtfjplhjlmilcfaaHdQ
import Derived.Test.YtfjplhjlmilcfaaHdLaw
import Derived.Test.YtfjplhjlmilcfaaSlB
import Derived.Lib.MinMax
namespace Go.Proofs.Ytfjplhjlmilcfaa
open Go.RowKit Go.Proofs
set_option linter.unusedVariables false
set_option linter.unusedSimpArgs false
set_option linter.unnecessarySimpa false

theorem bodyH_pos (h : Hd) : 1 ≤ (bodyH h).length := by
  unfold bodyH numsH
  have := varL_pos h.size.toNat
  simp only [List.length_append]; omega
set_option maxRecDepth 100000 in
set_option maxHeartbeats 6400000 in
theorem headerBack_known (sz od un ct : Int) (ad : Option Addr) (n c : Nat) (at' : Int) (x : Int) (w : World) (hb : 30 < n ∨ at' < 0) :
    Calls Try.prog 5 #[.int .i64 sz, .int .i64 od, .int .i64 un, .int .i64 ct, .slice ad n c, .int .i64 at', .int .u8 x] w fun x w' => x = .returned (.bool true) ∧ Below w.heap.size w w' := by
  rcases (show 30 < (n : Int) ∨ (decide (30 < (n : Int)) = false ∧ at' < 0) by simp only [decide_eq_false_iff_not]; omega) with h | ⟨h1, h⟩
  all_goals
    clear hb
    go_enter Try.func5, Try.ntmps5
    go_wp2_with fail
    refine (knownH_any _).mono ?_
    rintro y w2 ⟨rfl, hb2⟩
    go_wp2_with fail
    go_ret
    exact ⟨rfl, hb2⟩
set_option maxRecDepth 100000 in
set_option maxHeartbeats 25600000 in
theorem headerBack_main (sz od un ct : Int) (ad : Option Addr) (n c : Nat) (zs : List Int) (A : Nat) (x : UInt8) (w : World) (hr : ZRow w ad c zs) (hn : zs.length = n) (hn2 : n ≤ 30) (hA : (A : Int) ≤ 9223372036854775807) :
    Calls Try.prog 5 #[.int .i64 sz, .int .i64 od, .int .i64 un, .int .i64 ct, .slice ad n c, .int .i64 (A : Nat), .int .u8 (x.toNat : Int)] w fun x w' => x = .returned (.bool true) ∧ Below w.heap.size w w' := by
  have hd0 : decide (30 < (n : Int)) = false := by simp; omega
  have hd1 : decide (((A : Nat) : Int) < 0) = false := by simp
  have HMK := Lib.hid (makeH_any sz od un ct ad n c zs w hr hn)
  have hx8 := x.toNat_lt
  clear hr hn
  go_enter Try.func5, Try.ntmps5
  go_wp2_with fail
  refine HMK.out.mono ?_
  rintro e w1 ⟨H, am, cp, N, rfl, hok, hap, hlen, h16, ho1⟩
  have HOK := Lib.hid hok
  have HLN := Lib.hid hlen
  obtain ⟨_, _, e1, r1⟩ := ho1.row_n mkOk hlen
  cases e1
  have HB1 := Lib.hid ho1.below
  have HR1 := Lib.hid r1
  have HL := Lib.hid (bodyH_len hok)
  have HP := Lib.hid (bodyH_pos H)
  have HRT := Lib.hid (rightH_iff.2 hok)
  clear hok hap hlen ho1 r1 HMK hd0 hd1
  have hba : Below w1.heap.size w1 (w1.alloc (.cells #[.int .i64 H.size, .int .i64 H.order, .int .i64 H.unit, .int .i64 H.count, .int .i64 H.next, .int .i64 H.seq, .slice am N cp] 26)) := (Below.refl _ _).alloc (Nat.le_refl _) _
  have HX2 := Lib.hid (RecAt.new w1 #[.int .i64 H.size, .int .i64 H.order, .int .i64 H.unit, .int .i64 H.count, .int .i64 H.next, .int .i64 H.seq, .slice am N cp] 26)
  have HB2 := Lib.hid (HB1.out.trans (hba.mono HB1.out.size))
  have HR2 := Lib.hid (HR1.out.later hba)
  clear hba HR1
  go_upto_region 4 with fail
  generalize (w1.alloc (.cells #[.int .i64 H.size, .int .i64 H.order, .int .i64 H.unit, .int .i64 H.count, .int .i64 H.next, .int .i64 H.seq, .slice am N cp] 26)) = w2 at *
  generalize w1.heap.size = P15 at *
  obtain ⟨y0, y1, y2, y3, y4, y5, y6⟩ := HX2.out.c7
  have HPU := Lib.hid (putH_any H am N cp w2 HR2.out HLN.out)
  rw [putHd_yes HRT.out] at HPU
  go_wp2_with fail
  refine HPU.out.mono ?_
  rintro e w3 ⟨v3, rfl, o3⟩
  have o3 : Own w2 w3 v3 (sealL (bodyH H)) := o3
  obtain ⟨k2, hk2⟩ : ∃ k, (sealL (bodyH H)).length = k := ⟨_, rfl⟩
  have hk2b : 5 ≤ k2 ∧ k2 ≤ 395 := by rw [← hk2, sealL_len]; have := HL.out; have := HP.out; omega
  obtain ⟨b2, d2, rfl, r2⟩ := o3.row_n hk2
  have HK2 := Lib.hid hk2
  have HB3 := Lib.hid (HB2.out.trans (o3.below.mono HB2.out.size))
  have HX3 := Lib.hid (HX2.out.later o3.below)
  have HR3 := Lib.hid (HR2.out.later o3.below)
  have HQ3 := Lib.hid r2
  clear o3 r2 hk2 HPU y0 y1 y2 y3 y4 y5 y6 HX2 HR2
  have HG0 := Lib.hid (getHd_some (open_seal _) HOK.out rfl)
  have HLS := Lib.hid (getHd_less HOK.out HK2.out)
  have HBY := Lib.hid (fun (k : Nat) (u : UInt8) (h : (sealL (bodyH H))[k]? = some u) => byte_open x h)
  obtain ⟨X, hX⟩ : ∃ X, sealL (bodyH H) = X := ⟨_, rfl⟩
  rw [hX] at HK2 HQ3 HG0 HLS HBY
  clear hX
  go_wp2_with fail
  refine (getH_any b2 k2 d2 X w3 HQ3.out HK2.out (by omega)).mono ?_
  intro e w4 hg
  obtain ⟨a4, c4, rfl, o4⟩ := hgot_is HG0.out HLN.out hg
  obtain ⟨_, _, e4, r4⟩ := o4.row_n mkOk HLN.out
  cases e4
  have hba : Below w4.heap.size w4 (w4.alloc (.cells #[.int .i64 H.size, .int .i64 H.order, .int .i64 H.unit, .int .i64 H.count, .int .i64 H.next, .int .i64 H.seq, .slice a4 N c4] 26)) := (Below.refl _ _).alloc (Nat.le_refl _) _
  have HY5 := Lib.hid (RecAt.new w4 #[.int .i64 H.size, .int .i64 H.order, .int .i64 H.unit, .int .i64 H.count, .int .i64 H.next, .int .i64 H.seq, .slice a4 N c4] 26)
  have hb5 := o4.below.trans (hba.mono o4.below.size)
  have HB5 := Lib.hid (HB3.out.trans (hb5.mono HB3.out.size))
  have HX5 := Lib.hid (HX3.out.later hb5)
  have HR5 := Lib.hid (HR3.out.later hb5)
  have HQ5 := Lib.hid (HQ3.out.later hb5)
  have HS5 := Lib.hid (r4.later hba)
  clear hba hb5 hg o4 r4 HX3 HR3 HQ3
  go_upto_region 6 with fail
  generalize (w4.alloc (.cells #[.int .i64 H.size, .int .i64 H.order, .int .i64 H.unit, .int .i64 H.count, .int .i64 H.next, .int .i64 H.seq, .slice a4 N c4] 26)) = w5 at *
  generalize w4.heap.size = P18 at *
  obtain ⟨y0, y1, y2, y3, y4, y5, y6⟩ := HX5.out.c7
  obtain ⟨z0, z1, z2, z3, z4, z5, z6⟩ := HY5.out.c7
  have HSM := Lib.hid (rsame_hd H H a4 am N N c4 cp w5 HS5.out HR5.out HLN.out HLN.out)
  rw [show decide (H = H) = true from by simp] at HSM
  have hd5 : decide (((k2 : Nat) : Int) < 5) = false := by simp; omega
  have hk20 : 0 < ((k2 : Nat) : Int) := by omega
  go_upto_region 8 with (go_at_call 14; refine HSM.out.mono ?_; rintro e w6 ⟨rfl, hb6⟩)
  have HB6 := Lib.hid (HB5.out.trans (hb6.mono HB5.out.size))
  have HQ6 := Lib.hid (HQ5.out.later hb6)
  clear hb6 y0 y1 y2 y3 y4 y5 y6 z0 z1 z2 z3 z4 z5 z6 HX5 HY5 HR5 HS5 HQ5 hd5
  have HE0 := Lib.hid (own_empty (W0 := w6) (w := w6) (Below.refl _ _))
  have hba : Below w6.heap.size w6 (w6.alloc (.cells #[] 5)) := (Below.refl _ _).alloc (Nat.le_refl _) _
  have HQ7 := Lib.hid (HQ6.out.later hba)
  clear hba
  go_upto_region 9 with (at_builtin; refine wp_row rfl (.tmp 66) (.tmp 67) rfl _ [] rfl w6 HE0.out b2 d2 k2 X HQ7.out HK2.out rfl (by have := HK2.out; simp; omega) ?_; intro v8 w8 o8)
  rw [List.nil_append] at o8
  obtain ⟨g, c8, rfl, hc8, hd8⟩ := o8.at HK2.out (by omega)
  obtain ⟨K, hK, hKk⟩ : ∃ K : Nat, (A : Int) % ((k2 : Nat) : Int) = K ∧ K < k2 := by
    have h1 := Int.emod_nonneg (A : Int) (show ((k2 : Nat) : Int) ≠ 0 by omega)
    have h2 := Int.emod_lt_of_pos (A : Int) (show 0 < ((k2 : Nat) : Int) by omega)
    exact ⟨((A : Int) % ((k2 : Nat) : Int)).toNat, by omega, by omega⟩
  obtain ⟨u, hu⟩ : ∃ u, X[K]? = some u := ⟨X[K]'(by have := HK2.out; omega), List.getElem?_eq_getElem _⟩
  have HOP := Lib.hid (HBY.out K u hu)
  have fc := o8.cellAt HK2.out hu
  have fr := o8.frozenAt HK2.out K
  have oS := o8.stored HK2.out K (u ^^^ x)
  have hu8 := u.toNat_lt
  have hux := u8_xor u x
  unfold B8 at fc oS
  rw [UInt8.toNat_xor] at oS
  have HB8 := Lib.hid (HB6.out.trans (oS.below.mono HB6.out.size))
  have HQ8 := Lib.hid (HQ6.out.later oS.below)
  have HOS := Lib.hid oS
  have HXL : Hid ((X.set K (u ^^^ x)).length = k2) := Lib.hid (by rw [List.length_set, HK2.out])
  clear o8 oS hu HBY
  go_upto_region 10 with fail
  generalize (w8.setCell ⟨g, K, none⟩ (.int .u8 ((u.toNat ^^^ x.toNat : Nat) : Int))) = w9 at *
  clear fc fr hux hK
  obtain ⟨_, _, e9, r9⟩ := HOS.out.row_n HXL.out
  cases e9
  have HRW := Lib.hid r9
  clear r9 HOS
  obtain ⟨D, cd, hD, hcd⟩ : ∃ (D : Hd) (cd : Int), getHd (X.set K (u ^^^ x)) = (D, cd) ∧ ((x = 0 ∧ cd = 0) ∨ (x ≠ 0 ∧ cd = 13)) := by
    have h1 := HOP.out
    by_cases hx : x = 0
    · rw [if_pos hx] at h1
      exact ⟨H, 0, getHd_some h1 HOK.out rfl, .inl ⟨hx, rfl⟩⟩
    · rw [if_neg hx] at h1
      exact ⟨noHd, 13, getHd_sum h1, .inr ⟨hx, rfl⟩⟩
  have HD := Lib.hid hD
  have HCD := Lib.hid hcd
  clear hD hcd HOP
  go_wp2_with fail
  refine (getH_any (some ⟨g, 0, none⟩) k2 c8 _ w9 HRW.out HXL.out (by omega)).mono ?_
  intro e w10 hg
  obtain ⟨a10, c10, rfl, o10⟩ := hgot_is HD.out rfl hg
  have hba : Below w10.heap.size w10 (w10.alloc (.cells #[.int .i64 D.size, .int .i64 D.order, .int .i64 D.unit, .int .i64 D.count, .int .i64 D.next, .int .i64 D.seq, .slice a10 D.marks.length c10] 26)) := (Below.refl _ _).alloc (Nat.le_refl _) _
  have hb11 := o10.below.trans (hba.mono o10.below.size)
  have HB11 := Lib.hid (HB8.out.trans (hb11.mono HB8.out.size))
  have HQ11 := Lib.hid (HQ8.out.later hb11)
  clear hba hb11 hg o10 HQ8
  go_upto_region 11 with fail
  generalize (w10.alloc (.cells #[.int .i64 D.size, .int .i64 D.order, .int .i64 D.unit, .int .i64 D.count, .int .i64 D.next, .int .i64 D.seq, .slice a10 D.marks.length c10] 26)) = w11 at *
  obtain ⟨k3, hk3⟩ : ∃ k3, k2 - 1 = k3 := ⟨_, rfl⟩
  have hsub : IntKind.i64.wrap ((k2 : Nat) - 1 : Int) = (k3 : Nat) := by rw [IntKind.wrap_i64]; omega
  have hsub2 : ((k2 : Nat) - 1 : Int) = (k3 : Nat) := by omega
  rw [hk3] at HLS
  have HS := fun W => run_slB (W := W) (hi := k3) HQ11.out HK2.out (by omega)
  have HT := Lib.hid (HQ11.out.take k3)
  have HTL : Hid ((X.take k3).length = k3) := Lib.hid (by rw [List.length_take, HK2.out]; omega)
  have hk3' : k3 ≤ 395 := by omega
  clear hk3
  obtain ⟨ls, hls, hls0⟩ := HLS.out
  have HLS2 := Lib.hid hls
  have hne : (ls == 0) = false := by simpa using hls0
  have hne2 : (ls != 0) = true := by simpa using hls0
  clear hls hls0
  go_wp2_with fail
  refine (getH_any b2 k3 d2 (X.take k3) w11 HT.out HTL.out (by omega)).mono ?_
  intro e w12 hg
  obtain ⟨a12, c12, rfl, o12⟩ := hgot_is HLS2.out (n := 0) rfl hg
  have hba : Below w12.heap.size w12 (w12.alloc (.cells #[.int .i64 0, .int .i64 0, .int .i64 0, .int .i64 0, .int .i64 0, .int .i64 0, .slice a12 0 c12] 26)) := (Below.refl _ _).alloc (Nat.le_refl _) _
  have hb13 := o12.below.trans (hba.mono o12.below.size)
  have HB13 := Lib.hid (HB11.out.trans (hb13.mono HB11.out.size))
  clear hba hb13 hg o12 HS hsub hsub2
  go_upto_region 12 with fail
  simp only [noHd]
  generalize (w12.alloc (.cells #[.int .i64 0, .int .i64 0, .int .i64 0, .int .i64 0, .int .i64 0, .int .i64 0, .slice a12 0 c12] 26)) = w13 at *
  rcases HCD.out with ⟨hx, rfl⟩ | ⟨hx, rfl⟩
  · have hx0 : ((x.toNat : Int) == 0) = true := by rw [hx]; rfl
    go_wp2_with (go_at_call 8; refine (knownH_any _).mono ?_; rintro y w14 ⟨rfl, hb14⟩)
    go_ret
    exact ⟨rfl, HB13.out.trans (hb14.mono HB13.out.size)⟩
  · have hx0 : ((x.toNat : Int) == 0) = false := by
      simp only [beq_eq_false_iff_ne]
      intro e
      exact hx (by rw [← UInt8.toNat_inj]; show x.toNat = 0; omega)
    go_wp2_with (go_at_call 8; refine (knownH_any _).mono ?_; rintro y w14 ⟨rfl, hb14⟩)
    go_ret
    exact ⟨rfl, HB13.out.trans (hb14.mono HB13.out.size)⟩
theorem headerBack_walk (sz od un ct : Int) (ad : Option Addr) (n c : Nat) (zs : List Int) (at' x : Int) (w : World) (hr : ZRow w ad c zs) (hn : zs.length = n) (hw : (Lit.int .i64 at').wf = true) (hw2 : (Lit.int .u8 x).wf = true) :
    Calls Try.prog 5 #[.int .i64 sz, .int .i64 od, .int .i64 un, .int .i64 ct, .slice ad n c, .int .i64 at', .int .u8 x] w fun x w' => x = .returned (.bool true) ∧ Below w.heap.size w w' := by
  obtain ⟨u, rfl⟩ := wf_u8c hw2
  have hb := wf_i64 hw
  by_cases hc : 30 < n ∨ at' < 0
  · exact headerBack_known sz od un ct ad n c at' _ w hc
  · obtain ⟨A, rfl⟩ : ∃ A : Nat, at' = A := ⟨at'.toNat, by omega⟩
    exact headerBack_main sz od un ct ad n c zs A u w hr hn (by omega) (by omega)
end Go.Proofs.Ytfjplhjlmilcfaa
