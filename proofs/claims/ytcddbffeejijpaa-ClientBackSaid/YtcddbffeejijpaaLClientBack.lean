/- The law 'ClientBack', walked. -/
import Derived.Test.YtcddbffeejijpaaCuK
import Derived.Test.YtcddbffeejijpaaCuLaw
import Derived.Test.YtcddbffeejijpaaSlB
namespace Go.Proofs.Ytcddbffeejijpaa
open Go.RowKit Go.Proofs
set_option linter.unusedVariables false
set_option linter.unusedSimpArgs false
set_option linter.unnecessarySimpa false

set_option maxRecDepth 100000 in
set_option maxHeartbeats 6400000 in
theorem clientBack_known (a0 : Option Addr) (n c0 : Nat) (x : Int) (w : World) (hb : 40 < n) :
    Calls Try.prog 5 #[.slice a0 n c0, .int .u8 x] w fun x w' => x = .returned (.bool true) ∧ Below w.heap.size w w' := by
  have h : 40 < (n : Int) := by omega
  clear hb
  go_enter Try.func5, Try.ntmps5
  go_wp2_with fail
  refine (knownU_any _).mono ?_
  rintro y w2 ⟨rfl, hb2⟩
  go_wp2_with fail
  go_ret
  exact ⟨rfl, hb2⟩
set_option maxRecDepth 100000 in
set_option maxHeartbeats 12800000 in
theorem clientBack_main (a0 : Option Addr) (n c0 : Nat) (zs : List Ac) (u : UInt8) (w : World) (hr : GRow acT w a0 c0 zs) (hn : zs.length = n) (hn2 : n ≤ 40) :
    Calls Try.prog 5 #[.slice a0 n c0, .int .u8 (u.toNat : Int)] w fun x w' => x = .returned (.bool true) ∧ Below w.heap.size w w' := by
  have hd1 : decide (40 < (n : Int)) = false := by simp; omega
  have HR := Lib.hid hr
  have HN := Lib.hid hn
  have hc1 := hr.1
  rw [hn] at hc1
  have hcm : c0 ≤ 9223372036854775807 := by have := hr.2.1; unfold maxLen at this; omega
  clear hr hn
  go_enter Try.func5, Try.ntmps5
  go_wp2_with fail
  go_loopw [5, 6, 7, 8] (fun v i _ _ wr => ∃ (j : Nat) (us : List Cu), i = .int .i64 j ∧ j ≤ n ∧ Hid (COwn w wr v us) ∧ Hid (CuOk us)) (fun _ i _ _ _ => n - (intOf i).toNat)
  case atStart => exact ⟨0, [], rfl, by omega, Lib.hid (GOwn.nil _ w), Lib.hid cuOk_nil⟩
  case round =>
    obtain ⟨j, us, rfl, hj, hO, hG⟩ := hrel
    obtain ⟨m, hm⟩ : ∃ m, us.length = m := ⟨_, rfl⟩
    obtain ⟨a4, c4, rfl, r4⟩ := hO.out.row_n cuOk hm
    have hm4 : m ≤ 4 := by rw [← hm]; exact hG.out.1
    have HM := Lib.hid hm
    have HR4 := Lib.hid r4
    clear hm r4
    by_cases hjn : (j : Int) < n
    · obtain ⟨t, ht⟩ : ∃ t, zs[j]? = some t := ⟨zs[j]'(by have := HN.out; omega), List.getElem?_eq_getElem _⟩
      obtain ⟨b0, o0, rfl, p0, p1, p2, p3⟩ := (HR.out.later hO.out.below).a4 ht
      have HK := one_any a4 m c4 us t wr HR4.out HM.out (HR.out.b ht)
      have hok := actU_ok (ts := us) (k := t.id) (p := t.pos) (b := t.off) (kindA_le t.what)
      obtain ⟨⟨rs, re⟩, hre⟩ : ∃ r, actU us (kindA t.what) t.id t.pos t.off = r := ⟨_, rfl⟩
      rw [hre] at HK hok
      have HK := Lib.hid HK
      have HOK : Hid (CuOk rs) := Lib.hid hok
      clear ht hre hok
      obtain ⟨tw, ti, tp, tf⟩ := t
      go_wp2_with fail
      refine HK.out.mono ?_
      rintro e w1 ⟨v1, rfl, o1⟩
      have HO1 : Hid (COwn w w1 v1 rs) := Lib.hid (o1.back hO.out.below)
      have HO0 := Lib.hid (hO.out.later o1.below)
      clear o1 hO HK
      by_cases he : re = 0
      · have hd : (re == 0) = true := by simpa using he
        clear he
        go_wp2_with fail
        go_roundw
        case rel => exact ⟨j + 1, rs, by go_num, by omega, HO1, HOK⟩
        case measure => simp [intOf]; omega
      · have hd : (re == 0) = false := by simpa using he
        clear he
        go_wp2_with fail
        go_roundw
        case rel => exact ⟨j + 1, us, by go_num, by omega, HO0, hG⟩
        case measure => simp [intOf]; omega
    · have HB1 := Lib.hid hO.out.below
      have HPU : Hid (putCu us = (putU us, 0)) := Lib.hid (putCu_yes (rightU_iff.2 hG.out))
      have hlen := putU_len hG.out
      have HG0 := Lib.hid (getCu_some hG.out rfl)
      obtain ⟨X, hX⟩ : ∃ X, putU us = X := ⟨_, rfl⟩
      obtain ⟨k2, hk2⟩ : ∃ k, X.length = k := ⟨_, rfl⟩
      rw [hX, hk2] at hlen
      have HK2 := Lib.hid hk2
      rw [hX] at HPU HG0
      have HGL : Hid (getCu (X.take (k2 - 1)) = ([], 2)) := Lib.hid (getCu_less hG.out (x := X.take (k2 - 1)) (y := X.drop (k2 - 1)) (by rw [hX, List.take_append_drop]) (by
        intro e; have := congrArg List.length e; rw [List.length_drop, hk2] at this; simp at this; omega))
      have HGM : Hid (getCu (X ++ [u]) = ([], 2)) := Lib.hid (by rw [← hX]; exact getCu_more hG.out (by simp))
      have HRI := Lib.hid (rightU_iff.2 hG.out)
      clear hX hk2 hO hG
      go_wp2_with fail
      refine (uput_any a4 m c4 us wr HR4.out HM.out).mono ?_
      rw [HPU.out]
      rintro e w2 ⟨v2, rfl, o2⟩
      simp only at o2
      obtain ⟨b2, d2, rfl, r2⟩ := o2.row_n HK2.out
      have HB2 := Lib.hid (HB1.out.trans (o2.below.mono HB1.out.size))
      have HR2 := Lib.hid (HR4.out.later o2.below)
      have HX2 := Lib.hid r2
      clear o2 r2
      go_wp2_with fail
      refine (uget_any b2 k2 d2 X w2 HX2.out HK2.out (by omega)).mono ?_
      unfold UGot
      rw [HG0.out]
      rintro e w3 ⟨v3, rfl, o3⟩
      simp only at o3
      obtain ⟨b3, d3, rfl, r3⟩ := o3.row_n cuOk HM.out
      have HB3 := Lib.hid (HB2.out.trans (o3.below.mono HB2.out.size))
      have HR3 := Lib.hid (HR2.out.later o3.below)
      have HX3 := Lib.hid (HX2.out.later o3.below)
      have HQ3 := Lib.hid r3
      clear o3 r3
      have hk0 : (((k2 : Nat) : Int) == 0) = false := by simp; omega
      have HSM := Lib.hid (usame_any a4 b3 m m c4 d3 us us w3 HR3.out HQ3.out HM.out HM.out)
      rw [show decide (us = us) = true by simp] at HSM
      go_upto_region 14 with (go_at_call 16; refine HSM.out.mono ?_; rintro e w4 ⟨rfl, hb4⟩)
      have HB4 := Lib.hid (HB3.out.trans (hb4.mono HB3.out.size))
      have HR4 := Lib.hid (HR3.out.later hb4)
      have HX4 := Lib.hid (HX3.out.later hb4)
      clear hb4
      obtain ⟨k3, hk3⟩ : ∃ k3, k2 - 1 = k3 := ⟨_, rfl⟩
      have hsub : IntKind.i64.wrap ((k2 : Nat) - 1 : Int) = (k3 : Nat) := by rw [IntKind.wrap_i64]; omega
      have hsub2 : ((k2 : Nat) - 1 : Int) = (k3 : Nat) := by omega
      rw [hk3] at HGL
      have HS := fun W => run_slB (W := W) (hi := k3) HX4.out HK2.out (by omega)
      have HT4 := Lib.hid (HX4.out.take k3)
      have HTL : Hid ((X.take k3).length = k3) := Lib.hid (by rw [List.length_take, HK2.out]; omega)
      have hk3' : k3 ≤ 49 := by omega
      clear hk3
      go_wp2_with fail
      refine (uget_any b2 k3 d2 (X.take k3) w4 HT4.out HTL.out (by omega)).mono ?_
      unfold UGot
      rw [HGL.out]
      rintro e w5 ⟨v5, rfl, o5⟩
      simp only at o5
      obtain ⟨b5, d5, rfl, r5⟩ := o5.row_n cuOk (n := 0) rfl
      have HB5 := Lib.hid (HB4.out.trans (o5.below.mono HB4.out.size))
      have HX5 := Lib.hid (HX4.out.later o5.below)
      have HR5 := Lib.hid (HR4.out.later o5.below)
      have HE0 := Lib.hid (own_empty (W0 := w5) (w := w5) (Below.refl _ _))
      have hba : Below w5.heap.size w5 (w5.alloc (.cells #[] 5)) := (Below.refl _ _).alloc (Nat.le_refl _) _
      have HX6 := Lib.hid (HX5.out.later hba)
      clear o5 r5 hba HS hsub hsub2 hk0
      go_wp2_with (first | (at_builtin; refine wp_row rfl (.tmp 76) (.tmp 77) rfl _ [] rfl w5 HE0.out b2 d2 k2 X HX6.out HK2.out rfl (by have := HK2.out; simp; omega) ?_; intro v6 w6 o6) | (at_builtin; refine wp_byte rfl (.tmp 78) (.tmp 80) rfl _ _ rfl w5 o6 _ u rfl rfl (by have := HK2.out; simp; omega) ?_; intro v7 w7 o7))
      rw [List.nil_append] at o7
      have HM7 : Hid ((X ++ [u]).length = k2 + 1) := Lib.hid (by rw [List.length_append, HK2.out]; rfl)
      obtain ⟨k4, hk4⟩ : ∃ k4, k2 + 1 = k4 := ⟨_, rfl⟩
      rw [hk4] at HM7
      have hk4' : k4 ≤ 50 := by omega
      obtain ⟨b7, d7, rfl, r7⟩ := o7.row_n HM7.out
      have HB7 := Lib.hid (HB5.out.trans (o7.below.mono HB5.out.size))
      have HR7 := Lib.hid (HR5.out.later o7.below)
      have HX7 := Lib.hid r7
      clear o7 r7 o6 hk4
      refine (uget_any b7 k4 d7 (X ++ [u]) w7 HX7.out HM7.out (by omega)).mono ?_
      unfold UGot
      rw [HGM.out]
      rintro e w8 ⟨v8, rfl, o8⟩
      simp only at o8
      obtain ⟨b8, d8, rfl, r8⟩ := o8.row_n cuOk (n := 0) rfl
      have HB8 := Lib.hid (HB7.out.trans (o8.below.mono HB7.out.size))
      have HR8 := Lib.hid (HR7.out.later o8.below)
      clear o8 r8 HX7 HX6 HX5 HX4 HT4
      have HRT := Lib.hid (uright_any a4 m c4 us w8 HR8.out HM.out)
      rw [HRI.out] at HRT
      go_wp2_with (first | (go_at_call 21; refine HRT.out.mono ?_; rintro e w9 ⟨rfl, hb9⟩; have HB9 := Lib.hid (HB8.out.trans (hb9.mono HB8.out.size)); clear hb9) | (go_at_call 8; refine (knownU_any _).mono ?_; rintro y w11 ⟨rfl, hb11⟩))
      go_ret
      exact ⟨rfl, HB9.out.trans (hb11.mono HB9.out.size)⟩
theorem clientBack_walk (a0 : Option Addr) (n c0 : Nat) (zs : List Ac) (x : Int) (w : World) (hr : GRow acT w a0 c0 zs) (hn : zs.length = n) (w2 : (Lit.int .u8 x).wf = true) :
    Calls Try.prog 5 #[.slice a0 n c0, .int .u8 x] w fun x w' => x = .returned (.bool true) ∧ Below w.heap.size w w' := by
  obtain ⟨u, rfl⟩ := wf_u8c w2
  by_cases hb : 40 < n
  · exact clientBack_known a0 n c0 _ w hb
  · exact clientBack_main a0 n c0 zs u w hr hn (by omega)
end Go.Proofs.Ytcddbffeejijpaa
