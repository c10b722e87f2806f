/- The law 'ClientFull', walked. -/
import Derived.Test.YtcddbffeejijpaaCuK
import Derived.Test.YtcddbffeejijpaaCuLaw
import Derived.Test.YtcddbffeejijpaaZi
namespace Go.Proofs.Ytcddbffeejijpaa
open Go.RowKit Go.Proofs
set_option linter.unusedVariables false
set_option linter.unusedSimpArgs false
set_option linter.unnecessarySimpa false

set_option maxRecDepth 100000 in
set_option maxHeartbeats 6400000 in
theorem clientFull_known (a0 : Option Addr) (n c0 : Nat) (p : Int) (w : World) (hb : 40 < n) :
    Calls Try.prog 7 #[.slice a0 n c0, .int .i64 p] w fun x w' => x = .returned (.bool true) ∧ Below w.heap.size w w' := by
  have h : 40 < (n : Int) := by omega
  clear hb
  go_enter Try.func7, Try.ntmps7
  go_wp2_with fail
  refine (knownU_any _).mono ?_
  rintro y w2 ⟨rfl, hb2⟩
  go_wp2_with fail
  go_ret
  exact ⟨rfl, hb2⟩
set_option maxRecDepth 100000 in
set_option maxHeartbeats 12800000 in
theorem clientFull_main (a0 : Option Addr) (n c0 : Nat) (zs : List Int) (pos : Int) (w : World) (hr : ZRow w a0 c0 zs) (hn : zs.length = n) (hn2 : n ≤ 40) :
    Calls Try.prog 7 #[.slice a0 n c0, .int .i64 pos] w fun x w' => x = .returned (.bool true) ∧ Below w.heap.size w w' := by
  have hd1 : decide (40 < (n : Int)) = false := by simp; omega
  have HR := Lib.hid hr
  have HN := Lib.hid hn
  have hc1 := hr.1
  rw [hn] at hc1
  have hcm : c0 ≤ 9223372036854775807 := by have := hr.2.1; unfold maxLen at this; omega
  clear hr hn
  obtain ⟨q, hq⟩ : ∃ d, bits .and .i64 pos 65535 = d := ⟨_, rfl⟩
  have hq3 : 0 ≤ q ∧ q ≤ 65535 := by rw [← hq]; exact and_range pos 65535 (by decide)
  go_enter Try.func7, Try.ntmps7
  go_wp2_with fail
  go_loopw [5, 6, 7, 8, 9, 10, 11, 12, 13, 14] (fun va i _ _ _ _ _ _ _ _ wr => ∃ (j : Nat) (us : List Cu), i = .int .i64 j ∧ j ≤ n ∧ Hid (COwn w wr va us) ∧ Hid (CuOk us)) (fun _ i _ _ _ _ _ _ _ _ _ => n - (intOf i).toNat)
  case atStart => exact ⟨0, [], rfl, by omega, Lib.hid (GOwn.nil _ w), Lib.hid cuOk_nil⟩
  case round =>
    obtain ⟨j, us, rfl, hj, hO, hG⟩ := hrel
    obtain ⟨m, hm⟩ : ∃ m, us.length = m := ⟨_, rfl⟩
    obtain ⟨a4, c4, rfl, r4⟩ := hO.out.row_n cuOk hm
    have hm4 : m ≤ 4 := by rw [← hm]; exact hG.out.1
    have HM := Lib.hid hm
    have HR4 := Lib.hid r4
    have HB := Lib.hid hO.out.below
    clear hm r4
    by_cases hjn : (j : Int) < n
    · obtain ⟨z, hz⟩ : ∃ z, zs[j]? = some z := ⟨zs[j]'(by have := HN.out; omega), List.getElem?_eq_getElem _⟩
      obtain ⟨b0, o0, rfl, p0⟩ := (HR.out.later HB.out).at hz
      clear hz
      obtain ⟨d, hd⟩ : ∃ d, bits .and .i64 z 15 = d := ⟨_, rfl⟩
      have hd7 : 0 ≤ d ∧ d ≤ 15 := by rw [← hd]; exact and_range z 15 (by decide)
      obtain ⟨k, hk⟩ : ∃ k, 1 + d = k := ⟨_, rfl⟩
      have hk16 : 1 ≤ k ∧ k ≤ 16 := by omega
      obtain ⟨P, hP⟩ : ∃ P : Int, q + (j : Int) = P := ⟨_, rfl⟩
      have hP2 : 0 ≤ P ∧ P ≤ 65575 := by omega
      have HIK : Hid (IdOk k ∧ PosOk P) := Lib.hid ⟨by unfold IdOk; omega, by unfold PosOk; omega⟩
      have HUF := ufind_any a4 m c4 us k wr HR4.out HM.out
      have HAI := Lib.hid (add_is (b := false) hG.out HIK.out.1 HIK.out.2)
      rw [HM.out] at HAI
      obtain ⟨⟨⟨fi, fp, fo⟩, fb⟩, hf⟩ : ∃ r, findU us k = r := ⟨_, rfl⟩
      rw [hf] at HUF HAI
      simp only at HUF HAI
      have HUF := Lib.hid HUF
      have HFB : Hid ((placeU us k).isSome = fb) := Lib.hid (by rw [← findU_two, hf])
      clear hf
      go_upto_region 9 with fail
      clear p0 hd
      go_upto_region 10 with (go_at_call 19; refine HUF.out.mono ?_; rintro e w2 ⟨rfl, hb2⟩)
      have HB2 := Lib.hid (HB.out.trans (hb2.mono HB.out.size))
      have HBW : Hid (Below wr.heap.size wr (w2.alloc (.cells #[.int .i64 fi, .int .i64 fp, .bool fo] 39))) := Lib.hid (hb2.alloc hb2.size _)
      clear hb2 HUF
      generalize (w2.alloc (.cells #[.int .i64 fi, .int .i64 fp, .bool fo] 39)) = w3 at *
      generalize w2.heap.size = p8 at *
      have HB3 := Lib.hid (HB.out.trans (HBW.out.mono HB.out.size))
      have HAD := uadd_any a4 m c4 us k P false w3 (HR4.out.later HBW.out) HM.out (by unfold W64; omega) (by unfold W64; omega)
      rw [HAI.out] at HAD
      have hw1 : IntKind.i64.wrap P = P := by rw [IntKind.wrap_i64]; omega
      cases fb with
      | true =>
        simp only [if_true] at HAD
        have HAD := Lib.hid HAD
        clear HAI
        go_wp2_with fail
        refine HAD.out.mono ?_
        rintro e w4 ⟨v4, rfl, o4⟩
        have HW4 := Lib.hid (HBW.out.trans (o4.below.mono HBW.out.size))
        clear o4 HAD
        go_wp2_with fail
        go_roundw
        case rel => exact ⟨j + 1, us, by go_num, by omega, Lib.hid (hO.out.later HW4.out), hG⟩
        case measure => simp [intOf]; omega
      | false =>
        simp only [Bool.false_eq_true, if_false] at HAD
        by_cases h4 : m = 4
        · rw [if_pos h4] at HAD
          have HAD := Lib.hid HAD
          have hd4 : ((m : Int) == 4) = true := by simp; omega
          clear HAI h4
          go_wp2_with fail
          refine HAD.out.mono ?_
          rintro e w4 ⟨v4, rfl, o4⟩
          have HW4 := Lib.hid (HBW.out.trans (o4.below.mono HBW.out.size))
          clear o4 HAD
          go_wp2_with fail
          go_roundw
          case rel => exact ⟨j + 1, us, by go_num, by omega, Lib.hid (hO.out.later HW4.out), hG⟩
          case measure => simp [intOf]; omega
        · rw [if_neg h4] at HAD
          have hd4 : ((m : Int) == 4) = false := by simp; omega
          have hPN : placeU us k = none := by have := HFB.out; cases h : placeU us k with | none => rfl | some i => rw [h] at this; cases this
          have HFD := Lib.hid (add_found (p := P) hPN)
          have HGN := Lib.hid (addU_ok (p := P) hG.out HIK.out.1 HIK.out.2 hPN (by rw [HM.out]; exact h4))
          obtain ⟨M, hM⟩ : ∃ M, m + 1 = M := ⟨_, rfl⟩
          have HMN : Hid ((addU us k P).length = M) := Lib.hid (by rw [addU_len, HM.out, hM])
          obtain ⟨rs, hrs⟩ : ∃ rs, addU us k P = rs := ⟨_, rfl⟩
          rw [hrs] at HAD HFD HGN HMN
          have HAD := Lib.hid HAD
          have hadd : (m : Int) + 1 = (M : Nat) := by omega
          have hadd2 : IntKind.i64.wrap (M : Int) = (M : Nat) := by rw [IntKind.wrap_i64]; omega
          have hzz : (((M : Nat) : Int) != (M : Nat)) = false := by simp
          have hqq : ∀ W, (binOp .neq 39 (.agg #[.int .i64 k, .int .i64 P, .bool false]) (.agg #[.int .i64 k, .int .i64 P, .bool false])).run Try.prog W = .ok (.bool false) W := fun W => by
            have := cu_neq W ⟨k, P, false⟩ ⟨k, P, false⟩
            simpa using this
          clear HAI h4 hPN hM hrs
          go_wp2_with fail
          refine HAD.out.mono ?_
          rintro e w4 ⟨v4, rfl, o4⟩
          simp only at o4
          have HW4 := Lib.hid (HBW.out.trans (o4.below.mono HBW.out.size))
          have HO4 : Hid (COwn w w4 v4 rs) := Lib.hid (o4.back HB3.out)
          clear o4 HAD
          obtain ⟨a6, c6, rfl, r6⟩ := HO4.out.row_n cuOk HMN.out
          have HF4 := ufind_any a6 M c6 rs k w4 r6 HMN.out
          rw [HFD.out] at HF4
          have HF4 := Lib.hid HF4
          clear r6
          go_upto_region 20 with (go_at_call 19; refine HF4.out.mono ?_; rintro e w5 ⟨rfl, hb5⟩)
          have HX6 := Lib.hid (RecAt.new w5 #[.int .i64 k, .int .i64 P, .bool false] 39)
          have HO6 : Hid (COwn w (w5.alloc (.cells #[.int .i64 k, .int .i64 P, .bool false] 39)) (.slice a6 M c6) rs) := Lib.hid ((HO4.out.later hb5).later ((Below.refl _ _).alloc (Nat.le_refl _) _))
          clear hb5
          generalize (w5.alloc (.cells #[.int .i64 k, .int .i64 P, .bool false] 39)) = w6 at *
          generalize w5.heap.size = p13 at *
          obtain ⟨x0, x1, x2⟩ := HX6.out.c3
          go_wp2_with fail
          go_roundw
          case rel => exact ⟨j + 1, rs, by go_num, by omega, HO6, HGN⟩
          case measure => simp [intOf]; omega
    · have HRI := Lib.hid (rightU_iff.2 hG.out)
      have HRT := Lib.hid (uright_any a4 m c4 us wr HR4.out HM.out)
      rw [HRI.out] at HRT
      go_wp2_with (first | (go_at_call 21; refine HRT.out.mono ?_; rintro e w9 ⟨rfl, hb9⟩; have HB9 := Lib.hid (HB.out.trans (hb9.mono HB.out.size)); clear hb9) | (go_at_call 8; refine (knownU_any _).mono ?_; rintro y w11 ⟨rfl, hb11⟩))
      go_ret
      exact ⟨rfl, HB9.out.trans (hb11.mono HB9.out.size)⟩
theorem clientFull_walk (a0 : Option Addr) (n c0 : Nat) (zs : List Int) (pos : Int) (w : World) (hr : ZRow w a0 c0 zs) (hn : zs.length = n) :
    Calls Try.prog 7 #[.slice a0 n c0, .int .i64 pos] w fun x w' => x = .returned (.bool true) ∧ Below w.heap.size w w' := by
  by_cases hb : 40 < n
  · exact clientFull_known a0 n c0 pos w hb
  · exact clientFull_main a0 n c0 zs pos w hr hn (by omega)
end Go.Proofs.Ytcddbffeejijpaa
