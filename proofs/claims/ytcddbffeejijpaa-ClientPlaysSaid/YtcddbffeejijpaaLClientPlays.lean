/- The law 'ClientPlays', walked. -/
import Derived.Test.YtcddbffeejijpaaCuK
import Derived.Test.YtcddbffeejijpaaCuLaw
import Derived.Test.YtcddbffeejijpaaZi
namespace Go.Proofs.Ytcddbffeejijpaa
open Go.RowKit Go.Proofs
set_option linter.unusedVariables false
set_option linter.unusedSimpArgs false
set_option linter.unnecessarySimpa false

set_option maxRecDepth 100000 in
set_option maxHeartbeats 6400000 in
theorem clientPlays_known (a0 : Option Addr) (n c0 : Nat) (w : World) (hb : 60 < n) :
    Calls Try.prog 4 #[.slice a0 n c0] w fun x w' => x = .returned (.bool true) ∧ Below w.heap.size w w' := by
  have h : 60 < (n : Int) := by omega
  clear hb
  go_enter Try.func4, Try.ntmps4
  go_wp2_with fail
  refine (knownU_any _).mono ?_
  rintro y w2 ⟨rfl, hb2⟩
  go_wp2_with fail
  go_ret
  exact ⟨rfl, hb2⟩
theorem kindA_nat {D : Nat} (h : D ≤ 3) : kindA (D : Int) = D := by
  rcases (show D = 0 ∨ D = 1 ∨ D = 2 ∨ D = 3 by omega) with rfl | rfl | rfl | rfl <;> rfl
set_option maxRecDepth 100000 in
set_option maxHeartbeats 12800000 in
theorem clientPlays_main (a0 : Option Addr) (n c0 : Nat) (zs : List Ac) (w : World) (hr : GRow acT w a0 c0 zs) (hn : zs.length = n) (hn2 : n ≤ 60) :
    Calls Try.prog 4 #[.slice a0 n c0] w fun x w' => x = .returned (.bool true) ∧ Below w.heap.size w w' := by
  have hd1 : decide (60 < (n : Int)) = false := by simp; omega
  have HR := Lib.hid hr
  have HN := Lib.hid hn
  have hc1 := hr.1
  rw [hn] at hc1
  have hcm : c0 ≤ 9223372036854775807 := by have := hr.2.1; unfold maxLen at this; omega
  clear hr hn
  go_enter Try.func4, Try.ntmps4
  go_wp2_with fail
  go_loopw [3, 4, 5, 6, 7, 8, 9, 10] (fun va vb i _ _ _ _ _ wr => ∃ (j : Nat) (us : List Cu), i = .int .i64 j ∧ j ≤ n ∧ Hid (COwn w wr va us) ∧ Hid (COwn w wr vb us)) (fun _ _ i _ _ _ _ _ _ => n - (intOf i).toNat)
  case atStart => exact ⟨0, [], rfl, by omega, Lib.hid (GOwn.nil _ w), Lib.hid (GOwn.nil _ w)⟩
  case round =>
    obtain ⟨j, us, rfl, hj, hO, hQ⟩ := hrel
    obtain ⟨m, hm⟩ : ∃ m, us.length = m := ⟨_, rfl⟩
    obtain ⟨a4, c4, rfl, r4⟩ := hO.out.row_n cuOk hm
    obtain ⟨a5, c5, rfl, r5⟩ := hQ.out.row_n cuOk hm
    have HM := Lib.hid hm
    have HR4 := Lib.hid r4
    have HR5 := Lib.hid r5
    have HB := Lib.hid hO.out.below
    clear hm r4 r5
    by_cases hjn : (j : Int) < n
    · obtain ⟨t, ht⟩ : ∃ t, zs[j]? = some t := ⟨zs[j]'(by have := HN.out; omega), List.getElem?_eq_getElem _⟩
      obtain ⟨b0, o0, rfl, p0, p1, p2, p3⟩ := (HR.out.later HB.out).a4 ht
      have HTB : Hid (Ac.B t) := Lib.hid (HR.out.b ht)
      clear ht
      obtain ⟨tw, ti, tp, tf⟩ := t
      have hba : Below wr.heap.size wr (wr.alloc (.cells #[.int .i64 tw, .int .i64 ti, .int .i64 tp, .bool tf] 25)) := (Below.refl _ _).alloc (Nat.le_refl _) _
      have HBA := Lib.hid hba
      have HX := Lib.hid (RecAt.new wr #[.int .i64 tw, .int .i64 ti, .int .i64 tp, .bool tf] 25)
      clear hba
      go_upto_region 8 with fail
      clear p0 p1 p2 p3
      generalize (wr.alloc (.cells #[.int .i64 tw, .int .i64 ti, .int .i64 tp, .bool tf] 25)) = w2 at *
      obtain ⟨p4, hp4⟩ : ∃ x, wr.heap.size = x := ⟨_, rfl⟩
      rw [hp4] at HX HBA ⊢
      have HP4 := Lib.hid hp4
      clear hp4
      obtain ⟨x0, x1, x2, x3⟩ := HX.out.c4U
      have f4 := fun k => HX.out.frozen k
      obtain ⟨d, hd⟩ : ∃ d, bits .and .i64 ti 7 = d := ⟨_, rfl⟩
      have hd7 : 0 ≤ d ∧ d ≤ 7 := by rw [← hd]; exact and_range ti 7 (by decide)
      obtain ⟨q, hq⟩ : ∃ d, bits .and .i64 tw 3 = d := ⟨_, rfl⟩
      have hq3 : 0 ≤ q ∧ q ≤ 3 := by rw [← hq]; exact and_range tw 3 (by decide)
      obtain ⟨D, hD⟩ : ∃ D : Nat, q = D := ⟨q.toNat, by omega⟩
      subst hD
      obtain ⟨k, hk⟩ : ∃ k, 1 + d = k := ⟨_, rfl⟩
      go_upto_region 9 with fail
      have HX3 := Lib.hid ((HX.out.set 1 (.int .i64 k)).set 0 (.int .i64 (D : Nat)))
      simp only [List.setIfInBounds_toArray, List.set_cons_zero, List.set_cons_succ] at HX3
      have HBB := Lib.hid ((HBA.out.setCell (p := ⟨p4, 1, none⟩) (Nat.le_refl _) (.int .i64 k)).setCell (p := ⟨p4, 0, none⟩) (Nat.le_refl _) (.int .i64 (D : Nat)))
      clear x0 x1 x2 x3 f4 HX HBA hd hq
      generalize ((w2.setCell ⟨p4, 1, none⟩ (.int .i64 k)).setCell ⟨p4, 0, none⟩ (.int .i64 (D : Nat))) = w3 at *
      have HBW : Hid (Below wr.heap.size wr w3) := Lib.hid (by rw [HP4.out]; exact HBB.out)
      have HB3 := Lib.hid (HB.out.trans (HBW.out.mono HB.out.size))
      have HR43 := Lib.hid (HR4.out.later HBW.out)
      have HR53 := Lib.hid (HR5.out.later HBW.out)
      have hD3 : D ≤ 3 := by omega
      have hk8 : 1 ≤ k ∧ k ≤ 8 := by omega
      have HKW : Hid (W64 k ∧ W64 tp) := Lib.hid ⟨by unfold W64; omega, HTB.out.2.2⟩
      have HK := one_any a4 m c4 us ⟨(D : Nat), k, tp, tf⟩ w3 HR43.out HM.out ⟨by unfold W64; simp only; omega, HKW.out.1, HKW.out.2⟩
      simp only [kindA_nat hD3] at HK
      obtain ⟨⟨rs, re⟩, hre⟩ : ∃ r, actU us D k tp tf = r := ⟨_, rfl⟩
      rw [hre] at HK
      have HRE := Lib.hid hre
      have HK := Lib.hid HK
      clear hre
      obtain ⟨x0, x1, x2, x3⟩ := HX3.out.c4U
      go_wp2_with fail
      refine HK.out.mono ?_
      rintro e w4 ⟨v4, rfl, o4⟩
      simp only at o4
      obtain ⟨m2, hm2⟩ : ∃ m, rs.length = m := ⟨_, rfl⟩
      have HM2 := Lib.hid hm2
      have HO4 : Hid (COwn w w4 v4 rs) := Lib.hid (o4.back HB3.out)
      have HX4 := Lib.hid (HX3.out.later o4.below)
      have HR54 := Lib.hid (HR53.out.later o4.below)
      have HB4 := Lib.hid (HB3.out.trans (o4.below.mono HB3.out.size))
      have HW4 := Lib.hid (HBW.out.trans (o4.below.mono HBW.out.size))
      clear o4 hm2 x0 x1 x2 x3 HK
      obtain ⟨x0, x1, x2, x3⟩ := HX4.out.c4U
      have HK := uract_any a5 m c5 us D k tp tf w4 HR54.out HM.out hD3 HKW.out.1 HKW.out.2
      rw [HRE.out] at HK
      have HK := Lib.hid HK
      obtain ⟨a6, c6, rfl, r6⟩ := HO4.out.row_n cuOk HM2.out
      have HR6 := Lib.hid r6
      clear r6
      go_wp2_with fail
      refine HK.out.mono ?_
      rintro e w5 ⟨v5, rfl, o5⟩
      simp only at o5
      have HO5 := Lib.hid (HO4.out.later o5.below)
      have HQ5 : Hid (COwn w w5 v5 rs) := Lib.hid (o5.back HB4.out)
      have HW5 := Lib.hid (HW4.out.trans (o5.below.mono HW4.out.size))
      have HR65 := Lib.hid (HR6.out.later o5.below)
      clear o5 x0 x1 x2 x3 HK
      obtain ⟨a7, c7, rfl, r7⟩ := HQ5.out.row_n cuOk HM2.out
      have HS := usame_any a6 a7 m2 m2 c6 c7 rs rs w5 HR65.out r7 HM2.out HM2.out
      rw [show decide (rs = rs) = true by simp] at HS
      have HS := Lib.hid HS
      have hz : (re == re) = true := by simp
      have hz2 : (re != re) = false := by simp
      clear r7
      by_cases he : re = 0
      · have he0 : (re == 0) = true := by simpa using he
        clear he
        go_wp2_with (go_at_call 16; refine HS.out.mono ?_; rintro e w6 ⟨rfl, hb6⟩; have HO6 := Lib.hid (HO5.out.later hb6); have HQ6 := Lib.hid (HQ5.out.later hb6); clear hb6)
        go_roundw
        case rel => exact ⟨j + 1, rs, by go_num, by omega, HO6, HQ6⟩
        case measure => simp [intOf]; omega
      · have he0 : (re == 0) = false := by simpa using he
        clear he
        go_wp2_with (go_at_call 16; refine HS.out.mono ?_; rintro e w6 ⟨rfl, hb6⟩; have HW6 := Lib.hid (HW5.out.trans (hb6.mono HW5.out.size)); clear hb6)
        go_roundw
        case rel => exact ⟨j + 1, us, by go_num, by omega, Lib.hid (hO.out.later HW6.out), Lib.hid (hQ.out.later HW6.out)⟩
        case measure => simp [intOf]; omega
    · go_wp2_with fail
      refine (knownU_any _).mono ?_
      rintro y w2 ⟨rfl, hb2⟩
      go_wp2_with fail
      go_ret
      exact ⟨rfl, HB.out.trans (hb2.mono HB.out.size)⟩
theorem clientPlays_walk (a0 : Option Addr) (n c0 : Nat) (zs : List Ac) (w : World) (hr : GRow acT w a0 c0 zs) (hn : zs.length = n) :
    Calls Try.prog 4 #[.slice a0 n c0] w fun x w' => x = .returned (.bool true) ∧ Below w.heap.size w w' := by
  by_cases hb : 60 < n
  · exact clientPlays_known a0 n c0 w hb
  · exact clientPlays_main a0 n c0 zs w hr hn (by omega)
end Go.Proofs.Ytcddbffeejijpaa
