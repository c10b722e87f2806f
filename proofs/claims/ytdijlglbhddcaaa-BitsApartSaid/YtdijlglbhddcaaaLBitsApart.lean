/- The law BitsApart, walked. -/
import Derived.Test.YtdijlglbhddcaaaKnown
import Derived.Deep.RegionWith
import Derived.BigRegion
import Derived.Lib.Strings
import Derived.Deep.DeepCutAuto
namespace Go.Proofs.Ytdijlglbhddcaaa
open Go.RowKit
set_option linter.unusedVariables false

theorem wf_i64a {n : Int} (h : (Lit.int .i64 n).wf = true) : -9223372036854775808 ≤ n ∧ n ≤ 9223372036854775807 := by
  simp [Lit.wf, IntKind.min, IntKind.max, IntKind.signed, IntKind.bits] at h; omega

theorem own_len3 {w : World} {a : Option Addr} {c k : Nat} {l : List UInt8} (hk : l.length = k) (h : Row w a c ([] ++ l ++ [9, 9, 9])) : k + 3 ≤ c := by
  have := h.1
  simp at this
  omega
theorem row_999 (w : World) : Row (w.alloc (.cells #[.int .u8 9, .int .u8 9, .int .u8 9] 5)) (some ⟨w.heap.size, 0, .none⟩) 3 [9, 9, 9] := row_new w [9, 9, 9] (by decide)
theorem var_apart {A B : ByteArray} {N M : Nat} (hA : A = ⟨(varL N).toArray⟩) (hB : B = ⟨(varL M).toArray⟩) (h : N ≠ M) (hN : N < 9223372036854775808) (hM : M < 9223372036854775808) : (A.toList == B.toList) = false := by
  subst hA hB
  rw [ByteArray.toList_mk, ByteArray.toList_mk, beq_eq_false_iff_ne]
  intro e
  exact h (varL_prefix hN hM [] (by rw [List.append_nil]; exact e.symm))
theorem var_pre {A B : ByteArray} {N M : Nat} (hA : A = ⟨(varL N).toArray⟩) (hB : B = ⟨(varL M).toArray⟩) (h : N ≠ M) (hN : N < 9223372036854775808) (hM : M < 9223372036854775808) : ((B.extract 0 A.size).toList == A.toList) = false := by
  subst hA hB
  rw [Lib.extract_toList, ByteArray.toList_mk, beq_eq_false_iff_ne]
  intro e
  refine h (varL_prefix hN hM ((varL M).drop (varL N).length) ?_)
  have e2 : (varL M).take (varL N).length = varL N := by simpa [ByteArray.size] using e
  conv => lhs; rw [← List.take_append_drop (varL N).length (varL M), e2]

set_option maxRecDepth 100000 in
set_option maxHeartbeats 1600000 in
theorem bitsApart_walk (n m : Int) (a : Option Addr) (cap : Nat) (l : List UInt8) (w : World) (w0 : (Lit.int .i64 n).wf = true) (w1 : (Lit.int .i64 m).wf = true) (hr : Row w a cap l) :
    Calls Try.prog 9 #[.int .i64 n, .int .i64 m, .slice a l.length cap] w fun e w' => e = .returned (.bool true) ∧ Below w.heap.size w w' := by
  obtain ⟨n1, n2⟩ := wf_i64a w0
  obtain ⟨m1, m2⟩ := wf_i64a w1
  clear w0 w1
  obtain ⟨k, hk⟩ : ∃ k, l.length = k := ⟨_, rfl⟩
  have HK := Lib.hid hk
  rw [hk]
  clear hk
  rcases (show n < 0 ∨ (0 ≤ n ∧ m < 0) ∨ (0 ≤ n ∧ 0 ≤ m ∧ 50 < k) ∨ (0 ≤ n ∧ 0 ≤ m ∧ k ≤ 50) by omega) with h | h | h | h
  iterate 3
    · go_enter Try.func9, Try.ntmps9
      go_wp2_with fail
      refine (known_any _).mono ?_
      rintro e w2 ⟨rfl, hb2⟩
      go_wp2
      go_ret
      exact ⟨rfl, hb2⟩
  · obtain ⟨h1, h2, h3⟩ := h
    obtain ⟨N, rfl⟩ := Int.eq_ofNat_of_zero_le h1
    obtain ⟨M, rfl⟩ := Int.eq_ofNat_of_zero_le h2
    go_enter Try.func9, Try.ntmps9
    obtain ⟨A, hA⟩ : ∃ A : ByteArray, A = ⟨(varL N).toArray⟩ := ⟨_, rfl⟩
    obtain ⟨B, hB⟩ : ∃ B : ByteArray, B = ⟨(varL M).toArray⟩ := ⟨_, rfl⟩
    have HA := Lib.hid hA
    have HB := Lib.hid hB
    clear hA hB
    go_upto_region 3 with fail
    go_cut [7, 8] (fun sa sb wx => sa = .string A ∧ sb = .string B ∧ Below w.heap.size w wx)
    case first =>
      have tok1 : True := trivial
      go_region_with (first
        | (go_at_call 12; have _t := tok1; refine (var_nil _ _ (by omega)).mono ?_; rintro e w2 ⟨a2, c2, rfl, hr2, hb2⟩; simp only [Int.toNat_natCast] at hr2 ⊢; have hcv2 := conv_row hr2; clear tok1)
        | (go_at_call 12; refine (var_nil _ _ (by omega)).mono ?_; rintro e w3 ⟨a3, c3, rfl, hr3, hb3⟩; simp only [Int.toNat_natCast] at hr3 ⊢; have hcv3 := conv_row hr3; have hcv2' := conv_row (hr2.later hb3)))
      all_goals
        go_wp2_with fail
        go_meet
        exact ⟨by rw [HA.out], by rw [HB.out], (((Below.refl _ _).drew).trans hb2).trans (hb3.mono hb2.size)⟩
    case rest =>
      obtain ⟨rfl, rfl, hb⟩ := hcut
      go_upto_region 4 with fail
      go_cut [0, 1, 7, 8, 69] (fun s0 s1 sa sb c wx => s0 = .int .i64 N ∧ s1 = .int .i64 M ∧ sa = .string A ∧ sb = .string B ∧ c = .bool false ∧ wx = wc)
      case first =>
        by_cases hNM : N = M
        · have hAB : (A.toList == B.toList) = true := by rw [HA.out, HB.out, hNM]; simp
          have hNM2 : ((N : Int) == (M : Int)) = true := by rw [hNM]; simp
          have hNM3 : ((N : Int) != (M : Int)) = false := by rw [bne, hNM2]; rfl
          have HNM := Lib.hid hNM
          clear hNM
          go_wp2_with fail
          go_meet
          exact ⟨by rw [HNM.out], rfl, rfl, rfl, rfl, rfl⟩
        · have hAB := var_apart HA.out HB.out hNM (by omega) (by omega)
          have hNM2 : ((N : Int) == (M : Int)) = false := beq_eq_false_iff_ne.2 (by omega)
          have hNM3 : ((N : Int) != (M : Int)) = true := by rw [bne, hNM2]; rfl
          have hBA := var_pre HA.out HB.out hNM (by omega) (by omega)
          have hBA2 := var_pre HB.out HA.out (fun e => hNM e.symm) (by omega) (by omega)
          clear hNM
          go_wp2_with fail
          all_goals
            go_meet
            exact ⟨rfl, rfl, rfl, rfl, rfl, rfl⟩
      case rest =>
        obtain ⟨rfl, rfl, rfl, rfl, rfl, rfl⟩ := hcut
        have he := own_empty hb
        go_wp2_with (first
          | (at_builtin; refine wp_row rfl (.tmp 70) (.tmp 71) rfl _ _ rfl w he a cap k l (hr.later (hb.alloc hb.size _)) HK.out rfl (by have := HK.out; simp; omega) ?_; intro v1 w1 hown1)
          | (at_builtin; refine wp_row rfl (.tmp 72) (.tmp 73) rfl _ _ rfl w (hown1.alloc _) (some ⟨w1.heap.size, 0, none⟩) 3 3 [9, 9, 9] (row_999 w1) rfl rfl (by have := HK.out; simp; omega) ?_; intro v2 w2 hown2; obtain ⟨a2, c2, rfl, hr2⟩ := hown2.row; obtain ⟨b, off, rfl, hc⟩ := hr2.at (by simp); clear hc; have hk2 : k + 3 ≤ c2 := own_len3 HK.out hr2))
        have hb2 := hown2.below
        clear hown1 hown2 he
        have hl : Row w2 (some ⟨b, off, none⟩) c2 l := by have := hr2.take l.length; simpa using this
        refine (var_any (some ⟨b, off, none⟩) k c2 l N w2 hl HK.out (by omega) n2).mono ?_
        rintro e w3 ⟨v3, rfl, hown3⟩
        have hb3 := hown3.below
        clear hown3
        go_wp2_with fail
        refine (put_any (some ⟨b, off, none⟩) k c2 l 77 8 w3 (hl.later hb3) HK.out (by omega) (by omega)).mono ?_
        rintro e w4 ⟨v4, rfl, hown4⟩
        have hb4 := hb3.trans (hown4.below.mono hb3.size)
        clear hown4
        go_wp2_with fail
        refine (text_any (some ⟨b, off, none⟩) k c2 l _ w4 (hl.later hb4) HK.out (by omega) (by decide)).mono ?_
        rintro e w5 ⟨v5, rfl, hown5⟩
        have hb5 := hb4.trans (hown5.below.mono hb4.size)
        clear hown5 hb4 hb3
        have hdr : Below w5.heap.size w5 w5.drew := (Below.refl _ _).drew
        have hcv1 := conv_row_n (n := k + 3) ((hr2.later hb5).later hdr) (by have := HK.out; simp; omega)
        have hb6 := hb2.trans (hb5.mono hb2.size)
        have hcv2 := conv_row_n (n := k) ((hr.later hb6).later hdr) HK.out
        clear hb5 hb2 hl hr2
        have hs1 : IntKind.i64.wrap ((k : Int) + 3) = (k : Int) + 3 := IntWalk.i64_in _ (by omega)
        have hs2 : (0 : Int) ≤ (k : Int) + 3 := by omega
        have hs3 : ((k : Int) + 3).toNat = k + 3 := by omega
        have hs4 : (k : Int) + 3 ≤ (c2 : Int) := by omega
        have hll : (l.length : Int) ≤ 8388608 := by have := HK.out; omega
        have hlt : (([9, 9, 9] : List UInt8).length : Int) ≤ 8388608 := by decide
        have hcat := fun wx => run_string_add_lists (P := Try.prog) (w := wx) l [9, 9, 9] hll hlt
        go_wp2_with fail
        go_region_with (go_at_call 18; refine (known_any _).mono ?_; rintro e w6 ⟨rfl, hb7⟩)
        all_goals
          go_wp2
          go_ret
          exact ⟨rfl, hb6.trans ((hdr.trans hb7).mono hb6.size)⟩
end Go.Proofs.Ytdijlglbhddcaaa
