/- Records of an image: their bytes. -/
import Derived.Test.YtfjplhjlmilcfaaHdD
import Derived.Test.YtfjplhjlmilcfaaMkG
import Derived.Test.YtfjplhjlmilcfaaCrc
namespace Go.Proofs.Ytfjplhjlmilcfaa
open Go.RowKit Go.Proofs
set_option linter.unusedVariables false
set_option linter.unusedSimpArgs false
set_option linter.unnecessarySimpa false

theorem own_nilU {w w1 : World} (hb : Below w.heap.size w w1) : Own w w1 (.slice none 0 0) [] := ⟨World.ownsRow_nil _ _ _ _, hb⟩
/-- The first j of numbers, in bytes. -/
def pre7 (l : List Int) (j : Nat) : List UInt8 := (l.take j).flatMap fun x => varL x.toNat
theorem pre7_succ {l : List Int} {j : Nat} {x : Int} (h : l[j]? = some x) : pre7 l j ++ varL x.toNat = pre7 l (j + 1) := by
  obtain ⟨hh, rfl⟩ := List.getElem?_eq_some_iff.1 h
  unfold pre7
  rw [List.take_succ_eq_append_getElem hh, List.flatMap_append]
  simp
theorem pre7_le (l : List Int) (j : Nat) : (pre7 l j).length ≤ (pre7 l l.length).length := by
  unfold pre7
  rw [List.take_length]
  conv => rhs; rw [← List.take_append_drop j l, List.flatMap_append, List.length_append]
  omega
theorem run_ix7 (W : World) (a b c d e f g : Int) (k : Nat) (v : Int) (h : [a, b, c, d, e, f, g][k]? = some v) : (Instr.index 56 (.agg #[.int .i64 a, .int .i64 b, .int .i64 c, .int .i64 d, .int .i64 e, .int .i64 f, .int .i64 g]) (.int .i64 (k : Nat))).run Try.prog W = .ok (.int .i64 v) W := by
  have u3 := Try.underlying3
  have a3 := Try.isAgg3
  have z3 := Try.sizeOf3
  match k, h with
  | 0, h => simp at h; subst h; simp [Instr.index, asIntOf, run_underlying Try.underlying56, go_sem, a3, z3]
  | 1, h => simp at h; subst h; simp [Instr.index, asIntOf, run_underlying Try.underlying56, go_sem, a3, z3]
  | 2, h => simp at h; subst h; simp [Instr.index, asIntOf, run_underlying Try.underlying56, go_sem, a3, z3]
  | 3, h => simp at h; subst h; simp [Instr.index, asIntOf, run_underlying Try.underlying56, go_sem, a3, z3]
  | 4, h => simp at h; subst h; simp [Instr.index, asIntOf, run_underlying Try.underlying56, go_sem, a3, z3]
  | 5, h => simp at h; subst h; simp [Instr.index, asIntOf, run_underlying Try.underlying56, go_sem, a3, z3]
  | 6, h => simp at h; subst h; simp [Instr.index, asIntOf, run_underlying Try.underlying56, go_sem, a3, z3]
  | k + 7, h => simp at h
set_option maxRecDepth 100000 in
set_option maxHeartbeats 6400000 in
theorem rputH_any (h : Hd) (ad : Option Addr) (n c : Nat) (w : World) (hr : MRow w ad c h.marks) (hn : h.marks.length = n) :
    Calls Try.prog 11 #[hdA h ad n c] w fun e w' => ∃ v, e = .returned (.tuple #[v, .int .i64 (putHd h).2]) ∧ Own w w' v (putHd h).1 := by
  obtain ⟨hs, ho, hu, hc, hx, hq, ts⟩ := h
  simp only at hr hn
  obtain ⟨R, hR⟩ : ∃ R, putHd ⟨hs, ho, hu, hc, hx, hq, ts⟩ = R := ⟨_, rfl⟩
  rw [hR]
  have HRR := Lib.hid hR
  clear hR
  have HK := Lib.hid fun W (hW : Below w.heap.size w W) => rright_any ⟨hs, ho, hu, hc, hx, hq, ts⟩ ad n c W (hr.later hW) hn
  have HR := Lib.hid hr
  have HN := Lib.hid hn
  have hc1 := hr.1
  rw [hn] at hc1
  have hcm : c ≤ 9223372036854775807 := by have := hr.2.1; unfold maxLen at this; omega
  have hba : Below w.heap.size w (w.alloc (.cells #[.int .i64 hs, .int .i64 ho, .int .i64 hu, .int .i64 hc, .int .i64 hx, .int .i64 hq, .slice ad n c] 26)) := (Below.refl _ _).alloc (Nat.le_refl _) _
  have HB0 := Lib.hid hba
  have HX0 := Lib.hid (RecAt.new w #[.int .i64 hs, .int .i64 ho, .int .i64 hu, .int .i64 hc, .int .i64 hx, .int .i64 hq, .slice ad n c] 26)
  clear hr hn hba
  go_enter Try.func11, Try.ntmps11
  go_upto_region 1 with fail
  generalize (w.alloc (.cells #[.int .i64 hs, .int .i64 ho, .int .i64 hu, .int .i64 hc, .int .i64 hx, .int .i64 hq, .slice ad n c] 26)) = w1 at *
  obtain ⟨P, hP⟩ : ∃ P, w.heap.size = P := ⟨_, rfl⟩
  have HP := Lib.hid hP
  rw [hP]
  rw [hP] at HX0
  clear hP
  obtain ⟨y0, y1, y2, y3, y4, y5, y6⟩ := HX0.out.c7
  cases hx0 : rightH ⟨hs, ho, hu, hc, hx, hq, ts⟩ with
  | false =>
    rw [hx0] at HK
    have hR := HRR.out
    clear HRR
    rw [putHd_no hx0] at hR
    subst hR
    clear hx0
    go_wp2_with fail
    refine (HK.out w1 HB0.out).mono ?_
    rintro e w2 ⟨rfl, hb2⟩
    have HB2 := Lib.hid (HB0.out.trans (hb2.mono HB0.out.size))
    clear hb2
    go_wp2_with fail
    go_ret2
    exact ⟨_, rfl, own_nilU HB2.out⟩
  | true =>
    rw [hx0] at HK
    have hR := HRR.out
    clear HRR
    rw [putHd_yes hx0] at hR
    subst hR
    have HX4 := Lib.hid (rightH_iff.1 hx0)
    have HLB := Lib.hid (bodyH_len HX4.out)
    have HNL := Lib.hid (numsH_len HX4.out.1)
    have hn17 : n ≤ 17 := by have h2 := HX4.out.2.1; simp only at h2; rw [HN.out] at h2; exact h2
    obtain ⟨k1, k2, ⟨k3, k4, k5, k6, k7, k8⟩, k9, k10, k11, k12⟩ := HX4.out.1
    simp only at k1 k2 k3 k4 k5 k6 k7 k8 k9 k10 k11 k12
    clear hx0
    go_upto_region 3 with (go_at_call 18; refine (HK.out w1 HB0.out).mono ?_; rintro e wx ⟨rfl, hb2⟩; have HW := Lib.hid (HB0.out.trans (hb2.mono HB0.out.size)); have HXw := Lib.hid (HX0.out.later hb2); clear hb2)
    clear y0 y1 y2 y3 y4 y5 y6 HK HB0
    obtain ⟨E1, hE1⟩ : ∃ D, [] ++ varL hs.toNat = D := ⟨_, rfl⟩
    obtain ⟨E2, hE2⟩ : ∃ D, E1 ++ varL ho.toNat = D := ⟨_, rfl⟩
    obtain ⟨E3, hE3⟩ : ∃ D, E2 ++ varL hu.toNat = D := ⟨_, rfl⟩
    obtain ⟨E4, hE4⟩ : ∃ D, E3 ++ varL hc.toNat = D := ⟨_, rfl⟩
    obtain ⟨E5, hE5⟩ : ∃ D, E4 ++ varL hx.toNat = D := ⟨_, rfl⟩
    obtain ⟨E6, hE6⟩ : ∃ D, E5 ++ varL hq.toNat = D := ⟨_, rfl⟩
    obtain ⟨N1, hN1⟩ : ∃ N, E1.length = N := ⟨_, rfl⟩
    obtain ⟨N2, hN2⟩ : ∃ N, E2.length = N := ⟨_, rfl⟩
    obtain ⟨N3, hN3⟩ : ∃ N, E3.length = N := ⟨_, rfl⟩
    obtain ⟨N4, hN4⟩ : ∃ N, E4.length = N := ⟨_, rfl⟩
    obtain ⟨N5, hN5⟩ : ∃ N, E5.length = N := ⟨_, rfl⟩
    obtain ⟨N6, hN6⟩ : ∃ N, E6.length = N := ⟨_, rfl⟩
    have HDD : Hid (E6 = numsH ⟨hs, ho, hu, hc, hx, hq, ts⟩) := Lib.hid (by rw [← hE6, ← hE5, ← hE4, ← hE3, ← hE2, ← hE1]; unfold numsH; simp only [List.append_assoc, List.nil_append])
    have hl6 := HNL.out
    rw [← HDD.out, hN6] at hl6
    have hl5 : N5 ≤ 16 := by rw [← hE6, List.length_append] at hN6; omega
    have hl4 : N4 ≤ 16 := by rw [← hE5, List.length_append] at hN5; omega
    have hl3 : N3 ≤ 16 := by rw [← hE4, List.length_append] at hN4; omega
    have hl2 : N2 ≤ 16 := by rw [← hE3, List.length_append] at hN3; omega
    have hl1 : N1 ≤ 16 := by rw [← hE2, List.length_append] at hN2; omega
    have HE1 := Lib.hid hE1
    have HE2 := Lib.hid hE2
    have HE3 := Lib.hid hE3
    have HE4 := Lib.hid hE4
    have HE5 := Lib.hid hE5
    have HE6 := Lib.hid hE6
    have HN1 := Lib.hid hN1
    have HN2 := Lib.hid hN2
    have HN3 := Lib.hid hN3
    have HN4 := Lib.hid hN4
    have HN5 := Lib.hid hN5
    have HN6 := Lib.hid hN6
    clear hE1 hE2 hE3 hE4 hE5 hE6 hN1 hN2 hN3 hN4 hN5 hN6
    -- REG A
    refine wp_region_ptab (L := fun ph => match ph with | _ => [cV (.pointer (some ⟨P, 0, none⟩)), cV (.int .i64 hs), oV w E1, cV (.pointer (some ⟨P, 1, none⟩)), cV (.pointer (some ⟨P, 1, none⟩)), cV (.int .i64 ho), oV w E2, cV (.pointer (some ⟨P, 1, none⟩)), cV (.pointer (some ⟨P, 2, none⟩)), cV (.int .i64 hu), oV w E3, cV (.pointer (some ⟨P, 1, none⟩)), cV (.pointer (some ⟨P, 3, none⟩)), cV (.int .i64 hc), oV w E4, cV (.pointer (some ⟨P, 4, none⟩)), cV (.int .i64 hx), oV w E5, cV (.pointer (some ⟨P, 5, none⟩)), cV (.int .i64 hq), oV w E6, oV w E6]) (fun _ wq => Below wx.heap.size wx wq) [] [(0, 0), (0, 0), (0, 0), (0, 0), (0, 0), (0, 0), (0, 0), (0, 0), (0, 0), (0, 0), (0, 0), (0, 0), (0, 0), (0, 0), (0, 0), (0, 0), (0, 0), (0, 0), (0, 0), (0, 0), (0, 0), (0, 0)] [[(1, none)], [(8, some 0)], [(9, some 1)], [(1, none)], [(11, some 3)], [(12, some 4)], [(10, some 2), (13, some 5)], [(1, none)], [(15, some 7)], [(16, some 8)], [(14, some 6), (17, some 9)], [(1, none)], [(19, some 11)], [(20, some 12)], [(18, some 10), (21, some 13)], [(1, none)], [(23, some 15)], [(22, some 14), (24, some 16)], [(1, none)], [(26, some 18)], [(25, some 17), (27, some 19)], [(28, some 20)]] 22 0 34 (by kernel_rfl) rfl rfl rfl (by kernel_rfl) (by kernel_rfl) (by decide) (by kernel_rfl) ?_ ?_ ?_ ?_ ?_
    · exact fun ph w1 w2 h hb => h.trans (hb.mono h.size)
    · exact Below.refl _ _
    · show ∀ i, i < 22 → _
      iterate 22 (refine fls ?_ ?_)
      · exact fl0
      · intro hne lo hi ph hran hp1 hp2 a w1 hJ hsz hs      -- 0: slot 8
        obtain ⟨rfl, rfl⟩ : 0 = lo ∧ 0 = hi := Prod.mk.inj (Option.some.inj hran)
        obtain rfl : ph = 0 := by omega
        obtain ⟨h0, _⟩ := hs
        have h0 : a.tmps.getD 1 undef = .pointer (some ⟨P, 0, none⟩) := h0
        refine op_run rfl rfl (v := .pointer (some ⟨P, 0, none⟩)) (w' := w1) ?_ rfl (Below.refl _ _)
        simp [execOp, Act.eval, h0, go_sem]
      · intro hne lo hi ph hran hp1 hp2 a w1 hJ hsz hs      -- 1: slot 9
        obtain ⟨rfl, rfl⟩ : 0 = lo ∧ 0 = hi := Prod.mk.inj (Option.some.inj hran)
        obtain rfl : ph = 0 := by omega
        obtain ⟨h0, _⟩ := hs
        have h0 : a.tmps.getD 8 undef = .pointer (some ⟨P, 0, none⟩) := h0
        obtain ⟨k0, k1, k2, k3, k4, k5, k6⟩ := (HXw.out.later hJ).c7
        refine op_run rfl rfl (v := .int .i64 hs) (w' := w1) ?_ rfl (Below.refl _ _)
        simp [execOp, Act.eval, h0, k0, go_sem]
      · intro hne lo hi ph hran hp1 hp2 a w1 hJ hsz hs      -- 2: slot 10
        obtain ⟨rfl, rfl⟩ : 0 = lo ∧ 0 = hi := Prod.mk.inj (Option.some.inj hran)
        obtain rfl : ph = 0 := by omega
        obtain ⟨h0, _⟩ := hs
        have h0 : a.tmps.getD 9 undef = .int .i64 hs := h0
        refine op_call rfl rfl (f := 31) (args := #[Value.slice none 0 0, .int .i64 hs]) (by simp [execOp, Act.eval, resolve, h0, go_sem]) ?_
        exact ov_of (rvar_any none 0 0 [] hs w1 (Row.none w1) rfl (by omega) (by omega)) (HW.out.trans (hJ.mono HW.out.size)) HE1.out
      · intro hne lo hi ph hran hp1 hp2 a w1 hJ hsz hs      -- 3: slot 11
        obtain ⟨rfl, rfl⟩ : 0 = lo ∧ 0 = hi := Prod.mk.inj (Option.some.inj hran)
        obtain rfl : ph = 0 := by omega
        obtain ⟨h0, _⟩ := hs
        have h0 : a.tmps.getD 1 undef = .pointer (some ⟨P, 0, none⟩) := h0
        refine op_run rfl rfl (v := .pointer (some ⟨P, 1, none⟩)) (w' := w1) ?_ rfl (Below.refl _ _)
        simp [execOp, Act.eval, h0, go_sem]
      · intro hne lo hi ph hran hp1 hp2 a w1 hJ hsz hs      -- 4: slot 12
        obtain ⟨rfl, rfl⟩ : 0 = lo ∧ 0 = hi := Prod.mk.inj (Option.some.inj hran)
        obtain rfl : ph = 0 := by omega
        obtain ⟨h0, _⟩ := hs
        have h0 : a.tmps.getD 11 undef = .pointer (some ⟨P, 1, none⟩) := h0
        refine op_run rfl rfl (v := .pointer (some ⟨P, 1, none⟩)) (w' := w1) ?_ rfl (Below.refl _ _)
        simp [execOp, Act.eval, h0, go_sem]
      · intro hne lo hi ph hran hp1 hp2 a w1 hJ hsz hs      -- 5: slot 13
        obtain ⟨rfl, rfl⟩ : 0 = lo ∧ 0 = hi := Prod.mk.inj (Option.some.inj hran)
        obtain rfl : ph = 0 := by omega
        obtain ⟨h0, _⟩ := hs
        have h0 : a.tmps.getD 12 undef = .pointer (some ⟨P, 1, none⟩) := h0
        obtain ⟨k0, k1, k2, k3, k4, k5, k6⟩ := (HXw.out.later hJ).c7
        refine op_run rfl rfl (v := .int .i64 ho) (w' := w1) ?_ rfl (Below.refl _ _)
        simp [execOp, Act.eval, h0, k1, go_sem]
      · intro hne lo hi ph hran hp1 hp2 a w1 hJ hsz hs      -- 6: slot 14
        obtain ⟨rfl, rfl⟩ : 0 = lo ∧ 0 = hi := Prod.mk.inj (Option.some.inj hran)
        obtain rfl : ph = 0 := by omega
        obtain ⟨h0, h1, _⟩ := hs
        have m0 : (oV w E1).p w1 (a.tmps.getD 10 undef) := h0; obtain ⟨a0, p0, h0, r0⟩ := ov_row (n := N1) m0 HN1.out
        have h1 : a.tmps.getD 13 undef = .int .i64 ho := h1
        refine op_call rfl rfl (f := 31) (args := #[.slice a0 N1 p0, .int .i64 ho]) (by simp [execOp, Act.eval, resolve, h0, h1, go_sem]) ?_
        exact ov_of (rvar_any a0 N1 p0 E1 ho w1 r0 HN1.out (by omega) (by omega)) (HW.out.trans (hJ.mono HW.out.size)) HE2.out
      · intro hne lo hi ph hran hp1 hp2 a w1 hJ hsz hs      -- 7: slot 15
        obtain ⟨rfl, rfl⟩ : 0 = lo ∧ 0 = hi := Prod.mk.inj (Option.some.inj hran)
        obtain rfl : ph = 0 := by omega
        obtain ⟨h0, _⟩ := hs
        have h0 : a.tmps.getD 1 undef = .pointer (some ⟨P, 0, none⟩) := h0
        refine op_run rfl rfl (v := .pointer (some ⟨P, 1, none⟩)) (w' := w1) ?_ rfl (Below.refl _ _)
        simp [execOp, Act.eval, h0, go_sem]
      · intro hne lo hi ph hran hp1 hp2 a w1 hJ hsz hs      -- 8: slot 16
        obtain ⟨rfl, rfl⟩ : 0 = lo ∧ 0 = hi := Prod.mk.inj (Option.some.inj hran)
        obtain rfl : ph = 0 := by omega
        obtain ⟨h0, _⟩ := hs
        have h0 : a.tmps.getD 15 undef = .pointer (some ⟨P, 1, none⟩) := h0
        refine op_run rfl rfl (v := .pointer (some ⟨P, 2, none⟩)) (w' := w1) ?_ rfl (Below.refl _ _)
        simp [execOp, Act.eval, h0, go_sem]
      · intro hne lo hi ph hran hp1 hp2 a w1 hJ hsz hs      -- 9: slot 17
        obtain ⟨rfl, rfl⟩ : 0 = lo ∧ 0 = hi := Prod.mk.inj (Option.some.inj hran)
        obtain rfl : ph = 0 := by omega
        obtain ⟨h0, _⟩ := hs
        have h0 : a.tmps.getD 16 undef = .pointer (some ⟨P, 2, none⟩) := h0
        obtain ⟨k0, k1, k2, k3, k4, k5, k6⟩ := (HXw.out.later hJ).c7
        refine op_run rfl rfl (v := .int .i64 hu) (w' := w1) ?_ rfl (Below.refl _ _)
        simp [execOp, Act.eval, h0, k2, go_sem]
      · intro hne lo hi ph hran hp1 hp2 a w1 hJ hsz hs      -- 10: slot 18
        obtain ⟨rfl, rfl⟩ : 0 = lo ∧ 0 = hi := Prod.mk.inj (Option.some.inj hran)
        obtain rfl : ph = 0 := by omega
        obtain ⟨h0, h1, _⟩ := hs
        have m0 : (oV w E2).p w1 (a.tmps.getD 14 undef) := h0; obtain ⟨a0, p0, h0, r0⟩ := ov_row (n := N2) m0 HN2.out
        have h1 : a.tmps.getD 17 undef = .int .i64 hu := h1
        refine op_call rfl rfl (f := 31) (args := #[.slice a0 N2 p0, .int .i64 hu]) (by simp [execOp, Act.eval, resolve, h0, h1, go_sem]) ?_
        exact ov_of (rvar_any a0 N2 p0 E2 hu w1 r0 HN2.out (by omega) (by omega)) (HW.out.trans (hJ.mono HW.out.size)) HE3.out
      · intro hne lo hi ph hran hp1 hp2 a w1 hJ hsz hs      -- 11: slot 19
        obtain ⟨rfl, rfl⟩ : 0 = lo ∧ 0 = hi := Prod.mk.inj (Option.some.inj hran)
        obtain rfl : ph = 0 := by omega
        obtain ⟨h0, _⟩ := hs
        have h0 : a.tmps.getD 1 undef = .pointer (some ⟨P, 0, none⟩) := h0
        refine op_run rfl rfl (v := .pointer (some ⟨P, 1, none⟩)) (w' := w1) ?_ rfl (Below.refl _ _)
        simp [execOp, Act.eval, h0, go_sem]
      · intro hne lo hi ph hran hp1 hp2 a w1 hJ hsz hs      -- 12: slot 20
        obtain ⟨rfl, rfl⟩ : 0 = lo ∧ 0 = hi := Prod.mk.inj (Option.some.inj hran)
        obtain rfl : ph = 0 := by omega
        obtain ⟨h0, _⟩ := hs
        have h0 : a.tmps.getD 19 undef = .pointer (some ⟨P, 1, none⟩) := h0
        refine op_run rfl rfl (v := .pointer (some ⟨P, 3, none⟩)) (w' := w1) ?_ rfl (Below.refl _ _)
        simp [execOp, Act.eval, h0, go_sem]
      · intro hne lo hi ph hran hp1 hp2 a w1 hJ hsz hs      -- 13: slot 21
        obtain ⟨rfl, rfl⟩ : 0 = lo ∧ 0 = hi := Prod.mk.inj (Option.some.inj hran)
        obtain rfl : ph = 0 := by omega
        obtain ⟨h0, _⟩ := hs
        have h0 : a.tmps.getD 20 undef = .pointer (some ⟨P, 3, none⟩) := h0
        obtain ⟨k0, k1, k2, k3, k4, k5, k6⟩ := (HXw.out.later hJ).c7
        refine op_run rfl rfl (v := .int .i64 hc) (w' := w1) ?_ rfl (Below.refl _ _)
        simp [execOp, Act.eval, h0, k3, go_sem]
      · intro hne lo hi ph hran hp1 hp2 a w1 hJ hsz hs      -- 14: slot 22
        obtain ⟨rfl, rfl⟩ : 0 = lo ∧ 0 = hi := Prod.mk.inj (Option.some.inj hran)
        obtain rfl : ph = 0 := by omega
        obtain ⟨h0, h1, _⟩ := hs
        have m0 : (oV w E3).p w1 (a.tmps.getD 18 undef) := h0; obtain ⟨a0, p0, h0, r0⟩ := ov_row (n := N3) m0 HN3.out
        have h1 : a.tmps.getD 21 undef = .int .i64 hc := h1
        refine op_call rfl rfl (f := 31) (args := #[.slice a0 N3 p0, .int .i64 hc]) (by simp [execOp, Act.eval, resolve, h0, h1, go_sem]) ?_
        exact ov_of (rvar_any a0 N3 p0 E3 hc w1 r0 HN3.out (by omega) (by omega)) (HW.out.trans (hJ.mono HW.out.size)) HE4.out
      · intro hne lo hi ph hran hp1 hp2 a w1 hJ hsz hs      -- 15: slot 23
        obtain ⟨rfl, rfl⟩ : 0 = lo ∧ 0 = hi := Prod.mk.inj (Option.some.inj hran)
        obtain rfl : ph = 0 := by omega
        obtain ⟨h0, _⟩ := hs
        have h0 : a.tmps.getD 1 undef = .pointer (some ⟨P, 0, none⟩) := h0
        refine op_run rfl rfl (v := .pointer (some ⟨P, 4, none⟩)) (w' := w1) ?_ rfl (Below.refl _ _)
        simp [execOp, Act.eval, h0, go_sem]
      · intro hne lo hi ph hran hp1 hp2 a w1 hJ hsz hs      -- 16: slot 24
        obtain ⟨rfl, rfl⟩ : 0 = lo ∧ 0 = hi := Prod.mk.inj (Option.some.inj hran)
        obtain rfl : ph = 0 := by omega
        obtain ⟨h0, _⟩ := hs
        have h0 : a.tmps.getD 23 undef = .pointer (some ⟨P, 4, none⟩) := h0
        obtain ⟨k0, k1, k2, k3, k4, k5, k6⟩ := (HXw.out.later hJ).c7
        refine op_run rfl rfl (v := .int .i64 hx) (w' := w1) ?_ rfl (Below.refl _ _)
        simp [execOp, Act.eval, h0, k4, go_sem]
      · intro hne lo hi ph hran hp1 hp2 a w1 hJ hsz hs      -- 17: slot 25
        obtain ⟨rfl, rfl⟩ : 0 = lo ∧ 0 = hi := Prod.mk.inj (Option.some.inj hran)
        obtain rfl : ph = 0 := by omega
        obtain ⟨h0, h1, _⟩ := hs
        have m0 : (oV w E4).p w1 (a.tmps.getD 22 undef) := h0; obtain ⟨a0, p0, h0, r0⟩ := ov_row (n := N4) m0 HN4.out
        have h1 : a.tmps.getD 24 undef = .int .i64 hx := h1
        refine op_call rfl rfl (f := 31) (args := #[.slice a0 N4 p0, .int .i64 hx]) (by simp [execOp, Act.eval, resolve, h0, h1, go_sem]) ?_
        exact ov_of (rvar_any a0 N4 p0 E4 hx w1 r0 HN4.out (by omega) (by omega)) (HW.out.trans (hJ.mono HW.out.size)) HE5.out
      · intro hne lo hi ph hran hp1 hp2 a w1 hJ hsz hs      -- 18: slot 26
        obtain ⟨rfl, rfl⟩ : 0 = lo ∧ 0 = hi := Prod.mk.inj (Option.some.inj hran)
        obtain rfl : ph = 0 := by omega
        obtain ⟨h0, _⟩ := hs
        have h0 : a.tmps.getD 1 undef = .pointer (some ⟨P, 0, none⟩) := h0
        refine op_run rfl rfl (v := .pointer (some ⟨P, 5, none⟩)) (w' := w1) ?_ rfl (Below.refl _ _)
        simp [execOp, Act.eval, h0, go_sem]
      · intro hne lo hi ph hran hp1 hp2 a w1 hJ hsz hs      -- 19: slot 27
        obtain ⟨rfl, rfl⟩ : 0 = lo ∧ 0 = hi := Prod.mk.inj (Option.some.inj hran)
        obtain rfl : ph = 0 := by omega
        obtain ⟨h0, _⟩ := hs
        have h0 : a.tmps.getD 26 undef = .pointer (some ⟨P, 5, none⟩) := h0
        obtain ⟨k0, k1, k2, k3, k4, k5, k6⟩ := (HXw.out.later hJ).c7
        refine op_run rfl rfl (v := .int .i64 hq) (w' := w1) ?_ rfl (Below.refl _ _)
        simp [execOp, Act.eval, h0, k5, go_sem]
      · intro hne lo hi ph hran hp1 hp2 a w1 hJ hsz hs      -- 20: slot 28
        obtain ⟨rfl, rfl⟩ : 0 = lo ∧ 0 = hi := Prod.mk.inj (Option.some.inj hran)
        obtain rfl : ph = 0 := by omega
        obtain ⟨h0, h1, _⟩ := hs
        have m0 : (oV w E5).p w1 (a.tmps.getD 25 undef) := h0; obtain ⟨a0, p0, h0, r0⟩ := ov_row (n := N5) m0 HN5.out
        have h1 : a.tmps.getD 27 undef = .int .i64 hq := h1
        refine op_call rfl rfl (f := 31) (args := #[.slice a0 N5 p0, .int .i64 hq]) (by simp [execOp, Act.eval, resolve, h0, h1, go_sem]) ?_
        exact ov_of (rvar_any a0 N5 p0 E5 hq w1 r0 HN5.out (by omega) (by omega)) (HW.out.trans (hJ.mono HW.out.size)) HE6.out
      · intro hne lo hi ph hran hp1 hp2 a w1 hJ hsz hs      -- 21: slot 4
        obtain ⟨rfl, rfl⟩ : 0 = lo ∧ 0 = hi := Prod.mk.inj (Option.some.inj hran)
        obtain rfl : ph = 0 := by omega
        obtain ⟨h0, _⟩ := hs
        have m0 : (oV w E6).p w1 (a.tmps.getD 28 undef) := h0
        exact op_run rfl rfl (v := a.tmps.getD 28 undef) (w' := w1) (by simp [execOp, Act.eval, go_sem]) m0 (Below.refl _ _)
    · show ∀ ph, ph < 0 → _
      iterate 0 (refine fls ?_ ?_)
      · exact fl0
    intro f w1 hJ hv
    have e4 : (oV w E6).p w1 (f 4) := hv 21 _ 4 rfl rfl
    clear hv
    try simp only [Exit.then]
    simp only [putAll, List.foldl_cons, List.foldl_nil, Option.getD_some, Act.put, List.setIfInBounds_toArray, List.set_cons_succ, List.set_cons_zero]
    generalize f 4 = v5 at e4 ⊢
    have o6 : Own w w1 v5 E6 := e4
    clear e4
    -- END A
    have HXy := Lib.hid (HXw.out.later hJ)
    obtain ⟨y0, y1, y2, y3, y4, y5, y6⟩ := HXy.out.c7
    obtain ⟨a5, c5, rfl, r5⟩ := o6.row_n HN6.out
    have HBW := Lib.hid o6.below
    have HPM := Lib.hid (rputMarks_any a5 N6 c5 E6 ad n c ts w1 r5 HN6.out (HR.out.later o6.below) HN.out (by have h1 := HLB.out; unfold bodyH at h1; rw [← HDD.out] at h1; exact Nat.le_trans h1 (by decide)))
    have HBD : Hid (E6 ++ marksL ts = bodyH ⟨hs, ho, hu, hc, hx, hq, ts⟩) := Lib.hid (by rw [HDD.out]; rfl)
    rw [HBD.out] at HPM
    clear o6 r5 hJ
    go_wp2_with fail
    refine HPM.out.mono ?_
    rintro e w2 ⟨v6, rfl, o7⟩
    obtain ⟨m, hm⟩ : ∃ m, (bodyH ⟨hs, ho, hu, hc, hx, hq, ts⟩).length = m := ⟨_, rfl⟩
    obtain ⟨a7, c7, rfl, r7⟩ := o7.row_n hm
    have HB2 := Lib.hid (HBW.out.trans (o7.below.mono HBW.out.size))
    have HSL := Lib.hid (rseal_any a7 m c7 _ w2 r7 hm (by have := HLB.out; omega))
    clear o7 r7 hm
    go_wp2_with fail
    refine HSL.out.mono ?_
    rintro e w3 ⟨v8, rfl, o8⟩
    have HO8 := Lib.hid (o8.back HB2.out)
    clear o8
    go_wp2_with fail
    go_ret2
    exact ⟨_, rfl, HO8.out⟩
end Go.Proofs.Ytfjplhjlmilcfaa
