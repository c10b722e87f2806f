/- The law BitsNumbers, walked. -/
import Derived.Test.YtdijlglbhddcaaaKnown
import Derived.Test.YtdijlglbhddcaaaFree
namespace Go.Proofs.Ytdijlglbhddcaaa
open Go.RowKit
set_option linter.unusedVariables false

theorem num_at {i d : Nat} (hi : i < 63) (hd : d < 3) : ∃ N : Nat, wrap64 (wrap64 (2 ^ i) + ((d : Int) - 1)) = N ∧ N ≤ 4611686018427387905 := by
  have h1 : 2 ^ i ≤ 2 ^ 62 := Nat.pow_le_pow_right (by decide) (by omega)
  have h2 := Nat.two_pow_pos i
  have h3 : (2 : Nat) ^ 62 = 4611686018427387904 := by decide
  refine ⟨2 ^ i + d - 1, ?_, by omega⟩
  rw [pow_cast]
  unfold wrap64
  omega
theorem neg_in (N : Nat) (h : N ≤ 4611686018427387905) : IntKind.i64.wrap (-(N : Int)) = -(N : Int) := IntWalk.i64_in _ (by omega)
theorem zag_back (n : Int) (h0 : -9223372036854775808 ≤ n) (h1 : n ≤ 9223372036854775807) (w : World) :
    Calls Try.prog 16 #[.int .u64 (zigN n : Nat)] w fun e w' => e = .returned (.int .i64 n) ∧ w = w' := by
  refine (zag_any (zigN n) (zigN_lt h0 h1) w).mono ?_
  rintro e w' ⟨he, hw⟩
  rw [zag_zig] at he
  exact ⟨he, hw⟩
/-- A slice that reads as these bytes. -/
def rV (l : List UInt8) : SV := ⟨fun w v => ∃ b c, v = .slice b l.length c ∧ Row w b c l, fun w w' v ⟨b, c, h, r⟩ hb => ⟨b, c, h, r.later hb⟩⟩
theorem rvar_nV (N : Nat) (w : World) (h : (N : Int) ≤ 9223372036854775807) :
    Calls Try.prog 13 #[.slice none 0 0, .int .i64 N] w fun e w' => ∃ v, e = .returned v ∧ (rV (varL N)).p w' v ∧ Below w.heap.size w w' := by
  refine (rvar_nil N w h).mono ?_
  rintro e w' ⟨a, c, rfl, hr, hb⟩
  rw [Int.toNat_natCast] at hr
  exact ⟨_, rfl, ⟨a, c, rfl, hr⟩, hb⟩

set_option maxRecDepth 100000 in
set_option maxHeartbeats 3200000 in
theorem bitsNumbers_walk (w : World) :
    Calls Try.prog 3 #[] w fun e w' => e = .returned (.bool true) ∧ Below w.heap.size w w' := by
  go_enter Try.func3, Try.ntmps3
  go_wp2_with fail
  go_loop [1] (fun k => ∃ j : Nat, k = .int .i64 ((j : Int) - 1) ∧ j ≤ 67) (fun k => (66 - intOf k).toNat)
  case atStart => exact ⟨0, rfl, by omega⟩
  case round =>
    obtain ⟨j, rfl, hj⟩ := hrel
    by_cases c : j < 67
    · go_wp2_with (first
        | (go_at_call 10; refine (mask_any _ _).mono ?_; rintro e w' ⟨rfl, rfl⟩)
        | (go_at_call 11; refine (rmask_any _ _).mono ?_; rintro e w' ⟨rfl, rfl⟩))
      go_round
      case rel => exact ⟨j + 1, by go_num, by omega⟩
      case measure => simp [intOf]; omega
    · go_wp2_with fail
      go_loopw [2] (fun k wr => ∃ j : Nat, k = .int .i64 j ∧ j ≤ 63 ∧ Below w.heap.size w wr) (fun k _ => (63 - intOf k).toNat)
      case atStart => exact ⟨0, rfl, by omega, Below.refl _ _⟩
      case round =>
        obtain ⟨i, rfl, hi, hb⟩ := hrel
        obtain ⟨wo, hwo⟩ : ∃ wo : World, wo = wr := ⟨_, rfl⟩
        subst hwo
        by_cases c2 : i < 63
        · have hb16 : decide ((i : Int) < 63) = true := by simp; omega
          go_wp2_with fail
          go_loopw [3] (fun d wr => ∃ j : Nat, d = .int .i64 ((j : Int) - 1) ∧ j ≤ 3 ∧ Below w.heap.size w wr) (fun d _ => (2 - intOf d).toNat)
          case atStart => exact ⟨0, rfl, by omega, hb⟩
          case round =>
            obtain ⟨d, rfl, hd, hb2⟩ := hrel
            by_cases c3 : d < 3
            · obtain ⟨N, hN, hN2⟩ := num_at c2 c3
              go_wp2_with fail
              refine (var_nil N _ (by omega)).mono ?_
              rintro e w2 ⟨bb, cc, rfl, hrow, hb3⟩
              rw [Int.toNat_natCast] at hrow ⊢
              have hb3 := hb2.trans (hb3.mono hb2.size)
              obtain ⟨P, hP⟩ : ∃ P, (⟨(varL N).toArray⟩ : ByteArray) = P := ⟨_, rfl⟩
              have HP := Lib.hid hP
              clear hP
              go_wp2_with fail
              clear hN
              -- REG 14
              refine wp_region_tab (L := [cV (.slice bb (varL N).length cc), cV (.string P), cV (.int .i64 N), rV (varL N), cV (.string P), cV (.bool false), cV (.bool false), cV (.int .i64 N), cV (.int .i64 (logI N)), cV (.int .i64 N), cV (.int .i64 (logI N)), cV (.bool false), cV (.bool false), cV (.bool false), cV (.int .i64 N), cV (.int .u64 (zigN N : Nat)), cV (.int .i64 N), cV (.int .i64 N), cV (.bool false), cV (.bool false), cV (.bool false), cV (.int .i64 N), cV (.int .i64 (-(N : Int))), cV (.int .u64 (zigN (-(N : Int)) : Nat)), cV (.int .i64 (-(N : Int))), cV (.int .i64 N), cV (.int .i64 (-(N : Int))), cV (.bool false), cV (.bool false)]) [[(5, none)], [(30, some 0)], [(4, none)], [(32, some 2)], [(33, some 3)], [(31, some 1), (34, some 4)], [(35, some 5)], [(4, none), (36, some 6)], [(37, some 7), (36, some 6)], [(4, none), (36, some 6)], [(39, some 9), (36, some 6)], [(38, some 8), (40, some 10), (36, some 6)], [(36, some 6), (41, some 11)], [(42, some 12)], [(4, none), (43, some 13)], [(44, some 14), (43, some 13)], [(45, some 15), (43, some 13)], [(4, none), (43, some 13)], [(46, some 16), (47, some 17), (43, some 13)], [(43, some 13), (48, some 18)], [(49, some 19)], [(4, none), (50, some 20)], [(51, some 21), (50, some 20)], [(52, some 22), (50, some 20)], [(53, some 23), (50, some 20)], [(4, none), (50, some 20)], [(55, some 25), (50, some 20)], [(54, some 24), (56, some 26), (50, some 20)], [(50, some 20), (57, some 27)]] 29 60 (by kernel_rfl) rfl rfl (by kernel_rfl) (by kernel_rfl) ?_ ?_
              · show ∀ i, i < 29 → _
                iterate 29 (refine fls ?_ ?_)
                · exact fl0
                · intro a w1 hR hsz hs      -- 0: slot 30
                  obtain ⟨h0, _⟩ := hs
                  have h0 : a.tmps.getD 5 undef = .slice bb (varL N).length cc := h0
                  refine op_run rfl rfl (v := .slice bb (varL N).length cc) (w' := w1) ?_ rfl (Below.refl _ _)
                  simp [execOp, Act.eval, h0, go_sem]
                · intro a w1 hR hsz hs      -- 1: slot 31
                  obtain ⟨h0, _⟩ := hs
                  have h0 : a.tmps.getD 30 undef = .slice bb (varL N).length cc := h0
                  have hcv := conv_row (hrow.later hR); rw [HP.out] at hcv
                  refine op_run rfl rfl (v := .string P) (w' := w1) ?_ rfl (Below.refl _ _)
                  simp [execOp, Act.eval, h0, hcv, go_sem]
                · intro a w1 hR hsz hs      -- 2: slot 32
                  obtain ⟨h0, _⟩ := hs
                  have h0 : a.tmps.getD 4 undef = .int .i64 N := h0
                  refine op_run rfl rfl (v := .int .i64 N) (w' := w1) ?_ rfl (Below.refl _ _)
                  simp [execOp, Act.eval, h0, go_sem]
                · intro a w1 hR hsz hs      -- 3: slot 33
                  obtain ⟨h0, _⟩ := hs
                  have h0 : a.tmps.getD 32 undef = .int .i64 N := h0
                  refine op_call rfl rfl (f := 13) (args := #[Value.slice none 0 0, .int .i64 N]) (by simp [execOp, Act.eval, resolve, h0, go_sem]) ?_
                  exact rvar_nV N w1 (by omega)
                · intro a w1 hR hsz hs      -- 4: slot 34
                  obtain ⟨h0, _⟩ := hs
                  obtain ⟨b0, c0, h0, r0⟩ : ∃ b c, a.tmps.getD 33 undef = .slice b ((varL N)).length c ∧ Row w1 b c ((varL N)) := h0
                  have hcv := conv_row r0; rw [HP.out] at hcv
                  refine op_run rfl rfl (v := .string P) (w' := w1) ?_ rfl (Below.refl _ _)
                  simp [execOp, Act.eval, h0, hcv, go_sem]
                · intro a w1 hR hsz hs      -- 5: slot 35
                  obtain ⟨h0, h1, _⟩ := hs
                  have h0 : a.tmps.getD 31 undef = .string P := h0
                  have h1 : a.tmps.getD 34 undef = .string P := h1
                  refine op_run rfl rfl (v := .bool false) (w' := w1) ?_ rfl (Below.refl _ _)
                  simp [execOp, Act.eval, h0, h1, go_sem]
                · intro a w1 hR hsz hs      -- 6: slot 36
                  obtain ⟨h0, _⟩ := hs
                  have h0 : a.tmps.getD 35 undef = .bool false := h0
                  refine op_run rfl rfl (v := .bool false) (w' := w1) ?_ rfl (Below.refl _ _)
                  simp [execOp, Act.eval, h0, go_sem]
                · intro a w1 hR hsz hs      -- 7: slot 37
                  obtain ⟨h0, h1, _⟩ := hs
                  have h0 : a.tmps.getD 4 undef = .int .i64 N := h0
                  have h1 : a.tmps.getD 36 undef = .bool false := h1
                  refine opg_run rfl rfl rfl (by rw [hsz]; decide) h1 (v := .int .i64 N) (w' := w1) ?_ rfl (Below.refl _ _)
                  simp [execOp, Act.eval, h0, go_sem]
                · intro a w1 hR hsz hs      -- 8: slot 38
                  obtain ⟨h0, h1, _⟩ := hs
                  have h0 : a.tmps.getD 37 undef = .int .i64 N := h0
                  have h1 : a.tmps.getD 36 undef = .bool false := h1
                  refine opg_call rfl rfl rfl (by rw [hsz]; decide) h1 (f := 14) (args := #[.int .i64 N]) (by simp [execOp, Act.eval, resolve, h0, go_sem]) ?_
                  exact calls_eq (log_any N (by omega) w1)
                · intro a w1 hR hsz hs      -- 9: slot 39
                  obtain ⟨h0, h1, _⟩ := hs
                  have h0 : a.tmps.getD 4 undef = .int .i64 N := h0
                  have h1 : a.tmps.getD 36 undef = .bool false := h1
                  refine opg_run rfl rfl rfl (by rw [hsz]; decide) h1 (v := .int .i64 N) (w' := w1) ?_ rfl (Below.refl _ _)
                  simp [execOp, Act.eval, h0, go_sem]
                · intro a w1 hR hsz hs      -- 10: slot 40
                  obtain ⟨h0, h1, _⟩ := hs
                  have h0 : a.tmps.getD 39 undef = .int .i64 N := h0
                  have h1 : a.tmps.getD 36 undef = .bool false := h1
                  refine opg_call rfl rfl rfl (by rw [hsz]; decide) h1 (f := 15) (args := #[.int .i64 N]) (by simp [execOp, Act.eval, resolve, h0, go_sem]) ?_
                  exact calls_eq (rlog_any N (by omega) (by omega) w1)
                · intro a w1 hR hsz hs      -- 11: slot 41
                  obtain ⟨h0, h1, h2, _⟩ := hs
                  have h0 : a.tmps.getD 38 undef = .int .i64 (logI N) := h0
                  have h1 : a.tmps.getD 40 undef = .int .i64 (logI N) := h1
                  have h2 : a.tmps.getD 36 undef = .bool false := h2
                  refine opg_run rfl rfl rfl (by rw [hsz]; decide) h2 (v := .bool false) (w' := w1) ?_ rfl (Below.refl _ _)
                  simp [execOp, Act.eval, h0, h1, go_sem]
                · intro a w1 hR hsz hs      -- 12: slot 42
                  obtain ⟨h0, h1, _⟩ := hs
                  have h0 : a.tmps.getD 36 undef = .bool false := h0
                  have h1 : a.tmps.getD 41 undef = .bool false := h1
                  refine op_run rfl rfl (v := .bool false) (w' := w1) ?_ rfl (Below.refl _ _)
                  simp [execOp, Act.eval, h0, h1, go_sem]
                · intro a w1 hR hsz hs      -- 13: slot 43
                  obtain ⟨h0, _⟩ := hs
                  have h0 : a.tmps.getD 42 undef = .bool false := h0
                  refine op_run rfl rfl (v := .bool false) (w' := w1) ?_ rfl (Below.refl _ _)
                  simp [execOp, Act.eval, h0, go_sem]
                · intro a w1 hR hsz hs      -- 14: slot 44
                  obtain ⟨h0, h1, _⟩ := hs
                  have h0 : a.tmps.getD 4 undef = .int .i64 N := h0
                  have h1 : a.tmps.getD 43 undef = .bool false := h1
                  refine opg_run rfl rfl rfl (by rw [hsz]; decide) h1 (v := .int .i64 N) (w' := w1) ?_ rfl (Below.refl _ _)
                  simp [execOp, Act.eval, h0, go_sem]
                · intro a w1 hR hsz hs      -- 15: slot 45
                  obtain ⟨h0, h1, _⟩ := hs
                  have h0 : a.tmps.getD 44 undef = .int .i64 N := h0
                  have h1 : a.tmps.getD 43 undef = .bool false := h1
                  refine opg_call rfl rfl rfl (by rw [hsz]; decide) h1 (f := 17) (args := #[.int .i64 N]) (by simp [execOp, Act.eval, resolve, h0, go_sem]) ?_
                  exact calls_eq (zig_any N (by omega) (by omega) w1)
                · intro a w1 hR hsz hs      -- 16: slot 46
                  obtain ⟨h0, h1, _⟩ := hs
                  have h0 : a.tmps.getD 45 undef = .int .u64 (zigN N : Nat) := h0
                  have h1 : a.tmps.getD 43 undef = .bool false := h1
                  refine opg_call rfl rfl rfl (by rw [hsz]; decide) h1 (f := 16) (args := #[.int .u64 (zigN N : Nat)]) (by simp [execOp, Act.eval, resolve, h0, go_sem]) ?_
                  exact calls_eq (zag_back N (by omega) (by omega) w1)
                · intro a w1 hR hsz hs      -- 17: slot 47
                  obtain ⟨h0, h1, _⟩ := hs
                  have h0 : a.tmps.getD 4 undef = .int .i64 N := h0
                  have h1 : a.tmps.getD 43 undef = .bool false := h1
                  refine opg_run rfl rfl rfl (by rw [hsz]; decide) h1 (v := .int .i64 N) (w' := w1) ?_ rfl (Below.refl _ _)
                  simp [execOp, Act.eval, h0, go_sem]
                · intro a w1 hR hsz hs      -- 18: slot 48
                  obtain ⟨h0, h1, h2, _⟩ := hs
                  have h0 : a.tmps.getD 46 undef = .int .i64 N := h0
                  have h1 : a.tmps.getD 47 undef = .int .i64 N := h1
                  have h2 : a.tmps.getD 43 undef = .bool false := h2
                  refine opg_run rfl rfl rfl (by rw [hsz]; decide) h2 (v := .bool false) (w' := w1) ?_ rfl (Below.refl _ _)
                  simp [execOp, Act.eval, h0, h1, go_sem]
                · intro a w1 hR hsz hs      -- 19: slot 49
                  obtain ⟨h0, h1, _⟩ := hs
                  have h0 : a.tmps.getD 43 undef = .bool false := h0
                  have h1 : a.tmps.getD 48 undef = .bool false := h1
                  refine op_run rfl rfl (v := .bool false) (w' := w1) ?_ rfl (Below.refl _ _)
                  simp [execOp, Act.eval, h0, h1, go_sem]
                · intro a w1 hR hsz hs      -- 20: slot 50
                  obtain ⟨h0, _⟩ := hs
                  have h0 : a.tmps.getD 49 undef = .bool false := h0
                  refine op_run rfl rfl (v := .bool false) (w' := w1) ?_ rfl (Below.refl _ _)
                  simp [execOp, Act.eval, h0, go_sem]
                · intro a w1 hR hsz hs      -- 21: slot 51
                  obtain ⟨h0, h1, _⟩ := hs
                  have h0 : a.tmps.getD 4 undef = .int .i64 N := h0
                  have h1 : a.tmps.getD 50 undef = .bool false := h1
                  refine opg_run rfl rfl rfl (by rw [hsz]; decide) h1 (v := .int .i64 N) (w' := w1) ?_ rfl (Below.refl _ _)
                  simp [execOp, Act.eval, h0, go_sem]
                · intro a w1 hR hsz hs      -- 22: slot 52
                  obtain ⟨h0, h1, _⟩ := hs
                  have h0 : a.tmps.getD 51 undef = .int .i64 N := h0
                  have h1 : a.tmps.getD 50 undef = .bool false := h1
                  have hneg := neg_in N hN2
                  refine opg_run rfl rfl rfl (by rw [hsz]; decide) h1 (v := .int .i64 (-(N : Int))) (w' := w1) ?_ rfl (Below.refl _ _)
                  simp [execOp, Act.eval, h0, hneg, go_sem]
                · intro a w1 hR hsz hs      -- 23: slot 53
                  obtain ⟨h0, h1, _⟩ := hs
                  have h0 : a.tmps.getD 52 undef = .int .i64 (-(N : Int)) := h0
                  have h1 : a.tmps.getD 50 undef = .bool false := h1
                  refine opg_call rfl rfl rfl (by rw [hsz]; decide) h1 (f := 17) (args := #[.int .i64 (-(N : Int))]) (by simp [execOp, Act.eval, resolve, h0, go_sem]) ?_
                  exact calls_eq (zig_any (-(N : Int)) (by omega) (by omega) w1)
                · intro a w1 hR hsz hs      -- 24: slot 54
                  obtain ⟨h0, h1, _⟩ := hs
                  have h0 : a.tmps.getD 53 undef = .int .u64 (zigN (-(N : Int)) : Nat) := h0
                  have h1 : a.tmps.getD 50 undef = .bool false := h1
                  refine opg_call rfl rfl rfl (by rw [hsz]; decide) h1 (f := 16) (args := #[.int .u64 (zigN (-(N : Int)) : Nat)]) (by simp [execOp, Act.eval, resolve, h0, go_sem]) ?_
                  exact calls_eq (zag_back (-(N : Int)) (by omega) (by omega) w1)
                · intro a w1 hR hsz hs      -- 25: slot 55
                  obtain ⟨h0, h1, _⟩ := hs
                  have h0 : a.tmps.getD 4 undef = .int .i64 N := h0
                  have h1 : a.tmps.getD 50 undef = .bool false := h1
                  refine opg_run rfl rfl rfl (by rw [hsz]; decide) h1 (v := .int .i64 N) (w' := w1) ?_ rfl (Below.refl _ _)
                  simp [execOp, Act.eval, h0, go_sem]
                · intro a w1 hR hsz hs      -- 26: slot 56
                  obtain ⟨h0, h1, _⟩ := hs
                  have h0 : a.tmps.getD 55 undef = .int .i64 N := h0
                  have h1 : a.tmps.getD 50 undef = .bool false := h1
                  have hneg := neg_in N hN2
                  refine opg_run rfl rfl rfl (by rw [hsz]; decide) h1 (v := .int .i64 (-(N : Int))) (w' := w1) ?_ rfl (Below.refl _ _)
                  simp [execOp, Act.eval, h0, hneg, go_sem]
                · intro a w1 hR hsz hs      -- 27: slot 57
                  obtain ⟨h0, h1, h2, _⟩ := hs
                  have h0 : a.tmps.getD 54 undef = .int .i64 (-(N : Int)) := h0
                  have h1 : a.tmps.getD 56 undef = .int .i64 (-(N : Int)) := h1
                  have h2 : a.tmps.getD 50 undef = .bool false := h2
                  refine opg_run rfl rfl rfl (by rw [hsz]; decide) h2 (v := .bool false) (w' := w1) ?_ rfl (Below.refl _ _)
                  simp [execOp, Act.eval, h0, h1, go_sem]
                · intro a w1 hR hsz hs      -- 28: slot 58
                  obtain ⟨h0, h1, _⟩ := hs
                  have h0 : a.tmps.getD 50 undef = .bool false := h0
                  have h1 : a.tmps.getD 57 undef = .bool false := h1
                  refine op_run rfl rfl (v := .bool false) (w' := w1) ?_ rfl (Below.refl _ _)
                  simp [execOp, Act.eval, h0, h1, go_sem]
              · intro f w1 hR hv
                have e28 : f 58 = .bool false := hv 28 _ 58 rfl rfl
                clear hv
                simp only [Exit.then]
                simp only [putAll, List.foldl_cons, List.foldl_nil, Option.getD_some, Act.put, List.setIfInBounds_toArray, List.set_cons_succ, List.set_cons_zero, e28]
                go_wp2_with fail
                go_roundw
                case rel => exact ⟨d + 1, by go_num, by omega, hb3.trans (hR.mono hb3.size)⟩
                case measure => simp [intOf]; omega
              -- END 14
            · go_wp2_with fail
              go_roundw
              case rel => exact ⟨i + 1, by go_num, by omega, hb2⟩
              case measure => simp [intOf]; omega
        · go_wp2_with fail
          refine (known_any _).mono ?_
          rintro e w2 ⟨rfl, hb2⟩
          go_wp2
          go_ret
          exact ⟨rfl, hb.trans (hb2.mono hb.size)⟩
end Go.Proofs.Ytdijlglbhddcaaa
