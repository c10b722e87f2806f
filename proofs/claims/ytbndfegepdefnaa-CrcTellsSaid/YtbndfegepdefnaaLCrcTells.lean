/- The law CrcTells, walked. -/
import Derived.Test.YtbndfegepdefnaaCrcKnown
import Derived.BigRegion
import Derived.Test.YtbndfegepdefnaaFree
import Derived.Test.YtbndfegepdefnaaRv
namespace Go.Proofs.Ytbndfegepdefnaa
open Go.RowKit
set_option linter.unusedVariables false

theorem seal_rV {l D : List UInt8} (e : sealL l = D) (a : Option Addr) (m cap : Nat) (w : World) (hr : Row w a cap l) (hm : l.length = m) (hlen : m ≤ 100000) :
    Calls Try.prog 16 #[.slice a m cap] w fun e w' => ∃ v, e = .returned v ∧ (rV D).p w' v ∧ Below w.heap.size w w' :=
  (seal_any a m cap l w hr hm hlen).mono fun e' w' ⟨v, h, o⟩ => ⟨v, h, own_rV o e⟩
theorem rseal_rV {l D : List UInt8} (e : sealL l = D) (a : Option Addr) (m cap : Nat) (w : World) (hr : Row w a cap l) (hm : l.length = m) (hlen : m ≤ 100000) :
    Calls Try.prog 17 #[.slice a m cap] w fun e w' => ∃ v, e = .returned v ∧ (rV D).p w' v ∧ Below w.heap.size w w' :=
  (rseal_any a m cap l w hr hm hlen).mono fun e' w' ⟨v, h, o⟩ => ⟨v, h, own_rV o e⟩
theorem join_at {c J : W32} {n : Int} (e : joinB c 7#32 n = J) (w : World) (hn0 : -9223372036854775808 ≤ n) (hn1 : n ≤ 9223372036854775807) :
    Calls Try.prog 18 #[.int .u32 (cI c), .int .u32 7, .int .i64 n] w fun e w' => ∃ v, e = .returned v ∧ (cV (.int .u32 (cI J))).p w' v ∧ Below w.heap.size w w' := by
  have h := join_any c 7#32 n w hn0 hn1
  rw [e] at h
  exact calls_eq h

set_option maxRecDepth 100000 in
set_option maxHeartbeats 1600000 in
theorem tells2_known (a0 : Option Addr) (m cap : Nat) (c x : Int) (n : Int) (w : World) (hb : 400 < m ∨ 400 < n) :
    Calls Try.prog 4 #[.slice a0 m cap, .int .u32 c, .int .u8 x, .int .i64 n] w fun e w' => e = .returned (.bool true) ∧ Below w.heap.size w w' := by
  rcases (show 400 < m ∨ (m ≤ 400 ∧ 400 < n) by omega) with h | h
  all_goals
    clear hb
    go_enter Try.func4, Try.ntmps4
    go_wp2_with fail
    refine (crc_known _).mono ?_
    rintro e w1 ⟨rfl, hb⟩
    go_wp2
    go_ret
    exact ⟨rfl, hb⟩

set_option maxRecDepth 100000 in
set_option maxHeartbeats 3200000 in
theorem tells2_walk (a0 : Option Addr) (m cap : Nat) (l : List UInt8) (c : W32) (x : UInt8) (n : Int) (w : World) (hr : Row w a0 cap l) (hl : l.length = m) (hm : m ≤ 400) (hn0 : -9223372036854775808 ≤ n) (hn : n ≤ 400) :
    Calls Try.prog 4 #[.slice a0 m cap, .int .u32 (cI c), .int .u8 (x.toNat : Int), .int .i64 n] w fun e w' => e = .returned (.bool true) ∧ Below w.heap.size w w' := by
  have HL := Lib.hid hl
  clear hl
  have hx8 := x.toNat_lt
  have hc32 := cI_lt c
  have hn1 : n ≤ 9223372036854775807 := by omega
  go_enter Try.func4, Try.ntmps4
  go_wp2_with fail
  refine (open_any a0 m cap l w hr HL.out (by omega)).mono ?_
  rintro e w1 ⟨v1, rfl, o1⟩
  go_wp2_with fail
  refine (ropen_any a0 m cap l w1 (hr.later o1.below) HL.out (by omega)).mono ?_
  rintro e w2 ⟨v2, rfl, o2⟩
  generalize (openL l).isSome = ok
  generalize (openL l).getD [] = P at *
  obtain ⟨b9, c9, rfl, r1⟩ := o1.row
  obtain ⟨b11, c11, rfl, r11⟩ := o2.row
  have r9 := r1.later o2.below
  have hb := o1.below.trans (o2.below.mono o1.below.size)
  have hr' := hr.later hb
  clear o1 o2 r1 hr
  go_wp2
  go_loop [13, 14] (fun d i => ∃ j : Nat, i = .int .i64 j ∧ ((j : Int) ≤ n ∨ j = 0) ∧ d = .int .u32 (cI (stepN (8 * j) c))) (fun _ i => (n - intOf i).toNat)
  case atStart => exact ⟨0, rfl, .inr rfl, rfl⟩
  case round =>
    obtain ⟨j, rfl, hj, rfl⟩ := hrel
    by_cases hjn : (j : Int) < n
    · have HS := Lib.hid ((next_zero (stepN (8 * j) c)).trans (step8 j c))
      obtain ⟨y, hy⟩ : ∃ y, stepN (8 * j) c = y := ⟨_, rfl⟩
      rw [hy] at HS ⊢
      clear hy
      go_wp2_with (go_at_call 13; refine (rnext_any _ 0 _).mono ?_; rintro e w' ⟨rfl, rfl⟩)
      go_round
      case rel => exact ⟨j + 1, by go_num, by omega, by rw [← HS.out]⟩
      case measure => simp [intOf]; omega
    · have hJ : joinB c 7#32 n = stepN (8 * j) c ^^^ 7#32 := by unfold joinB; rw [show (min (max n 0) 1048576).toNat = j by omega]
      have HX0 := Lib.hid (xor_cI (stepN (8 * j) c) 7#32)
      obtain ⟨J, hJ2⟩ : ∃ J, stepN (8 * j) c ^^^ 7#32 = J := ⟨_, rfl⟩
      rw [hJ2] at hJ HX0
      obtain ⟨Y, hY⟩ : ∃ Y, stepN (8 * j) c = Y := ⟨_, rfl⟩
      rw [hY] at HX0 ⊢
      have HJ := Lib.hid hJ
      have HX : Hid (bits .xor .u32 (cI Y) 7 = cI J) := HX0
      clear hY hJ2 hJ HX0
      obtain ⟨D, hD⟩ : ∃ D, sealL l = D := ⟨_, rfl⟩
      have HD := Lib.hid hD
      obtain ⟨S, hS⟩ : ∃ S, (⟨D.toArray⟩ : ByteArray) = S := ⟨_, rfl⟩
      have HS := Lib.hid hS
      obtain ⟨T, hT⟩ : ∃ T, (⟨P.toArray⟩ : ByteArray) = T := ⟨_, rfl⟩
      have HT := Lib.hid hT
      clear hD hS hT
      go_wp2_with fail
      -- REG 10
      refine wp_region_tab (L := [cV (.int .u32 (cI c)), cV (.int .u8 (x.toNat : Int)), cV (.int .u32 (cI (nextB c x.toBitVec))), cV (.int .u32 (cI c)), cV (.int .u8 (x.toNat : Int)), cV (.int .u32 (cI (nextB c x.toBitVec))), cV (.bool true), cV (.bool true), cV (.slice a0 m cap), cV (.int .u32 (cI (crcL l))), cV (.slice a0 m cap), cV (.int .u32 (cI (crcL l))), cV (.bool true), cV (.bool true), cV (.bool true), cV (.slice a0 m cap), rV D, cV (.string S), cV (.slice a0 m cap), rV D, cV (.string S), cV (.bool true), cV (.bool true), cV (.bool true), cV (.slice b9 P.length c9), cV (.string T), cV (.slice b11 P.length c11), cV (.string T), cV (.bool true), cV (.bool true), cV (.bool true), cV (.bool ok), cV (.bool ok), cV (.bool true), cV (.bool true), cV (.bool true), cV (.int .u32 (cI c)), cV (.int .i64 n), cV (.int .u32 (cI J)), cV (.int .u32 (cI Y)), cV (.int .u32 (cI J)), cV (.bool true), cV (.bool true), cV (.bool true), cV (.bool true), cV (.bool true), cV (.bool true)]) [[(1, none)], [(2, none)], [(41, some 0), (42, some 1)], [(1, none)], [(2, none)], [(44, some 3), (45, some 4)], [(43, some 2), (46, some 5)], [(47, some 6)], [(0, none), (48, some 7)], [(49, some 8), (48, some 7)], [(0, none), (48, some 7)], [(51, some 10), (48, some 7)], [(50, some 9), (52, some 11), (48, some 7)], [(48, some 7), (53, some 12)], [(54, some 13)], [(0, none), (55, some 14)], [(56, some 15), (55, some 14)], [(57, some 16), (55, some 14)], [(0, none), (55, some 14)], [(59, some 18), (55, some 14)], [(60, some 19), (55, some 14)], [(58, some 17), (61, some 20), (55, some 14)], [(55, some 14), (62, some 21)], [(63, some 22)], [(9, none), (64, some 23)], [(65, some 24), (64, some 23)], [(11, none), (64, some 23)], [(67, some 26), (64, some 23)], [(66, some 25), (68, some 27), (64, some 23)], [(64, some 23), (69, some 28)], [(70, some 29)], [(10, none), (71, some 30)], [(12, none), (71, some 30)], [(72, some 31), (73, some 32), (71, some 30)], [(71, some 30), (74, some 33)], [(75, some 34)], [(1, none), (76, some 35)], [(3, none), (76, some 35)], [(77, some 36), (78, some 37), (76, some 35)], [(13, none), (76, some 35)], [(80, some 39), (76, some 35)], [(79, some 38), (81, some 40), (76, some 35)], [(76, some 35), (82, some 41)], [(83, some 42)], [(84, some 43)], [(84, some 43), (85, some 44)], [(86, some 45)]] 47 87 (by kernel_rfl) rfl rfl (by kernel_rfl) (by kernel_rfl) ?_ ?_
      · show ∀ i, i < 47 → _
        iterate 47 (refine fls ?_ ?_)
        · exact fl0
        · intro a w1 hR hsz hs      -- 0: slot 41
          obtain ⟨h0, _⟩ := hs
          have h0 : a.tmps.getD 1 undef = .int .u32 (cI c) := h0
          refine op_run rfl rfl (v := .int .u32 (cI c)) (w' := w1) ?_ rfl (Below.refl _ _)
          simp [execOp, Act.eval, h0, go_sem]
        · intro a w1 hR hsz hs      -- 1: slot 42
          obtain ⟨h0, _⟩ := hs
          have h0 : a.tmps.getD 2 undef = .int .u8 (x.toNat : Int) := h0
          refine op_run rfl rfl (v := .int .u8 (x.toNat : Int)) (w' := w1) ?_ rfl (Below.refl _ _)
          simp [execOp, Act.eval, h0, go_sem]
        · intro a w1 hR hsz hs      -- 2: slot 43
          obtain ⟨h0, h1, _⟩ := hs
          have h0 : a.tmps.getD 41 undef = .int .u32 (cI c) := h0
          have h1 : a.tmps.getD 42 undef = .int .u8 (x.toNat : Int) := h1
          refine op_call rfl rfl (f := 14) (args := #[.int .u32 (cI c), .int .u8 (x.toNat : Int)]) (by simp [execOp, Act.eval, resolve, h0, h1, go_sem]) ?_
          exact calls_eq (next_any c x w1)
        · intro a w1 hR hsz hs      -- 3: slot 44
          obtain ⟨h0, _⟩ := hs
          have h0 : a.tmps.getD 1 undef = .int .u32 (cI c) := h0
          refine op_run rfl rfl (v := .int .u32 (cI c)) (w' := w1) ?_ rfl (Below.refl _ _)
          simp [execOp, Act.eval, h0, go_sem]
        · intro a w1 hR hsz hs      -- 4: slot 45
          obtain ⟨h0, _⟩ := hs
          have h0 : a.tmps.getD 2 undef = .int .u8 (x.toNat : Int) := h0
          refine op_run rfl rfl (v := .int .u8 (x.toNat : Int)) (w' := w1) ?_ rfl (Below.refl _ _)
          simp [execOp, Act.eval, h0, go_sem]
        · intro a w1 hR hsz hs      -- 5: slot 46
          obtain ⟨h0, h1, _⟩ := hs
          have h0 : a.tmps.getD 44 undef = .int .u32 (cI c) := h0
          have h1 : a.tmps.getD 45 undef = .int .u8 (x.toNat : Int) := h1
          refine op_call rfl rfl (f := 13) (args := #[.int .u32 (cI c), .int .u8 (x.toNat : Int)]) (by simp [execOp, Act.eval, resolve, h0, h1, go_sem]) ?_
          exact calls_eq (rnext_any c x w1)
        · intro a w1 hR hsz hs      -- 6: slot 47
          obtain ⟨h0, h1, _⟩ := hs
          have h0 : a.tmps.getD 43 undef = .int .u32 (cI (nextB c x.toBitVec)) := h0
          have h1 : a.tmps.getD 46 undef = .int .u32 (cI (nextB c x.toBitVec)) := h1
          refine op_run rfl rfl (v := .bool true) (w' := w1) ?_ rfl (Below.refl _ _)
          simp [execOp, Act.eval, h0, h1, go_sem]
        · intro a w1 hR hsz hs      -- 7: slot 48
          obtain ⟨h0, _⟩ := hs
          have h0 : a.tmps.getD 47 undef = .bool true := h0
          refine op_run rfl rfl (v := .bool true) (w' := w1) ?_ rfl (Below.refl _ _)
          simp [execOp, Act.eval, h0, go_sem]
        · intro a w1 hR hsz hs      -- 8: slot 49
          obtain ⟨h0, h1, _⟩ := hs
          have h0 : a.tmps.getD 0 undef = .slice a0 m cap := h0
          have h1 : a.tmps.getD 48 undef = .bool true := h1
          refine opg_run rfl rfl rfl (by rw [hsz]; decide) h1 (v := .slice a0 m cap) (w' := w1) ?_ rfl (Below.refl _ _)
          simp [execOp, Act.eval, h0, go_sem]
        · intro a w1 hR hsz hs      -- 9: slot 50
          obtain ⟨h0, h1, _⟩ := hs
          have h0 : a.tmps.getD 49 undef = .slice a0 m cap := h0
          have h1 : a.tmps.getD 48 undef = .bool true := h1
          refine opg_call rfl rfl rfl (by rw [hsz]; decide) h1 (f := 9) (args := #[.slice a0 m cap]) (by simp [execOp, Act.eval, resolve, h0, go_sem]) ?_
          exact calls_eq (of_any a0 m cap l w1 (hr'.later hR) HL.out (by omega))
        · intro a w1 hR hsz hs      -- 10: slot 51
          obtain ⟨h0, h1, _⟩ := hs
          have h0 : a.tmps.getD 0 undef = .slice a0 m cap := h0
          have h1 : a.tmps.getD 48 undef = .bool true := h1
          refine opg_run rfl rfl rfl (by rw [hsz]; decide) h1 (v := .slice a0 m cap) (w' := w1) ?_ rfl (Below.refl _ _)
          simp [execOp, Act.eval, h0, go_sem]
        · intro a w1 hR hsz hs      -- 11: slot 52
          obtain ⟨h0, h1, _⟩ := hs
          have h0 : a.tmps.getD 51 undef = .slice a0 m cap := h0
          have h1 : a.tmps.getD 48 undef = .bool true := h1
          refine opg_call rfl rfl rfl (by rw [hsz]; decide) h1 (f := 15) (args := #[.slice a0 m cap]) (by simp [execOp, Act.eval, resolve, h0, go_sem]) ?_
          exact calls_eq (rof_any a0 m cap l w1 (hr'.later hR) HL.out (by omega))
        · intro a w1 hR hsz hs      -- 12: slot 53
          obtain ⟨h0, h1, h2, _⟩ := hs
          have h0 : a.tmps.getD 50 undef = .int .u32 (cI (crcL l)) := h0
          have h1 : a.tmps.getD 52 undef = .int .u32 (cI (crcL l)) := h1
          have h2 : a.tmps.getD 48 undef = .bool true := h2
          refine opg_run rfl rfl rfl (by rw [hsz]; decide) h2 (v := .bool true) (w' := w1) ?_ rfl (Below.refl _ _)
          simp [execOp, Act.eval, h0, h1, go_sem]
        · intro a w1 hR hsz hs      -- 13: slot 54
          obtain ⟨h0, h1, _⟩ := hs
          have h0 : a.tmps.getD 48 undef = .bool true := h0
          have h1 : a.tmps.getD 53 undef = .bool true := h1
          refine op_run rfl rfl (v := .bool true) (w' := w1) ?_ rfl (Below.refl _ _)
          simp [execOp, Act.eval, h0, h1, go_sem]
        · intro a w1 hR hsz hs      -- 14: slot 55
          obtain ⟨h0, _⟩ := hs
          have h0 : a.tmps.getD 54 undef = .bool true := h0
          refine op_run rfl rfl (v := .bool true) (w' := w1) ?_ rfl (Below.refl _ _)
          simp [execOp, Act.eval, h0, go_sem]
        · intro a w1 hR hsz hs      -- 15: slot 56
          obtain ⟨h0, h1, _⟩ := hs
          have h0 : a.tmps.getD 0 undef = .slice a0 m cap := h0
          have h1 : a.tmps.getD 55 undef = .bool true := h1
          refine opg_run rfl rfl rfl (by rw [hsz]; decide) h1 (v := .slice a0 m cap) (w' := w1) ?_ rfl (Below.refl _ _)
          simp [execOp, Act.eval, h0, go_sem]
        · intro a w1 hR hsz hs      -- 16: slot 57
          obtain ⟨h0, h1, _⟩ := hs
          have h0 : a.tmps.getD 56 undef = .slice a0 m cap := h0
          have h1 : a.tmps.getD 55 undef = .bool true := h1
          refine opg_call rfl rfl rfl (by rw [hsz]; decide) h1 (f := 16) (args := #[.slice a0 m cap]) (by simp [execOp, Act.eval, resolve, h0, go_sem]) ?_
          exact seal_rV HD.out a0 m cap w1 (hr'.later hR) HL.out (by omega)
        · intro a w1 hR hsz hs      -- 17: slot 58
          obtain ⟨h0, h1, _⟩ := hs
          obtain ⟨b0, c0, h0, r0⟩ : ∃ b c, a.tmps.getD 57 undef = .slice b D.length c ∧ Row w1 b c D := h0
          have h1 : a.tmps.getD 55 undef = .bool true := h1
          have hcv := conv_row r0; rw [HS.out] at hcv
          refine opg_run rfl rfl rfl (by rw [hsz]; decide) h1 (v := .string S) (w' := w1) ?_ rfl (Below.refl _ _)
          simp [execOp, Act.eval, h0, hcv, go_sem]
        · intro a w1 hR hsz hs      -- 18: slot 59
          obtain ⟨h0, h1, _⟩ := hs
          have h0 : a.tmps.getD 0 undef = .slice a0 m cap := h0
          have h1 : a.tmps.getD 55 undef = .bool true := h1
          refine opg_run rfl rfl rfl (by rw [hsz]; decide) h1 (v := .slice a0 m cap) (w' := w1) ?_ rfl (Below.refl _ _)
          simp [execOp, Act.eval, h0, go_sem]
        · intro a w1 hR hsz hs      -- 19: slot 60
          obtain ⟨h0, h1, _⟩ := hs
          have h0 : a.tmps.getD 59 undef = .slice a0 m cap := h0
          have h1 : a.tmps.getD 55 undef = .bool true := h1
          refine opg_call rfl rfl rfl (by rw [hsz]; decide) h1 (f := 17) (args := #[.slice a0 m cap]) (by simp [execOp, Act.eval, resolve, h0, go_sem]) ?_
          exact rseal_rV HD.out a0 m cap w1 (hr'.later hR) HL.out (by omega)
        · intro a w1 hR hsz hs      -- 20: slot 61
          obtain ⟨h0, h1, _⟩ := hs
          obtain ⟨b0, c0, h0, r0⟩ : ∃ b c, a.tmps.getD 60 undef = .slice b D.length c ∧ Row w1 b c D := h0
          have h1 : a.tmps.getD 55 undef = .bool true := h1
          have hcv := conv_row r0; rw [HS.out] at hcv
          refine opg_run rfl rfl rfl (by rw [hsz]; decide) h1 (v := .string S) (w' := w1) ?_ rfl (Below.refl _ _)
          simp [execOp, Act.eval, h0, hcv, go_sem]
        · intro a w1 hR hsz hs      -- 21: slot 62
          obtain ⟨h0, h1, h2, _⟩ := hs
          have h0 : a.tmps.getD 58 undef = .string S := h0
          have h1 : a.tmps.getD 61 undef = .string S := h1
          have h2 : a.tmps.getD 55 undef = .bool true := h2
          refine opg_run rfl rfl rfl (by rw [hsz]; decide) h2 (v := .bool true) (w' := w1) ?_ rfl (Below.refl _ _)
          simp [execOp, Act.eval, h0, h1, go_sem]
        · intro a w1 hR hsz hs      -- 22: slot 63
          obtain ⟨h0, h1, _⟩ := hs
          have h0 : a.tmps.getD 55 undef = .bool true := h0
          have h1 : a.tmps.getD 62 undef = .bool true := h1
          refine op_run rfl rfl (v := .bool true) (w' := w1) ?_ rfl (Below.refl _ _)
          simp [execOp, Act.eval, h0, h1, go_sem]
        · intro a w1 hR hsz hs      -- 23: slot 64
          obtain ⟨h0, _⟩ := hs
          have h0 : a.tmps.getD 63 undef = .bool true := h0
          refine op_run rfl rfl (v := .bool true) (w' := w1) ?_ rfl (Below.refl _ _)
          simp [execOp, Act.eval, h0, go_sem]
        · intro a w1 hR hsz hs      -- 24: slot 65
          obtain ⟨h0, h1, _⟩ := hs
          have h0 : a.tmps.getD 9 undef = .slice b9 P.length c9 := h0
          have h1 : a.tmps.getD 64 undef = .bool true := h1
          refine opg_run rfl rfl rfl (by rw [hsz]; decide) h1 (v := .slice b9 P.length c9) (w' := w1) ?_ rfl (Below.refl _ _)
          simp [execOp, Act.eval, h0, go_sem]
        · intro a w1 hR hsz hs      -- 25: slot 66
          obtain ⟨h0, h1, _⟩ := hs
          have h0 : a.tmps.getD 65 undef = .slice b9 P.length c9 := h0
          have h1 : a.tmps.getD 64 undef = .bool true := h1
          have hcv := conv_row (r9.later hR); rw [HT.out] at hcv
          refine opg_run rfl rfl rfl (by rw [hsz]; decide) h1 (v := .string T) (w' := w1) ?_ rfl (Below.refl _ _)
          simp [execOp, Act.eval, h0, hcv, go_sem]
        · intro a w1 hR hsz hs      -- 26: slot 67
          obtain ⟨h0, h1, _⟩ := hs
          have h0 : a.tmps.getD 11 undef = .slice b11 P.length c11 := h0
          have h1 : a.tmps.getD 64 undef = .bool true := h1
          refine opg_run rfl rfl rfl (by rw [hsz]; decide) h1 (v := .slice b11 P.length c11) (w' := w1) ?_ rfl (Below.refl _ _)
          simp [execOp, Act.eval, h0, go_sem]
        · intro a w1 hR hsz hs      -- 27: slot 68
          obtain ⟨h0, h1, _⟩ := hs
          have h0 : a.tmps.getD 67 undef = .slice b11 P.length c11 := h0
          have h1 : a.tmps.getD 64 undef = .bool true := h1
          have hcv := conv_row (r11.later hR); rw [HT.out] at hcv
          refine opg_run rfl rfl rfl (by rw [hsz]; decide) h1 (v := .string T) (w' := w1) ?_ rfl (Below.refl _ _)
          simp [execOp, Act.eval, h0, hcv, go_sem]
        · intro a w1 hR hsz hs      -- 28: slot 69
          obtain ⟨h0, h1, h2, _⟩ := hs
          have h0 : a.tmps.getD 66 undef = .string T := h0
          have h1 : a.tmps.getD 68 undef = .string T := h1
          have h2 : a.tmps.getD 64 undef = .bool true := h2
          refine opg_run rfl rfl rfl (by rw [hsz]; decide) h2 (v := .bool true) (w' := w1) ?_ rfl (Below.refl _ _)
          simp [execOp, Act.eval, h0, h1, go_sem]
        · intro a w1 hR hsz hs      -- 29: slot 70
          obtain ⟨h0, h1, _⟩ := hs
          have h0 : a.tmps.getD 64 undef = .bool true := h0
          have h1 : a.tmps.getD 69 undef = .bool true := h1
          refine op_run rfl rfl (v := .bool true) (w' := w1) ?_ rfl (Below.refl _ _)
          simp [execOp, Act.eval, h0, h1, go_sem]
        · intro a w1 hR hsz hs      -- 30: slot 71
          obtain ⟨h0, _⟩ := hs
          have h0 : a.tmps.getD 70 undef = .bool true := h0
          refine op_run rfl rfl (v := .bool true) (w' := w1) ?_ rfl (Below.refl _ _)
          simp [execOp, Act.eval, h0, go_sem]
        · intro a w1 hR hsz hs      -- 31: slot 72
          obtain ⟨h0, h1, _⟩ := hs
          have h0 : a.tmps.getD 10 undef = .bool ok := h0
          have h1 : a.tmps.getD 71 undef = .bool true := h1
          refine opg_run rfl rfl rfl (by rw [hsz]; decide) h1 (v := .bool ok) (w' := w1) ?_ rfl (Below.refl _ _)
          simp [execOp, Act.eval, h0, go_sem]
        · intro a w1 hR hsz hs      -- 32: slot 73
          obtain ⟨h0, h1, _⟩ := hs
          have h0 : a.tmps.getD 12 undef = .bool ok := h0
          have h1 : a.tmps.getD 71 undef = .bool true := h1
          refine opg_run rfl rfl rfl (by rw [hsz]; decide) h1 (v := .bool ok) (w' := w1) ?_ rfl (Below.refl _ _)
          simp [execOp, Act.eval, h0, go_sem]
        · intro a w1 hR hsz hs      -- 33: slot 74
          obtain ⟨h0, h1, h2, _⟩ := hs
          have h0 : a.tmps.getD 72 undef = .bool ok := h0
          have h1 : a.tmps.getD 73 undef = .bool ok := h1
          have h2 : a.tmps.getD 71 undef = .bool true := h2
          refine opg_run rfl rfl rfl (by rw [hsz]; decide) h2 (v := .bool true) (w' := w1) ?_ rfl (Below.refl _ _)
          simp [execOp, Act.eval, h0, h1, go_sem]
        · intro a w1 hR hsz hs      -- 34: slot 75
          obtain ⟨h0, h1, _⟩ := hs
          have h0 : a.tmps.getD 71 undef = .bool true := h0
          have h1 : a.tmps.getD 74 undef = .bool true := h1
          refine op_run rfl rfl (v := .bool true) (w' := w1) ?_ rfl (Below.refl _ _)
          simp [execOp, Act.eval, h0, h1, go_sem]
        · intro a w1 hR hsz hs      -- 35: slot 76
          obtain ⟨h0, _⟩ := hs
          have h0 : a.tmps.getD 75 undef = .bool true := h0
          refine op_run rfl rfl (v := .bool true) (w' := w1) ?_ rfl (Below.refl _ _)
          simp [execOp, Act.eval, h0, go_sem]
        · intro a w1 hR hsz hs      -- 36: slot 77
          obtain ⟨h0, h1, _⟩ := hs
          have h0 : a.tmps.getD 1 undef = .int .u32 (cI c) := h0
          have h1 : a.tmps.getD 76 undef = .bool true := h1
          refine opg_run rfl rfl rfl (by rw [hsz]; decide) h1 (v := .int .u32 (cI c)) (w' := w1) ?_ rfl (Below.refl _ _)
          simp [execOp, Act.eval, h0, go_sem]
        · intro a w1 hR hsz hs      -- 37: slot 78
          obtain ⟨h0, h1, _⟩ := hs
          have h0 : a.tmps.getD 3 undef = .int .i64 n := h0
          have h1 : a.tmps.getD 76 undef = .bool true := h1
          refine opg_run rfl rfl rfl (by rw [hsz]; decide) h1 (v := .int .i64 n) (w' := w1) ?_ rfl (Below.refl _ _)
          simp [execOp, Act.eval, h0, go_sem]
        · intro a w1 hR hsz hs      -- 38: slot 79
          obtain ⟨h0, h1, h2, _⟩ := hs
          have h0 : a.tmps.getD 77 undef = .int .u32 (cI c) := h0
          have h1 : a.tmps.getD 78 undef = .int .i64 n := h1
          have h2 : a.tmps.getD 76 undef = .bool true := h2
          refine opg_call rfl rfl rfl (by rw [hsz]; decide) h2 (f := 18) (args := #[.int .u32 (cI c), .int .u32 7, .int .i64 n]) (by simp [execOp, Act.eval, resolve, h0, h1, go_sem]) ?_
          exact join_at HJ.out w1 hn0 hn1
        · intro a w1 hR hsz hs      -- 39: slot 80
          obtain ⟨h0, h1, _⟩ := hs
          have h0 : a.tmps.getD 13 undef = .int .u32 (cI Y) := h0
          have h1 : a.tmps.getD 76 undef = .bool true := h1
          refine opg_run rfl rfl rfl (by rw [hsz]; decide) h1 (v := .int .u32 (cI Y)) (w' := w1) ?_ rfl (Below.refl _ _)
          simp [execOp, Act.eval, h0, go_sem]
        · intro a w1 hR hsz hs      -- 40: slot 81
          obtain ⟨h0, h1, _⟩ := hs
          have h0 : a.tmps.getD 80 undef = .int .u32 (cI Y) := h0
          have h1 : a.tmps.getD 76 undef = .bool true := h1
          refine opg_run rfl rfl rfl (by rw [hsz]; decide) h1 (v := .int .u32 (cI J)) (w' := w1) ?_ rfl (Below.refl _ _)
          simp [execOp, Act.eval, h0, HX.out, go_sem]
        · intro a w1 hR hsz hs      -- 41: slot 82
          obtain ⟨h0, h1, h2, _⟩ := hs
          have h0 : a.tmps.getD 79 undef = .int .u32 (cI J) := h0
          have h1 : a.tmps.getD 81 undef = .int .u32 (cI J) := h1
          have h2 : a.tmps.getD 76 undef = .bool true := h2
          refine opg_run rfl rfl rfl (by rw [hsz]; decide) h2 (v := .bool true) (w' := w1) ?_ rfl (Below.refl _ _)
          simp [execOp, Act.eval, h0, h1, go_sem]
        · intro a w1 hR hsz hs      -- 42: slot 83
          obtain ⟨h0, h1, _⟩ := hs
          have h0 : a.tmps.getD 76 undef = .bool true := h0
          have h1 : a.tmps.getD 82 undef = .bool true := h1
          refine op_run rfl rfl (v := .bool true) (w' := w1) ?_ rfl (Below.refl _ _)
          simp [execOp, Act.eval, h0, h1, go_sem]
        · intro a w1 hR hsz hs      -- 43: slot 84
          obtain ⟨h0, _⟩ := hs
          have h0 : a.tmps.getD 83 undef = .bool true := h0
          refine op_run rfl rfl (v := .bool true) (w' := w1) ?_ rfl (Below.refl _ _)
          simp [execOp, Act.eval, h0, go_sem]
        · intro a w1 hR hsz hs      -- 44: slot 85
          obtain ⟨h0, _⟩ := hs
          have h0 : a.tmps.getD 84 undef = .bool true := h0
          refine opg_call rfl rfl rfl (by rw [hsz]; decide) h0 (f := 10) (args := #[]) (by simp [execOp, Act.eval, resolve, go_sem]) ?_
          exact calls_c (crc_known w1)
        · intro a w1 hR hsz hs      -- 45: slot 86
          obtain ⟨h0, h1, _⟩ := hs
          have h0 : a.tmps.getD 84 undef = .bool true := h0
          have h1 : a.tmps.getD 85 undef = .bool true := h1
          refine op_run rfl rfl (v := .bool true) (w' := w1) ?_ rfl (Below.refl _ _)
          simp [execOp, Act.eval, h0, h1, go_sem]
        · intro a w1 hR hsz hs      -- 46: slot 8
          obtain ⟨h0, _⟩ := hs
          have h0 : a.tmps.getD 86 undef = .bool true := h0
          refine op_run rfl rfl (v := .bool true) (w' := w1) ?_ rfl (Below.refl _ _)
          simp [execOp, Act.eval, h0, go_sem]
      · intro f w1 hR hv
        have e46 : f 8 = .bool true := hv 46 _ 8 rfl rfl
        clear hv
        simp only [Exit.then]
        simp only [putAll, List.foldl_cons, List.foldl_nil, Option.getD_some, Act.put, List.setIfInBounds_toArray, List.set_cons_succ, List.set_cons_zero]
        go_wp2_with fail
        go_ret
        exact ⟨congrArg Ending.returned e46, hb.trans (hR.mono hb.size)⟩
      -- END 10

theorem crcTells_walk (a0 : Option Addr) (cap0 : Nat) (l0 : List UInt8) (c x n : Int) (w : World) (hr0 : Row w a0 cap0 l0)
    (w1 : (Lit.int .u32 c).wf = true) (w2 : (Lit.int .u8 x).wf = true) (w3 : (Lit.int .i64 n).wf = true) :
    Calls Try.prog 4 #[.slice a0 l0.length cap0, .int .u32 c, .int .u8 x, .int .i64 n] w fun e w' => e = .returned (.bool true) ∧ Below w.heap.size w w' := by
  by_cases hb : 400 < l0.length ∨ 400 < n
  · exact tells2_known a0 _ cap0 c x n w hb
  · obtain ⟨c, rfl⟩ := wf_u32 w1
    obtain ⟨x, rfl⟩ := wf_u8 w2
    have hn := wf_int w3
    exact tells2_walk a0 _ cap0 l0 c x n w hr0 rfl (by omega) hn.1 (by omega)
end Go.Proofs.Ytbndfegepdefnaa
