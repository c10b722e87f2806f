/- The law CrcSteps, walked. -/
import Derived.Test.YtbndfegepdefnaaCrcKnown
namespace Go.Proofs.Ytbndfegepdefnaa
open Go.RowKit
set_option linter.unusedVariables false

theorem next_ne {c d : W32} (h : c ≠ d) (x : BitVec 8) : nextB c x ≠ nextB d x := fun e => h (nextB_inj e)
theorem next_two (c d : W32) (x : BitVec 8) : nextB c x ^^^ nextB d x = nextB (c ^^^ d) 0#8 := by
  rw [← nextB_xor, BitVec.xor_self]
theorem cI_ne {c d : W32} (h : c ≠ d) : (cI c == cI d) = false := by
  rw [beq_eq_false_iff_ne]; exact fun e => h (cI_inj e)

set_option maxRecDepth 100000 in
set_option maxHeartbeats 1600000 in
theorem steps_walk (a : Option Addr) (m cap : Nat) (l : List UInt8) (c d : W32) (x : UInt8) (w : World) (hr : Row w a cap l) (hm : l.length = m) :
    Calls Try.prog 8 #[.slice a m cap, .int .u32 (cI c), .int .u32 (cI d), .int .u8 (x.toNat : Int)] w fun e w' => e = .returned (.bool true) ∧ Below w.heap.size w w' := by
  by_cases hl : 200 < m
  · go_enter Try.func8, Try.ntmps8
    go_wp2_with fail
    refine (crc_known _).mono ?_
    rintro e w1 ⟨rfl, hb⟩
    go_wp2
    go_ret
    exact ⟨rfl, hb⟩
  · have hcm := hr.1
    rw [hm] at hcm
    have HM := Lib.hid hm
    clear hm
    have hx8 := x.toNat_lt
    have hc32 := cI_lt c
    have hd32 := cI_lt d
    go_enter Try.func8, Try.ntmps8
    go_wp2
    go_loop [9, 10] (fun d i => ∃ j : Nat, i = .int .i64 j ∧ j ≤ m ∧ d = .int .u32 (cI (runB ones (bv (l.take j))))) (fun _ i => m - (intOf i).toNat)
    case atStart => exact ⟨0, rfl, by omega, by rw [List.take_zero]; exact congrArg (Value.int IntKind.u32) cI_ones.symm⟩
    case round =>
      obtain ⟨j, rfl, hj, rfl⟩ := hrel
      by_cases hjm : j < m
      · obtain ⟨b, off, rfl, hc⟩ := hr.at (by have := HM.out; omega)
        obtain ⟨u, hu⟩ : ∃ u, l[j]? = some u := ⟨l[j]'(by have := HM.out; omega), List.getElem?_eq_getElem _⟩
        have hcell : w.cell? ⟨b, off + j, none⟩ = some (.int .u8 (u.toNat : Int)) := hc j u hu
        have HS := Lib.hid (run_snoc hu ones)
        obtain ⟨y, hy⟩ : ∃ y, runB ones (bv (l.take j)) = y := ⟨_, rfl⟩
        rw [hy] at HS ⊢
        have hb := u.toNat_lt
        clear hc hu hy
        go_wp2_with (go_at_call 14; refine (next_any _ _ _).mono ?_; rintro e w' ⟨rfl, rfl⟩)
        go_round
        case rel => exact ⟨j + 1, by go_num, by omega, by rw [HS.out]⟩
        case measure => simp [intOf]; omega
      · obtain rfl : j = m := by omega
        have HX : Hid (l.take j = l) := by unfold Hid; rw [List.take_of_length_le]; have := HM.out; omega
        rw [HX.out]
        clear HX
        have hN : bits .xor .u32 IntKind.u32.max (cI (runB ones (bv l))) = cI (crcL l) := not_cI _
        go_wp2_with fail
        refine (of_any a j cap l w hr HM.out (by omega)).mono ?_
        rintro e w1 ⟨rfl, rfl⟩
        go_wp2_with fail
        clear hN
        refine (next_any c x w).mono ?_
        rintro e w1 ⟨rfl, rfl⟩
        go_wp2_with fail
        refine (next_any d x w).mono ?_
        rintro e w1 ⟨rfl, rfl⟩
        have hq : ((cI (nextB c x.toBitVec) == cI (nextB d x.toBitVec)) == (cI c == cI d)) = true := by
          by_cases h : c = d
          · rw [h]; simp
          · rw [cI_ne h, cI_ne (next_ne h _)]; rfl
        go_wp2_with fail
        clear hq
        refine (next_any c x w).mono ?_
        rintro e w1 ⟨rfl, rfl⟩
        go_wp2_with fail
        refine (next_any d x w).mono ?_
        rintro e w1 ⟨rfl, rfl⟩
        have hx1 := xor_cI (nextB c x.toBitVec) (nextB d x.toBitVec)
        have hx2 := xor_cI c d
        rw [next_two] at hx1
        go_wp2_with fail
        refine (next_any (c ^^^ d) 0 w).mono ?_
        rintro e w1 ⟨rfl, rfl⟩
        go_wp2_with fail
        refine (crc_known _).mono ?_
        rintro e w1 ⟨rfl, hb⟩
        go_wp2
        go_ret
        exact ⟨rfl, hb⟩

theorem crcSteps_walk (a0 : Option Addr) (cap0 : Nat) (l0 : List UInt8) (c d x : Int) (w : World) (hr0 : Row w a0 cap0 l0)
    (w1 : (Lit.int .u32 c).wf = true) (w2 : (Lit.int .u32 d).wf = true) (w3 : (Lit.int .u8 x).wf = true) :
    Calls Try.prog 8 #[.slice a0 l0.length cap0, .int .u32 c, .int .u32 d, .int .u8 x] w fun e w' => e = .returned (.bool true) ∧ Below w.heap.size w w' := by
  obtain ⟨c, rfl⟩ := wf_u32 w1
  obtain ⟨d, rfl⟩ := wf_u32 w2
  obtain ⟨x, rfl⟩ := wf_u8 w3
  exact steps_walk a0 _ cap0 l0 c d x w hr0 rfl
end Go.Proofs.Ytbndfegepdefnaa
