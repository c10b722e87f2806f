/- The law CrcNumbers, walked. -/
import Derived.Test.YtbndfegepdefnaaCrcKnown
namespace Go.Proofs.Ytbndfegepdefnaa
open Go.RowKit
set_option linter.unusedVariables false

def ffL (j : Nat) : List UInt8 := (List.range 32).map fun k => if k < j then 255 else 0
def upL (j : Nat) : List UInt8 := (List.range 32).map fun k => if k < j then UInt8.ofNat k else 255
theorem ffL_0 : List.replicate 32 (0 : UInt8) = ffL 0 := by decide +kernel
theorem upL_0 : ffL 32 = upL 0 := by decide +kernel
theorem ffL_len (j : Nat) : (ffL j).length = 32 := by simp [ffL]
theorem upL_len (j : Nat) : (upL j).length = 32 := by simp [upL]
theorem ffL_set : ∀ j, j < 32 → (ffL j).set j 255 = ffL (j + 1) := by decide +kernel
theorem upL_set : ∀ j, j < 32 → (upL j).set j (UInt8.ofNat j) = upL (j + 1) := by decide +kernel
theorem of_0 : crcL (ffL 0) = 0x8A9136AA#32 := by decide +kernel
theorem of_255 : crcL (ffL 32) = 0x62A8AB43#32 := by decide +kernel
theorem of_up : crcL (upL 32) = 0x46DD794E#32 := by decide +kernel
theorem byte_j {j : Nat} (h : j < 32) : ((UInt8.ofNat j).toNat : Int) = j := by rw [UInt8.toNat_ofNat']; omega

set_option maxRecDepth 100000 in
set_option maxHeartbeats 1600000 in
theorem crcNumbers_walk (w : World) :
    Calls Try.prog 3 #[] w fun e w' => e = .returned (.bool true) ∧ Below w.heap.size w w' := by
  go_enter Try.func3, Try.ntmps3
  go_wp2_with (at_make; refine wp_zeros rfl _ _ rfl w (Below.refl _ _) _ _ _ _ 32 rfl rfl rfl rfl (by omega) ?_; intro w1 o1 q1)
  rw [ffL_0] at o1
  clear q1
  obtain ⟨a1, c1, hv, r1⟩ := o1.row_n (n := 32) (ffL_len 0)
  cases hv
  refine (of_any _ 32 _ (ffL 0) w1 r1 (ffL_len 0) (by omega)).mono ?_
  rw [of_0, show cI 0x8A9136AA#32 = 2324772522 by decide]
  rintro e w2 ⟨rfl, rfl⟩
  clear r1
  go_wp2
  go_loopw [2] (fun i wr => ∃ j : Nat, i = .int .i64 j ∧ j ≤ 32 ∧ Own w wr (.slice (some ⟨w.heap.size, 0, none⟩) 32 32) (ffL j)) (fun i _ => 32 - (intOf i).toNat)
  case atStart => exact ⟨0, rfl, by omega, o1⟩
  case round =>
    obtain ⟨j, rfl, hj, o2⟩ := hrel
    clear o1
    by_cases c : j < 32
    · have hcell := o2.cellAt (ffL_len j) (j := j) (u := (ffL j)[j]'(by rw [ffL_len]; exact c)) (List.getElem?_eq_getElem _)
      have hfr := o2.frozenAt (ffL_len j) j
      have o3 := o2.stored (ffL_len j) j 255
      rw [ffL_set j c] at o3
      go_wp2
      go_roundw
      case rel => exact ⟨j + 1, by go_num, by omega, o3⟩
      case measure => simp [intOf]; omega
    · obtain rfl : j = 32 := by omega
      clear c hj
      obtain ⟨a1, c1, hv, r1⟩ := o2.row_n (n := 32) (ffL_len 32)
      cases hv
      go_wp2_with fail
      refine (of_any _ 32 _ (ffL 32) _ r1 (ffL_len 32) (by omega)).mono ?_
      rw [of_255, show cI 0x62A8AB43#32 = 1655221059 by decide]
      rintro e w3 ⟨rfl, rfl⟩
      clear r1
      rw [upL_0] at o2
      go_wp2
      go_loopw [3] (fun i wr => ∃ j : Nat, i = .int .i64 j ∧ j ≤ 32 ∧ Own w wr (.slice (some ⟨w.heap.size, 0, none⟩) 32 32) (upL j)) (fun i _ => 32 - (intOf i).toNat)
      case atStart => exact ⟨0, rfl, by omega, o2⟩
      case round =>
        obtain ⟨j, rfl, hj, o3⟩ := hrel
        clear o2
        by_cases c : j < 32
        · have hcell := o3.cellAt (upL_len j) (j := j) (u := (upL j)[j]'(by rw [upL_len]; exact c)) (List.getElem?_eq_getElem _)
          have hfr := o3.frozenAt (upL_len j) j
          have o4 := o3.stored (upL_len j) j (UInt8.ofNat j)
          rw [upL_set j c] at o4
          unfold B8 at o4
          rw [byte_j c] at o4
          go_wp2
          go_roundw
          case rel => exact ⟨j + 1, by go_num, by omega, o4⟩
          case measure => simp [intOf]; omega
        · obtain rfl : j = 32 := by omega
          clear c hj
          obtain ⟨a1, c1, hv, r1⟩ := o3.row_n (n := 32) (upL_len 32)
          cases hv
          go_wp2_with fail
          refine (of_any _ 32 _ (upL 32) _ r1 (upL_len 32) (by omega)).mono ?_
          rw [of_up, show cI 0x46DD794E#32 = 1188919630 by decide]
          rintro e w3 ⟨rfl, rfl⟩
          go_wp2_with fail
          refine (crc_known _).mono ?_
          rintro e w4 ⟨rfl, hb⟩
          go_wp2
          go_ret
          exact ⟨rfl, o3.below.trans (hb.mono o3.below.size)⟩
end Go.Proofs.Ytbndfegepdefnaa
