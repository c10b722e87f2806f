/- Chapter 2's own examples: 'known' answers true. -/
import Derived.Test.YtbndfegepdefnaaCrc
namespace Go.Proofs.Ytbndfegepdefnaa
open Go.RowKit
set_option linter.unusedVariables false

theorem wf_u32 {n : Int} (h : (Lit.int .u32 n).wf = true) : ∃ c : W32, n = cI c := by
  simp [Lit.wf, IntKind.min, IntKind.max, IntKind.signed, IntKind.bits] at h
  exact ⟨BitVec.ofNat 32 n.toNat, by rw [cI_ofNat (by omega)]; omega⟩
theorem wf_u8 {n : Int} (h : (Lit.int .u8 n).wf = true) : ∃ u : UInt8, n = (u.toNat : Int) := by
  simp [Lit.wf, IntKind.min, IntKind.max, IntKind.signed, IntKind.bits] at h
  exact ⟨UInt8.ofNat n.toNat, by rw [UInt8.toNat_ofNat']; omega⟩
theorem wf_int {n : Int} (h : (Lit.int .i64 n).wf = true) : -9223372036854775808 ≤ n ∧ n ≤ 9223372036854775807 := by
  simp [Lit.wf, IntKind.min, IntKind.max, IntKind.signed, IntKind.bits] at h; omega

theorem crc_a : openL (sealL [97]) = some [97] := by decide +kernel
theorem crc_nine : crcL [49, 50, 51, 52, 53, 54, 55, 56, 57] = 3808858755#32 := by decide +kernel
theorem crc_none : crcL [] = 0#32 := by decide +kernel

set_option maxRecDepth 100000 in
set_option maxHeartbeats 1600000 in
theorem crc_known (w : World) : Calls Try.prog 10 #[] w fun e w' => e = .returned (.bool true) ∧ Below w.heap.size w w' := by
  have kc := fun (w : World) (C : Array Value) (n c : Nat) => Lib.run_convert_bytes_const (P := Try.prog) w 22 5 C n c Try.underlying22 Try.underlying5
  have r0 : Row (w.alloc (.cells #[.int .u8 97] 5 (1, 2))) (some ⟨w.heap.size, 0, none⟩) 1 [97] := row_mark w [97] (1, 2) (by decide)
  have b0 : Below w.heap.size w (w.alloc (.cells #[.int .u8 97] 5 (1, 2))) := (Below.refl _ _).alloc (Nat.le_refl _) _
  go_enter Try.func10, Try.ntmps10
  go_wp2_with fail
  refine (seal_any _ 1 1 [97] _ r0 rfl (by omega)).mono ?_
  rintro e w1 ⟨v1, rfl, o1⟩
  obtain ⟨a1, c1, rfl, r1⟩ := o1.row_n (n := 5) (by simp [sealL, putL_len])
  have b1 := b0.trans (o1.below.mono b0.size)
  clear o1 r0 b0
  go_wp2_with fail
  refine (open_any _ 5 _ (sealL [97]) _ r1 (by simp [sealL, putL_len]) (by omega)).mono ?_
  rw [crc_a]
  rintro e w2 ⟨v2, rfl, o2⟩
  rw [Option.getD_some] at o2
  obtain ⟨a2, c2, rfl, r2⟩ := o2.row_n (n := 1) rfl
  have b2 := b1.trans (o2.below.mono b1.size)
  clear o2 r1 b1
  rw [Option.isSome_some]
  have r3 : Row (w2.alloc (.cells #[.int .u8 49, .int .u8 50, .int .u8 51, .int .u8 52, .int .u8 53, .int .u8 54, .int .u8 55, .int .u8 56, .int .u8 57] 5 (9, 10))) (some ⟨w2.heap.size, 0, none⟩) 9 [49, 50, 51, 52, 53, 54, 55, 56, 57] := row_mark w2 [49, 50, 51, 52, 53, 54, 55, 56, 57] (9, 10) (by decide)
  have b3 : Below w.heap.size w (w2.alloc (.cells #[.int .u8 49, .int .u8 50, .int .u8 51, .int .u8 52, .int .u8 53, .int .u8 54, .int .u8 55, .int .u8 56, .int .u8 57] 5 (9, 10))) := b2.alloc b2.size _
  have hcv := conv_row_n (r2.later ((Below.refl _ _).alloc (Nat.le_refl _) (.cells #[.int .u8 49, .int .u8 50, .int .u8 51, .int .u8 52, .int .u8 53, .int .u8 54, .int .u8 55, .int .u8 56, .int .u8 57] 5 (9, 10)))) (n := 1) rfl
  clear r2 b2
  go_wp2_with fail
  refine (of_any _ 9 9 [49, 50, 51, 52, 53, 54, 55, 56, 57] _ r3 rfl (by omega)).mono ?_
  rw [crc_nine, show cI 3808858755#32 = 3808858755 by decide]
  rintro e w4 ⟨rfl, rfl⟩
  go_wp2_with fail
  refine (of_any _ 0 0 [] _ (Row.none _) rfl (by omega)).mono ?_
  rw [crc_none, show cI 0#32 = 0 by decide]
  rintro e w4 ⟨rfl, rfl⟩
  go_wp2
  go_ret
  exact ⟨rfl, b3⟩
end Go.Proofs.Ytbndfegepdefnaa
