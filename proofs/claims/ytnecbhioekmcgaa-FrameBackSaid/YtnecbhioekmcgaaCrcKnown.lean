/- Chapter 2's own examples: 'known' answers true. -/
import Derived.Test.YtnecbhioekmcgaaCrc
namespace Go.Proofs.Ytnecbhioekmcgaa
open Go.RowKit
set_option linter.unusedVariables false

theorem wf_u32 {n : Int} (h : (Lit.int .u32 n).wf = true) : ∃ c : W32, n = cI c := by
  simp [Lit.wf, IntKind.min, IntKind.max, IntKind.signed, IntKind.bits] at h
  exact ⟨BitVec.ofNat 32 n.toNat, by rw [cI_ofNat (by omega)]; omega⟩
theorem wf_u8 {n : Int} (h : (Lit.int .u8 n).wf = true) : ∃ u : UInt8, n = (u.toNat : Int) := by
  simp [Lit.wf, IntKind.min, IntKind.max, IntKind.signed, IntKind.bits] at h
  exact ⟨UInt8.ofNat n.toNat, by rw [UInt8.toNat_ofNat']; omega⟩
theorem wf_int {n : Int} (h : (Lit.int .i64 n).wf = true) : -9223372036854775808 ≤ n ∧ n ≤ 9223372036854775807 := by
  simp [Lit.wf, IntKind.min, IntKind.max, IntKind.signed, IntKind.bits] at h; omega

theorem crc_a : openL (sealL [97]) = some [97] := by decide +kernel
theorem crc_nine : crcL [49, 50, 51, 52, 53, 54, 55, 56, 57] = 3808858755#32 := by decide +kernel
theorem crc_none : crcL [] = 0#32 := by decide +kernel

end Go.Proofs.Ytnecbhioekmcgaa
