/- bytes.Equal; bytes that are the same. -/
import Derived.Test.YtabeleihpnnadaaRv
import Derived.Test.YtabeleihpnnadaaInts
namespace Go.Proofs.Ytabeleihpnnadaa
open Go.RowKit
set_option linter.unusedVariables false
set_option linter.unusedSimpArgs false

theorem sbeq_iff (x y : ByteArray) : (x.toList == y.toList) = true ↔ x = y := by
  rw [beq_iff_eq, ByteArray.toList_eq, ByteArray.toList_eq]
  constructor
  · intro h; cases x; cases y; simpa using h
  · rintro rfl; rfl
theorem sbeq_no {x y : ByteArray} (h : x ≠ y) : (x.toList == y.toList) = false := by
  rw [Bool.eq_false_iff]; exact fun h2 => h ((sbeq_iff x y).1 h2)
theorem bytes_eq {l1 l2 : List UInt8} : ((⟨l1.toArray⟩ : ByteArray) = ⟨l2.toArray⟩) ↔ l1 = l2 := by
  constructor
  · intro h; have := congrArg (fun b : ByteArray => b.data.toList) h; simpa using this
  · rintro rfl; rfl
end Go.Proofs.Ytabeleihpnnadaa
