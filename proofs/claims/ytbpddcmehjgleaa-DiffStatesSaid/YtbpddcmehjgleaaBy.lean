/- bytes.Equal; bytes that are the same. -/
import Derived.Test.YtbpddcmehjgleaaRv
import Derived.Test.YtbpddcmehjgleaaInts
namespace Go.Proofs.Ytbpddcmehjgleaa
open Go.RowKit
set_option linter.unusedVariables false
set_option linter.unusedSimpArgs false

theorem sbeq_iff (x y : ByteArray) : (x.toList == y.toList) = true ↔ x = y := by
  rw [beq_iff_eq, ByteArray.toList_eq, ByteArray.toList_eq]
  constructor
  · intro h; cases x; cases y; simpa using h
  · rintro rfl; rfl
theorem sbeq_no {x y : ByteArray} (h : x ≠ y) : (x.toList == y.toList) = false := by
  rw [Bool.eq_false_iff]; exact fun h2 => h ((sbeq_iff x y).1 h2)
theorem bytes_eq {l1 l2 : List UInt8} : ((⟨l1.toArray⟩ : ByteArray) = ⟨l2.toArray⟩) ↔ l1 = l2 := by
  constructor
  · intro h; have := congrArg (fun b : ByteArray => b.data.toList) h; simpa using this
  · rintro rfl; rfl
set_option maxHeartbeats 1000000 in
theorem equal_any (a1 a2 : Option Addr) (n1 n2 c1 c2 : Nat) (l1 l2 : List UInt8) (w : World) (h1 : Row w a1 c1 l1) (h2 : Row w a2 c2 l2) (hn1 : l1.length = n1) (hn2 : l2.length = n2) :
    Calls Try.prog 40 #[.slice a1 n1 c1, .slice a2 n2 c2] w fun e w' => e = .returned (.bool (decide (l1 = l2))) ∧ w = w' := by
  have q1 := conv_row_n h1 hn1
  have q2 := conv_row_n h2 hn2
  have HB : Hid (((⟨l1.toArray⟩ : ByteArray) = ⟨l2.toArray⟩) ↔ l1 = l2) := Lib.hid bytes_eq
  generalize (⟨l1.toArray⟩ : ByteArray) = S1 at *
  generalize (⟨l2.toArray⟩ : ByteArray) = S2 at *
  go_enter Try.func40, Try.ntmps40
  go_wp2_with fail
  go_ret
  exact ⟨ret_bool (by rw [Bool.eq_iff_iff, sbeq_iff, HB.out]; simp), rfl⟩
end Go.Proofs.Ytbpddcmehjgleaa
