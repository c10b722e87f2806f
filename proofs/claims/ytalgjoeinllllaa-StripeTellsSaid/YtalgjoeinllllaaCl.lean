/- 'bytes.Clone'. -/
import Derived.Test.YtalgjoeinllllaaSl
namespace Go.Proofs.Ytalgjoeinllllaa
open Go.RowKit
set_option linter.unusedVariables false

theorem Own.nil (w : World) : Own w w (.slice none 0 0) [] := ⟨World.ownsRow_nil _ _ _ _, Below.refl _ _⟩
theorem row_nil_or {w : World} {a : Option Addr} {cap : Nat} {l : List UInt8} (h : Row w a cap l) : (a = none ∧ l = [] ∧ cap = 0) ∨ ∃ x, a = some x := by
  cases a with
  | none => have := h.of_nil; exact .inl ⟨rfl, this.1, this.2⟩
  | some x => exact .inr ⟨x, rfl⟩

end Go.Proofs.Ytalgjoeinllllaa
