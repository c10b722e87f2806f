/- Slices as what an operation of a drawn region leaves. -/
import Derived.Test.YtbpddcmehjgleaaSl
import Derived.Test.YtbpddcmehjgleaaFree
namespace Go.Proofs.Ytbpddcmehjgleaa
open Go.RowKit
set_option linter.unusedVariables false

/-- A slice that reads as these bytes. -/
def rV (l : List UInt8) : SV := ⟨fun w v => ∃ b c, v = .slice b l.length c ∧ Row w b c l, fun w w' v ⟨b, c, h, r⟩ hb => ⟨b, c, h, r.later hb⟩⟩
theorem own_rV {w w' : World} {v : Value} {l D : List UInt8} (h : Own w w' v l) (e : l = D) : (rV D).p w' v ∧ Below w.heap.size w w' := by
  subst e
  obtain ⟨b, c, hv, r⟩ := h.row
  exact ⟨⟨b, c, hv, r⟩, h.below⟩
end Go.Proofs.Ytbpddcmehjgleaa
