/- Messages: may one be? The document's own: all kinds. Printed by gen_msh.py. -/
import Derived.Test.YtiahifpbofkimaaMsHb
import Derived.Test.YtiahifpbofkimaaMsHc
namespace Go.Proofs.Ytiahifpbofkimaa
open Go.RowKit Go.Proofs
set_option linter.unusedVariables false
set_option linter.unusedSimpArgs false
set_option linter.unnecessarySimpa false

theorem msrright_any (m : Ms) (p : MsAt) (w : World) (h : MsRows w m p) : Calls Try.prog 16 #[msV m p] w fun e w' => e = .returned (.bool (rightMs m)) ∧ Below w.heap.size w w' := by
  by_cases hN : NumsM m
  · rcases (show m.kind = 1 ∨ m.kind = 2 ∨ m.kind = 3 ∨ m.kind = 4 ∨ m.kind = 5 ∨ m.kind = 6 ∨ m.kind = 7 ∨ m.kind = 8 ∨ m.kind = 9 by have := hN.1; omega) with hk | hk | hk | hk | hk | hk | hk | hk | hk
    · exact rright_1 m p w h hN hk
    · exact rright_2 m p w h hN hk
    · exact rright_3 m p w h hN hk
    · exact rright_4 m p w h hN hk
    · exact rright_5 m p w h hN hk
    · exact rright_6 m p w h hN hk
    · exact rright_7 m p w h hN hk
    · exact rright_8 m p w h hN hk
    · exact rright_9 m p w h hN hk
  · exact rright_bad m p w h hN
end Go.Proofs.Ytiahifpbofkimaa
