/- Clients: rows of them; which may be: the program's and the document's own. -/
import Derived.Test.YtiahifpbofkimaaGA
import Derived.Test.YtiahifpbofkimaaGRow
import Derived.Test.YtiahifpbofkimaaInts
import Derived.Test.YtiahifpbofkimaaPut
import Derived.Laws.StructEq
import Derived.Deep.QuietTactic
import Derived.BigQuiet
namespace Go.Proofs.Ytiahifpbofkimaa
open Go.RowKit Go.Proofs
set_option linter.unusedVariables false
set_option linter.unusedSimpArgs false
set_option linter.unnecessarySimpa false

def W64 (n : Int) : Prop := -9223372036854775808 ≤ n ∧ n ≤ 9223372036854775807
def Cu.B (t : Cu) : Prop := W64 t.id ∧ W64 t.pos
def cuV (t : Cu) : List Value := [.int .i64 t.id, .int .i64 t.pos, .bool t.off]
def CuE (cs : List Value) (t : Cu) : Prop := cs = cuV t ∧ t.B
/-! ### within -/
end Go.Proofs.Ytiahifpbofkimaa
