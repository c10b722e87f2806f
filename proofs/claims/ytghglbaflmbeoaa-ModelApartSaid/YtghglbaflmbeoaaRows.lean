/-
  No cell of these rows narrows 'for every input' (looked for: loops, veiled, ifaces, maps, wideKeys, modest, calm, conditions, laid).
  DERIVED. THE GIVEN ROWS OF THIS SEAT. 7 by the template 'for every input the law returns true; each argument reads behind the call as it read before'; 0 by the template 'total and deterministic' (their statements: YtghglbaflmbeoaaTotals.lean).
  GIVEN WITH THE SEED: the statements are not yours to turn. If you find one false, say at which input.
  Laid BY PROGRAM, IN A SANDBOX (cutbox-rows.mjs): the forced cells as the released guide's own fill.sh prints them over the translation 0e1fc60be606ada0… (all of the seat's roots in one cut). By AI agents, Wed Nov 11 2026. No macro, syntax, notation, axiom, sorry.
-/
import Derived.Test.YtghglbaflmbeoaaChecked
import GoSem.Claim
import GoSem.ClaimJoined
import GoSem.ClaimMapViews
import Derived.JoinedTies
import Derived.KernelRfl
namespace Go.Proofs.Ytghglbaflmbeoaa
/- THE CELL 'sum', in the pinned program and in every row, IS THE sha256 OF THE DUMP (.gsa) THAT YtghglbaflmbeoaaProg.lean LOADS. Nothing in Lean hashes anything: it is a label: what it is worth is what the hold of that sum in a sandbox is worth. -/
noncomputable def Try.pinned : Pinned := { name := "ytghglbaflmbeoaa", sum := "0e1fc60be606ada0bb9f399fa99a935688e8c916aca13c80c0fd143740f30762", checked := Try.checked }
namespace Rows
def none {H : Type} : Left H := { results := [], args := [] }

/-- 'hectographlaw14.ModelPlays': WHATEVER THE INPUT: true; the input reads as it did. -/
def modelPlaysSpec : ChangeSpec := { name := "modelPlays", fn := fun _ => fun
  | [d1, d2, d3, d4, d5] => { results := [.lit (.bool true)], args := [d1, d2, d3, d4, d5] }
  | _ => none }
def modelPlaysRow : OpenClaim := { program := "ytghglbaflmbeoaa", sum := "0e1fc60be606ada0bb9f399fa99a935688e8c916aca13c80c0fd143740f30762", func := "hectograph/hectographlaw14.ModelPlays", spec := "modelPlays", apart := false }
def ModelPlaysSaid : Prop := modelPlaysRow.holds Try.pinned (OpenSpec.ofChange modelPlaysSpec)

/-- ITS FALSE NEIGHBOUR: 'it returns false'. Refute it at one input. -/
def modelPlaysWrong : ChangeSpec := { name := "modelPlays", fn := fun _ => fun
  | [d1, d2, d3, d4, d5] => { results := [.lit (.bool false)], args := [d1, d2, d3, d4, d5] }
  | _ => none }
def ModelPlaysWrongFalsely : Prop := modelPlaysRow.holds Try.pinned (OpenSpec.ofChange modelPlaysWrong)

/-- 'hectographlaw14.ModelStates': WHATEVER THE INPUT: true; the input reads as it did. -/
def modelStatesSpec : ChangeSpec := { name := "modelStates", fn := fun _ => fun
  | [d1, d2, d3, d4, d5, d6] => { results := [.lit (.bool true)], args := [d1, d2, d3, d4, d5, d6] }
  | _ => none }
def modelStatesRow : OpenClaim := { program := "ytghglbaflmbeoaa", sum := "0e1fc60be606ada0bb9f399fa99a935688e8c916aca13c80c0fd143740f30762", func := "hectograph/hectographlaw14.ModelStates", spec := "modelStates", unfollowed := true, recurses := true, apart := false }
def ModelStatesSaid : Prop := modelStatesRow.holds Try.pinned (OpenSpec.ofChange modelStatesSpec)

/-- ITS FALSE NEIGHBOUR: 'it returns false'. Refute it at one input. -/
def modelStatesWrong : ChangeSpec := { name := "modelStates", fn := fun _ => fun
  | [d1, d2, d3, d4, d5, d6] => { results := [.lit (.bool false)], args := [d1, d2, d3, d4, d5, d6] }
  | _ => none }
def ModelStatesWrongFalsely : Prop := modelStatesRow.holds Try.pinned (OpenSpec.ofChange modelStatesWrong)

/-- 'hectographlaw14.ModelRefuses': WHATEVER THE INPUT: true; the input reads as it did. -/
def modelRefusesSpec : ChangeSpec := { name := "modelRefuses", fn := fun _ => fun
  | [d1, d2] => { results := [.lit (.bool true)], args := [d1, d2] }
  | _ => none }
def modelRefusesRow : OpenClaim := { program := "ytghglbaflmbeoaa", sum := "0e1fc60be606ada0bb9f399fa99a935688e8c916aca13c80c0fd143740f30762", func := "hectograph/hectographlaw14.ModelRefuses", spec := "modelRefuses", unfollowed := true, recurses := true, apart := false }
def ModelRefusesSaid : Prop := modelRefusesRow.holds Try.pinned (OpenSpec.ofChange modelRefusesSpec)

/-- ITS FALSE NEIGHBOUR: 'it returns false'. Refute it at one input. -/
def modelRefusesWrong : ChangeSpec := { name := "modelRefuses", fn := fun _ => fun
  | [d1, d2] => { results := [.lit (.bool false)], args := [d1, d2] }
  | _ => none }
def ModelRefusesWrongFalsely : Prop := modelRefusesRow.holds Try.pinned (OpenSpec.ofChange modelRefusesWrong)

/-- 'hectographlaw14.ModelFolds': WHATEVER THE INPUT: true; the input reads as it did. -/
def modelFoldsSpec : ChangeSpec := { name := "modelFolds", fn := fun _ => fun
  | [d1, d2, d3] => { results := [.lit (.bool true)], args := [d1, d2, d3] }
  | _ => none }
def modelFoldsRow : OpenClaim := { program := "ytghglbaflmbeoaa", sum := "0e1fc60be606ada0bb9f399fa99a935688e8c916aca13c80c0fd143740f30762", func := "hectograph/hectographlaw14.ModelFolds", spec := "modelFolds", unfollowed := true, recurses := true, apart := false }
def ModelFoldsSaid : Prop := modelFoldsRow.holds Try.pinned (OpenSpec.ofChange modelFoldsSpec)

/-- ITS FALSE NEIGHBOUR: 'it returns false'. Refute it at one input. -/
def modelFoldsWrong : ChangeSpec := { name := "modelFolds", fn := fun _ => fun
  | [d1, d2, d3] => { results := [.lit (.bool false)], args := [d1, d2, d3] }
  | _ => none }
def ModelFoldsWrongFalsely : Prop := modelFoldsRow.holds Try.pinned (OpenSpec.ofChange modelFoldsWrong)

/-- 'hectographlaw14.ModelSnaps': WHATEVER THE INPUT: true; the input reads as it did. -/
def modelSnapsSpec : ChangeSpec := { name := "modelSnaps", fn := fun _ => fun
  | [d1, d2, d3] => { results := [.lit (.bool true)], args := [d1, d2, d3] }
  | _ => none }
def modelSnapsRow : OpenClaim := { program := "ytghglbaflmbeoaa", sum := "0e1fc60be606ada0bb9f399fa99a935688e8c916aca13c80c0fd143740f30762", func := "hectograph/hectographlaw14.ModelSnaps", spec := "modelSnaps", apart := false }
def ModelSnapsSaid : Prop := modelSnapsRow.holds Try.pinned (OpenSpec.ofChange modelSnapsSpec)

/-- ITS FALSE NEIGHBOUR: 'it returns false'. Refute it at one input. -/
def modelSnapsWrong : ChangeSpec := { name := "modelSnaps", fn := fun _ => fun
  | [d1, d2, d3] => { results := [.lit (.bool false)], args := [d1, d2, d3] }
  | _ => none }
def ModelSnapsWrongFalsely : Prop := modelSnapsRow.holds Try.pinned (OpenSpec.ofChange modelSnapsWrong)

/-- 'hectographlaw14.ModelApart': WHATEVER THE INPUT: true; the input reads as it did. -/
def modelApartSpec : ChangeSpec := { name := "modelApart", fn := fun _ => fun
  | [d1, d2, d3] => { results := [.lit (.bool true)], args := [d1, d2, d3] }
  | _ => none }
def modelApartRow : OpenClaim := { program := "ytghglbaflmbeoaa", sum := "0e1fc60be606ada0bb9f399fa99a935688e8c916aca13c80c0fd143740f30762", func := "hectograph/hectographlaw14.ModelApart", spec := "modelApart", apart := false }
def ModelApartSaid : Prop := modelApartRow.holds Try.pinned (OpenSpec.ofChange modelApartSpec)

/-- ITS FALSE NEIGHBOUR: 'it returns false'. Refute it at one input. -/
def modelApartWrong : ChangeSpec := { name := "modelApart", fn := fun _ => fun
  | [d1, d2, d3] => { results := [.lit (.bool false)], args := [d1, d2, d3] }
  | _ => none }
def ModelApartWrongFalsely : Prop := modelApartRow.holds Try.pinned (OpenSpec.ofChange modelApartWrong)

/-- 'hectographlaw14.ModelNoughts': WHATEVER THE INPUT: true; the input reads as it did. -/
def modelNoughtsSpec : ChangeSpec := { name := "modelNoughts", fn := fun _ => fun
  | [d1, d2, d3, d4] => { results := [.lit (.bool true)], args := [d1, d2, d3, d4] }
  | _ => none }
def modelNoughtsRow : OpenClaim := { program := "ytghglbaflmbeoaa", sum := "0e1fc60be606ada0bb9f399fa99a935688e8c916aca13c80c0fd143740f30762", func := "hectograph/hectographlaw14.ModelNoughts", spec := "modelNoughts", unfollowed := true, recurses := true, apart := false }
def ModelNoughtsSaid : Prop := modelNoughtsRow.holds Try.pinned (OpenSpec.ofChange modelNoughtsSpec)

/-- ITS FALSE NEIGHBOUR: 'it returns false'. Refute it at one input. -/
def modelNoughtsWrong : ChangeSpec := { name := "modelNoughts", fn := fun _ => fun
  | [d1, d2, d3, d4] => { results := [.lit (.bool false)], args := [d1, d2, d3, d4] }
  | _ => none }
def ModelNoughtsWrongFalsely : Prop := modelNoughtsRow.holds Try.pinned (OpenSpec.ofChange modelNoughtsWrong)

/- THE SECOND FORM. 'bulk': how many values and letters a reading holds, each counted each time it is reached (what is shared counts as often as it is met; a slice's spare places count too). A statement '..UptoSaid' is the law's where the arguments, and the package variables that the reading takes, are together of bulk at most 1048576: NARROWER than '..Said'. Prove '..Said' where nothing that the law and all that it calls make is longer than what came in: it says more and counts as full. Else prove '..UptoSaid'. A law counts once. -/
mutual
def uptoBulk {H : Type} : DataW H → Nat
  | .lit (.string bytes) => bytes.length + 1
  | .lit _ => 1
  | .nil => 1
  | .ptr d => uptoBulk d + 1
  | .slice elems spare => uptoBulkAll elems + uptoBulkAll spare + 1
  | .agg parts => uptoBulkAll parts + 1
  | .iface _ d => uptoBulk d + 1
  | .map entries => uptoBulkEntries entries + 1
  | .held _ => 1
def uptoBulkAll {H : Type} : List (DataW H) → Nat
  | [] => 0
  | d :: r => uptoBulk d + uptoBulkAll r
def uptoBulkEntries {H : Type} : List (Lit × DataW H) → Nat
  | [] => 0
  | x :: r => uptoBulkEntry x + uptoBulkEntries r
def uptoBulkEntry {H : Type} : Lit × DataW H → Nat
  | (.string bytes, d) => bytes.length + uptoBulk d + 1
  | (_, d) => uptoBulk d + 1
 end
def uptoSmall : (H : Type) → List (DataW H) → Bool := fun _ ds => decide (uptoBulkAll ds ≤ 1048576)
def OpenSpec.upto (s : _root_.Go.ChangeSpec) : _root_.Go.OpenSpec := { _root_.Go.OpenSpec.ofChange s with cond := some uptoSmall }

/-- 'hectographlaw14.ModelPlays', WHERE WHAT IT READS IS OF BULK AT MOST 1048576: true; the input reads as it did. -/
def modelPlaysUptoRow : OpenClaim := { program := "ytghglbaflmbeoaa", sum := "0e1fc60be606ada0bb9f399fa99a935688e8c916aca13c80c0fd143740f30762", func := "hectograph/hectographlaw14.ModelPlays", spec := "modelPlays", apart := false, narrowed := true }
def ModelPlaysUptoSaid : Prop := modelPlaysUptoRow.holds Try.pinned (OpenSpec.upto modelPlaysSpec)

/-- 'hectographlaw14.ModelStates', WHERE WHAT IT READS IS OF BULK AT MOST 1048576: true; the input reads as it did. -/
def modelStatesUptoRow : OpenClaim := { program := "ytghglbaflmbeoaa", sum := "0e1fc60be606ada0bb9f399fa99a935688e8c916aca13c80c0fd143740f30762", func := "hectograph/hectographlaw14.ModelStates", spec := "modelStates", unfollowed := true, recurses := true, apart := false, narrowed := true }
def ModelStatesUptoSaid : Prop := modelStatesUptoRow.holds Try.pinned (OpenSpec.upto modelStatesSpec)

/-- 'hectographlaw14.ModelRefuses', WHERE WHAT IT READS IS OF BULK AT MOST 1048576: true; the input reads as it did. -/
def modelRefusesUptoRow : OpenClaim := { program := "ytghglbaflmbeoaa", sum := "0e1fc60be606ada0bb9f399fa99a935688e8c916aca13c80c0fd143740f30762", func := "hectograph/hectographlaw14.ModelRefuses", spec := "modelRefuses", unfollowed := true, recurses := true, apart := false, narrowed := true }
def ModelRefusesUptoSaid : Prop := modelRefusesUptoRow.holds Try.pinned (OpenSpec.upto modelRefusesSpec)

/-- 'hectographlaw14.ModelFolds', WHERE WHAT IT READS IS OF BULK AT MOST 1048576: true; the input reads as it did. -/
def modelFoldsUptoRow : OpenClaim := { program := "ytghglbaflmbeoaa", sum := "0e1fc60be606ada0bb9f399fa99a935688e8c916aca13c80c0fd143740f30762", func := "hectograph/hectographlaw14.ModelFolds", spec := "modelFolds", unfollowed := true, recurses := true, apart := false, narrowed := true }
def ModelFoldsUptoSaid : Prop := modelFoldsUptoRow.holds Try.pinned (OpenSpec.upto modelFoldsSpec)

/-- 'hectographlaw14.ModelSnaps', WHERE WHAT IT READS IS OF BULK AT MOST 1048576: true; the input reads as it did. -/
def modelSnapsUptoRow : OpenClaim := { program := "ytghglbaflmbeoaa", sum := "0e1fc60be606ada0bb9f399fa99a935688e8c916aca13c80c0fd143740f30762", func := "hectograph/hectographlaw14.ModelSnaps", spec := "modelSnaps", apart := false, narrowed := true }
def ModelSnapsUptoSaid : Prop := modelSnapsUptoRow.holds Try.pinned (OpenSpec.upto modelSnapsSpec)

/-- 'hectographlaw14.ModelApart', WHERE WHAT IT READS IS OF BULK AT MOST 1048576: true; the input reads as it did. -/
def modelApartUptoRow : OpenClaim := { program := "ytghglbaflmbeoaa", sum := "0e1fc60be606ada0bb9f399fa99a935688e8c916aca13c80c0fd143740f30762", func := "hectograph/hectographlaw14.ModelApart", spec := "modelApart", apart := false, narrowed := true }
def ModelApartUptoSaid : Prop := modelApartUptoRow.holds Try.pinned (OpenSpec.upto modelApartSpec)

/-- 'hectographlaw14.ModelNoughts', WHERE WHAT IT READS IS OF BULK AT MOST 1048576: true; the input reads as it did. -/
def modelNoughtsUptoRow : OpenClaim := { program := "ytghglbaflmbeoaa", sum := "0e1fc60be606ada0bb9f399fa99a935688e8c916aca13c80c0fd143740f30762", func := "hectograph/hectographlaw14.ModelNoughts", spec := "modelNoughts", unfollowed := true, recurses := true, apart := false, narrowed := true }
def ModelNoughtsUptoSaid : Prop := modelNoughtsUptoRow.holds Try.pinned (OpenSpec.upto modelNoughtsSpec)

end Rows
end Go.Proofs.Ytghglbaflmbeoaa
