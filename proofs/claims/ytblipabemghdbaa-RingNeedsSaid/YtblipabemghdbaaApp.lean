/- Appends of bytes within a region that draws its order. -/
import Derived.Test.YtblipabemghdbaaSl
import Derived.Test.YtblipabemghdbaaPhase
import Derived.Test.YtblipabemghdbaaRv
namespace Go.Proofs.Ytblipabemghdbaa
open Go.RowKit
set_option linter.unusedVariables false
set_option linter.unusedSimpArgs false

/-- A mark that no value bears: of what isn't there yet. -/
def nV : SV := ⟨fun _ _ => False, fun _ _ _ h _ => h⟩
/-- Marks that a heavy operation leaves alone: constants, those of which nobody asks any more, and those that aren't there yet. -/
def Calm2 (i : Nat) : Nat → List SV → List SV → Prop
  | _, [], _ => True
  | n, s :: r, s' :: r' => ((∃ c, s = cV c ∧ s' = cV c) ∨ s' = tV ∨ n = i ∨ s = nV) ∧ Calm2 i (n + 1) r r'
  | _, _ :: _, [] => False
theorem Calm2.all' {i : Nat} : ∀ {L L' : List SV} {n : Nat}, Calm2 i n L L' → ∀ w1 w2 k v0, n + k ≠ i → VL L k w1 v0 → VL L' k w2 v0
  | [], _, _, _, w1, w2, k, v0, _, h => by simp [VL] at h
  | s :: r, [], _, hc, _, _, _, _, _, _ => hc.elim
  | s :: r, s' :: r', n, hc, w1, w2, 0, v0, hne, h => by
    obtain ⟨h1, _⟩ := hc
    rcases h1 with ⟨c, rfl, rfl⟩ | rfl | h1 | rfl
    · exact h
    · exact trivial
    · exact absurd h1 hne
    · exact False.elim h
  | s :: r, s' :: r', n, hc, w1, w2, k + 1, v0, hne, h => by
    have := Calm2.all' hc.2 w1 w2 k v0 (by omega) (by simpa [VL] using h)
    simpa [VL] using this
theorem Calm2.all {i n : Nat} {L L' : List SV} (h : Calm2 i n L L') (hn : n = 0 := by rfl) : ∀ w1 w2 k v0, k ≠ i → VL L k w1 v0 → VL L' k w2 v0 := fun w1 w2 k v0 hk hv => by
  subst hn
  exact Calm2.all' h w1 w2 k v0 (by omega) hv
/-- A row that the call made itself, as what an operation of a drawn region leaves. -/
def oV (W0 : World) (l : List UInt8) : SV := ⟨fun w v => Own W0 w v l, fun w w' v h hb => h.later hb⟩
theorem ov_row {W0 w : World} {v : Value} {l : List UInt8} {n : Nat} (h : (oV W0 l).p w v) (hn : l.length = n) : ∃ a p, v = .slice a n p ∧ Row w a p l := by
  have h : Own W0 w v l := h
  exact h.row_n hn
theorem ov_of {l D : List UInt8} {W0 w : World} {P : FuncId} {args : Array Value} (h : Calls Try.prog P args w fun e w' => ∃ v, e = .returned v ∧ Own w w' v l) (hb : Below W0.heap.size W0 w) (hD : l = D) :
    Calls Try.prog P args w fun e w' => ∃ v, e = .returned v ∧ (oV W0 D).p w' v ∧ Below w.heap.size w w' := by
  subst hD
  exact h.mono fun e w' ⟨v, h, o⟩ => ⟨v, h, o.back hb, o.below⟩
/-- The world while only light operations ran; behind the heavy one nothing is told. -/
def jA (W : World) : Nat → World → Prop
  | 0, w => Below W.heap.size W w
  | _ + 1, _ => True
theorem jA_st (W : World) : ∀ ph w w', jA W ph w → Below w.heap.size w w' → jA W ph w'
  | 0, w, w', h, hb => Below.trans (h : Below W.heap.size W w) (hb.mono (Below.size h))
  | _ + 1, _, _, _, _ => trivial
end Go.Proofs.Ytblipabemghdbaa
