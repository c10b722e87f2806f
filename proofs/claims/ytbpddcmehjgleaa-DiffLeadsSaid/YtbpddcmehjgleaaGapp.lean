/- Appends to rows of one's own within drawn regions; marks that stay from one world to the next. -/
import Derived.Test.YtbpddcmehjgleaaGRow
import Derived.Test.YtbpddcmehjgleaaPhase
namespace Go.Proofs.Ytbpddcmehjgleaa
open Go.RowKit Go.Proofs
set_option linter.unusedVariables false
set_option linter.unusedSimpArgs false
set_option linter.unnecessarySimpa false

theorem grow_of_rec {α : Type} {R : RT α} (hR : R.Ok) {w : World} {x : Nat} {cs : Array Value} {E : TypeId} (hrec : RecAt w x cs E) {t : α} (ht : R.B t) (hc : cs.toList = R.V t) : GRow R w (some ⟨x, 0, none⟩) 1 [t] := by
  refine ⟨by simp, by simp [maxLen], fun e => (by cases e), fun s hs => (by simp at hs; subst hs; exact ht), fun y hy i s hs => ?_⟩
  cases hy
  match i, hs with
  | 0, hs =>
    simp at hs; subst hs
    refine ⟨rfl, fun k v hv => ?_⟩
    rw [← hc] at hv
    have := hrec.cell (i := k) (v := v) (by simpa using hv)
    simpa using this
/-- Marks that stay over one heavy operation, from this world to that. -/
def Calm5 (w1 w2 : World) (i : Nat) : Nat → List SV → List SV → Prop
  | _, [], _ => True
  | n, s :: r, s' :: r' => (n = i ∨ ∀ v, s.p w1 v → s'.p w2 v) ∧ Calm5 w1 w2 i (n + 1) r r'
  | _, _ :: _, [] => False
theorem Calm5.all' {w1 w2 : World} {i : Nat} : ∀ {L L' : List SV} {n : Nat}, Calm5 w1 w2 i n L L' → ∀ k v0, n + k ≠ i → VL L k w1 v0 → VL L' k w2 v0
  | [], _, _, _, k, v0, _, h => by simp [VL] at h
  | s :: r, [], _, hc, _, _, _, _ => hc.elim
  | s :: r, s' :: r', n, hc, 0, v0, hne, h => by
    rcases hc.1 with h1 | h1
    · exact absurd h1 hne
    · exact h1 v0 h
  | s :: r, s' :: r', n, hc, k + 1, v0, hne, h => by
    have := Calm5.all' hc.2 k v0 (by omega) (by simpa [VL] using h)
    simpa [VL] using this
theorem Calm5.all {w1 w2 : World} {i n : Nat} {L L' : List SV} (h : Calm5 w1 w2 i n L L') (hn : n = 0 := by rfl) : ∀ k v0, k ≠ i → VL L k w1 v0 → VL L' k w2 v0 := fun k v0 hk hv => by
  subst hn
  exact Calm5.all' h k v0 (by omega) hv
theorem hv_gapp {α : Type} {R : RT α} (hR : R.Ok) {ops : Array Oper} {Q : Exit → Act → World → Prop} {L L' : List SV} {J' : World → Prop} {i : Nat} {a : Act} {w : World} {o : Oper} (hi : ops[i]? = some o) (hg : o.guard = none) (s x : Operand) {S : TypeId}
    (ho : o.op = .call { callee := .builtin .append, args := #[s, x], argTypes := #[S, S] }) (hS : S = R.S)
    (v : Value) (ts : List α) (hs : a.eval s = v) (W0 : World) (hown : GOwn R W0 w v ts) (ad : Option Addr) (cap n : Nat) (us : List α) (hr : GRow R w ad cap us) (hn : us.length = n) (hx : a.eval x = .slice ad n cap) (hlen : ts.length + us.length ≤ 1000000)
    (h : ∀ v' w', GOwn R W0 w' v' (ts ++ us) → w.grownBy w' v.ownBlock → VL L' i w' v' ∧ J' w' ∧ ∀ k v0, k ≠ i → VL L k w v0 → VL L' k w' v0) : HvGoal Try.prog ops Q L L' J' i a w := by
  subst hS
  obtain ⟨v', w', h1, h2, h3, _⟩ := run_gapp hR v ts W0 hown ad cap n us hr hn o.type hlen
  obtain ⟨g1, g2, g3⟩ := h v' w' h2 h3
  refine hv_run (v := v') (w' := w') hi hg ?_ g1 g2 g3
  unfold execOp
  simp only [ho, resolve, invoke, builtin, Sem.run_bind, Sem.run_pure, Result.andThen_ok, List.map_toArray, List.map_cons, List.map_nil, hs, hx, h1]
end Go.Proofs.Ytbpddcmehjgleaa
