/- Appends of bytes within a region that draws its order. -/
import Derived.Test.YtbpddcmehjgleaaSl
import Derived.Test.YtbpddcmehjgleaaPhase
import Derived.Test.YtbpddcmehjgleaaRv
namespace Go.Proofs.Ytbpddcmehjgleaa
open Go.RowKit
set_option linter.unusedVariables false
set_option linter.unusedSimpArgs false

theorem run_row {w : World} (v : Value) (l : List UInt8) (W0 : World) (hown : Own W0 w v l) (ad : Option Addr) (cap n : Nat) (l2 : List UInt8) (hr : Row w ad cap l2) (hn : l2.length = n) (ty : TypeId) (hlen : l.length + l2.length ≤ 140737488355328) :
    ∃ v' w', (Builtin.append_ #[22, 22] ty #[v, .slice ad n cap]).run Try.prog w = .ok v' w' ∧ Own W0 w' v' (l ++ l2) ∧ w.grownBy w' v.ownBlock := by
  subst hn
  obtain ⟨i0, hi, hz0, hz1, hz2⟩ := info_parts info_u8
  cases ad with
  | none =>
    obtain ⟨rfl, rfl⟩ := hr.of_nil
    have hrun := run_append_owned_none (P := Try.prog) (w := w) W0.heap.size 22 ty 5 i0 1 Try.underlying22 hi v _ _ hown.1
    exact ⟨v, w, hrun, by simpa using hown, ⟨rfl, rfl, rfl, Nat.le_refl _, fun _ _ _ => rfl⟩⟩
  | some y =>
    obtain ⟨v', w', h1, h2, h3, h4⟩ := run_append_own (P := Try.prog) w W0.heap.size 22 ty 5 i0 (.int .u8 0) 1 1 Try.underlying22 hi hz0 hz1 hz2 rfl (by decide) v _ _ hown.1 y l2.length cap (l2.map B8) (by simp) (by
      intro j u hu
      rw [List.getElem?_map] at hu
      cases hj : l2[j]? with
      | none => rw [hj] at hu; cases hu
      | some z => rw [hj] at hu; simp at hu; subst hu; exact hr.2.2.2 y rfl j z hj) (by
      intro u hu
      simp at hu; obtain ⟨z, _, rfl⟩ := hu; rfl) (by unfold maxLen; omega) (by omega) hown.2.size
    exact ⟨v', w', h1, hown.grown (by simp) (by simp) h2 h3, h3⟩
/-- A mark that no value bears: of what isn't there yet. -/
def nV : SV := ⟨fun _ _ => False, fun _ _ _ h _ => h⟩
/-- 'append(s, b...)' as a heavy operation, s the call's own. -/
theorem hv_row {ops : Array Oper} {Q : Exit → Act → World → Prop} {L L' : List SV} {J' : World → Prop} {i : Nat} {a : Act} {w : World} {o : Oper} (hi : ops[i]? = some o) (hg : o.guard = none) (s x : Operand)
    (ho : o.op = .call { callee := .builtin .append, args := #[s, x], argTypes := #[22, 22] })
    (v : Value) (l : List UInt8) (hs : a.eval s = v) (W0 : World) (hown : Own W0 w v l) (ad : Option Addr) (cap n : Nat) (l2 : List UInt8) (hr : Row w ad cap l2) (hn : l2.length = n) (hx : a.eval x = .slice ad n cap) (hlen : l.length + l2.length ≤ 140737488355328)
    (h : ∀ v' w', Own W0 w' v' (l ++ l2) → w.grownBy w' v.ownBlock → VL L' i w' v' ∧ J' w' ∧ ∀ k v0, k ≠ i → VL L k w v0 → VL L' k w' v0) : HvGoal Try.prog ops Q L L' J' i a w := by
  obtain ⟨v', w', h1, h2, h3⟩ := run_row v l W0 hown ad cap n l2 hr hn o.type hlen
  obtain ⟨g1, g2, g3⟩ := h v' w' h2 h3
  refine hv_run (v := v') (w' := w') hi hg ?_ g1 g2 g3
  unfold execOp
  simp only [ho, resolve, invoke, builtin, Sem.run_bind, Sem.run_pure, Result.andThen_ok, List.map_toArray, List.map_cons, List.map_nil, hs, hx, h1]
/-- Marks that a heavy operation leaves alone: constants, those of which nobody asks any more, and those that aren't there yet. -/
def Calm2 (i : Nat) : Nat → List SV → List SV → Prop
  | _, [], _ => True
  | n, s :: r, s' :: r' => ((∃ c, s = cV c ∧ s' = cV c) ∨ s' = tV ∨ n = i ∨ s = nV) ∧ Calm2 i (n + 1) r r'
  | _, _ :: _, [] => False
theorem Calm2.all' {i : Nat} : ∀ {L L' : List SV} {n : Nat}, Calm2 i n L L' → ∀ w1 w2 k v0, n + k ≠ i → VL L k w1 v0 → VL L' k w2 v0
  | [], _, _, _, w1, w2, k, v0, _, h => by simp [VL] at h
  | s :: r, [], _, hc, _, _, _, _, _, _ => hc.elim
  | s :: r, s' :: r', n, hc, w1, w2, 0, v0, hne, h => by
    obtain ⟨h1, _⟩ := hc
    rcases h1 with ⟨c, rfl, rfl⟩ | rfl | h1 | rfl
    · exact h
    · exact trivial
    · exact absurd h1 hne
    · exact False.elim h
  | s :: r, s' :: r', n, hc, w1, w2, k + 1, v0, hne, h => by
    have := Calm2.all' hc.2 w1 w2 k v0 (by omega) (by simpa [VL] using h)
    simpa [VL] using this
theorem Calm2.all {i n : Nat} {L L' : List SV} (h : Calm2 i n L L') (hn : n = 0 := by rfl) : ∀ w1 w2 k v0, k ≠ i → VL L k w1 v0 → VL L' k w2 v0 := fun w1 w2 k v0 hk hv => by
  subst hn
  exact Calm2.all' h w1 w2 k v0 (by omega) hv
/-- A row that the call made itself, as what an operation of a drawn region leaves. -/
def oV (W0 : World) (l : List UInt8) : SV := ⟨fun w v => Own W0 w v l, fun w w' v h hb => h.later hb⟩
theorem ov_row {W0 w : World} {v : Value} {l : List UInt8} {n : Nat} (h : (oV W0 l).p w v) (hn : l.length = n) : ∃ a p, v = .slice a n p ∧ Row w a p l := by
  have h : Own W0 w v l := h
  exact h.row_n hn
theorem ov_of {l D : List UInt8} {W0 w : World} {P : FuncId} {args : Array Value} (h : Calls Try.prog P args w fun e w' => ∃ v, e = .returned v ∧ Own w w' v l) (hb : Below W0.heap.size W0 w) (hD : l = D) :
    Calls Try.prog P args w fun e w' => ∃ v, e = .returned v ∧ (oV W0 D).p w' v ∧ Below w.heap.size w w' := by
  subst hD
  exact h.mono fun e w' ⟨v, h, o⟩ => ⟨v, h, o.back hb, o.below⟩
/-- The world while only light operations ran; behind the heavy one nothing is told. -/
def jA (W : World) : Nat → World → Prop
  | 0, w => Below W.heap.size W w
  | _ + 1, _ => True
theorem jA_st (W : World) : ∀ ph w w', jA W ph w → Below w.heap.size w w' → jA W ph w'
  | 0, w, w', h, hb => Below.trans (h : Below W.heap.size W w) (hb.mono (Below.size h))
  | _ + 1, _, _, _, _ => trivial
end Go.Proofs.Ytbpddcmehjgleaa
