/- Rows of numbers of the call's own. -/
import Derived.Test.YtbpddcmehjgleaaSl
import Derived.Test.YtbpddcmehjgleaaRec
import Derived.Maps.AppendAt
namespace Go.Proofs.Ytbpddcmehjgleaa
open Go.RowKit
set_option linter.unusedVariables false
set_option linter.unusedSimpArgs false

section
variable {ops : Array Oper} {rest : List Oper} {o : Oper} {a : Act} {Q : Exit → Act → World → Prop}
/-- Numbers in a row of one's own. -/
def IOwn (W0 w : World) (v : Value) (zs : List Nat) : Prop := w.ownsRow W0.heap.size 3 1 v zs.length (zs.map fun z : Nat => Value.int .i64 z) ∧ Below W0.heap.size W0 w
theorem info_i64 : (Try.prog.info? 3).map (fun i => (i.zero, i.size, i.bytes)) = some (some (.int .i64 0), 1, 8) := by kernel_rfl
theorem IOwn.nil (w : World) : IOwn w w (.slice .none 0 0) [] := ⟨World.ownsRow_nil _ _ _ _, Below.refl _ _⟩
theorem IOwn.later {W0 w w' : World} {v : Value} {zs : List Nat} (h : IOwn W0 w v zs) (hb : Below w.heap.size w w') : IOwn W0 w' v zs := by
  exact ⟨ownsRow_later h.1 hb, h.2.trans (hb.mono h.2.size)⟩
theorem IOwn.kept {W0 w w' : World} {v : Value} {zs : List Nat} {g : Option Nat} (h : IOwn W0 w v zs) (hg : w.grownBy w' g) (hne : v.ownBlock = none ∨ v.ownBlock ≠ g) (hge : ∀ k, g = some k → W0.heap.size ≤ k) : IOwn W0 w' v zs :=
  ⟨h.1.kept hg hne, h.2.grown hg h.2.size hge⟩
theorem IOwn.row_n {W0 w : World} {v : Value} {zs : List Nat} {n : Nat} (h : IOwn W0 w v zs) (hn : zs.length = n) : ∃ a cap, v = .slice a n cap ∧ n ≤ cap ∧ ∀ (i : Nat) z, zs[i]? = some z → ∃ g, a = some ⟨g, 0, .none⟩ ∧ w.cell? ⟨g, i, .none⟩ = some (.int .i64 (z : Nat)) := by
  subst hn
  rcases h.1.2 with ⟨hv, hn⟩ | ⟨g, cap, cur, hv, hb, hg, hn, hc, hs, ht⟩
  · have : zs = [] := List.length_eq_zero_iff.1 hn
    subst this
    exact ⟨.none, 0, hv, Nat.le_refl _, fun i z hz => by simp at hz⟩
  · refine ⟨_, cap, hv, hn, fun i z hz => ⟨g, rfl, ?_⟩⟩
    have hr := h.1
    rw [hv] at hr
    have hi := (List.getElem?_eq_some_iff.1 hz).1
    rw [hr.cellAt i (by omega), List.getElem?_map, hz]; rfl
end

end Go.Proofs.Ytbpddcmehjgleaa
