/- Rows of numbers of the call's own. -/
import Derived.Test.YtikbhekcpddoeaaSl
import Derived.Test.YtikbhekcpddoeaaRec
import Derived.Maps.AppendAt
namespace Go.Proofs.Ytikbhekcpddoeaa
open Go.RowKit
set_option linter.unusedVariables false
set_option linter.unusedSimpArgs false

section
variable {ops : Array Oper} {rest : List Oper} {o : Oper} {a : Act} {Q : Exit → Act → World → Prop}
/-- Numbers in a row of one's own. -/
def IOwn (W0 w : World) (v : Value) (zs : List Nat) : Prop := w.ownsRow W0.heap.size 3 1 v zs.length (zs.map fun z : Nat => Value.int .i64 z) ∧ Below W0.heap.size W0 w
theorem info_i64 : (Try.prog.info? 3).map (fun i => (i.zero, i.size, i.bytes)) = some (some (.int .i64 0), 1, 8) := by kernel_rfl
theorem IOwn.nil (w : World) : IOwn w w (.slice .none 0 0) [] := ⟨World.ownsRow_nil _ _ _ _, Below.refl _ _⟩
theorem IOwn.later {W0 w w' : World} {v : Value} {zs : List Nat} (h : IOwn W0 w v zs) (hb : Below w.heap.size w w') : IOwn W0 w' v zs := by
  exact ⟨ownsRow_later h.1 hb, h.2.trans (hb.mono h.2.size)⟩
theorem IOwn.kept {W0 w w' : World} {v : Value} {zs : List Nat} {g : Option Nat} (h : IOwn W0 w v zs) (hg : w.grownBy w' g) (hne : v.ownBlock = none ∨ v.ownBlock ≠ g) (hge : ∀ k, g = some k → W0.heap.size ≤ k) : IOwn W0 w' v zs :=
  ⟨h.1.kept hg hne, h.2.grown hg h.2.size hge⟩
theorem IOwn.row_n {W0 w : World} {v : Value} {zs : List Nat} {n : Nat} (h : IOwn W0 w v zs) (hn : zs.length = n) : ∃ a cap, v = .slice a n cap ∧ n ≤ cap ∧ ∀ (i : Nat) z, zs[i]? = some z → ∃ g, a = some ⟨g, 0, .none⟩ ∧ w.cell? ⟨g, i, .none⟩ = some (.int .i64 (z : Nat)) := by
  subst hn
  rcases h.1.2 with ⟨hv, hn⟩ | ⟨g, cap, cur, hv, hb, hg, hn, hc, hs, ht⟩
  · have : zs = [] := List.length_eq_zero_iff.1 hn
    subst this
    exact ⟨.none, 0, hv, Nat.le_refl _, fun i z hz => by simp at hz⟩
  · refine ⟨_, cap, hv, hn, fun i z hz => ⟨g, rfl, ?_⟩⟩
    have hr := h.1
    rw [hv] at hr
    have hi := (List.getElem?_eq_some_iff.1 hz).1
    rw [hr.cellAt i (by omega), List.getElem?_map, hz]; rfl
theorem wp_num {w0 : World} (hgd : o.guard = none) (s x : Operand) (ho : o.op = .call { callee := .builtin .append, args := #[s, x], argTypes := #[22, 22] })
    (v : Value) (zs : List Nat) (hs : a.eval s = v) (W0 : World) (hown : IOwn W0 w0 v zs) (c : Int) (z : Nat) (hc : c = z) (hx : a.eval x = .slice (some ⟨w0.heap.size, 0, none⟩) 1 1) (hlen : zs.length + 1 ≤ 1000000)
    (h : ∀ v' w', IOwn W0 w' v' (zs ++ [z]) → (w0.alloc (.cells #[.int .i64 c] 3)).grownBy w' v.ownBlock → (v'.ownBlock = v.ownBlock ∨ v'.ownBlock = some (w0.heap.size + 1)) → wpList Try.prog ops Q rest (a.put o.dst v') w') : wpList Try.prog ops Q (o :: rest) a (w0.alloc (.cells #[.int .i64 c] 3)) := by
  subst hc
  obtain ⟨i0, hi, hz0, hz1, hz2⟩ := info_parts info_i64
  have h1 := hown.later ((Below.refl _ _).alloc (Nat.le_refl _) (.cells #[.int .i64 (z : Nat)] 3))
  have hrec := RecAt.new w0 #[.int .i64 (z : Nat)] 3
  refine wpList_append_own_at _ hgd s x 22 ho W0.heap.size 3 i0 (.int .i64 0) 1 8 Try.underlying22 hi hz0 hz1 hz2 rfl (by decide) v _ _ hs h1.1 ⟨w0.heap.size, 0, none⟩ 1 1 [.int .i64 (z : Nat)] hx rfl ?_ ?_ (by unfold maxLen; omega) (by omega) h1.2.size ?_
  · intro j u hu
    have e0 : (⟨w0.heap.size, 0, none⟩ : Addr).add j = ⟨w0.heap.size, j, none⟩ := by unfold Addr.add; split <;> simp_all
    rw [e0]
    exact hrec.cell (by simpa using hu)
  · intro u hu
    simp only [List.mem_cons, List.not_mem_nil, or_false] at hu
    rw [hu]; rfl
  · intro v' w' ho' hg _ hat
    refine h v' w' ⟨by simpa using ho', h1.2.grown hg h1.2.size (fun k hk => (World.ownsRow.lt h1.1 k hk).1)⟩ hg ?_
    rcases hat with e1 | e1
    · exact .inl e1
    · right; rw [e1]; simp
end

end Go.Proofs.Ytikbhekcpddoeaa
