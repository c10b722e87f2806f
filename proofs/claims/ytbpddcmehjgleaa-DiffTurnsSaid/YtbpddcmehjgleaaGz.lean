/- Rows of noughts of one cell each; rows of bools, of numbers as records. -/
import Derived.Test.YtbpddcmehjgleaaGRow
import Derived.Test.YtbpddcmehjgleaaSl
import Derived.Test.YtbpddcmehjgleaaZi
import Derived.Laws.OwnMore
namespace Go.Proofs.Ytbpddcmehjgleaa
open Go.RowKit Go.Proofs
set_option linter.unusedVariables false
set_option linter.unusedSimpArgs false

theorem flat_rep {α β : Type} {V : α → List β} {t0 : α} {z : β} (h : V t0 = [z]) : ∀ n, (List.replicate n t0).flatMap V = List.replicate n z
  | 0 => rfl
  | n + 1 => by rw [List.replicate_succ, List.flatMap_cons, h, flat_rep h n, List.replicate_succ]; rfl
section
variable {α : Type} {R : RT α} {ops : Array Oper} {rest : List Oper} {o : Oper} {a : Act} {Q : Exit → Act → World → Prop}
theorem wp_gzeros (hR : R.Ok) {z : Value} {b : Nat} (hinfo : (Try.prog.info? R.E).map (fun i => (i.zero, i.size, i.bytes)) = some (some z, 1, b)) (hb8 : b ≤ 8) (hz : z.cells = #[z]) (hsz : R.sz = 1) (t0 : α) (hV : R.V t0 = [z]) (hB : R.B t0)
    {w : World} (hgd : o.guard = none) (l c : Operand) {S : TypeId} (ho : o.op = Op.makeSlice S l c) (hS : S = R.S) (W0 : World) (hb : Below W0.heap.size W0 w) (kl kc : IntKind) (L C : Int) (n : Nat)
    (hl : a.eval l = .int kl L) (hc : a.eval c = .int kc C) (hL : L = n) (hC : C = n) (hn : n ≤ 1000000)
    (h : ∀ w', GOwn R W0 w' (.slice (some ⟨w.heap.size, 0, none⟩) n n) (List.replicate n t0) → Below w.heap.size w w' → wpList Try.prog ops Q rest (a.put o.dst (.slice (some ⟨w.heap.size, 0, none⟩) n n)) w') : wpList Try.prog ops Q (o :: rest) a w := by
  subst hS
  obtain ⟨i0, hi, hz0, hz1, hz2⟩ := info_parts hinfo
  refine wpList_make_full w hgd l c R.S ho W0.heap.size R.E i0 z 1 hR.und hi hz0 hz1 kl kc L C n hl hc hL hC (by rw [hz2]; have := Nat.mul_le_mul hb8 hn; omega) (by unfold maxLen; omega) hb.size ?_
  intro w' ho' hg
  have e : (madeCells z.cells (n * 1)).toList = (List.replicate n t0).flatMap R.V := by
    rw [hz, toList_madeCells_one, Nat.mul_one, flat_rep hV]
  rw [e, ← hsz] at ho'
  refine h w' ⟨by rw [List.length_replicate]; exact ho', hb.grown hg hb.size (fun k hk => by cases hk), fun t ht => by rw [List.eq_of_mem_replicate ht]; exact hB⟩ ((Below.refl _ _).grown hg (Nat.le_refl _) (fun k hk => by cases hk))
end
theorem info_bo : (Try.prog.info? 4).map (fun i => (i.zero, i.size, i.bytes)) = some (some (.bool false), 1, 1) := by kernel_rfl
def inB (z : Int) : Prop := -9223372036854775808 ≤ z ∧ z ≤ 9223372036854775807
theorem info_in : (Try.prog.info? 3).map (fun i => (i.zero, i.size, i.bytes)) = some (some (.int .i64 0), 1, 8) := by kernel_rfl
/-- A cell of a row of one-cell elements. -/
theorem GOwn.cell1 {α : Type} {R : RT α} (hR : R.Ok) (hsz : R.sz = 1) {W0 w : World} {g n cap : Nat} {ts : List α} (h : GOwn R W0 w (.slice (some ⟨g, 0, none⟩) n cap) ts) (hn : ts.length = n) {i : Nat} {t : α} (hi : ts[i]? = some t) {v : Value} (hV : R.V t = [v]) : w.cell? ⟨g, i, none⟩ = some v := by
  obtain ⟨_, _, e, r⟩ := h.row_n hR hn
  cases e
  obtain ⟨b, off, e2, hc⟩ := r.at hi
  cases e2
  have := hc 0 v (by rw [hV]; rfl)
  rw [hsz] at this
  simpa using this
theorem GOwn.stored1 {α : Type} {R : RT α} (hR : R.Ok) (hsz : R.sz = 1) {W0 w : World} {g n cap : Nat} {ts : List α} (h : GOwn R W0 w (.slice (some ⟨g, 0, none⟩) n cap) ts) (hn : ts.length = n) {i : Nat} {t t' : α} {v : Value} (hi : ts[i]? = some t) (hV : R.V t = [v]) {v' : Value} (hV' : R.V t' = [v']) (hB : R.B t') :
    GOwn R W0 (w.setCell ⟨g, i, none⟩ v') (.slice (some ⟨g, 0, none⟩) n cap) (ts.set i t') := by
  have h2 := h.stored hR hn (i := i) (k := 0) (t := t) (t' := t') (v := v') hi (by omega) (by rw [hV, hV']; rfl) hB
  rw [hsz] at h2
  simpa using h2
end Go.Proofs.Ytbpddcmehjgleaa
