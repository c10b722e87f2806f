/- Rows of numbers, negative ones too: read, and one's own; numbers masked. -/
import Derived.Test.YtbpddcmehjgleaaRd
import Derived.Test.YtbpddcmehjgleaaNum
import Derived.Test.YtbpddcmehjgleaaSl
import Derived.Laws.AppendOwnNone
namespace Go.Proofs.Ytbpddcmehjgleaa
open Go.RowKit Go.Proofs
set_option linter.unusedVariables false
set_option linter.unusedSimpArgs false

theorem and_range (z : Int) (m : Nat) (hm : m < 9223372036854775808) : 0 ≤ bits .and .i64 z (m : Int) ∧ bits .and .i64 z (m : Int) ≤ m := by
  have h1 : (BitVec.ofInt 64 (m : Int)).toNat = m := by
    rw [BitVec.toNat_ofInt]; simp; omega
  have h2 : bits .and .i64 z (m : Int) = IntKind.i64.wrap (((BitVec.ofInt 64 z).toNat &&& m : Nat) : Int) := by
    show IntKind.i64.wrap ((BitVec.ofInt 64 z &&& BitVec.ofInt 64 (m : Int)).toNat : Int) = _
    rw [BitVec.toNat_and, h1]
  have h3 := @Nat.and_le_right (BitVec.ofInt 64 z).toNat m
  rw [h2, IntKind.wrap_i64]
  omega
/-! ### rows of numbers -/
def zV (zs : List Int) : List Value := zs.map fun z => Value.int .i64 z
def ZB (zs : List Int) : Prop := ∀ z ∈ zs, -9223372036854775808 ≤ z ∧ z ≤ 9223372036854775807
def ZRow (w : World) (a : Option Addr) (cap : Nat) (zs : List Int) : Prop :=
  zs.length ≤ cap ∧ cap ≤ maxLen ∧ (a = none → cap = 0) ∧ ZB zs ∧ ∀ x, a = some x → ∀ (i : Nat) z, zs[i]? = some z → x.spot = .none ∧ w.cell? ⟨x.block, x.off + i, .none⟩ = some (.int .i64 z)
theorem RowE.zrow {w : World} {a : Option Addr} {cap : Nat} {zs : List Int} (h : RowE w 1 (IntE .i64) a cap zs) : ZRow w a cap zs := by
  refine ⟨h.1, h.2.1, h.2.2.1, fun z hz => ?_, fun x hx i z hz => ?_⟩
  · obtain ⟨i, hi⟩ := List.mem_iff_getElem?.1 hz
    cases ha : a with
    | none =>
      have := h.2.2.1 ha
      have := h.1
      have := (List.getElem?_eq_some_iff.1 hi).1
      omega
    | some x =>
      obtain ⟨v, _, _, hw⟩ := h.one ha hi
      exact wf_i64 hw
  · obtain ⟨v, hc, hv, _⟩ := h.one hx hz
    cases hv
    have hsp : x.spot = none := by
      have hi := (List.getElem?_eq_some_iff.1 hz).1
      obtain ⟨v0, hc0, _, _⟩ := h.one hx (List.getElem?_eq_getElem (l := zs) (i := 0) (by omega))
      have e0 : x.add 0 = x := by unfold Addr.add; obtain ⟨b, o, s⟩ := x; cases s <;> simp_all
      rw [e0] at hc0
      exact World.cell?_spot hc0
    obtain ⟨b, o, s⟩ := x
    simp only at hsp
    subst hsp
    refine ⟨rfl, ?_⟩
    rwa [show (⟨b, o, none⟩ : Addr).add i = ⟨b, o + i, none⟩ from by unfold Addr.add; split <;> simp_all] at hc
theorem ZRow.later {w w' : World} {a : Option Addr} {cap : Nat} {zs : List Int} (h : ZRow w a cap zs) (hb : Below w.heap.size w w') : ZRow w' a cap zs := by
  refine ⟨h.1, h.2.1, h.2.2.1, h.2.2.2.1, fun x hx i z hz => ?_⟩
  obtain ⟨hs, hc⟩ := h.2.2.2.2 x hx i z hz
  exact ⟨hs, by rw [hb.cell (World.block_lt_of_cell? w _ hc)]; exact hc⟩
theorem ZRow.at {w : World} {a : Option Addr} {cap : Nat} {zs : List Int} (h : ZRow w a cap zs) {i : Nat} {z : Int} (hz : zs[i]? = some z) : ∃ b off, a = some ⟨b, off, .none⟩ ∧ w.cell? ⟨b, off + i, .none⟩ = some (.int .i64 z) := by
  cases a with
  | none =>
    have := h.2.2.1 rfl
    have := h.1
    have := (List.getElem?_eq_some_iff.1 hz).1
    omega
  | some x =>
    obtain ⟨hs, hc⟩ := h.2.2.2.2 x rfl i z hz
    obtain ⟨b, off, sp⟩ := x
    simp only at hs
    subst hs
    exact ⟨b, off, rfl, hc⟩
theorem ZRow.none_nil {w : World} {cap : Nat} {zs : List Int} (h : ZRow w none cap zs) : zs = [] ∧ cap = 0 := by
  have h1 := h.2.2.1 rfl
  exact ⟨List.length_eq_zero_iff.1 (by have := h.1; omega), h1⟩
def ZOwn (W0 w : World) (v : Value) (zs : List Int) : Prop := w.ownsRow W0.heap.size 3 1 v zs.length (zV zs) ∧ Below W0.heap.size W0 w ∧ ZB zs
theorem ZOwn.empty {W0 w : World} (h : Below W0.heap.size W0 w) : ZOwn W0 (w.alloc (.cells #[] 3)) (.slice (some ⟨w.heap.size, 0, none⟩) 0 0) [] :=
  ⟨World.ownsRow_made w #[] 0 h.size (by simp [maxLen]) rfl, h.alloc h.size _, fun z h => by cases h⟩
theorem ZOwn.below {W0 w : World} {v : Value} {zs : List Int} (h : ZOwn W0 w v zs) : Below W0.heap.size W0 w := h.2.1
theorem ZOwn.row_n {W0 w : World} {v : Value} {zs : List Int} {n : Nat} (h : ZOwn W0 w v zs) (hn : zs.length = n) : ∃ a cap, v = .slice a n cap ∧ ZRow w a cap zs := by
  subst hn
  rcases h.1.2 with ⟨hv, hn⟩ | ⟨g, cap, cur, hv, hb, hg, hn, hc, hs, ht⟩
  · have : zs = [] := List.length_eq_zero_iff.1 hn
    subst this
    exact ⟨.none, 0, hv, by simp, by simp [maxLen], fun _ => rfl, h.2.2, fun x hx => by cases hx⟩
  · refine ⟨_, cap, hv, hn, hc, fun e => (by cases e), h.2.2, fun x hx i z hz => ?_⟩
    cases hx
    have hr := h.1
    rw [hv] at hr
    have hi := (List.getElem?_eq_some_iff.1 hz).1
    refine ⟨rfl, ?_⟩
    rw [Nat.zero_add, hr.cellAt i (by omega)]
    unfold zV
    rw [List.getElem?_map, hz]; rfl
section
variable {ops : Array Oper} {rest : List Oper} {o : Oper} {a : Act} {Q : Exit → Act → World → Prop}
end
end Go.Proofs.Ytbpddcmehjgleaa
