/- Stripes: pieces, one behind the other; no program in sight. -/
import Derived.Test.YtalgjoeinllllaaSpC
namespace Go.Proofs.Ytalgjoeinllllaa
set_option linter.unusedVariables false
set_option linter.unnecessarySimpa false
set_option linter.unusedSimpArgs false

/-- Where piece k begins; behind the last one: n. -/
def endX (l : List Xt) (n k : Nat) : Nat := match l[k]? with
  | some x => x.at'
  | none => n
theorem PiecesX.end_zero {U P C off n : Nat} {l : List Xt} (h : PiecesX U P C off n l) (hn : 1 ≤ n) : endX l n 0 = 0 := by
  unfold endX
  cases hl : l[0]? with
  | some x => exact h.first x hl
  | none =>
    obtain ⟨x, hx, _⟩ := h.last (by omega)
    rw [List.getElem?_eq_none_iff] at hl
    have : l = [] := List.length_eq_zero_iff.1 (by omega)
    subst this
    simp at hx
theorem endX_len {l : List Xt} {n k : Nat} (h : l.length ≤ k) : endX l n k = n := by
  unfold endX
  rw [List.getElem?_eq_none_iff.2 h]
theorem endX_at {l : List Xt} {n k : Nat} {x : Xt} (h : l[k]? = some x) : x.at' = endX l n k := by
  unfold endX
  rw [h]
theorem PiecesX.end_next {U P C off n : Nat} {l : List Xt} (h : PiecesX U P C off n l) (hn : 1 ≤ n) {k : Nat} {x : Xt} (hx : l[k]? = some x) : endX l n (k + 1) = x.at' + x.len := by
  have hk := (List.getElem?_eq_some_iff.1 hx).1
  cases hl : l[k + 1]? with
  | some y =>
    have := (h.next k x y hx hl).1
    unfold endX
    rw [hl]
    exact this
  | none =>
    obtain ⟨y, hy, he⟩ := h.last (by omega)
    rw [List.getElem?_eq_none_iff] at hl
    rw [endX_len hl]
    rw [List.getLast?_eq_getElem?, show l.length - 1 = k by omega, hx] at hy
    cases hy
    exact he.symm
theorem PiecesX.end_le {U P C off n : Nat} {l : List Xt} (h : PiecesX U P C off n l) (hn : 1 ≤ n) : ∀ d k x, k + d + 1 = l.length → l[k]? = some x → x.at' + x.len ≤ n
  | 0, k, x, hk, hx => by
    rw [← h.end_next hn hx, endX_len (by omega)]
    exact Nat.le_refl _
  | d + 1, k, x, hk, hx => by
    have hlt : k + 1 < l.length := by omega
    have ih := PiecesX.end_le h hn d (k + 1) _ (by omega) (List.getElem?_eq_getElem hlt)
    have := (h.next k x _ hx (List.getElem?_eq_getElem hlt)).1
    omega
/-- All that the law asks of a piece. -/
structure PieceX (U P C off n : Nat) (l : List Xt) (k : Nat) (x : Xt) : Prop where
  begin : x.at' = endX l n k
  next : endX l n (k + 1) = x.at' + x.len
  len : 1 ≤ x.len
  inside : x.off + x.len ≤ P * U
  below : x.at' + x.len ≤ n
  obj : x.obj ≤ off + n
  byte : ∀ q, q < x.len → objP U P C (off + x.at' + q) = x.obj ∧ atP U P C (off + x.at' + q) = x.off + q
  apart : ∀ y, 0 < k → l[k - 1]? = some y → ¬ (y.obj = x.obj ∧ y.off + y.len = x.off)
theorem PiecesX.piece {U P C off n : Nat} {l : List Xt} (h : PiecesX U P C off n l) (hn : 1 ≤ n) (hU : 0 < U) (hP : 0 < P) {k : Nat} {x : Xt} (hx : l[k]? = some x) : PieceX U P C off n l k x := by
  have hm := List.mem_of_getElem? hx
  have hk := (List.getElem?_eq_some_iff.1 hx).1
  have hl := h.lens x hm
  have hb := h.byte x hm (x.len - 1) (by omega)
  have h2 := atP_lt (U := U) (P := P) (C := C) (off := off + x.at' + (x.len - 1)) hU hP
  have h3 := objP_unit (U := U) (P := P) (C := C) (off := off + x.at' + (x.len - 1))
  have h4 := h.end_le hn (l.length - k - 1) k x (by omega) hx
  have h5 := Nat.div_le_self (off + x.at' + (x.len - 1)) U
  refine ⟨endX_at hx, h.end_next hn hx, hl, by omega, h4, by omega, h.byte x hm, fun y h0 hy c => ?_⟩
  have := (h.next (k - 1) y x hy (by rw [Nat.sub_add_cancel h0]; exact hx)).2
  exact this c
end Go.Proofs.Ytalgjoeinllllaa
