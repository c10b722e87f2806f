/- 's[lo:hi]' of bytes that are there. -/
import Derived.Test.YtbpddcmehjgleaaSlB
import Derived.Test.YtbpddcmehjgleaaGRow
namespace Go.Proofs.Ytbpddcmehjgleaa
open Go.RowKit Go.Proofs
set_option linter.unusedVariables false
set_option linter.unusedSimpArgs false
set_option linter.unnecessarySimpa false

/-- 's[lo:hi]' of bytes that are there. -/
theorem run_slB2 {w W : World} {a : Option Addr} {m cap lo hi : Nat} {l : List UInt8} (h : Row w a cap l) (hm : l.length = m) (h1 : lo ≤ hi) (h2 : hi ≤ m) :
    (Instr.slice 22 (.slice a m cap) (some (.int .i64 lo)) (some (.int .i64 hi)) none).run Try.prog W = .ok (.slice (cutA 1 a lo cap) (hi - lo) (cap - lo)) W := by
  have hc := h.1
  have h3 : hi ≤ cap := by omega
  cases a with
  | none =>
    have := h.2.2.1 rfl
    obtain rfl : lo = 0 := by omega
    obtain rfl : hi = 0 := by omega
    simp [Instr.slice, Instr.sliceBounds, Instr.sliceBound, asIntOf, run_underlying Try.underlying22, Result.andThen, this, cutA]
  | some x =>
    simp [Instr.slice, Instr.sliceBounds, Instr.sliceBound, asIntOf, run_underlying Try.underlying22, Result.andThen, h1, h3, cutA]
theorem Row.cutB {w : World} {a : Option Addr} {cap : Nat} {l : List UInt8} (h : Row w a cap l) {lo hi : Nat} (h1 : lo ≤ hi) (h2 : hi ≤ l.length) : Row w (cutA 1 a lo cap) (cap - lo) ((l.drop lo).take (hi - lo)) := by
  have hc := h.1
  unfold cutA
  by_cases e : cap = lo
  · rw [if_pos e]
    have : (l.drop lo).take (hi - lo) = [] := by rw [List.drop_of_length_le (by omega)]; simp
    rw [this]
    exact Row.empty w a _ (by have := h.2.1; omega) (fun ha => by have := h.2.2.1 ha; omega)
  · rw [if_neg e]
    cases a with
    | none => have := h.2.2.1 rfl; omega
    | some x =>
      have hl : 0 < l.length ∨ l.length = 0 := by omega
      obtain ⟨b, off, sp⟩ := x
      cases sp with
      | none =>
        have h3 := (h.drop lo (by omega)).take (hi - lo)
        have e2 : (⟨b, off, .none⟩ : Addr).add (lo * 1) = ⟨b, off + lo, .none⟩ := by unfold Addr.add; split <;> simp_all
        show Row w (some ((⟨b, off, .none⟩ : Addr).add (lo * 1))) _ _
        rw [e2]
        exact h3
      | some s =>
        rcases hl with hl | hl
        · obtain ⟨b', o', hx, _⟩ := h.at hl
          cases hx
        · have : (l.drop lo).take (hi - lo) = [] := by rw [List.drop_of_length_le (by omega)]; simp
          rw [this]
          exact Row.empty w _ _ (by have := h.2.1; omega) (fun ha => by cases ha)
end Go.Proofs.Ytbpddcmehjgleaa
