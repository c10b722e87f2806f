/- A beginning of bytes; a byte that came in. -/
import Derived.Test.YtbpddcmehjgleaaSl
import Derived.Test.YtbpddcmehjgleaaRec
namespace Go.Proofs.Ytbpddcmehjgleaa
open Go.RowKit Go.Proofs
set_option linter.unusedVariables false
set_option linter.unusedSimpArgs false
set_option linter.unnecessarySimpa false

/-- 's[:hi]' of bytes that are there. -/
theorem run_slB {w W : World} {a : Option Addr} {m cap hi : Nat} {l : List UInt8} (h : Row w a cap l) (hm : l.length = m) (h2 : hi ≤ m) :
    (Instr.slice 22 (.slice a m cap) none (some (.int .i64 hi)) none).run Try.prog W = .ok (.slice a hi cap) W := by
  have hc := h.1
  have h3 : hi ≤ cap := by omega
  cases a with
  | none =>
    have := h.2.2.1 rfl
    obtain rfl : hi = 0 := by omega
    subst this
    simp [Instr.slice, Instr.sliceBounds, Instr.sliceBound, asIntOf, run_underlying Try.underlying22, Result.andThen]
  | some x =>
    by_cases h0 : cap = 0
    · obtain rfl : hi = 0 := by omega
      subst h0
      simp [Instr.slice, Instr.sliceBounds, Instr.sliceBound, asIntOf, run_underlying Try.underlying22, Result.andThen]
    · have e0 : x.add 0 = x := by unfold Addr.add; obtain ⟨b, o, s⟩ := x; cases s <;> simp_all
      simp [Instr.slice, Instr.sliceBounds, Instr.sliceBound, asIntOf, run_underlying Try.underlying22, Result.andThen, h3]
      simp [show ¬ cap = 0 by omega, e0]
theorem wf_u8c {n : Int} (h : (Lit.int .u8 n).wf = true) : ∃ u : UInt8, n = (u.toNat : Int) := by
  simp [Lit.wf, IntKind.min, IntKind.max, IntKind.signed, IntKind.bits] at h
  exact ⟨UInt8.ofNat n.toNat, by rw [UInt8.toNat_ofNat']; omega⟩
/-- 's[lo:]' of bytes. -/
theorem sl_from {w : World} {a : Option Addr} {n cap lo : Nat} {l : List UInt8} (hr : Row w a cap l) (hn : l.length = n) (h0 : 0 < n) (h1 : lo ≤ n) :
    ∃ a' c', Row w a' c' (l.drop lo) ∧ ∀ W, (Instr.slice 22 (.slice a n cap) (some (.int .i64 lo)) none none).run Try.prog W = .ok (.slice a' (n - lo) c') W := by
  obtain ⟨b, off, rfl, hc⟩ := hr.at (by omega)
  have hle := hr.1
  have hmx := hr.2.1
  by_cases hlt : lo < cap
  · exact ⟨some ⟨b, off + lo, none⟩, cap - lo, hr.drop lo (by omega), fun W => run_sl_end W b off n cap lo h1 (by omega) hlt⟩
  · have e1 : lo = n := by omega
    have e2 : cap = n := by omega
    subst e1 e2
    refine ⟨some ⟨b, off, none⟩, 0, ?_, fun W => ?_⟩
    · rw [List.drop_of_length_le (by omega)]
      exact Row.empty w _ 0 (by simp [maxLen]) (fun h => by cases h)
    · simp [Instr.slice, Instr.sliceBounds, Instr.sliceBound, asIntOf, run_underlying Try.underlying22, Result.andThen]
end Go.Proofs.Ytbpddcmehjgleaa
