/- A beginning of bytes; a byte that came in. -/
import Derived.Test.YtfjplhjlmilcfaaSl
import Derived.Test.YtfjplhjlmilcfaaRec
namespace Go.Proofs.Ytfjplhjlmilcfaa
open Go.RowKit Go.Proofs
set_option linter.unusedVariables false
set_option linter.unusedSimpArgs false
set_option linter.unnecessarySimpa false

/-- 's[:hi]' of bytes that are there. -/
theorem run_slB {w W : World} {a : Option Addr} {m cap hi : Nat} {l : List UInt8} (h : Row w a cap l) (hm : l.length = m) (h2 : hi ≤ m) :
    (Instr.slice 27 (.slice a m cap) none (some (.int .i64 hi)) none).run Try.prog W = .ok (.slice a hi cap) W := by
  have hc := h.1
  have h3 : hi ≤ cap := by omega
  cases a with
  | none =>
    have := h.2.2.1 rfl
    obtain rfl : hi = 0 := by omega
    subst this
    simp [Instr.slice, Instr.sliceBounds, Instr.sliceBound, asIntOf, run_underlying Try.underlying27, Result.andThen]
  | some x =>
    by_cases h0 : cap = 0
    · obtain rfl : hi = 0 := by omega
      subst h0
      simp [Instr.slice, Instr.sliceBounds, Instr.sliceBound, asIntOf, run_underlying Try.underlying27, Result.andThen]
    · have e0 : x.add 0 = x := by unfold Addr.add; obtain ⟨b, o, s⟩ := x; cases s <;> simp_all
      simp [Instr.slice, Instr.sliceBounds, Instr.sliceBound, asIntOf, run_underlying Try.underlying27, Result.andThen, h3]
      simp [show ¬ cap = 0 by omega, e0]
theorem wf_u8c {n : Int} (h : (Lit.int .u8 n).wf = true) : ∃ u : UInt8, n = (u.toNat : Int) := by
  simp [Lit.wf, IntKind.min, IntKind.max, IntKind.signed, IntKind.bits] at h
  exact ⟨UInt8.ofNat n.toNat, by rw [UInt8.toNat_ofNat']; omega⟩
end Go.Proofs.Ytfjplhjlmilcfaa
