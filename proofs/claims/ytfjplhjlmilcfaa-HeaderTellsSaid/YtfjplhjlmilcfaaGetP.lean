/- What a number out of bytes is, and where it ends; no program. -/
import Derived.Test.YtfjplhjlmilcfaaGet
namespace Go.Proofs.Ytfjplhjlmilcfaa
set_option linter.unusedVariables false

theorem gvA_nat {l : List UInt8} {p : Nat} (h : p ≤ l.length) : gvA l (p : Nat) = getV (l.drop p) := by
  unfold gvA; rw [if_pos (by omega)]; simp
theorem getVA_place {l : List UInt8} {q : Int} {o p : Int} {z : Bool} (h : getVA l q = (o, p, z)) (hq : 0 ≤ q) : ∃ a : Nat, p = a ∧ a ≤ l.length := by
  cases hg : gvA l q with
  | none => rw [getVA_none hg] at h; cases h; exact ⟨0, rfl, Nat.zero_le _⟩
  | some x =>
    obtain ⟨n, j⟩ := x
    rw [getVA_some hg] at h; cases h
    have := gvA_bound hg
    exact ⟨q.toNat + j, by omega, by omega⟩
theorem getVA_nat {l : List UInt8} {q : Int} {o p : Int} {z : Bool} (h : getVA l q = (o, p, z)) : 0 ≤ o ∧ o < 9223372036854775808 := by
  cases hg : gvA l q with
  | none => rw [getVA_none hg] at h; cases h; omega
  | some x =>
    obtain ⟨n, j⟩ := x
    rw [getVA_some hg] at h; cases h
    have := gvA_bound hg
    omega
theorem getVA_put {d : Nat} {l x : List UInt8} {q : Nat} {o p : Int} {z : Bool} (h : getVA l q = (o, p, z)) (hq : q ≤ l.length) (hl : l.drop q = varL d ++ x) (hd : d < 9223372036854775808) : o = d ∧ p = (q : Int) + (varL d).length ∧ z = true := by
  have hg : gvA l q = some (d, (varL d).length) := by rw [gvA_nat hq, hl]; exact getV_varL hd x
  rw [getVA_some hg] at h
  cases h; exact ⟨rfl, rfl, rfl⟩
end Go.Proofs.Ytfjplhjlmilcfaa
