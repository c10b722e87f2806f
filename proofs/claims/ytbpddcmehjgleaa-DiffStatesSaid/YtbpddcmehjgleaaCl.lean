/- 'bytes.Clone'. -/
import Derived.Test.YtbpddcmehjgleaaSl
namespace Go.Proofs.Ytbpddcmehjgleaa
open Go.RowKit
set_option linter.unusedVariables false

theorem Own.nil (w : World) : Own w w (.slice none 0 0) [] := ⟨World.ownsRow_nil _ _ _ _, Below.refl _ _⟩
theorem row_nil_or {w : World} {a : Option Addr} {cap : Nat} {l : List UInt8} (h : Row w a cap l) : (a = none ∧ l = [] ∧ cap = 0) ∨ ∃ x, a = some x := by
  cases a with
  | none => have := h.of_nil; exact .inl ⟨rfl, this.1, this.2⟩
  | some x => exact .inr ⟨x, rfl⟩

set_option maxHeartbeats 400000 in
theorem clone_any (a : Option Addr) (m cap : Nat) (l : List UInt8) (w : World) (hr : Row w a cap l) (hm : l.length = m) (hlen : m ≤ 100000) :
    Calls Try.prog 44 #[.slice a m cap] w fun e w' => ∃ v, e = .returned v ∧ Own w w' v l := by
  have q (w : World) (a : Option Addr) (n c n' c' : Nat) : (binOp .eql 22 (.slice a n c) (.slice none n' c')).run Try.prog w = .ok (.bool a.isNone) w := Lib.run_eql_slice_nil w _ _ a n c n' c' Try.underlying22
  rcases row_nil_or hr with ⟨rfl, rfl, rfl⟩ | ⟨x, rfl⟩
  · obtain rfl : m = 0 := by simpa using hm.symm
    have ho := Own.nil w
    clear hm
    go_enter Try.func44, Try.ntmps44
    go_wp2
    go_ret
    exact ⟨_, rfl, ho⟩
  · have he := own_empty (Below.refl w.heap.size w)
    go_enter Try.func44, Try.ntmps44
    go_wp2_with (at_builtin; refine wp_row rfl _ _ rfl _ _ rfl w he (some x) cap m l (hr.later ((Below.refl _ _).alloc (Nat.le_refl _) _)) hm rfl (by simp; omega) ?_; intro v1 w1 hown1)
    go_ret
    exact ⟨_, rfl, by simpa using hown1⟩
end Go.Proofs.Ytbpddcmehjgleaa
