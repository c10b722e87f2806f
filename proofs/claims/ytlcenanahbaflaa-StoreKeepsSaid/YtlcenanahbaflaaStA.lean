/- Rows of the caller's own that grow in a drawn region. -/
import Derived.Test.YtlcenanahbaflaaStJ
namespace Go.Proofs.Ytlcenanahbaflaa
open Go.RowKit
set_option linter.unusedVariables false

/-- A row of the caller's own, grown, and the roles from then on. -/
def gwV (w0 wr : World) (b : Nat) (g : Gh) (S : St) (l : List UInt8) : SV :=
  ⟨fun w v => ∃ r', NSto w0 w b (g.withR r') S ∧ WRow w r' 5 1 v l.length (l.map B8) ∧ Fr wr w g.r r' (fun t => t = .own),
   fun w w' v ⟨r', h1, h2, h3⟩ hb => ⟨r', h1.later hb, h2.jk (Jk.of_below hb r'), h3.later hb⟩⟩
def jZ (w0 : World) : Nat → World → Prop
  | 0, w => Below w0.heap.size w0 w
  | _, _ => True
theorem jZ_st {w0 : World} (ph : Nat) {w w' : World} (h : jZ w0 ph w) (hb : Below w.heap.size w w') : jZ w0 ph w' := by
  match ph, h with
  | 0, h => exact Below.trans h (hb.mono h.size)
  | n + 1, h => trivial
theorem run_wrow {w : World} (ty : TypeId) (v : Value) (l : List UInt8) {w0 : World} {b : Nat} {g : Gh} {S : St} (h : NSto w0 w b g S) (hw : WRow w g.r 5 1 v l.length (l.map B8)) (y : Addr) (cap n : Nat) (l2 : List UInt8) (hr : Row w (some y) cap l2) (hn : l2.length = n) (hlen : l.length + l2.length ≤ 100000000) :
    ∃ v' w', (Builtin.append_ #[31, 31] ty #[v, .slice (some y) n cap]).run Try.prog w = .ok v' w' ∧ (gwV w0 w b g S (l ++ l2)).p w' v' := by
  subst hn
  obtain ⟨i0, hi, hz0, hz1, hz2⟩ := info_parts info_u8
  obtain ⟨v', w', hrun, ho', hg, _, hat⟩ := run_append_own_at (P := Try.prog) w 0 31 ty 5 i0 (.int .u8 0) 1 1 Try.underlying31 hi hz0 hz1 hz2 rfl (by decide) v _ _ hw.1 y l2.length cap (l2.map B8) (by simp) (by
    intro j u hu
    rw [List.getElem?_map] at hu
    cases hj : l2[j]? with
    | none => rw [hj] at hu; cases hu
    | some z => rw [hj] at hu; simp at hu; subst hu; exact hr.2.2.2 y rfl j z hj) (by
    intro u hu
    simp at hu; obtain ⟨z, _, rfl⟩ := hu; rfl) (by unfold maxLen; omega) (by omega) (Nat.zero_le _)
  obtain ⟨h1, h2⟩ := h.grown hg (fun z hz => hw.2 z hz)
  refine ⟨v', w', hrun, _, h1, ⟨by rw [List.length_append, List.map_append]; exact ho', fun z hz => ?_⟩, h2⟩
  have hlt := (World.ownsRow.lt ho' z hz).2
  by_cases hzo : z < w.heap.size
  · rw [ownNew_old hzo]
    rcases hat with e | e
    · exact hw.2 z (by rw [← e]; exact hz)
    · rw [e] at hz; cases hz; omega
  · exact ownNew_new (by omega) hlt
end Go.Proofs.Ytlcenanahbaflaa
