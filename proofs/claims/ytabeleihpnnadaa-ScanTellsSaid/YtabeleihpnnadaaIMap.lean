/- Maps from numbers to values of any one type: looked up, written. -/
import Derived.Test.YtabeleihpnnadaaGRow
import Derived.Maps.OwnSet
import Derived.Maps.Keyed
namespace Go.Proofs.Ytabeleihpnnadaa
open Go.RowKit Go.Proofs
set_option linter.unusedVariables false
set_option linter.unusedSimpArgs false

def heldE (v : Value) : Option (DataW Value × List MemPlace) := some (.held v, [])
theorem ikeyed : Go.Maps.Keyed Try.prog 3 := Go.Maps.int_keyed Try.underlying3
def ik (s : Int) : Prop := -9223372036854775808 ≤ s ∧ s ≤ 9223372036854775807
theorem ik_wf {s : Int} (h : ik s) : (Lit.int .i64 s).wf = true := by
  unfold ik at h
  simp [Lit.wf, IntKind.min, IntKind.max, IntKind.signed, IntKind.bits]; omega
theorem ik_key {s : Int} (h : ik s) : keyOf Try.prog 3 (.int .i64 s) = some (.int .i64 s) := Go.Maps.keyOf_int_mk Try.underlying3 (ik_wf h)
def updI {α : Type} (f : Int → α) (k : Int) (v : α) : Int → α := fun x => if x = k then v else f x
theorem updI_same {α : Type} (f : Int → α) (k : Int) (v : α) : updI f k v k = v := by simp [updI]
theorem updI_other {α : Type} (f : Int → α) {k k' : Int} (v : α) (h : k' ≠ k) : updI f k v k' = f k' := by simp [updI, h]
/-- Block b holds the map f, of n entries at most. -/
def IMap (w : World) (b : Nat) (f : Int → Option Value) (n : Nat) : Prop :=
  ∃ D : DataW Value, Go.Maps.Tidy D ∧ w.ownsMap Try.prog 3 heldE b n D ∧ (∀ s, ik s → Go.Maps.has D (.int .i64 s) = (f s).isSome) ∧ ∀ s z, ik s → D.atKey (.int .i64 s) (.held z) = .held ((f s).getD z)
theorem IMap.made (w : World) : IMap (w.alloc (.map #[] 0)) w.heap.size (fun _ => none) 0 :=
  ⟨.map [], Go.Maps.tidy_empty, World.ownsMap_made w _ _ _, fun s _ => rfl, fun s z _ => rfl⟩
theorem IMap.lt {w : World} {b n : Nat} {f : Int → Option Value} (h : IMap w b f n) : b < w.heap.size := by
  obtain ⟨D, _, ho, _⟩ := h; exact ho.lt
theorem IMap.keep {w w' : World} {b n : Nat} {f : Int → Option Value} (h : IMap w b f n) (hb : w'.heap[b]? = w.heap[b]?) : IMap w' b f n := by
  obtain ⟨D, ht, ⟨es, clock, h2, r⟩, hD⟩ := h
  exact ⟨D, ht, ⟨es, clock, by rw [hb]; exact h2, r⟩, hD⟩
theorem IMap.later {w w' : World} {b n : Nat} {f : Int → Option Value} (h : IMap w b f n) (hb : Below w.heap.size w w') : IMap w' b f n := h.keep (hb.block b h.lt)
section
variable {w : World} {b n : Nat} {f : Int → Option Value} {mT eT : TypeId}
/-- 'v, ok := m[s]'. -/
theorem IMap.look (h : IMap w b f n) (ht : Try.prog.underlying mT = some (.map 3 eT)) {z : Value} (hz : ∀ w, (zeroValue eT).run Try.prog w = .ok z w) {s : Int} (hs : ik s) :
    (Instr.lookup mT (.map (some b)) (.int .i64 s) true).run Try.prog w = .ok (.tuple #[(f s).getD z, .bool (f s).isSome]) w := by
  obtain ⟨D, _, ho, hh, hD⟩ := h
  obtain ⟨v, ps, hrun, hv⟩ := ho.look_ok ikeyed ht (hz w) (show heldE z = some (.held z, []) from rfl) (ik_key hs)
  rw [hD s z hs, hh s hs] at *
  simp only [heldE, Option.some.injEq, Prod.mk.injEq, DataW.held.injEq] at hv
  rw [← hv.1]; exact hrun
/-- 'm[s] = v'. -/
theorem IMap.put (h : IMap w b f n) (ht : Try.prog.underlying mT = some (.map 3 eT)) (hn : n < maxLen) {s : Int} (hs : ik s) (v : Value) :
    ∃ w', (Instr.mapUpdate mT (.map (some b)) (.int .i64 s) v).run Try.prog w = .ok () w' ∧ IMap w' b (updI f s (some v)) (n + 1) ∧ w.grownBy w' (some b) := by
  obtain ⟨D, htd, ho, hh, hD⟩ := h
  obtain ⟨w', hrun, ho', hg⟩ := ho.update ikeyed ht hn (ik_key hs) (show heldE v = some (.held v, []) from rfl)
  refine ⟨w', hrun, ⟨_, htd.put (ikeyed.key (ik_key hs)) _, ho', fun t hk => ?_, fun t z hk => ?_⟩, hg⟩
  · by_cases e : t = s
    · subst e; rw [updI_same]; exact Go.Maps.has_put_same htd.isMap (ikeyed.key (ik_key hs)) _
    · rw [updI_other _ _ e, ← hh t hk]
      exact Go.Maps.has_put_other (fun e2 => e (by injection e2)) _
  · by_cases e : t = s
    · subst e; rw [updI_same]; exact Go.Maps.atKey_put_same htd.isMap (ikeyed.key (ik_key hs)) _ _
    · rw [updI_other _ _ e, ← hD t z hk]
      exact Go.Maps.atKey_put_other (fun e2 => e (by injection e2)) _ _
end
end Go.Proofs.Ytabeleihpnnadaa
