/- 'append(e, l...)', e empty and without room: all that was there stays, e's own block too. -/
import Derived.Test.YtbpddcmehjgleaaQRow
import Derived.Deep.Upon
namespace Go.Proofs.Ytbpddcmehjgleaa
open Go.RowKit Go.Proofs
set_option linter.unusedVariables false
set_option linter.unusedSimpArgs false
set_option linter.unnecessarySimpa false

theorem run_fresh {α : Type} {R : RT α} (hR : R.Ok) {w W0 : World} {g : Nat} (hown : GOwn R W0 w (.slice (some ⟨g, 0, none⟩) 0 0) []) (ad : Option Addr) (cap n : Nat) (us : List α) (hr : GRow R w ad cap us) (hn : us.length = n) (ty : TypeId) (hlen : n ≤ 1000000) :
    ∃ v' w', (Builtin.append_ #[R.S, R.S] ty #[.slice (some ⟨g, 0, none⟩) 0 0, .slice ad n cap]).run Try.prog w = .ok v' w' ∧ GOwn R W0 w' v' us ∧ Below w.heap.size w w' ∧ (us = [] ∨ v'.ownBlock = some w.heap.size) := by
  subst hn
  obtain ⟨i0, z, hi, hz0, hz1, hz2, hz3⟩ := hR.info
  by_cases h0 : us = []
  · subst h0
    have hs : Src Try.prog i0.size R.S (.slice ad 0 cap) 0 [] w := by
      cases ad with
      | none => exact Src.ofNil w hR.und cap
      | some y => exact Src.ofSlice w hR.und y 0 cap [] (by simp) (fun j u hj => by simp at hj) (fun u hu => by cases hu)
    exact ⟨_, w, run_append_nothing (P := Try.prog) w R.S R.S ty R.E i0 hR.und hi _ 0 0 (Nat.le_refl _) _ hs, hown, Below.refl _ _, .inl rfl⟩
  · have hp : 0 < us.length := List.length_pos_iff.2 h0
    cases ad with
    | none => exact absurd hr.none_nil.1 h0
    | some y =>
      have hm := Nat.mul_le_mul hlen hz2
      have hr2 := run_append_grow (P := Try.prog) w R.S ty R.E i0 z hR.und hi hz0 ⟨g, 0, none⟩ 0 0 [] (by simp) (fun j u hj => by simp at hj) y us.length cap (us.flatMap R.V) (by rw [flat_lenG hR, hz1]) (fun j u hu => hr.flat hR hu) (by omega) (by omega) (growslice_fits (by omega) (by rw [Nat.zero_add]; omega))
      simp only [Nat.zero_add] at hr2
      have hge := grownCap_ge w us.length 0 R.E
      have hcm : grownCap w us.length 0 R.E ≤ maxLen := grownCap_le_maxLen w us.length 0 R.E (by unfold maxLen; omega)
      generalize grownCap w us.length 0 R.E = cp at hr2 hge hcm
      have hgb : w.grownBy (w.drew.alloc (.cells (([] : List Value).toArray ++ (us.flatMap R.V).toArray ++ Builtin.zeroCells z.cells (cp - us.length)) R.E)) none := ⟨rfl, rfl, rfl, by simp, fun k hk _ => heap_alloc_old w.drew _ hk⟩
      have hbl : Below w.heap.size w (w.drew.alloc (.cells (([] : List Value).toArray ++ (us.flatMap R.V).toArray ++ Builtin.zeroCells z.cells (cp - us.length)) R.E)) := (Below.refl _ _).grown hgb (Nat.le_refl _) (fun k hk => by cases hk)
      refine ⟨_, _, hr2, ⟨⟨by rw [flat_lenG hR], .inr ⟨w.heap.size, cp, _, rfl, hown.below.size, heap_alloc_new w.drew _, hge, hcm, ?_, ?_⟩⟩, hown.below.trans (hbl.mono hown.below.size), hr.2.2.2.1⟩, hbl, .inr rfl⟩
      · simp only [Array.size_append, List.size_toArray, size_zeroCells, hz3, flat_lenG hR, List.length_nil, Nat.zero_add, ← Nat.add_mul]
        congr 1
        omega
      · simp only [Array.toList_append, List.append_assoc, List.nil_append]
        rw [← flat_lenG hR]
        exact List.take_left
/-- The same of bytes. -/
theorem run_freshB {w W0 : World} {g : Nat} (hown : Own W0 w (.slice (some ⟨g, 0, none⟩) 0 0) []) (ad : Option Addr) (cap n : Nat) (l : List UInt8) (hr : Row w ad cap l) (hn : l.length = n) (ty : TypeId) (hlen : n ≤ 1000000) :
    ∃ v' w', (Builtin.append_ #[22, 22] ty #[.slice (some ⟨g, 0, none⟩) 0 0, .slice ad n cap]).run Try.prog w = .ok v' w' ∧ Own W0 w' v' l ∧ Below w.heap.size w w' := by
  subst hn
  obtain ⟨i0, hi, hz0, hz1, hz2⟩ := info_parts info_u8
  by_cases h0 : l = []
  · subst h0
    have hs : Src Try.prog i0.size 22 (.slice ad 0 cap) 0 [] w := by
      cases ad with
      | none => exact Src.ofNil w Try.underlying22 cap
      | some y => exact Src.ofSlice w Try.underlying22 y 0 cap [] (by simp) (fun j u hj => by simp at hj) (fun u hu => by cases hu)
    exact ⟨_, w, run_append_nothing (P := Try.prog) w 22 22 ty 5 i0 Try.underlying22 hi _ 0 0 (Nat.le_refl _) _ hs, hown, Below.refl _ _⟩
  · have hp : 0 < l.length := List.length_pos_iff.2 h0
    cases ad with
    | none => exact absurd hr.of_nil.1 h0
    | some y =>
      have hr2 := run_append_grow (P := Try.prog) w 22 ty 5 i0 (.int .u8 0) Try.underlying22 hi hz0 ⟨g, 0, none⟩ 0 0 [] (by simp) (fun j u hj => by simp at hj) y l.length cap (l.map B8) (by rw [List.length_map, hz1, Nat.mul_one]) (fun j u hu => by
        rw [List.getElem?_map] at hu
        cases hj : l[j]? with
        | none => rw [hj] at hu; cases hu
        | some q => rw [hj] at hu; cases hu; exact hr.2.2.2 y rfl j q hj) (by omega) (by omega) (growslice_fits (by omega) (by rw [Nat.zero_add, hz2]; omega))
      simp only [Nat.zero_add] at hr2
      have hge := grownCap_ge w l.length 0 5
      have hcm : grownCap w l.length 0 5 ≤ maxLen := grownCap_le_maxLen w l.length 0 5 (by unfold maxLen; omega)
      generalize grownCap w l.length 0 5 = cp at hr2 hge hcm
      have hgb : w.grownBy (w.drew.alloc (.cells (([] : List Value).toArray ++ (l.map B8).toArray ++ Builtin.zeroCells (Value.int IntKind.u8 0).cells (cp - l.length)) 5)) none := ⟨rfl, rfl, rfl, by simp, fun k hk _ => heap_alloc_old w.drew _ hk⟩
      have hbl : Below w.heap.size w (w.drew.alloc (.cells (([] : List Value).toArray ++ (l.map B8).toArray ++ Builtin.zeroCells (Value.int IntKind.u8 0).cells (cp - l.length)) 5)) := (Below.refl _ _).grown hgb (Nat.le_refl _) (fun k hk => by cases hk)
      refine ⟨_, _, hr2, ⟨⟨by simp, .inr ⟨w.heap.size, cp, _, rfl, hown.below.size, heap_alloc_new w.drew _, hge, hcm, ?_, ?_⟩⟩, hown.below.trans (hbl.mono hown.below.size)⟩, hbl⟩
      · simp [Builtin.zeroCells, Value.cells, hge]
      · simp only [Array.toList_append, List.append_assoc, List.nil_append]
        rw [show l.length * 1 = (l.map B8).length by simp]
        exact List.take_left
/-- The same of records that lead on. -/
theorem run_freshN {α : Type} {sz : Nat} {tE tS : TypeId} {E : Rel α} {J : Nat → Prop} (hR : (rawT sz tE tS).Ok) (hE : RelOk E) {w W0 : World} {g : Nat} (hown : GOwn (rawT sz tE tS) W0 w (.slice (some ⟨g, 0, none⟩) 0 0) []) (ad : Option Addr) (cap n : Nat) (ts : List α) (hr : QRow J sz tE tS E w (.slice ad n cap) ts) (ty : TypeId) (hlen : n ≤ 1000000) :
    ∃ v' w', (Builtin.append_ #[tS, tS] ty #[.slice (some ⟨g, 0, none⟩) 0 0, .slice ad n cap]).run Try.prog w = .ok v' w' ∧ NOwn J sz tE tS E W0 w' v' ts ∧ Below w.heap.size w w' := by
  obtain ⟨css, a', cap', hv, h1, h2, h3⟩ := hr
  simp only [Value.slice.injEq] at hv
  obtain ⟨rfl, rfl, rfl⟩ := hv
  obtain ⟨v', w', r1, r2, r3, r4⟩ := run_fresh hR hown ad cap _ css h1 h3.1 ty hlen
  refine ⟨v', w', r1, ⟨css, r2, h3.1, fun i c t hc ht => ?_⟩, r3⟩
  have hne : v'.ownBlock = some w.heap.size := by
    rcases r4 with e | e
    · rw [e] at hc; simp at hc
    · exact e
  exact hE.later (hE.weak (h3.2 i c t hc ht) fun b hb hj => ⟨hj, by rw [hne]; intro e; cases e; omega⟩) r3
theorem Own.keptG {W0 w w' : World} {v : Value} {l : List UInt8} {g : Option Nat} (h : Own W0 w v l) (hg : w.grownBy w' g) (hne : v.ownBlock = none ∨ v.ownBlock ≠ g) (hge : ∀ k, g = some k → W0.heap.size ≤ k) : Own W0 w' v l :=
  ⟨h.1.kept hg hne, h.2.grown hg h.2.size hge⟩
/-- One's own bytes lie in no record's block. -/
theorem Own.neT {W0 w : World} {v : Value} {l : List UInt8} (h : Own W0 w v l) {P : Nat} {cs : Array Value} {T : TypeId} (hr : RecAt w P cs T) (hE : 5 ≠ T) : v.ownBlock ≠ some P := by
  rcases h.1.2 with ⟨hv, hn⟩ | ⟨g, cap, cur, hv, hb, hg, rest⟩
  · rw [hv]; simp [Value.ownBlock]
  · rw [hv]
    intro e
    simp only [Value.ownBlock, Option.some.injEq] at e
    subst e
    unfold RecAt at hr
    rw [hg] at hr
    simp only [Option.some.injEq, Obj.cells.injEq] at hr
    exact hE hr.2.1
/-- Of J the blocks that were there. -/
def oldJ (J : Nat → Prop) (w : World) : Nat → Prop := fun b => J b ∧ b < w.heap.size
theorem NOwn.weakJ {α : Type} {sz : Nat} {tE tS : TypeId} {E : Rel α} {J J' : Nat → Prop} (hE : RelOk E) {W0 w : World} {v : Value} {ts : List α} (h : NOwn J sz tE tS E W0 w v ts) (hj : ∀ b, b < w.heap.size → J b → J' b) : NOwn J' sz tE tS E W0 w v ts := by
  obtain ⟨css, h1, h2⟩ := h
  exact ⟨css, h1, h2.mono fun c t h => hE.weak h fun b hb h3 => ⟨hj b hb h3.1, h3.2⟩⟩
theorem NOwn.keptG {α : Type} {sz : Nat} {tE tS : TypeId} {E : Rel α} {J : Nat → Prop} (hE : RelOk E) {W0 w w' : World} {v : Value} {ts : List α} {g : Nat} (h : NOwn J sz tE tS E W0 w v ts) (hg : w.grownBy w' (some g)) (hge : W0.heap.size ≤ g) {cs : Array Value} {T : TypeId} (hr : RecAt w g cs T) (hT : tE ≠ T) (hJ : ∀ b, J b → b ≠ g) : NOwn J sz tE tS E W0 w' v ts := by
  obtain ⟨css, h1, h2⟩ := h
  refine ⟨css, h1.keptBy hg (.inr (h1.ne hr hT)) (fun k e => by cases e; exact hge), h2.mono fun c t h => hE.keep h (fun b hb hj => hg.block b hb (fun e => ?_)) hg.size⟩
  cases e
  exact hJ _ hj.1 rfl
end Go.Proofs.Ytbpddcmehjgleaa
