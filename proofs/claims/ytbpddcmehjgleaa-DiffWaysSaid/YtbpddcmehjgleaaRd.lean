/- What an argument reads as: numbers, bools, texts, bytes, slices, records. -/
import Derived.Test.YtbpddcmehjgleaaSl
import Derived.Deep.Slices
import Derived.ChangeArms
namespace Go.Proofs.Ytbpddcmehjgleaa
open Go.RowKit
set_option linter.unusedVariables false

/-- Cells that read as type t are those of some u. -/
def Opens (w : World) (t : TypeId) {α : Type} (E : List Value → α → Prop) : Prop :=
  ∀ (H : Type) (enc : TypeId × Value → H) (fuel : Nat) (cs : List Value) (x : DataW H × List MemPlace), DataW.trod enc Try.prog w 0 (fun _ => true) true fuel t cs = some x → ∃ u, E cs u

def IntE (k : IntKind) (cs : List Value) (n : Int) : Prop := cs = [.int k n] ∧ (Lit.int k n).wf = true
def BoolE (cs : List Value) (b : Bool) : Prop := cs = [.bool b]
def StrE (cs : List Value) (l : List UInt8) : Prop := cs = [.string ⟨l.toArray⟩] ∧ l.length ≤ maxLen
/-- A slice's elements, 'sz' cells each. -/
def RowE {α : Type} (w : World) (sz : Nat) (E : List Value → α → Prop) (a : Option Addr) (cap : Nat) (l : List α) : Prop :=
  l.length ≤ cap ∧ cap ≤ maxLen ∧ (a = none → cap = 0) ∧ ∀ x, a = some x → ∀ (i : Nat) u, l[i]? = some u → ∃ cs : List Value, cs.length = sz ∧ (∀ j, j < sz → w.cell? ((x.add (i * sz)).add j) = cs[j]?) ∧ E cs u
def SlE {α : Type} (w : World) (sz : Nat) (E : List Value → α → Prop) (cs : List Value) (l : List α) : Prop := ∃ a cap, cs = [.slice a l.length cap] ∧ RowE w sz E a cap l
def BytesE (w : World) (cs : List Value) (l : List UInt8) : Prop := ∃ a cap, cs = [.slice a l.length cap] ∧ Row w a cap l

theorem exists_list {α : Type} {P : Nat → α → Prop} : ∀ n, (∀ i, i < n → ∃ u, P i u) → ∃ l : List α, l.length = n ∧ ∀ (i : Nat) u, l[i]? = some u → P i u
  | 0, _ => ⟨[], rfl, fun i u h => by simp at h⟩
  | n + 1, h => by
    obtain ⟨l, hl, hp⟩ := exists_list n fun i hi => h i (by omega)
    obtain ⟨u, hu⟩ := h n (by omega)
    refine ⟨l ++ [u], by simp [hl], fun i v hv => ?_⟩
    by_cases hi : i < n
    · exact hp i v (by rwa [List.getElem?_append_left (by omega)] at hv)
    · rw [List.getElem?_append_right (by omega)] at hv
      have e : i - l.length = 0 := by
        have := (List.getElem?_eq_some_iff.1 hv).1
        simp at this; omega
      rw [e] at hv
      simp at hv
      obtain rfl : i = n := by omega
      subst hv; exact hu

theorem Opens.int {w : World} {t : TypeId} {k : IntKind} (ht : Try.prog.underlying t = some (.int k)) : Opens w t (IntE k) := fun H enc fuel cs x h => by
  obtain ⟨n, h1, _, h2⟩ := DataW.trod_int ht h
  exact ⟨n, h1, h2⟩
theorem Opens.bool {w : World} {t : TypeId} (ht : Try.prog.underlying t = some .bool) : Opens w t BoolE := fun H enc fuel cs x h => by
  obtain ⟨b, h1, _⟩ := DataW.trod_bool ht h
  exact ⟨b, h1⟩
theorem Opens.str {w : World} {t : TypeId} (ht : Try.prog.underlying t = some .string) : Opens w t StrE := fun H enc fuel cs x h => by
  obtain ⟨s, h1, _, h2⟩ := DataW.trod_string ht h
  exact ⟨s.data.toList, h1, by rw [Array.length_toList]; exact h2⟩
theorem Opens.slice {w : World} {t e : TypeId} {α : Type} {E : List Value → α → Prop} {sz : Nat} (ht : Try.prog.underlying t = some (.slice e)) (hc : Try.prog.cellsOf e = sz) (he : Opens w e E) : Opens w t (SlE w sz E) := fun H enc fuel cs x h => by
  rcases Deep.open_slice ht h with ⟨rfl, _⟩ | ⟨a, len, cap, m, n, D, Pl, rfl, _, hl, hm, hmm, _, hx⟩
  · exact ⟨[], .none, 0, rfl, by simp, by simp [maxLen], fun _ => rfl, fun x hx => by cases hx⟩
  · rw [hc] at hx
    have hlm : len ≤ m := by rw [hmm]; split <;> omega
    obtain ⟨l, hll, hp⟩ := exists_list (P := fun i (u : α) => ∃ cs : List Value, cs.length = sz ∧ (∀ j, j < sz → w.cell? ((a.add (i * sz)).add j) = cs[j]?) ∧ E cs u) len fun i hi => by
      obtain ⟨cs', h1, h2⟩ := hx i (by omega)
      obtain ⟨u, hu⟩ := he H enc _ _ _ h2
      obtain ⟨_, h3, h4⟩ := World.cells?_some h1
      exact ⟨u, cs', h3, h4, hu⟩
    refine ⟨l, some a, cap, by rw [hll], by omega, hm, fun e => (by cases e), fun x hx i u hu => ?_⟩
    cases hx
    exact hp i u hu
set_option maxRecDepth 20000 in
theorem Opens.bytes {w : World} {t e : TypeId} (ht : Try.prog.underlying t = some (.slice e)) (he : Try.prog.underlying e = some (.int .u8)) (hc : Try.prog.cellsOf e = 1) : Opens w t (BytesE w) := fun H enc fuel cs x h => by
  obtain ⟨l, a, cap, rfl, hr⟩ := Opens.slice (w := w) ht hc (Opens.int he) H enc fuel cs x h
  refine ⟨l.map fun n => UInt8.ofNat n.toNat, a, cap, by simp, by simpa using hr.1, hr.2.1, hr.2.2.1, fun x hx i u hu => ?_⟩
  rw [List.getElem?_map] at hu
  cases hz : l[i]? with
  | none => rw [hz] at hu; cases hu
  | some z =>
    rw [hz] at hu
    simp at hu
    subst hu
    obtain ⟨cs, h1, h2, rfl, h3⟩ := hr.2.2.2 x hx i z hz
    have e : w.cell? (x.add i) = some (.int .u8 z) := by
      have := h2 0 (by omega)
      rw [Nat.mul_one] at this
      exact this
    have hb : 0 ≤ z ∧ z ≤ 255 := by
      simp [Lit.wf, IntKind.min, IntKind.max, IntKind.signed, IntKind.bits] at h3; omega
    rw [e]
    simp only [B8]
    congr 3
    simp [UInt8.toNat_ofNat']; omega
/-- A record: its fields each by itself. -/
theorem Opens.fields {w : World} {t : TypeId} {fs : Array Field} {n : Nat} {α : Type} {E : List Value → α → Prop} (ht : Try.prog.underlying t = some (.struct fs)) (hc : Try.prog.cellsOf t = n)
    (h : ∀ cs : List Value, cs.length = n → (∀ (i : Nat) (f : Field), fs[i]? = some f → ∀ (β : Type) (F : List Value → β → Prop), Opens w f.type F → ∃ u, F ((cs.drop f.offset).take (Try.prog.cellsOf f.type)) u) → ∃ u, E cs u) : Opens w t E := fun H enc fuel cs x hx => by
  obtain ⟨xs, m, _, _, hl, hxl, hf⟩ := DataW.trod_struct ht hx
  refine h cs (by rw [hl, hc]) fun i f hi β F hF => ?_
  have := hf i f hi
  have hlt : i < xs.length := by rw [hxl]; exact (Array.getElem?_eq_some_iff.1 hi).1
  rw [List.getElem?_eq_getElem hlt] at this
  exact hF H enc _ _ _ this

/-- A slice that came in. -/
theorem open_sl {w : World} {t e : TypeId} {α : Type} {E : List Value → α → Prop} {sz : Nat} (ht : Try.prog.underlying t = some (.slice e)) (hc : Try.prog.cellsOf e = sz) (he : Opens w e E)
    {H : Type} {enc : TypeId × Value → H} {a : Option Addr} {n cap : Nat} {d : DataW H} {ps : List MemPlace} (h : DataW.Trod enc Try.prog w 0 (fun _ => true) true t (.slice a n cap) d ps) : ∃ l : List α, l.length = n ∧ RowE w sz E a cap l := by
  obtain ⟨fuel, hf⟩ := h
  obtain ⟨l, a', cap', he, hr⟩ := Opens.slice (w := w) ht hc he H enc fuel _ _ hf
  simp [Value.cells] at he
  obtain ⟨rfl, rfl, rfl⟩ := he
  exact ⟨l, rfl, hr⟩
/-- A record that came in. -/
theorem open_rec {w : World} {t : TypeId} {α : Type} {E : List Value → α → Prop} (he : Opens w t E)
    {H : Type} {enc : TypeId × Value → H} {cs : Array Value} {d : DataW H} {ps : List MemPlace} (h : DataW.Trod enc Try.prog w 0 (fun _ => true) true t (.agg cs) d ps) : ∃ u, E cs.toList u := by
  obtain ⟨fuel, hf⟩ := h
  exact he H enc fuel _ _ hf
/-- Elements of one cell. -/
theorem RowE.one {α : Type} {w : World} {E : List Value → α → Prop} {a : Option Addr} {cap : Nat} {l : List α} (h : RowE w 1 E a cap l) {x : Addr} (hx : a = some x) {i : Nat} {u : α} (hu : l[i]? = some u) : ∃ v, w.cell? (x.add i) = some v ∧ E [v] u := by
  obtain ⟨cs, h1, h2, h3⟩ := h.2.2.2 x hx i u hu
  obtain ⟨v, rfl⟩ : ∃ v, cs = [v] := List.length_eq_one_iff.1 h1
  refine ⟨v, ?_, h3⟩
  have := h2 0 (by omega)
  rw [Nat.mul_one] at this
  exact this
theorem RowE.later {α : Type} {w w' : World} {sz : Nat} {E E' : List Value → α → Prop} {a : Option Addr} {cap : Nat} {l : List α} (h : RowE w sz E a cap l) (hb : Below w.heap.size w w') (hE : ∀ cs u, E cs u → E' cs u) : RowE w' sz E' a cap l := by
  refine ⟨h.1, h.2.1, h.2.2.1, fun x hx i u hu => ?_⟩
  obtain ⟨cs, h1, h2, h3⟩ := h.2.2.2 x hx i u hu
  refine ⟨cs, h1, fun j hj => ?_, hE _ _ h3⟩
  have := h2 j hj
  obtain ⟨c, hc⟩ : ∃ c, cs[j]? = some c := ⟨_, List.getElem?_eq_getElem (by omega)⟩
  rw [hc] at this ⊢
  rw [hb.cell (World.block_lt_of_cell? w _ this)]; exact this
set_option maxRecDepth 20000 in
theorem wf_i64 {n : Int} (h : (Lit.int .i64 n).wf = true) : -9223372036854775808 ≤ n ∧ n ≤ 9223372036854775807 := by
  simp [Lit.wf, IntKind.min, IntKind.max, IntKind.signed, IntKind.bits] at h; omega
theorem open_bytes {w : World} {t e : TypeId} (ht : Try.prog.underlying t = some (.slice e)) (he : Try.prog.underlying e = some (.int .u8)) (hc : Try.prog.cellsOf e = 1)
    {H : Type} {enc : TypeId × Value → H} {a : Option Addr} {n cap : Nat} {d : DataW H} {ps : List MemPlace} (h : DataW.Trod enc Try.prog w 0 (fun _ => true) true t (.slice a n cap) d ps) : ∃ l : List UInt8, l.length = n ∧ Row w a cap l := by
  obtain ⟨fuel, hf⟩ := h
  obtain ⟨l, a', cap', he, hr⟩ := Opens.bytes (w := w) ht he hc H enc fuel _ _ hf
  simp [Value.cells] at he
  obtain ⟨rfl, rfl, rfl⟩ := he
  exact ⟨l, rfl, hr⟩
end Go.Proofs.Ytbpddcmehjgleaa
