/- Rows of records whose cells lead on, as they come in too: an empty row, or empty bytes, may lie anywhere. -/
import Derived.Test.YtbpddcmehjgleaaNRow
import Derived.Test.YtbpddcmehjgleaaGapp
namespace Go.Proofs.Ytbpddcmehjgleaa
open Go.RowKit Go.Proofs
set_option linter.unusedVariables false
set_option linter.unusedSimpArgs false
set_option linter.unnecessarySimpa false

def allJ : Nat → Prop := fun _ => True
theorem allJ_new (w : World) : NewJ allJ w := fun _ _ => trivial
/-- All blocks from here on. -/
def newB (w : World) : Nat → Prop := fun b => w.heap.size ≤ b
/-! ### bytes -/
def BQ (J : Nat → Prop) (w : World) (v : Value) (l : List UInt8) : Prop := ∃ a cap, v = .slice a l.length cap ∧ Row w a cap l ∧ (l ≠ [] → InJ J w a)
theorem BQ.keep {J : Nat → Prop} {w w' : World} {v : Value} {l : List UInt8} (h : BQ J w v l) (hb : ∀ b, b < w.heap.size → J b → w'.heap[b]? = w.heap[b]?) (hs : w.heap.size ≤ w'.heap.size) : BQ J w' v l := by
  obtain ⟨a, cap, hv, hr, hj⟩ := h
  refine ⟨a, cap, hv, ⟨hr.1, hr.2.1, hr.2.2.1, fun x hx i u hu => ?_⟩, fun hl => (hj hl).later hs⟩
  have hl : l ≠ [] := fun e => by rw [e] at hu; simp at hu
  rw [← hr.2.2.2 x hx i u hu]
  have e : (x.add i).block = x.block := by unfold Addr.add; split <;> rfl
  exact World.cell?_of_block (by rw [e]; exact hb _ (hj hl x hx).1 (hj hl x hx).2)
theorem BQ.weak {J J' : Nat → Prop} {w : World} {v : Value} {l : List UInt8} (h : BQ J w v l) (hj : ∀ b, b < w.heap.size → J b → J' b) : BQ J' w v l := by
  obtain ⟨a, cap, hv, hr, hi⟩ := h
  exact ⟨a, cap, hv, hr, fun hl => (hi hl).weak hj⟩
theorem BQ.later {J : Nat → Prop} {w w' : World} {v : Value} {l : List UInt8} (h : BQ J w v l) (hb : Below w.heap.size w w') : BQ J w' v l := h.keep (fun b hb2 _ => hb.block b hb2) hb.size
theorem BQ.nil (J : Nat → Prop) (w : World) : BQ J w (.slice none 0 0) [] := ⟨none, 0, rfl, Row.none w, fun h => absurd rfl h⟩
theorem BJ.q {J : Nat → Prop} {w : World} {v : Value} {l : List UInt8} (h : BJ J w v l) : BQ J w v l := by
  obtain ⟨a, cap, hv, hr, hj⟩ := h
  exact ⟨a, cap, hv, hr, fun _ => hj⟩
theorem BQ.own {J : Nat → Prop} {W0 w : World} {v : Value} {l : List UInt8} (h : Own W0 w v l) (hJ : NewJ J W0) : BQ J w v l := (BJ.own h hJ).q
theorem BQ.row_n {J : Nat → Prop} {w : World} {v : Value} {l : List UInt8} {n : Nat} (h : BQ J w v l) (hn : l.length = n) : ∃ a cap, v = .slice a n cap ∧ Row w a cap l := by
  obtain ⟨a, cap, hv, hr, _⟩ := h; subst hn; exact ⟨a, cap, hv, hr⟩
theorem BQ.of_row {w : World} {a : Option Addr} {cap : Nat} {l : List UInt8} (h : Row w a cap l) : BQ allJ w (.slice a l.length cap) l := by
  refine ⟨a, cap, rfl, h, fun hl x hx => ⟨?_, trivial⟩⟩
  obtain ⟨u, r, rfl⟩ := List.exists_cons_of_ne_nil hl
  have h0 := h.2.2.2 x hx 0 u rfl
  have := World.block_lt_of_cell? w _ h0
  have e : (x.add 0).block = x.block := by unfold Addr.add; split <;> rfl
  rwa [e] at this
variable {α : Type} {sz : Nat} {tE tS : TypeId} {E : Rel α} {J : Nat → Prop}
/-! ### rows -/
def QRow (J : Nat → Prop) (sz : Nat) (tE tS : TypeId) (E : Rel α) (w : World) (v : Value) (ts : List α) : Prop := ∃ (css : List (Raw sz)) (a : Option Addr) (cap : Nat), v = .slice a ts.length cap ∧ GRow (rawT sz tE tS) w a cap css ∧ (ts ≠ [] → InJ J w a) ∧ Both (fun c t => E J w c.1 t) css ts
theorem NRow.q {w : World} {v : Value} {ts : List α} (h : NRow J sz tE tS E w v ts) : QRow J sz tE tS E w v ts := by
  obtain ⟨css, a, cap, hv, h1, h3, h2⟩ := h
  exact ⟨css, a, cap, hv, h1, fun _ => h3, h2⟩
theorem QRow.keep (hE : RelOk E) {w w' : World} {v : Value} {ts : List α} (h : QRow J sz tE tS E w v ts) (hb : ∀ b, b < w.heap.size → J b → w'.heap[b]? = w.heap[b]?) (hs : w.heap.size ≤ w'.heap.size) : QRow J sz tE tS E w' v ts := by
  obtain ⟨css, a, cap, hv, h1, h3, h2⟩ := h
  refine ⟨css, a, cap, hv, ?_, fun hl => (h3 hl).later hs, h2.mono fun c t h => hE.keep h hb hs⟩
  refine ⟨h1.1, h1.2.1, h1.2.2.1, h1.2.2.2.1, fun x hx i e he => ?_⟩
  have hl : ts ≠ [] := fun e2 => by
    have h5 := h2.1
    rw [e2, List.length_nil] at h5
    have h6 := (List.getElem?_eq_some_iff.1 he).1
    omega
  obtain ⟨hs2, c⟩ := h1.2.2.2.2 x hx i e he
  refine ⟨hs2, fun k u hu => ?_⟩
  rw [← c k u hu]
  exact World.cell?_of_block (hb _ (h3 hl x hx).1 (h3 hl x hx).2)
theorem QRow.later (hE : RelOk E) {w w' : World} {v : Value} {ts : List α} (h : QRow J sz tE tS E w v ts) (hb : Below w.heap.size w w') : QRow J sz tE tS E w' v ts := h.keep hE (fun b hb2 _ => hb.block b hb2) hb.size
theorem QRow.weak (hE : RelOk E) {J' : Nat → Prop} {w : World} {v : Value} {ts : List α} (h : QRow J sz tE tS E w v ts) (hj : ∀ b, b < w.heap.size → J b → J' b) : QRow J' sz tE tS E w v ts := by
  obtain ⟨css, a, cap, hv, h1, h3, h2⟩ := h
  exact ⟨css, a, cap, hv, h1, fun hl => (h3 hl).weak hj, h2.mono fun c t h => hE.weak h hj⟩
theorem QRow.nil (J : Nat → Prop) (w : World) : QRow J sz tE tS E w (.slice none 0 0) [] := ⟨[], none, 0, rfl, GRow.nil _ w, fun h => absurd rfl h, Both.nil⟩
theorem QRow.val {w : World} {v : Value} {ts : List α} {n : Nat} (h : QRow J sz tE tS E w v ts) (hn : ts.length = n) : ∃ a cap, v = .slice a n cap ∧ n ≤ cap ∧ cap ≤ maxLen ∧ (a = none → cap = 0) := by
  obtain ⟨css, a, cap, hv, h1, h3, h2⟩ := h
  subst hn
  exact ⟨a, cap, hv, by rw [← h2.1]; exact h1.1, h1.2.1, h1.2.2.1⟩
theorem QRow.cap {w : World} {a : Option Addr} {n cap : Nat} {ts : List α} (h : QRow J sz tE tS E w (.slice a n cap) ts) : ts.length = n ∧ n ≤ cap ∧ cap ≤ maxLen ∧ (a = none → cap = 0) := by
  obtain ⟨css, a', cap', hv, h1, h3, h2⟩ := h
  simp only [Value.slice.injEq] at hv
  obtain ⟨rfl, rfl, rfl⟩ := hv
  exact ⟨rfl, by rw [← h2.1]; exact h1.1, h1.2.1, h1.2.2.1⟩
theorem QRow.at {w : World} {a : Option Addr} {n cap : Nat} {ts : List α} (h : QRow J sz tE tS E w (.slice a n cap) ts) {i : Nat} {t : α} (ht : ts[i]? = some t) :
    ∃ (b off : Nat) (cs : List Value), a = some ⟨b, off, .none⟩ ∧ cs.length = sz ∧ E J w cs t ∧ ∀ (k : Nat) v, cs[k]? = some v → w.cell? ⟨b, off + i * sz + k, .none⟩ = some v := by
  obtain ⟨css, a', cap', hv, h1, _, h2⟩ := h
  cases hv
  obtain ⟨c, hc, he⟩ := h2.at ht
  obtain ⟨b, off, ha, hq⟩ := h1.at hc
  exact ⟨b, off, c.1, ha, c.2.1, he, hq⟩
/-- Its beginning. -/
theorem QRow.take {w : World} {a : Option Addr} {n cap : Nat} {ts : List α} (h : QRow J sz tE tS E w (.slice a n cap) ts) {k : Nat} (hk : k ≤ n) : QRow J sz tE tS E w (.slice a k cap) (ts.take k) := by
  obtain ⟨css, a', cap', hv, h1, h3, h2⟩ := h
  simp only [Value.slice.injEq] at hv
  obtain ⟨rfl, rfl, rfl⟩ := hv
  exact ⟨css.take k, a, cap, by rw [List.length_take, Nat.min_eq_left hk], h1.take k, fun hl => h3 (fun e => hl (by rw [e]; simp)), h2.take k⟩
/-- From a place on. -/
theorem QRow.drop {w : World} {a : Option Addr} {n cap : Nat} {ts : List α} (h : QRow J sz tE tS E w (.slice a n cap) ts) {k : Nat} (hk : k ≤ n) : QRow J sz tE tS E w (.slice (cutA sz a k cap) (n - k) (cap - k)) (ts.drop k) := by
  obtain ⟨css, a', cap', hv, h1, h3, h2⟩ := h
  simp only [Value.slice.injEq] at hv
  obtain ⟨rfl, rfl, rfl⟩ := hv
  refine ⟨css.drop k, cutA sz a k cap, cap - k, by rw [List.length_drop], h1.drop (lo := k) (by have := h2.1; omega), fun hl x hx => ?_, h2.drop k⟩
  have hl2 : ts ≠ [] := fun e => hl (by rw [e]; simp)
  unfold cutA at hx
  split at hx
  · exact h3 hl2 x hx
  · cases a with
    | none => cases hx
    | some y =>
      simp only [Option.map_some, Option.some.injEq] at hx
      subst hx
      have e : (y.add (k * sz)).block = y.block := by unfold Addr.add; split <;> rfl
      have := h3 hl2 y rfl
      rw [e]; exact this
/-- A row that came in. -/
theorem QRow.of_rowE {w : World} {E' : List Value → α → Prop} {a : Option Addr} {cap : Nat} {ts : List α} (h : RowE w sz E' a cap ts) (hp : 0 < sz) (hE : ∀ cs t, E' cs t → E allJ w cs t ∧ ∀ u ∈ cs, u.oneCell' = true) : QRow allJ sz tE tS E w (.slice a ts.length cap) ts := by
  cases a with
  | none =>
    have h0 := h.2.2.1 rfl
    have : ts = [] := List.length_eq_zero_iff.1 (by have := h.1; omega)
    subst this; subst h0
    exact QRow.nil _ _
  | some x =>
    have hk := h.2.2.2 x rfl
    have hsp : ts ≠ [] → x.spot = none := fun hl => by
      obtain ⟨u, r, rfl⟩ := List.exists_cons_of_ne_nil hl
      obtain ⟨cs, h1, h2, h3⟩ := hk 0 u rfl
      have c0 := h2 0 hp
      rw [List.getElem?_eq_getElem (by omega), Nat.zero_mul] at c0
      exact World.cell?_spot c0
    obtain ⟨css, hcl, hcs⟩ := exists_list (α := Raw sz) (P := fun i c => ∀ t, ts[i]? = some t → E allJ w c.1 t ∧ x.spot = none ∧ ∀ (j : Nat) v, c.1[j]? = some v → w.cell? ⟨x.block, x.off + i * sz + j, .none⟩ = some v) ts.length (fun i hi => by
      obtain ⟨cs, h1, h2, h3⟩ := hk i ts[i] (List.getElem?_eq_getElem hi)
      obtain ⟨e1, e2⟩ := hE cs _ h3
      refine ⟨⟨cs, h1, e2⟩, fun t ht => ?_⟩
      rw [List.getElem?_eq_getElem hi] at ht
      cases ht
      have hs := hsp (fun e => by rw [e] at hi; simp at hi)
      refine ⟨e1, hs, fun j v hv => ?_⟩
      have hj := (List.getElem?_eq_some_iff.1 hv).1
      simp only at hv hj
      have c0 := h2 j (by omega)
      rw [add_add hs] at c0
      rw [c0, hv])
    refine ⟨css, some x, cap, rfl, ⟨by rw [hcl]; exact h.1, h.2.1, h.2.2.1, fun _ _ => trivial, fun y hy i c hc => ?_⟩, fun hl y hy => ?_, hcl, fun i c t hc ht => (hcs i c hc t ht).1⟩
    · cases hy
      have hi := (List.getElem?_eq_some_iff.1 hc).1
      obtain ⟨_, e2, e3⟩ := hcs i c hc ts[i] (List.getElem?_eq_getElem (by omega))
      exact ⟨e2, e3⟩
    · cases hy
      obtain ⟨u, r, rfl⟩ := List.exists_cons_of_ne_nil hl
      obtain ⟨cs, h1, h2, h3⟩ := hk 0 u rfl
      have c0 := h2 0 hp
      rw [List.getElem?_eq_getElem (by omega), Nat.zero_mul] at c0
      have := World.block_lt_of_cell? w _ c0
      have e : ((x.add 0).add 0).block = x.block := by unfold Addr.add; split <;> (try split) <;> rfl
      rw [e] at this
      exact ⟨this, trivial⟩
section
variable {ops : Array Oper} {rest : List Oper} {o : Oper} {a : Act} {Q : Exit → Act → World → Prop}
/-- 'append(s, l...)', s the call's own, l records that lean on no block of s's. -/
theorem wp_qons (hR : (rawT sz tE tS).Ok) (hE : RelOk E) {w0 : World} (hgd : o.guard = none) (s x : Operand) (ho : o.op = .call { callee := .builtin .append, args := #[s, x], argTypes := #[tS, tS] })
    (v : Value) (ts : List α) (hs : a.eval s = v) (W0 : World) (hown : NOwn J sz tE tS E W0 w0 v ts) (us : List α) (xa : Option Addr) (xn xc : Nat) (hx : a.eval x = .slice xa xn xc) (hr : QRow (lessJ J v) sz tE tS E w0 (.slice xa xn xc) us) (hlen : ts.length + us.length ≤ 1000000)
    (h : ∀ v' w', NOwn J sz tE tS E W0 w' v' (ts ++ us) → w0.grownBy w' v.ownBlock → wpList Try.prog ops Q rest (a.put o.dst v') w') :
    wpList Try.prog ops Q (o :: rest) a w0 := by
  obtain ⟨css, g1, g2⟩ := hown
  obtain ⟨dss, a', cap', hv, h1, h2, h3⟩ := hr
  simp only [Value.slice.injEq] at hv
  obtain ⟨rfl, rfl, rfl⟩ := hv
  refine wp_gapp hR hgd s x ho rfl v css hs W0 g1 _ _ _ dss h1 h3.1 hx (by rw [g2.1, h3.1]; exact hlen) fun v' w' o2 gr hat => h v' w' ⟨_, o2, ?_⟩ gr
  have key : ∀ c u, E (lessJ J v) w0 c u → E (lessJ J v') w' c u := fun c u hc => lean_grown hE hc gr hat (Nat.le_refl _)
  exact (g2.mono fun c u hc => key _ _ hc).append (h3.mono fun c u hc => key _ _ hc)
end
end Go.Proofs.Ytbpddcmehjgleaa
