/- The law 'ModelApart', walked. -/
import Derived.Test.YtghglbaflmbeoaaMdK
namespace Go.Proofs.Ytghglbaflmbeoaa
open Go.RowKit Go.Proofs
set_option linter.unusedVariables false
set_option linter.unusedSimpArgs false
set_option linter.unnecessarySimpa false

/-! ### a state that is written into -/
theorem b8_inj {u : UInt8} {v : Value} (h : v = B8 u) : ∃ z, v = .int .u8 z := ⟨_, h⟩
theorem Row.pokeB {w : World} {a : Option Addr} {cap : Nat} {l : List UInt8} (h : Row w a cap l) {p : Addr} {u : UInt8} (hp : w.cell? p = some (B8 u)) (u' : UInt8) : ∃ l', l'.length = l.length ∧ Row (w.setCell p (B8 u')) a cap l' := by
  cases a with
  | none =>
    obtain ⟨rfl, rfl⟩ := h.of_nil
    exact ⟨[], rfl, Row.none _⟩
  | some x =>
    obtain ⟨l', hl, hq⟩ := exists_list (α := UInt8) (P := fun i v => (w.setCell p (B8 u')).cell? (x.add i) = some (B8 v)) l.length (fun i hi => by
      have hc := h.2.2.2 x rfl i l[i] (List.getElem?_eq_getElem hi)
      by_cases e : p = x.add i
      · subst e
        exact ⟨u', World.cell?_setCell_same _ _ _ hc⟩
      · exact ⟨l[i], by rw [World.cell?_setCell_other _ _ _ _ e]; exact hc⟩)
    exact ⟨l', hl, by rw [hl]; exact h.1, h.2.1, h.2.2.1, fun y hy i v hv => by cases hy; exact hq i v hv⟩
theorem Row.pokeS {w : World} {a : Option Addr} {cap : Nat} {l : List UInt8} (h : Row w a cap l) {p : Addr} {S : ByteArray} (hp : w.cell? p = some (.string S)) (v : Value) : Row (w.setCell p v) a cap l :=
  ⟨h.1, h.2.1, h.2.2.1, fun x hx i u hu => by
    have hc := h.2.2.2 x hx i u hu
    rw [World.cell?_setCell_other _ _ _ _ (fun e => by rw [e, hc] at hp; simp [B8] at hp)]; exact hc⟩
theorem BQ.pokeB {J : Nat → Prop} {w : World} {d : Value} {l : List UInt8} (h : BQ J w d l) {p : Addr} {u : UInt8} (hp : w.cell? p = some (B8 u)) (u' : UInt8) : ∃ l', l'.length = l.length ∧ BQ J (w.setCell p (B8 u')) d l' := by
  obtain ⟨a, cap, hv, hr, hj⟩ := h
  obtain ⟨l', hl, hr'⟩ := hr.pokeB hp u'
  refine ⟨l', hl, a, cap, by rw [hl]; exact hv, hr', fun hne x hx => ?_⟩
  obtain ⟨h1, h2⟩ := hj (fun e => hne (by rw [e] at hl; exact List.length_eq_zero_iff.1 hl)) x hx
  exact ⟨by simpa using h1, h2⟩
theorem BQ.pokeS {J : Nat → Prop} {w : World} {d : Value} {l : List UInt8} (h : BQ J w d l) {p : Addr} {S : ByteArray} (hp : w.cell? p = some (.string S)) (v : Value) : BQ J (w.setCell p v) d l := by
  obtain ⟨a, cap, hv, hr, hj⟩ := h
  exact ⟨a, cap, hv, hr.pokeS hp v, fun hne x hx => ⟨by simpa using (hj hne x hx).1, (hj hne x hx).2⟩⟩
theorem od_cells {J : Nat → Prop} {w : World} {css : List (Raw 2)} {ts : List Od} (h : Both (fun c t => OdR J w c.1 t) css ts) {i : Nat} {c : Raw 2} (hc : css[i]? = some c) : ∃ S a3 L3 c3, c.1 = [.string S, .slice a3 L3 c3] := by
  have hi := (List.getElem?_eq_some_iff.1 hc).1
  obtain ⟨S, y, e1, _, _, e4⟩ := h.2 i c (ts[i]'(by rw [← h.1]; exact hi)) hc (List.getElem?_eq_getElem _)
  obtain ⟨a3, c3, rfl, _⟩ := e4.row_n rfl
  exact ⟨S, a3, _, c3, e1⟩
theorem StA.pokeB {J : Nat → Prop} {w : World} {d v : Value} {s : Sx} (h : StA J w d v s) {p : Addr} {u : UInt8} (hp : w.cell? p = some (B8 u)) (u' : UInt8) : ∃ s', StA J (w.setCell p (B8 u')) d v s' := by
  obtain ⟨l', _, h1⟩ := h.data.pokeB hp u'
  obtain ⟨css, a, cap, hv, h2, h3, h4⟩ := h.snaps
  obtain ⟨ts, hl, hq⟩ := exists_list (α := Od) (P := fun i t => ∀ c, css[i]? = some c → OdR J (w.setCell p (B8 u')) c.1 t) s.snaps.length (fun i hi => by
    have hi2 : i < css.length := by rw [h4.1]; exact hi
    obtain ⟨S, x, e1, e2, e3, e4⟩ := h4.2 i css[i] s.snaps[i] (List.getElem?_eq_getElem hi2) (List.getElem?_eq_getElem hi)
    obtain ⟨m, _, e5⟩ := e4.pokeB hp u'
    exact ⟨⟨s.snaps[i].name, m⟩, fun c hc => by rw [List.getElem?_eq_getElem hi2] at hc; cases hc; exact ⟨S, x, e1, e2, e3, e5⟩⟩)
  refine ⟨⟨l', ts⟩, h1, css, a, cap, by rw [hl]; exact hv, ⟨h2.1, h2.2.1, h2.2.2.1, h2.2.2.2.1, fun x hx i c hc => ?_⟩, fun hne x hx => ?_, by rw [h4.1, hl], fun i c t hc ht => hq i t ht c hc⟩
  · obtain ⟨q1, q2⟩ := h2.2.2.2.2 x hx i c hc
    obtain ⟨S, a3, L3, c3, e1⟩ := od_cells h4 hc
    refine ⟨q1, fun k z hz => ?_⟩
    have q3 := q2 k z hz
    rw [World.cell?_setCell_other _ _ _ _ (fun e => ?_)]
    · exact q3
    · rw [e, q3] at hp
      have hz2 : c.1[k]? = some z := hz
      rw [e1] at hz2
      match k, hz2 with
      | 0, hz2 => simp at hz2; subst hz2; simp [B8] at hp
      | 1, hz2 => simp at hz2; subst hz2; simp [B8] at hp
      | k + 2, hz2 => simp at hz2
  · obtain ⟨q1, q2⟩ := h3 (fun e => hne (List.length_eq_zero_iff.1 (by rw [hl, e]; rfl))) x hx
    exact ⟨by simpa using q1, q2⟩
theorem StA.pokeS {J : Nat → Prop} {w : World} {d v : Value} {s : Sx} (h : StA J w d v s) {p : Addr} {S0 : ByteArray} (hp : w.cell? p = some (.string S0)) (S' : ByteArray) (hS' : S'.size ≤ 9223372036854775807) : ∃ s', StA J (w.setCell p (.string S')) d v s' := by
  obtain ⟨css, a, cap, hv, h2, h3, h4⟩ := h.snaps
  -- the cells behind the store, record by record
  obtain ⟨cts, hl, hq⟩ := exists_list (α := Raw 2 × Od) (P := fun i q => OdR J (w.setCell p (.string S')) q.1.1 q.2 ∧ ∀ x, a = some x → ∀ (k : Nat) z, q.1.1[k]? = some z → (w.setCell p (.string S')).cell? ⟨x.block, x.off + i * 2 + k, .none⟩ = some z) css.length (fun i hi => by
    have hi2 : i < s.snaps.length := by rw [← h4.1]; exact hi
    obtain ⟨S, a3, L3, c3, e1⟩ := od_cells h4 (List.getElem?_eq_getElem hi)
    obtain ⟨S1, x1, e2, e3, e4, e5⟩ := h4.2 i css[i] s.snaps[i] (List.getElem?_eq_getElem hi) (List.getElem?_eq_getElem hi2)
    rw [e1] at e2
    simp only [List.cons.injEq, Value.string.injEq, and_true] at e2
    obtain ⟨rfl, rfl⟩ := e2
    have e6 := e5.pokeS hp (.string S')
    have hone : ∀ T : ByteArray, ([.string T, .slice a3 L3 c3] : List Value).length = 2 ∧ ∀ u ∈ ([.string T, .slice a3 L3 c3] : List Value), u.oneCell' = true := fun T => ⟨rfl, fun u hu => by
      simp only [List.mem_cons, List.not_mem_nil, or_false] at hu
      rcases hu with rfl | rfl <;> rfl⟩
    cases a with
    | none => exact ⟨(⟨_, hone S⟩, s.snaps[i]), ⟨S, _, rfl, e3, e4, e6⟩, fun x hx => by cases hx⟩
    | some x =>
      obtain ⟨q1, q2⟩ := h2.2.2.2.2 x rfl i css[i] (List.getElem?_eq_getElem hi)
      have k0 := q2 0 (.string S) (by show css[i].1[0]? = _; rw [e1]; rfl)
      have k1 := q2 1 (.slice a3 L3 c3) (by show css[i].1[1]? = _; rw [e1]; rfl)
      have k1' : (w.setCell p (.string S')).cell? ⟨x.block, x.off + i * 2 + 1, .none⟩ = some (.slice a3 L3 c3) := by
        rw [World.cell?_setCell_other _ _ _ _ (fun e => by rw [e, k1] at hp; simp at hp)]; exact k1
      by_cases e : p = ⟨x.block, x.off + i * 2 + 0, .none⟩
      · refine ⟨(⟨_, hone S'⟩, ⟨S'.data.toList, s.snaps[i].data⟩), ⟨S', _, rfl, rfl, hS', e6⟩, fun y hy k z hz => ?_⟩
        cases hy
        match k, hz with
        | 0, hz => simp at hz; subst hz; rw [← e]; exact World.cell?_setCell_same _ _ _ (by rw [e]; exact k0)
        | 1, hz => simp at hz; subst hz; exact k1'
        | k + 2, hz => simp at hz
      · refine ⟨(⟨_, hone S⟩, s.snaps[i]), ⟨S, _, rfl, e3, e4, e6⟩, fun y hy k z hz => ?_⟩
        cases hy
        match k, hz with
        | 0, hz => simp at hz; subst hz; rw [World.cell?_setCell_other _ _ _ _ e]; exact k0
        | 1, hz => simp at hz; subst hz; exact k1'
        | k + 2, hz => simp at hz)
  refine ⟨⟨s.data, cts.map (·.2)⟩, h.data.pokeS hp _, cts.map (·.1), a, cap, by rw [List.length_map, hl, h4.1]; exact hv, ⟨by rw [List.length_map, hl]; exact h2.1, h2.2.1, h2.2.2.1, fun _ _ => trivial, fun x hx i c hc => ?_⟩, fun hne x hx => ?_, by rw [List.length_map, List.length_map], fun i c t hc ht => ?_⟩
  · rw [List.getElem?_map] at hc
    cases hi : cts[i]? with
    | none => rw [hi] at hc; cases hc
    | some q =>
      rw [hi] at hc; cases hc
      have hlt := (List.getElem?_eq_some_iff.1 hi).1
      exact ⟨(h2.2.2.2.2 x hx i css[i] (List.getElem?_eq_getElem (by omega))).1, fun k z hz => (hq i q hi).2 x hx k z hz⟩
  · obtain ⟨q1, q2⟩ := h3 (fun e => hne (List.length_eq_zero_iff.1 (by rw [List.length_map, hl, h4.1, e]; rfl))) x hx
    exact ⟨by simpa using q1, q2⟩
  · rw [List.getElem?_map] at hc ht
    cases hi : cts[i]? with
    | none => rw [hi] at hc; cases hc
    | some q => rw [hi] at hc ht; cases hc; cases ht; exact (hq i q hi).1
theorem frozen_same {w w' : World} {b : Nat} (h : w'.heap[b]? = w.heap[b]?) (i : Nat) : w'.frozen? ⟨b, i, none⟩ = w.frozen? ⟨b, i, none⟩ := by
  unfold World.frozen?; simp only [h]
theorem QRow.o2J {J : Nat → Prop} {w : World} {a : Option Addr} {n cap : Nat} {l : List Od} (h : QO J w (.slice a n cap) l) {i : Nat} (hi : i < n) :
    ∃ b off S a2 L2 c2 m, a = some ⟨b, off, .none⟩ ∧ J b ∧ w.cell? ⟨b, off + i * 2, .none⟩ = some (.string S) ∧ w.cell? ⟨b, off + i * 2 + 1, .none⟩ = some (.slice a2 L2 c2) ∧ m.length = L2 ∧ Row w a2 c2 m ∧ (m ≠ [] → InJ J w a2) := by
  obtain ⟨hn, _⟩ := h.cap
  have ho : l[i]? = some (l[i]'(by omega)) := List.getElem?_eq_getElem _
  obtain ⟨b, off, cs, ha, hl, ⟨S, v, rfl, h2, h3, h4⟩, hc⟩ := h.at ho
  obtain ⟨a2, c2, rfl, hr, hj⟩ := h4
  obtain ⟨css, a', cap', hv, _, h6, _⟩ := h
  have hne : l ≠ [] := fun e => by rw [e] at hn; simp at hn; omega
  simp only [Value.slice.injEq] at hv
  obtain ⟨rfl, rfl, rfl⟩ := hv
  have := h6 hne ⟨b, off, none⟩ ha
  exact ⟨b, off, S, a2, _, c2, _, ha, this.2, hc 0 _ rfl, hc 1 _ rfl, rfl, hr, hj⟩
theorem xor_byte (u : UInt8) : ∃ u' : UInt8, bits .xor .u8 (u.toNat : Int) 255 = (u'.toNat : Int) := by
  have h : ∃ z : Int, bits .xor .u8 (u.toNat : Int) 255 = IntKind.u8.wrap z := ⟨_, rfl⟩
  obtain ⟨z, hz⟩ := h
  rw [hz, IntKind.wrap_u8]
  refine ⟨UInt8.ofNat (z % 256).toNat, ?_⟩
  rw [UInt8.toNat_ofNat']
  omega
/-! ### the walk -/
def ApR (JU : Nat → Prop) (wc : World) (PB : Nat) (d1 : Option Addr) (m1 e1 : Nat) (d2 : Option Addr) (m2 e2 : Nat) (wr : World) : Prop :=
  Below wc.heap.size wc wr ∧ RecAt wr PB #[.slice d1 m1 e1, .slice d2 m2 e2] tSt ∧ (∃ st, StA JU wr (.slice d1 m1 e1) (.slice d2 m2 e2) st) ∧ ∀ b, JU b → ∀ i, wr.frozen? ⟨b, i, none⟩ = false
theorem ApR.pokeB {JU : Nat → Prop} {wc : World} {PB : Nat} {d1 d2 : Option Addr} {m1 e1 m2 e2 : Nat} {wr : World} (h : ApR JU wc PB d1 m1 e1 d2 m2 e2 wr) (hJ : ∀ b, JU b → wc.heap.size ≤ b ∧ b ≠ PB) {b o : Nat} (hb : JU b) {u : UInt8} (hp : wr.cell? ⟨b, o, none⟩ = some (B8 u)) (u' : UInt8) : ApR JU wc PB d1 m1 e1 d2 m2 e2 (wr.setCell ⟨b, o, none⟩ (B8 u')) := by
  obtain ⟨h1, h2, ⟨st, h3⟩, h4⟩ := h
  exact ⟨h1.setCell (hJ b hb).1 _, h2.other (hJ b hb).2.symm o _, h3.pokeB hp u', fun q hq i => by rw [World.frozen?_setCell]; exact h4 q hq i⟩
theorem ApR.pokeS {JU : Nat → Prop} {wc : World} {PB : Nat} {d1 d2 : Option Addr} {m1 e1 m2 e2 : Nat} {wr : World} (h : ApR JU wc PB d1 m1 e1 d2 m2 e2 wr) (hJ : ∀ b, JU b → wc.heap.size ≤ b ∧ b ≠ PB) {b o : Nat} (hb : JU b) {S : ByteArray} (hp : wr.cell? ⟨b, o, none⟩ = some (.string S)) (S' : ByteArray) (hS : S'.size ≤ 9223372036854775807) : ApR JU wc PB d1 m1 e1 d2 m2 e2 (wr.setCell ⟨b, o, none⟩ (.string S')) := by
  obtain ⟨h1, h2, ⟨st, h3⟩, h4⟩ := h
  exact ⟨h1.setCell (hJ b hb).1 _, h2.other (hJ b hb).2.symm o _, h3.pokeS hp S' hS, fun q hq i => by rw [World.frozen?_setCell]; exact h4 q hq i⟩
/-- A byte of the image. -/
theorem ApR.byte {JU : Nat → Prop} {wc : World} {PB : Nat} {d1 d2 : Option Addr} {m1 e1 m2 e2 : Nat} {wr : World} (h : ApR JU wc PB d1 m1 e1 d2 m2 e2 wr) {j : Nat} (hj : j < m1) : ∃ b f u, d1 = some ⟨b, f, none⟩ ∧ JU b ∧ wr.cell? ⟨b, f + j, none⟩ = some (B8 u) := by
  obtain ⟨_, _, ⟨st, h3⟩, _⟩ := h
  obtain ⟨a', c', hv, r, hjj⟩ := h3.data
  simp only [Value.slice.injEq] at hv
  obtain ⟨rfl, rfl, rfl⟩ := hv
  obtain ⟨b, f, rfl, hp⟩ := r.at (by omega)
  have hne : st.data ≠ [] := fun e => by rw [e] at hj; simp at hj
  exact ⟨b, f, st.data[j], rfl, (hjj hne _ rfl).2, hp j _ (List.getElem?_eq_getElem hj)⟩
/-- A snapshot's header. -/
theorem ApR.snap {JU : Nat → Prop} {wc : World} {PB : Nat} {d1 d2 : Option Addr} {m1 e1 m2 e2 : Nat} {wr : World} (h : ApR JU wc PB d1 m1 e1 d2 m2 e2 wr) {i : Nat} (hi : i < m2) : ∃ b f S a3 L3 c3, d2 = some ⟨b, f, none⟩ ∧ JU b ∧ wr.cell? ⟨b, f + i * 2, none⟩ = some (.string S) ∧ wr.cell? ⟨b, f + i * 2 + 1, none⟩ = some (.slice a3 L3 c3) := by
  obtain ⟨_, _, ⟨st, h3⟩, _⟩ := h
  obtain ⟨b, off, S, a2, L2, c2, m, ha, hb, q1, q2, -, -, -⟩ := h3.snaps.o2J hi
  exact ⟨b, off, S, a2, L2, c2, ha, hb, q1, q2⟩
/-- A byte of a snapshot. -/
theorem ApR.sbyte {JU : Nat → Prop} {wc : World} {PB : Nat} {d1 : Option Addr} {m1 e1 m2 e2 : Nat} {b f : Nat} {wr : World} (h : ApR JU wc PB d1 m1 e1 (some ⟨b, f, none⟩) m2 e2 wr) {i : Nat} (hi : i < m2) {a3 : Option Addr} {L3 c3 : Nat} (hc : wr.cell? ⟨b, f + i * 2 + 1, none⟩ = some (.slice a3 L3 c3)) {q : Nat} (hq : q < L3) : ∃ b3 f3 u, a3 = some ⟨b3, f3, none⟩ ∧ L3 ≤ c3 ∧ c3 ≤ maxLen ∧ JU b3 ∧ wr.cell? ⟨b3, f3 + q, none⟩ = some (B8 u) := by
  obtain ⟨_, _, ⟨st, h3⟩, _⟩ := h
  obtain ⟨b', off, S, a2, L2, c2, m, ha, hb, q1, q2, q3, q4, q5⟩ := h3.snaps.o2J hi
  cases ha
  rw [hc] at q2
  simp only [Option.some.injEq, Value.slice.injEq] at q2
  obtain ⟨rfl, rfl, rfl⟩ := q2
  obtain ⟨b3, f3, rfl, hp⟩ := q4.at (by omega)
  have hne : m ≠ [] := fun e => by rw [e] at q3; simp at q3; omega
  exact ⟨b3, f3, m[q]'(by omega), rfl, by rw [← q3]; exact q4.1, q4.2.1, (q5 hne _ rfl).2, hp q _ (List.getElem?_eq_getElem _)⟩

set_option maxRecDepth 100000 in
set_option maxHeartbeats 12800000 in
theorem modelApart_walk (size : Int) (a1 : Option Addr) (n1 c1 : Nat) (l1 : List Ev) (ev : Ev) (ae : Option Addr) (ce : Nat) (TE : ByteArray) (w : World) (h1 : QE allJ w (.slice a1 n1 c1) l1) (hr : Row w ae ce ev.data) (hTE : TE.data.toList = ev.name) (hTE2 : TE.size ≤ 9223372036854775807) :
    Calls Try.prog 8 #[.int .i64 size, .slice a1 n1 c1, .agg #[.int .i64 ev.kind, .int .i64 ev.off, .int .i64 ev.len, .slice ae ev.data.length ce, .string TE]] w fun x w' => x = .returned (.bool true) ∧ Below w.heap.size w w' := by
  have HEE : Hid ((⟨ev.kind, ev.off, ev.len, ev.data, TE.data.toList⟩ : Ev) = ev) := Lib.hid (by rw [hTE])
  obtain ⟨K1, hK1⟩ : ∃ z, ev.kind = z := ⟨_, rfl⟩
  obtain ⟨K2, hK2⟩ : ∃ z, ev.off = z := ⟨_, rfl⟩
  obtain ⟨K3, hK3⟩ : ∃ z, ev.len = z := ⟨_, rfl⟩
  obtain ⟨L1, hL1⟩ : ∃ z, ev.data.length = z := ⟨_, rfl⟩
  rw [hK1, hK2, hK3] at HEE
  rw [hK1, hK2, hK3, hL1]
  have HLE := Lib.hid hL1
  have X3 := RecAt.new w #[.int .i64 K1, .int .i64 K2, .int .i64 K3, .slice ae L1 ce, .string TE] 33
  have B3 : Below w.heap.size w (w.alloc (.cells #[.int .i64 K1, .int .i64 K2, .int .i64 K3, .slice ae L1 ce, .string TE] 33)) := (Below.refl _ _).alloc (Nat.le_refl _) _
  obtain ⟨wa, hwa⟩ : ∃ W, w.alloc (.cells #[.int .i64 K1, .int .i64 K2, .int .i64 K3, .slice ae L1 ce, .string TE] 33) = W := ⟨_, rfl⟩
  rw [hwa] at X3 B3
  have HX3 := Lib.hid X3
  have HB := Lib.hid B3
  have HL1 := Lib.hid (h1.later ev_rel B3)
  have HR := Lib.hid (hr.later B3)
  clear X3 B3 h1 hr hK1 hK2 hK3 hL1 hTE
  go_enter Try.func8, Try.ntmps8
  go_upto_region 1 with fail
  try rw [hwa]
  clear hwa
  obtain ⟨X, hX⟩ : ∃ X, w.heap.size = X := ⟨_, rfl⟩
  simp only [hX] at HX3 ⊢
  have HXS := Lib.hid hX
  clear hX
  go_wp2_with fail
  obtain ⟨B1, hB1⟩ : ∃ z, smallE l1 40 = z := ⟨_, rfl⟩
  refine (small14_any a1 n1 c1 l1 40 _ _ HL1.out).mono ?_
  rw [hB1]
  rintro e w0 ⟨rfl, b⟩
  replace HB := Lib.hid (HB.out.trans (b.mono HB.out.size))
  replace HX3 := Lib.hid (HX3.out.later b)
  replace HL1 := Lib.hid (HL1.out.later ev_rel b)
  replace HR := Lib.hid (HR.out.later b)
  clear hB1 b
  cases B1 with
  | false =>
    go_wp2_with fail
    refine (known14_any _).mono ?_
    rintro e wk ⟨rfl, bk⟩
    have HBk := Lib.hid (HB.out.trans (bk.mono HB.out.size))
    clear bk
    go_wp2_with fail
    go_ret
    exact ⟨rfl, HBk.out⟩
  | true =>
    obtain ⟨y0, y1, y2, y3, y4⟩ := HX3.out.c5
    go_wp2_with fail
    refine (few14_any K1 K2 K3 ae L1 ce ev.data TE _ HR.out HLE.out hTE2).mono ?_
    rw [HEE.out]
    obtain ⟨BF, hBF⟩ : ∃ z, fewE ev = z := ⟨_, rfl⟩
    rw [hBF]
    rintro e w3 ⟨rfl, b⟩
    replace HB := Lib.hid (HB.out.trans (b.mono HB.out.size))
    replace HX3 := Lib.hid (HX3.out.later b)
    replace HL1 := Lib.hid (HL1.out.later ev_rel b)
    replace HR := Lib.hid (HR.out.later b)
    clear b y0 y1 y2 y3 y4 hBF
    cases BF with
    | false =>
      go_wp2_with fail
      refine (known14_any _).mono ?_
      rintro e wk ⟨rfl, bk⟩
      have HBk := Lib.hid (HB.out.trans (bk.mono HB.out.size))
      clear bk
      go_wp2_with fail
      go_ret
      exact ⟨rfl, HBk.out⟩
    | true =>
      go_wp2_with fail
      refine (pnew14_any size _).mono ?_
      rintro e w1 ⟨d, v, rfl, hs, b⟩
      replace HB := Lib.hid (HB.out.trans (b.mono HB.out.size))
      replace HX3 := Lib.hid (HX3.out.later b)
      replace HL1 := Lib.hid (HL1.out.later ev_rel b)
      replace HR := Lib.hid (HR.out.later b)
      have HN0 := Lib.hid hs
      clear hs b
      go_wp2_with fail
      refine (pfold14_any d v (newM size) a1 n1 c1 l1 _ allJ _ HN0.out (newM_ok size) HL1.out).mono ?_
      rintro e w2 ⟨d, v, rfl, hs, b⟩
      replace HB := Lib.hid (HB.out.trans (b.mono HB.out.size))
      replace HX3 := Lib.hid (HX3.out.later b)
      replace HL1 := Lib.hid (HL1.out.later ev_rel b)
      replace HR := Lib.hid (HR.out.later b)
      have HOA := Lib.hid (foldM_ok (newM_ok size) l1)
      obtain ⟨AX, hAX⟩ : ∃ z, foldM (newM size) l1 = z := ⟨_, rfl⟩
      rw [hAX] at hs HOA
      have HAX := Lib.hid hAX
      obtain ⟨ad, nd, cd, av, nv, cv, rfl, rfl⟩ := hs.shape
      have b2 := below_st w2 #[.slice ad nd cd, .slice av nv cv]
      have HA := Lib.hid (SAt.new hs.all)
      replace HB := Lib.hid (HB.out.trans (b2.mono HB.out.size))
      replace HX3 := Lib.hid (HX3.out.later b2)
      replace HL1 := Lib.hid (HL1.out.later ev_rel b2)
      replace HR := Lib.hid (HR.out.later b2)
      clear hs b b2 HN0 hAX
      go_upto_region 4 with fail
      obtain ⟨w3, hw⟩ : ∃ W, w2.alloc (.cells #[.slice ad nd cd, .slice av nv cv] tSt) = W := ⟨_, rfl⟩
      rw [hw] at HA HB HX3 HL1 HR
      try rw [hw]
      obtain ⟨PA, hX⟩ : ∃ X, w2.heap.size = X := ⟨_, rfl⟩
      rw [hX] at HA ⊢
      clear hw hX
      go_wp2_with fail
      refine (after14_any size a1 n1 c1 l1 allJ _ _ (allJ_new _) HL1.out).mono ?_
      rw [HAX.out]
      rintro e w4 ⟨d, v, rfl, hs, b⟩
      replace HB := Lib.hid (HB.out.trans (b.mono HB.out.size))
      replace HX3 := Lib.hid (HX3.out.later b)
      replace HL1 := Lib.hid (HL1.out.later ev_rel b)
      replace HR := Lib.hid (HR.out.later b)
      replace HA := Lib.hid (HA.out.later b)
      obtain ⟨p1, p2, p3, p4, p5, p6, rfl, rfl⟩ := hs.shape
      have b2 := below_st w4 #[.slice p1 p2 p3, .slice p4 p5 p6]
      have HW := Lib.hid (SAt.new hs)
      replace HB := Lib.hid (HB.out.trans (b2.mono HB.out.size))
      replace HX3 := Lib.hid (HX3.out.later b2)
      replace HL1 := Lib.hid (HL1.out.later ev_rel b2)
      replace HR := Lib.hid (HR.out.later b2)
      replace HA := Lib.hid (HA.out.later b2)
      clear hs b b2
      go_upto_region 5 with fail
      obtain ⟨wc, hw⟩ : ∃ W, w4.alloc (.cells #[.slice p1 p2 p3, .slice p4 p5 p6] tSt) = W := ⟨_, rfl⟩
      rw [hw] at HA HW HB HX3 HL1 HR
      try rw [hw]
      obtain ⟨PW, hX⟩ : ∃ X, w4.heap.size = X := ⟨_, rfl⟩
      rw [hX] at HW ⊢
      clear hw hX
      obtain ⟨xa, xn, xc, xd, xm, xe, hRA, hSA⟩ := HA.out
      obtain ⟨x0, x1⟩ := hRA.c2
      obtain ⟨y0, y1, y2, y3, y4⟩ := HX3.out.c5
      have HAP := Lib.hid (papply14_any (.slice xa xn xc) (.slice xd xm xe) AX K1 K2 K3 ae L1 ce ev.data TE allJ wc hSA HOA.out HR.out HLE.out hTE2)
      clear hRA hSA
      go_wp2_with fail
      refine HAP.out.mono ?_
      unfold PApplyIs
      rw [HEE.out]
      obtain ⟨s1, CE, hap⟩ : ∃ s1 CE, applyM AX ev = (s1, CE) := ⟨_, _, rfl⟩
      rw [hap]
      rintro e w5 ⟨d, v, rfl, hs, b⟩
      obtain ⟨d1, m1, e1, d2, m2, e2, rfl, rfl⟩ := hs.shape
      have b2 := below_st w5 #[.slice d1 m1 e1, .slice d2 m2 e2]
      obtain ⟨JU, hJU⟩ : ∃ J : Nat → Prop, (fun b => newU wc w5 b ∧ b < w5.heap.size) = J := ⟨_, rfl⟩
      have HJ : Hid (∀ b, JU b → wc.heap.size ≤ b ∧ b ≠ w5.heap.size) := Lib.hid (by subst hJU; exact fun b hb => ⟨hb.1.1, by have := hb.2; omega⟩)
      have HAR : Hid (ApR JU wc w5.heap.size d1 m1 e1 d2 m2 e2 (w5.alloc (.cells #[.slice d1 m1 e1, .slice d2 m2 e2] tSt))) := Lib.hid ⟨b.trans (b2.mono b.size), RecAt.new w5 _ _, ⟨s1, (hs.weak fun q hq hj => by subst hJU; exact ⟨hj, hq⟩).later b2⟩, by subst hJU; exact fun q hq i => by rw [frozen_same (b2.block q hq.2)]; exact hq.1.2 i⟩
      clear hs b b2 x0 x1 y0 y1 y2 y3 y4 HAP hap hJU HX3 HL1 HR
      go_upto_region 6 with fail
      obtain ⟨w6, hw⟩ : ∃ W, w5.alloc (.cells #[.slice d1 m1 e1, .slice d2 m2 e2] tSt) = W := ⟨_, rfl⟩
      rw [hw] at HAR
      try rw [hw]
      obtain ⟨PB, hX⟩ : ∃ X, w5.heap.size = X := ⟨_, rfl⟩
      rw [hX] at HAR HJ ⊢
      clear hw hX
      obtain ⟨hl1, hl2⟩ : m1 ≤ e1 ∧ e1 ≤ 9223372036854775807 := by
        obtain ⟨_, _, ⟨st, h3⟩, _⟩ := HAR.out
        obtain ⟨a', c', hv, r, _⟩ := h3.data
        simp only [Value.slice.injEq] at hv
        obtain ⟨rfl, rfl, rfl⟩ := hv
        have := r.1
        have := r.2.1
        unfold maxLen at this; omega
      obtain ⟨hl3, hl4⟩ : m2 ≤ e2 ∧ e2 ≤ 9223372036854775807 := by
        obtain ⟨_, _, ⟨st, h3⟩, _⟩ := HAR.out
        obtain ⟨q1, q2, q3, q4⟩ := h3.snaps.cap
        unfold maxLen at q3; omega
      go_wp2_with fail
      go_loopw [11] (fun i wr => ∃ j : Nat, i = .int .i64 j ∧ j ≤ m1 ∧ Hid (ApR JU wc PB d1 m1 e1 d2 m2 e2 wr)) (fun i _ => m1 - (intOf i).toNat)
      case atStart => exact ⟨0, rfl, by omega, HAR⟩
      case round =>
        obtain ⟨j, rfl, hj, HQ⟩ := hrel
        obtain ⟨z0, z1⟩ := HQ.out.2.1.c2
        by_cases hjn : (j : Int) < m1
        · have hjd : decide ((j : Int) < (m1 : Int)) = true := decide_eq_true hjn
          obtain ⟨b1, f1, u, hd, hju, hp⟩ := HQ.out.byte (j := j) (by omega)
          subst hd
          have hf := HQ.out.2.2.2 b1 hju (f1 + j)
          obtain ⟨u', hu'⟩ := xor_byte u
          have HS := Lib.hid (HQ.out.pokeB HJ.out hju hp u')
          have hp' : wr.cell? ⟨b1, f1 + j, none⟩ = some (.int .u8 (u.toNat : Int)) := hp
          obtain ⟨UX, hUX⟩ : ∃ z, (u.toNat : Int) = z := ⟨_, rfl⟩
          rw [hUX] at hp' hu'
          have HU := Lib.hid hu'
          clear hp hju hUX hu'
          go_wp2_with fail
          go_roundw
          case rel => exact ⟨j + 1, by go_num, by omega, Lib.hid (by rw [HU.out]; exact HS.out)⟩
          case measure => simp [intOf]; omega
        · have hjN : j = m1 := by omega
          have hjd : decide ((j : Int) < (m1 : Int)) = false := decide_eq_false hjn
          clear hjN
          go_wp2_with fail
          clear z0 z1
          obtain ⟨wx, hwx⟩ : ∃ W, W = wr := ⟨_, rfl⟩
          subst hwx
          go_loopw [12] (fun i wr => ∃ j : Nat, i = .int .i64 j ∧ j ≤ m2 ∧ Hid (ApR JU wc PB d1 m1 e1 d2 m2 e2 wr)) (fun i _ => m2 - (intOf i).toNat)
          case atStart => exact ⟨0, rfl, by omega, HQ⟩
          case round =>
            obtain ⟨i, rfl, hi, HQ2⟩ := hrel
            clear HQ
            obtain ⟨z0, z1⟩ := HQ2.out.2.1.c2
            by_cases hin : (i : Int) < m2
            · have hid : decide ((i : Int) < (m2 : Int)) = true := decide_eq_true hin
              obtain ⟨b2, f2, S, a3, L3, c3, hd, hju, hpS, hpL⟩ := HQ2.out.snap (i := i) (by omega)
              subst hd
              have HJU := Lib.hid hju
              have HIN : Hid (i < m2) := Lib.hid (by omega)
              have HPL := Lib.hid hpL
              clear hju hpS hpL
              go_wp2_with fail
              clear z0 z1
              obtain ⟨wy, hwy⟩ : ∃ W, W = wr := ⟨_, rfl⟩
              subst hwy
              go_loopw [13] (fun k wr => ∃ q : Nat, k = .int .i64 q ∧ q ≤ L3 ∧ Hid (ApR JU wc PB d1 m1 e1 (some ⟨b2, f2, none⟩) m2 e2 wr) ∧ Hid (wr.cell? ⟨b2, f2 + i * 2 + 1, none⟩ = some (.slice a3 L3 c3))) (fun k _ => L3 - (intOf k).toNat)
              case atStart => exact ⟨0, rfl, by omega, HQ2, HPL⟩
              case round =>
                obtain ⟨q, rfl, hq, HQ3, HP3⟩ := hrel
                clear HQ2 HPL
                obtain ⟨z0, z1⟩ := HQ3.out.2.1.c2
                have k1 := HP3.out
                have hiI := HIN.out
                by_cases hqn : (q : Int) < L3
                · have hqd : decide ((q : Int) < (L3 : Int)) = true := decide_eq_true hqn
                  obtain ⟨b3, f3, u, hd, hl5, hl6, hju, hp⟩ := HQ3.out.sbyte HIN.out HP3.out (q := q) (by omega)
                  subst hd
                  unfold maxLen at hl6
                  have hf := HQ3.out.2.2.2 b3 hju (f3 + q)
                  obtain ⟨u', hu'⟩ := xor_byte u
                  have HS := Lib.hid (HQ3.out.pokeB HJ.out hju hp u')
                  have HP4 : Hid ((wr.setCell ⟨b3, f3 + q, none⟩ (B8 u')).cell? ⟨b2, f2 + i * 2 + 1, none⟩ = some (.slice (some ⟨b3, f3, none⟩) L3 c3)) := Lib.hid (by
                    rw [World.cell?_setCell_other _ _ _ _ (fun e => by rw [e, HP3.out] at hp; simp [B8] at hp)]; exact HP3.out)
                  have hp' : wr.cell? ⟨b3, f3 + q, none⟩ = some (.int .u8 (u.toNat : Int)) := hp
                  obtain ⟨UX, hUX⟩ : ∃ z, (u.toNat : Int) = z := ⟨_, rfl⟩
                  rw [hUX] at hp' hu'
                  have HU := Lib.hid hu'
                  clear hp hju hUX hu'
                  go_wp2_with fail
                  go_roundw
                  case rel => exact ⟨q + 1, by go_num, by omega, Lib.hid (by rw [HU.out]; exact HS.out), Lib.hid (by rw [HU.out]; exact HP4.out)⟩
                  case measure => simp [intOf]; omega
                · have hqN : q = L3 := by omega
                  have hqd : decide ((q : Int) < (L3 : Int)) = false := decide_eq_false hqn
                  obtain ⟨b2', f2', S, a4, L4, c4, hd, hju, hpS, -⟩ := HQ3.out.snap (i := i) HIN.out
                  cases hd
                  have hf := HQ3.out.2.2.2 b2 hju (f2 + i * 2)
                  have HS := Lib.hid (HQ3.out.pokeS HJ.out hju hpS ⟨#[111, 116, 104, 101, 114]⟩ (by decide))
                  clear hju hqN
                  go_wp2_with fail
                  go_roundw
                  case rel => exact ⟨i + 1, by go_num, by omega, HS⟩
                  case measure => simp [intOf]; omega
            · have hid : decide ((i : Int) < (m2 : Int)) = false := decide_eq_false hin
              have HA9 := Lib.hid (HA.out.later HQ2.out.1)
              have HW9 := Lib.hid (HW.out.later HQ2.out.1)
              have HB9 := Lib.hid (HB.out.trans (HQ2.out.1.mono HB.out.size))
              obtain ⟨xa, xn, xc, xd, xm, xe, hRA, hSA⟩ := HA9.out
              obtain ⟨ya, yn, yc, yd, ym, ye, hRW, hSW⟩ := HW9.out
              obtain ⟨x0, x1⟩ := hRA.c2
              obtain ⟨y0, y1⟩ := hRW.c2
              have HSA := Lib.hid hSA
              have HSW := Lib.hid hSW
              clear hRA hSA hRW hSW HA9 HW9 HQ2
              replace HB := HB9
              go_wp2_with fail
              refine (rsame14_yes (.slice xa xn xc) (.slice xd xm xe) (.slice ya yn yc) (.slice yd ym ye) AX AX _ _ _ HSA.out HSW.out rfl).mono ?_
              rintro e w9 ⟨rfl, b⟩
              replace HB := Lib.hid (HB.out.trans (b.mono HB.out.size))
              clear b x0 x1 y0 y1
              go_wp2_with fail
              refine (known14_any _).mono ?_
              rintro e wk ⟨rfl, bk⟩
              have HBk := Lib.hid (HB.out.trans (bk.mono HB.out.size))
              clear bk
              go_wp2_with fail
              go_ret
              exact ⟨rfl, HBk.out⟩
end Go.Proofs.Ytghglbaflmbeoaa
