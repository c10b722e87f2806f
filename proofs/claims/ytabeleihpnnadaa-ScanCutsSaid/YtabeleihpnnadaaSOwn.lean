/- Rows of rows of bytes that a call made itself, each in a block of its own: made, read, written. -/
import Derived.Test.YtabeleihpnnadaaScA
import Derived.Laws.OwnMore
namespace Go.Proofs.Ytabeleihpnnadaa
open Go.RowKit Go.Proofs
set_option linter.unusedVariables false
set_option linter.unusedSimpArgs false
set_option linter.unnecessarySimpa false

theorem info_by : (Try.prog.info? 34).map (fun i => (i.zero, i.size, i.bytes)) = some (some (.slice none 0 0), 1, 24) := by kernel_rfl
/-- Two rows that share no block. -/
def Apart (u u' : Value) : Prop := u.ownBlock = none ∨ u.ownBlock ≠ u'.ownBlock
structure SIn (Z : Nat → Prop) (W0 w : World) (g : Nat) (ls : List (List UInt8)) (vs : List Value) : Prop where
  len : vs.length = ls.length
  ge : W0.heap.size ≤ g
  row : ∀ (i : Nat) l u, ls[i]? = some l → vs[i]? = some u → Own W0 w u l
  off : ∀ (i : Nat) u, vs[i]? = some u → u.ownBlock ≠ some g
  apart : ∀ (i j : Nat) u u', i ≠ j → vs[i]? = some u → vs[j]? = some u' → Apart u u'
  zone : ∀ (i : Nat) u k, vs[i]? = some u → u.ownBlock = some k → Z k
/-- The slice of block g, of n rows, in blocks of Z. -/
def SOwnZ (Z : Nat → Prop) (W0 w : World) (g n : Nat) (ls : List (List UInt8)) : Prop := ∃ vs, w.ownsRow W0.heap.size 34 1 (.slice (some ⟨g, 0, none⟩) n n) n vs ∧ Below W0.heap.size W0 w ∧ ls.length = n ∧ SIn Z W0 w g ls vs
abbrev SOwn := SOwnZ fun _ => True
section
variable {Z : Nat → Prop}
theorem SOwnZ.below {W0 w : World} {g n : Nat} {ls : List (List UInt8)} (h : SOwnZ Z W0 w g n ls) : Below W0.heap.size W0 w := by obtain ⟨_, _, h, _⟩ := h; exact h
theorem SOwnZ.len {W0 w : World} {g n : Nat} {ls : List (List UInt8)} (h : SOwnZ Z W0 w g n ls) : ls.length = n := by obtain ⟨_, _, _, h, _⟩ := h; exact h
theorem SOwnZ.lt {W0 w : World} {g n : Nat} {ls : List (List UInt8)} (h : SOwnZ Z W0 w g n ls) : W0.heap.size ≤ g ∧ g < w.heap.size := by obtain ⟨_, h, _⟩ := h; exact h.lt g rfl
theorem SOwnZ.later {W0 w w' : World} {g n : Nat} {ls : List (List UInt8)} (h : SOwnZ Z W0 w g n ls) (hb : Below w.heap.size w w') : SOwnZ Z W0 w' g n ls := by
  obtain ⟨vs, h1, h2, h3, h4⟩ := h
  exact ⟨vs, ownsRow_later h1 hb, h2.trans (hb.mono h2.size), h3, h4.len, h4.ge, fun i l u hl hu => (h4.row i l u hl hu).later hb, h4.off, h4.apart, h4.zone⟩
theorem SOwnZ.back {W0 W1 w : World} {g n : Nat} {ls : List (List UInt8)} (h : SOwnZ Z W1 w g n ls) (hb : Below W0.heap.size W0 W1) : SOwnZ Z W0 w g n ls := by
  obtain ⟨vs, h1, h2, h3, h4⟩ := h
  refine ⟨vs, ⟨h1.1, ?_⟩, hb.trans (h2.mono hb.size), h3, h4.len, Nat.le_trans hb.size h4.ge, fun i l u hl hu => (h4.row i l u hl hu).back hb, h4.off, h4.apart, h4.zone⟩
  rcases h1.2 with hv | ⟨g', cap, cur, hv, hb2, rest⟩
  · exact .inl hv
  · exact .inr ⟨g', cap, cur, hv, Nat.le_trans hb.size hb2, rest⟩
/-- Row k. -/
theorem SOwnZ.at {W0 w : World} {g n : Nat} {ls : List (List UInt8)} (h : SOwnZ Z W0 w g n ls) {k : Nat} {l : List UInt8} (hl : ls[k]? = some l) :
    ∃ u, w.cell? ⟨g, k, none⟩ = some u ∧ w.frozen? ⟨g, k, none⟩ = false ∧ Own W0 w u l ∧ u.ownBlock ≠ some g := by
  obtain ⟨vs, h1, h2, h3, h4⟩ := h
  have hk := (List.getElem?_eq_some_iff.1 hl).1
  obtain ⟨u, hu⟩ : ∃ u, vs[k]? = some u := ⟨_, List.getElem?_eq_getElem (by rw [h4.len]; exact hk)⟩
  refine ⟨u, ?_, h1.frozenAt k, h4.row k l u hl hu, h4.off k u hu⟩
  rw [h1.cellAt k (by omega)]; exact hu
theorem SOwnZ.srow {W0 w : World} {g n : Nat} {ls : List (List UInt8)} (h : SOwnZ Z W0 w g n ls) (hn : n ≤ 1000000) : SRow w (some ⟨g, 0, none⟩) n ls := by
  refine ⟨Nat.le_of_eq h.len, by unfold maxLen; omega, fun e => (by cases e), fun x hx i l hl => ?_⟩
  cases hx
  obtain ⟨u, h1, _, h3, _⟩ := h.at hl
  obtain ⟨a1, c1, rfl, hr⟩ := h3.row
  exact ⟨rfl, a1, c1, by simpa using h1, hr⟩
/-- While another block grows. -/
theorem SOwnZ.grown_at {W0 w w' : World} {g n : Nat} {ls : List (List UInt8)} (h : SOwnZ Z W0 w g n ls) {k : Nat} {l : List UInt8} (hl : ls[k]? = some l) {u : Value} (hu : w.cell? ⟨g, k, none⟩ = some u) {q : Option Nat} (hg : w.grownBy w' q) (hq : q ≠ some g) :
    w'.cell? ⟨g, k, none⟩ = some u ∧ w'.frozen? ⟨g, k, none⟩ = false := by
  obtain ⟨vs, h1, h2, h3, h4⟩ := h
  have k1 := h1.kept hg (.inr (fun e => hq (by rw [← e]; rfl)))
  exact ⟨hg.cell hu (fun e => hq e.symm), k1.frozenAt k⟩
theorem own_kept {W0 w w' : World} {u : Value} {l : List UInt8} {q : Option Nat} (h : Own W0 w u l) (hg : w.grownBy w' q) (hne : u.ownBlock = none ∨ u.ownBlock ≠ q) (hq : ∀ k, q = some k → W0.heap.size ≤ k) : Own W0 w' u l :=
  ⟨h.1.kept hg hne, h.2.grown hg h.2.size hq⟩
theorem SOwnZ.zone_at {W0 w : World} {g n : Nat} {ls : List (List UInt8)} (h : SOwnZ Z W0 w g n ls) {k : Nat} {l : List UInt8} (hl : ls[k]? = some l) {u : Value} (hu : w.cell? ⟨g, k, none⟩ = some u) {q : Nat} (hq : u.ownBlock = some q) : Z q := by
  obtain ⟨vs, h1, h2, h3, h4⟩ := h
  have hk := (List.getElem?_eq_some_iff.1 hl).1
  have hvu : vs[k]? = some u := by rw [← h1.cellAt k (by omega)]; exact hu
  exact h4.zone k u q hvu hq
/-- Row k is another one, in its own block or in a new one. -/
theorem SOwnZ.put {W0 w w' : World} {g n : Nat} {ls : List (List UInt8)} (h : SOwnZ Z W0 w g n ls) {k : Nat} {l l' : List UInt8} (hl : ls[k]? = some l) {u u' : Value} (hu : w.cell? ⟨g, k, none⟩ = some u) (hg : w.grownBy w' u.ownBlock)
    (ho : Own W0 w' u' l') (hb : u'.ownBlock = u.ownBlock ∨ u'.ownBlock = none ∨ u'.ownBlock = some w.heap.size) (hz : Z w.heap.size := by trivial) : SOwnZ Z W0 (w'.setCell ⟨g, k, none⟩ u') g n (ls.set k l') := by
  have hlt := h.lt
  obtain ⟨vs, h1, h2, h3, h4⟩ := h
  have hk := (List.getElem?_eq_some_iff.1 hl).1
  have hvu : vs[k]? = some u := by
    rw [← h1.cellAt k (by omega)]; exact hu
  have hoff := h4.off k u hvu
  have hgne : (Value.slice (some ⟨g, 0, none⟩) n n).ownBlock ≠ u.ownBlock := fun e => hoff (by rw [← e]; rfl)
  have hgeu : ∀ q, u.ownBlock = some q → W0.heap.size ≤ q := fun q hq => ((h4.row k l u hl hvu).1.lt q hq).1
  have k1 := h1.kept hg (.inr hgne)
  have k2 := k1.stored k u'
  have hoff' : u'.ownBlock ≠ some g := by
    rcases hb with e | e | e
    · rw [e]; exact hoff
    · rw [e]; simp
    · rw [e]; intro c; cases c; omega
  have hb2 : Below W0.heap.size W0 w' := h2.grown hg h2.size hgeu
  refine ⟨vs.set k u', k2.1, hb2.setCell (by simpa using hlt.1) _, by rw [List.length_set]; exact h3, by rw [List.length_set, List.length_set]; exact h4.len, h4.ge, fun i l2 u2 hl2 hu2 => ?_, fun i u2 hu2 => ?_, fun i j x y hij hx hy => ?_, fun i x q hx hq => ?_⟩
  · by_cases e : k = i
    · subst e
      rw [List.getElem?_set_self (by rw [h4.len]; exact hk)] at hu2
      rw [List.getElem?_set_self hk] at hl2
      cases hu2; cases hl2
      exact ho.besides hlt.1 hoff' k u'
    · rw [List.getElem?_set_ne e] at hu2 hl2
      exact (own_kept (h4.row i l2 u2 hl2 hu2) hg (h4.apart i k u2 u (fun c => e c.symm) hu2 hvu) hgeu).besides hlt.1 (h4.off i u2 hu2) k u'
  · by_cases e : k = i
    · subst e
      rw [List.getElem?_set_self (by rw [h4.len]; exact hk)] at hu2
      cases hu2; exact hoff'
    · rw [List.getElem?_set_ne e] at hu2
      exact h4.off i u2 hu2
  · have hnew : ∀ i x, i ≠ k → vs[i]? = some x → Apart x u' ∧ Apart u' x := fun i x hik hx => by
      have ha := h4.apart i k x u hik hx hvu
      have ha2 := h4.apart k i u x (fun c => hik c.symm) hvu hx
      unfold Apart at *
      rcases hb with e | e | e
      · rw [e]; exact ⟨ha, ha2⟩
      · rw [e]
        refine ⟨?_, .inl rfl⟩
        cases hxo : x.ownBlock with
        | none => exact .inl rfl
        | some q => exact .inr (by simp)
      · have hxl : x.ownBlock ≠ some w.heap.size := fun c => by
          obtain ⟨l5, hl5⟩ : ∃ l5, ls[i]? = some l5 := ⟨_, List.getElem?_eq_getElem (by rw [← h4.len]; exact (List.getElem?_eq_some_iff.1 hx).1)⟩
          have := ((h4.row i l5 x hl5 hx).1.lt _ c).2
          omega
        rw [e]
        exact ⟨.inr hxl, .inr (fun c => hxl c.symm)⟩
    by_cases e1 : k = i
    · subst e1
      rw [List.getElem?_set_self (by rw [h4.len]; exact hk)] at hx
      rw [List.getElem?_set_ne hij] at hy
      cases hx
      exact (hnew j y (fun c => hij c.symm) hy).2
    · by_cases e2 : k = j
      · subst e2
        rw [List.getElem?_set_self (by rw [h4.len]; exact hk)] at hy
        rw [List.getElem?_set_ne e1] at hx
        cases hy
        exact (hnew i x hij hx).1
      · rw [List.getElem?_set_ne e1] at hx
        rw [List.getElem?_set_ne e2] at hy
        exact h4.apart i j x y hij hx hy
  · by_cases e1 : k = i
    · subst e1
      rw [List.getElem?_set_self (by rw [h4.len]; exact hk)] at hx
      cases hx
      rcases hb with e | e | e
      · exact h4.zone k u q hvu (by rw [← e]; exact hq)
      · rw [e] at hq; cases hq
      · rw [e] at hq; cases hq; exact hz
    · rw [List.getElem?_set_ne e1] at hx
      exact h4.zone i x q hx hq
/-- A byte of row k is another one. -/
theorem SOwnZ.poke {W0 w : World} {g n : Nat} {ls : List (List UInt8)} (h : SOwnZ Z W0 w g n ls) {k : Nat} {l : List UInt8} (hl : ls[k]? = some l) {g2 m c : Nat} (hu : w.cell? ⟨g, k, none⟩ = some (.slice (some ⟨g2, 0, none⟩) m c)) (hm : l.length = m) (j : Nat) (b : UInt8) :
    SOwnZ Z W0 (w.setCell ⟨g2, j, none⟩ (B8 b)) g n (ls.set k (l.set j b)) := by
  have hlt := h.lt
  obtain ⟨vs, h1, h2, h3, h4⟩ := h
  have hk := (List.getElem?_eq_some_iff.1 hl).1
  have hvu : vs[k]? = some (.slice (some ⟨g2, 0, none⟩) m c) := by
    rw [← h1.cellAt k (by omega)]; exact hu
  have hoff := h4.off k _ hvu
  have ho := h4.row k l _ hl hvu
  have hge := ho.ge
  have hgne : (Value.slice (some ⟨g, 0, none⟩) n n).ownBlock ≠ some g2 := fun e => hoff (show (some g2 : Option Nat) = some g from e.symm)
  refine ⟨vs, Go.ownsRow_setCell_other h1 hgne _, h2.setCell (by simpa using hge.1) _, by rw [List.length_set]; exact h3, by rw [List.length_set]; exact h4.len, h4.ge, fun i l2 u2 hl2 hu2 => ?_, h4.off, h4.apart, h4.zone⟩
  by_cases e : k = i
  · subst e
    rw [List.getElem?_set_self hk] at hl2
    rw [hvu] at hu2
    cases hu2; cases hl2
    exact ho.stored hm j b
  · rw [List.getElem?_set_ne e] at hl2
    have ha := h4.apart i k u2 _ (fun c => e c.symm) hu2 hvu
    refine (h4.row i l2 u2 hl2 hu2).besides hge.1 ?_ j _
    rcases ha with ha | ha
    · rw [ha]; simp
    · exact ha
/-- Blocks below the world's end, and any that hold all these. -/
theorem SOwnZ.zoned {Z' : Nat → Prop} {W0 w : World} {g n : Nat} {ls : List (List UInt8)} (h : SOwnZ Z W0 w g n ls) (hz : ∀ k, k < w.heap.size → Z' k) : SOwnZ Z' W0 w g n ls := by
  obtain ⟨vs, h1, h2, h3, h4⟩ := h
  refine ⟨vs, h1, h2, h3, h4.len, h4.ge, h4.row, h4.off, h4.apart, fun i u k hu hk => ?_⟩
  obtain ⟨l, hl⟩ : ∃ l, ls[i]? = some l := ⟨_, List.getElem?_eq_getElem (by rw [← h4.len]; exact (List.getElem?_eq_some_iff.1 hu).1)⟩
  exact hz k ((h4.row i l u hl hu).1.lt k hk).2
/-- Read in a later world, where its blocks are as they were. -/
theorem SOwnZ.srow_kept {W0 w wr : World} {g n : Nat} {ls : List (List UInt8)} (h : SOwnZ Z W0 w g n ls) (hn : n ≤ 1000000) (hk : ∀ b, b < w.heap.size → W0.heap.size ≤ b → wr.heap[b]? = w.heap[b]?) : SRow wr (some ⟨g, 0, none⟩) n ls := by
  have hlt := h.lt
  refine ⟨Nat.le_of_eq h.len, by unfold maxLen; omega, fun e => (by cases e), fun x hx i l hl => ?_⟩
  cases hx
  obtain ⟨u, h1, _, h3, _⟩ := h.at hl
  obtain ⟨a1, c1, rfl, hr⟩ := h3.row
  refine ⟨rfl, a1, c1, ?_, hr.1, hr.2.1, hr.2.2.1, fun x hx j z hz => ?_⟩
  · rw [World.cell?_of_block (hk g hlt.2 hlt.1)]; simpa using h1
  · rw [← hr.2.2.2 x hx j z hz]
    have e : (x.add j).block = x.block := by unfold Addr.add; split <;> rfl
    have hb := h3.1.lt x.block (by rw [hx]; rfl)
    exact World.cell?_of_block (by rw [e]; exact hk x.block hb.2 hb.1)
end
section
variable {ops : Array Oper} {rest : List Oper} {o : Oper} {a : Act} {Q : Exit → Act → World → Prop}
/-- 'make([][]byte, n)'. -/
theorem wp_srows {w : World} (hgd : o.guard = none) (l c : Operand) (ho : o.op = Op.makeSlice 22 l c) (W0 : World) (hb : Below W0.heap.size W0 w) (kl kc : IntKind) (L C : Int) (n : Nat)
    (hl : a.eval l = .int kl L) (hc : a.eval c = .int kc C) (hL : L = n) (hC : C = n) (hn : n ≤ 1000000)
    (h : ∀ w', SOwn W0 w' w.heap.size n (List.replicate n []) → wpList Try.prog ops Q rest (a.put o.dst (.slice (some ⟨w.heap.size, 0, none⟩) n n)) w') : wpList Try.prog ops Q (o :: rest) a w := by
  obtain ⟨i0, hi, hz0, hz1, hz2⟩ := info_parts info_by
  refine wpList_make_full w hgd l c 22 ho W0.heap.size 34 i0 (.slice none 0 0) 1 Try.underlying22 hi hz0 hz1 kl kc L C n hl hc hL hC (by rw [hz2]; omega) (by unfold maxLen; omega) hb.size ?_
  intro w' ho' hg
  have e : (madeCells (Value.slice none 0 0).cells (n * 1)).toList = List.replicate n (Value.slice none 0 0) := by
    rw [show (Value.slice none 0 0).cells = #[.slice none 0 0] from rfl, toList_madeCells_one, Nat.mul_one]
  rw [e] at ho'
  have hb' : Below W0.heap.size W0 w' := hb.grown hg hb.size (fun k hk => by cases hk)
  have hv : ∀ (i : Nat) u, (List.replicate n (Value.slice none 0 0))[i]? = some u → u = .slice none 0 0 := fun i u hu => List.eq_of_mem_replicate (List.mem_of_getElem? hu)
  refine h w' ⟨_, ho', hb', by simp, by simp, hb.size, fun i l u hl hu => ?_, fun i u hu => ?_, fun i j u u' _ hu _ => ?_, fun _ _ _ _ _ => trivial⟩
  · rw [hv i u hu, List.eq_of_mem_replicate (List.mem_of_getElem? hl)]
    exact ⟨World.ownsRow_nil _ _ _ _, hb'⟩
  · rw [hv i u hu]; simp [Value.ownBlock]
  · rw [hv i u hu]; exact .inl rfl
/-- 'append(s, b...)', s the call's own: in what block it lies then. -/
theorem run_bapp {w : World} (v : Value) (l : List UInt8) (W0 : World) (hown : Own W0 w v l) (ad : Option Addr) (cap n : Nat) (l2 : List UInt8) (hr : Row w ad cap l2) (hn : l2.length = n) (ty : TypeId) (hlen : l.length + l2.length ≤ 140737488355328) :
    ∃ v' w', (Builtin.append_ #[34, 34] ty #[v, .slice ad n cap]).run Try.prog w = .ok v' w' ∧ Own W0 w' v' (l ++ l2) ∧ w.grownBy w' v.ownBlock ∧ (v'.ownBlock = v.ownBlock ∨ v'.ownBlock = some w.heap.size) := by
  subst hn
  obtain ⟨i0, hi, hz0, hz1, hz2⟩ := info_parts info_u8
  cases ad with
  | none =>
    obtain ⟨rfl, rfl⟩ := hr.of_nil
    have hrun := run_append_owned_none (P := Try.prog) (w := w) W0.heap.size 34 ty 5 i0 1 Try.underlying34 hi v _ _ hown.1
    exact ⟨v, w, hrun, by simpa using hown, ⟨rfl, rfl, rfl, Nat.le_refl _, fun _ _ _ => rfl⟩, .inl rfl⟩
  | some y =>
    obtain ⟨v', w', h1, h2, h3, h4, h5⟩ := run_append_own_at (P := Try.prog) w W0.heap.size 34 ty 5 i0 (.int .u8 0) 1 1 Try.underlying34 hi hz0 hz1 hz2 rfl (by decide) v _ _ hown.1 y l2.length cap (l2.map B8) (by simp) (fun j u hu => by
      rw [List.getElem?_map] at hu
      cases hj : l2[j]? with
      | none => rw [hj] at hu; cases hu
      | some z => rw [hj] at hu; simp at hu; subst hu; exact hr.2.2.2 y rfl j z hj) (fun u hu => by
      simp at hu; obtain ⟨z, _, rfl⟩ := hu; rfl) (by unfold maxLen; omega) (by omega) hown.2.size
    exact ⟨v', w', h1, hown.grown (by simp) (by simp) h2 h3, h3, h5⟩
theorem wp_bapp {w : World} (hgd : o.guard = none) (s x : Operand) (ho : o.op = .call { callee := .builtin .append, args := #[s, x], argTypes := #[34, 34] })
    (v : Value) (l : List UInt8) (hs : a.eval s = v) (W0 : World) (hown : Own W0 w v l) (ad : Option Addr) (cap n : Nat) (l2 : List UInt8) (hr : Row w ad cap l2) (hn : l2.length = n) (hx : a.eval x = .slice ad n cap) (hlen : l.length + l2.length ≤ 140737488355328)
    (h : ∀ v' w', Own W0 w' v' (l ++ l2) → w.grownBy w' v.ownBlock → (v'.ownBlock = v.ownBlock ∨ v'.ownBlock = some w.heap.size) → wpList Try.prog ops Q rest (a.put o.dst v') w') : wpList Try.prog ops Q (o :: rest) a w := by
  obtain ⟨v', w', h1, h2, h3, h4⟩ := run_bapp v l W0 hown ad cap n l2 hr hn o.type hlen
  refine wpList_plain hgd fun K hK => ?_
  unfold Oper.wp execOp
  simp only [ho, resolve, invoke, builtin, Sem.run_bind, Sem.run_pure, Result.andThen_ok, List.map_toArray, List.map_cons, List.map_nil, hs, hx, h1]
  exact hK _ _ (h v' w' h2 h3 h4)
/-- .. as an operation that a region's walk stands at. -/
theorem step_bapp {w : World} {K : Act → World → Prop} {E : Prop} (hgd : o.guard = none) (s x : Operand) (ho : o.op = .call { callee := .builtin .append, args := #[s, x], argTypes := #[34, 34] })
    (v : Value) (l : List UInt8) (hs : a.eval s = v) (W0 : World) (hown : Own W0 w v l) (ad : Option Addr) (cap n : Nat) (l2 : List UInt8) (hr : Row w ad cap l2) (hn : l2.length = n) (hx : a.eval x = .slice ad n cap) (hlen : l.length + l2.length ≤ 140737488355328)
    (hK : ∀ v' w', Own W0 w' v' (l ++ l2) → w.grownBy w' v.ownBlock → (v'.ownBlock = v.ownBlock ∨ v'.ownBlock = some w.heap.size) → K (a.put o.dst v') w') :
    if Region.wanted o (yielded ops a.tmps) = true then Oper.wp Try.prog o a w K Q else E := by
  have hw : Region.wanted o (yielded ops a.tmps) = true := by simp [Region.wanted, hgd]
  rw [if_pos hw]
  obtain ⟨v', w', h1, h2, h3, h4⟩ := run_bapp v l W0 hown ad cap n l2 hr hn o.type hlen
  unfold Oper.wp execOp
  simp only [ho, resolve, invoke, builtin, Sem.run_bind, Sem.run_pure, Result.andThen_ok, List.map_toArray, List.map_cons, List.map_nil, hs, hx, h1]
  exact hK _ _ h2 h3 h4
end
end Go.Proofs.Ytabeleihpnnadaa
