/- Frames: rows of entries. -/
import Derived.Test.YtabeleihpnnadaaFrU
import Derived.Test.YtabeleihpnnadaaRd
import Derived.Maps.AppendAt
namespace Go.Proofs.Ytabeleihpnnadaa
open Go.RowKit
set_option linter.unusedVariables false
set_option linter.unusedSimpArgs false

/-! ### an entry, a row of entries that one reads -/
def EnE (w : World) (cs : List Value) (e : En) : Prop := ∃ a c, cs = [.int .i64 e.tag, .int .i64 e.seq, .slice a e.data.length c] ∧ Row w a c e.data
theorem EnE.later {w w' : World} {cs : List Value} {e : En} (h : EnE w cs e) (hb : Below w.heap.size w w') : EnE w' cs e := by
  obtain ⟨a, c, h1, h2⟩ := h; exact ⟨a, c, h1, h2.later hb⟩
set_option maxRecDepth 20000 in
theorem opens_en {w : World} : Opens w 38 (EnE w) :=
  Opens.fields Try.underlying38 (by kernel_rfl : Try.prog.cellsOf 38 = 3) fun cs hl hf => by
    obtain ⟨t, ht, _⟩ := hf 0 _ rfl _ _ (Opens.int (k := .i64) Try.underlying3)
    obtain ⟨s, hs, _⟩ := hf 1 _ rfl _ _ (Opens.int (k := .i64) Try.underlying3)
    obtain ⟨d, a, c, hd, hr⟩ := hf 2 _ rfl _ _ (Opens.bytes (w := w) Try.underlying34 Try.underlying5 (by kernel_rfl))
    refine ⟨⟨t, s, d⟩, a, c, ?_, hr⟩
    match cs, hl with
    | [x, y, z], _ =>
      have h1 : Try.prog.cellsOf 3 = 1 := by kernel_rfl
      have h2 : Try.prog.cellsOf 34 = 1 := by kernel_rfl
      simp [h1] at ht
      simp [h1] at hs
      simp [h2] at hd
      simp [ht, hs, hd]
/-- A slice of entries that one reads. -/
def ERow (w : World) (a : Option Addr) (cap : Nat) (es : List En) : Prop :=
  es.length ≤ cap ∧ cap ≤ maxLen ∧ (a = none → cap = 0) ∧ ∀ x, a = some x → ∀ (i : Nat) e, es[i]? = some e → x.spot = .none ∧ ∃ ai ci, w.cell? ⟨x.block, x.off + i * 3, .none⟩ = some (.int .i64 e.tag) ∧ w.cell? ⟨x.block, x.off + i * 3 + 1, .none⟩ = some (.int .i64 e.seq) ∧
    w.cell? ⟨x.block, x.off + i * 3 + 2, .none⟩ = some (.slice ai e.data.length ci) ∧ Row w ai ci e.data
theorem RowE.erow {w : World} {a : Option Addr} {cap : Nat} {es : List En} (h : RowE w 3 (EnE w) a cap es) : ERow w a cap es := by
  refine ⟨h.1, h.2.1, h.2.2.1, fun x hx i e he => ?_⟩
  have hsp : x.spot = none := by
    have hi := (List.getElem?_eq_some_iff.1 he).1
    obtain ⟨cs, h1, h2, ai, ci, rfl, h4⟩ := h.2.2.2 x hx 0 es[0] (List.getElem?_eq_getElem (by omega))
    have c0 := h2 0 (by omega)
    exact World.cell?_spot c0
  obtain ⟨cs, h1, h2, ai, ci, rfl, h4⟩ := h.2.2.2 x hx i e he
  have c0 := h2 0 (by omega)
  have c1 := h2 1 (by omega)
  have c2 := h2 2 (by omega)
  rw [add_add hsp] at c0 c1 c2
  exact ⟨hsp, ai, ci, c0, c1, c2, h4⟩
theorem ERow.later {w w' : World} {a : Option Addr} {cap : Nat} {es : List En} (h : ERow w a cap es) (hb : Below w.heap.size w w') : ERow w' a cap es := by
  refine ⟨h.1, h.2.1, h.2.2.1, fun x hx i e he => ?_⟩
  obtain ⟨hs, ai, ci, c0, c1, c2, h4⟩ := h.2.2.2 x hx i e he
  exact ⟨hs, ai, ci, by rw [hb.cell (World.block_lt_of_cell? w _ c0)]; exact c0, by rw [hb.cell (World.block_lt_of_cell? w _ c1)]; exact c1, by rw [hb.cell (World.block_lt_of_cell? w _ c2)]; exact c2, h4.later hb⟩
theorem ERow.at {w : World} {a : Option Addr} {cap : Nat} {es : List En} (h : ERow w a cap es) {i : Nat} {e : En} (he : es[i]? = some e) :
    ∃ b off ai ci, a = some ⟨b, off, .none⟩ ∧ w.cell? ⟨b, off + i * 3, .none⟩ = some (.int .i64 e.tag) ∧ w.cell? ⟨b, off + i * 3 + 1, .none⟩ = some (.int .i64 e.seq) ∧
      w.cell? ⟨b, off + i * 3 + 2, .none⟩ = some (.slice ai e.data.length ci) ∧ Row w ai ci e.data := by
  cases a with
  | none =>
    have := h.2.2.1 rfl
    have := h.1
    have := (List.getElem?_eq_some_iff.1 he).1
    omega
  | some x =>
    obtain ⟨hs, ai, ci, c0, c1, c2, h4⟩ := h.2.2.2 x rfl i e he
    obtain ⟨b, off, sp⟩ := x
    simp only at hs
    subst hs
    exact ⟨b, off, ai, ci, rfl, c0, c1, c2, h4⟩
theorem ERow.nil (w : World) : ERow w .none 0 [] := ⟨by simp, by simp [maxLen], fun _ => rfl, fun x h => by cases h⟩
theorem ERow.take {w : World} {a : Option Addr} {cap : Nat} {es : List En} (h : ERow w a cap es) (k : Nat) : ERow w a cap (es.take k) := by
  refine ⟨by have := h.1; simp; omega, h.2.1, h.2.2.1, fun x hx i e he => h.2.2.2 x hx i e ?_⟩
  rw [List.getElem?_take] at he
  split at he
  · exact he
  · cases he

/-! ### one that a call made itself -/
def EOwn (W0 w : World) (v : Value) (es : List En) : Prop :=
  ∃ cs : List Value, w.ownsRow W0.heap.size 38 3 v es.length cs ∧ Below W0.heap.size W0 w ∧ ∀ (i : Nat) e, es[i]? = some e → ∃ ai ci, cs[i * 3]? = some (.int .i64 e.tag) ∧ cs[i * 3 + 1]? = some (.int .i64 e.seq) ∧
    cs[i * 3 + 2]? = some (.slice ai e.data.length ci) ∧ Row w ai ci e.data ∧ ∀ x, ai = some x → x.block < w.heap.size ∧ v.ownBlock ≠ some x.block
theorem EOwn.nil (w : World) : EOwn w w (.slice .none 0 0) [] := ⟨[], World.ownsRow_nil _ _ _ _, Below.refl _ _, fun i e h => by simp at h⟩
theorem EOwn.below {W0 w : World} {v : Value} {es : List En} (h : EOwn W0 w v es) : Below W0.heap.size W0 w := by obtain ⟨_, _, h, _⟩ := h; exact h
theorem EOwn.later {W0 w w' : World} {v : Value} {es : List En} (h : EOwn W0 w v es) (hb : Below w.heap.size w w') : EOwn W0 w' v es := by
  obtain ⟨cs, h1, h2, h3⟩ := h
  refine ⟨cs, ownsRow_later h1 hb, h2.trans (hb.mono h2.size), fun i e he => ?_⟩
  obtain ⟨ai, ci, c0, c1, c2, hr, hx⟩ := h3 i e he
  exact ⟨ai, ci, c0, c1, c2, hr.later hb, fun x hx2 => ⟨Nat.lt_of_lt_of_le (hx x hx2).1 hb.size, (hx x hx2).2⟩⟩
theorem EOwn.row {W0 w : World} {v : Value} {es : List En} (h : EOwn W0 w v es) : ∃ a cap, v = .slice a es.length cap ∧ ERow w a cap es := by
  obtain ⟨cs, h1, h2, h3⟩ := h
  rcases h1.2 with ⟨hv, hn⟩ | ⟨g, cap, cur, hv, hb, hg, hn, hc, hs, ht⟩
  · have : es = [] := List.length_eq_zero_iff.1 hn
    subst this
    exact ⟨.none, 0, hv, ERow.nil w⟩
  · refine ⟨_, cap, hv, hn, hc, fun e => (by cases e), fun x hx i e he => ?_⟩
    cases hx
    obtain ⟨ai, ci, c0, c1, c2, hr, hx⟩ := h3 i e he
    have hi := (List.getElem?_eq_some_iff.1 he).1
    have hr1 := h1
    rw [hv] at hr1
    refine ⟨rfl, ai, ci, ?_, ?_, ?_, hr⟩
    · rw [Nat.zero_add, hr1.cellAt (i * 3) (by omega)]; exact c0
    · rw [Nat.zero_add, hr1.cellAt (i * 3 + 1) (by omega)]; exact c1
    · rw [Nat.zero_add, hr1.cellAt (i * 3 + 2) (by omega)]; exact c2
theorem EOwn.row_n {W0 w : World} {v : Value} {es : List En} {n : Nat} (h : EOwn W0 w v es) (hn : es.length = n) : ∃ a cap, v = .slice a n cap ∧ ERow w a cap es := by subst hn; exact h.row
theorem info_en : (Try.prog.info? 38).map (fun i => (i.zero, i.size, i.bytes)) = some (some (.agg #[.int .i64 0, .int .i64 0, .slice .none 0 0]), 3, 40) := by kernel_rfl
theorem Row.kept {w w' : World} {a : Option Addr} {cap : Nat} {l : List UInt8} {g : Option Nat} (h : Row w a cap l) (hg : w.grownBy w' g) (hx : ∀ x, a = some x → x.block < w.heap.size ∧ g ≠ some x.block) : Row w' a cap l := by
  refine ⟨h.1, h.2.1, h.2.2.1, fun x hx2 i u hu => ?_⟩
  have := h.2.2.2 x hx2 i u hu
  rw [← this]
  refine cell_block ?_
  have e : (x.add i).block = x.block := by unfold Addr.add; split <;> rfl
  rw [e]
  obtain ⟨_, _, _, _, hk⟩ := hg
  exact hk x.block (hx x hx2).1 (fun e => (hx x hx2).2 e.symm)
section
variable {ops : Array Oper} {rest : List Oper} {o : Oper} {a : Act} {Q : Exit → Act → World → Prop}
/-- 'append(s, e)', s the call's own: the entry lies in the block that the statement has just laid. -/
theorem wp_ent {w0 : World} (hgd : o.guard = none) (s x : Operand) (ho : o.op = .call { callee := .builtin .append, args := #[s, x], argTypes := #[26, 26] })
    (v : Value) (es : List En) (hs : a.eval s = v) (W0 : World) (hown : EOwn W0 w0 v es) (e : En) (ad : Option Addr) (n c : Nat) (hn : e.data.length = n) (hr : Row w0 ad c e.data) (had : ∀ y, ad = some y → y.block < w0.heap.size ∧ v.ownBlock ≠ some y.block)
    (hx : a.eval x = .slice (some ⟨w0.heap.size, 0, none⟩) 1 1) (hlen : es.length + 1 ≤ 1000000)
    (h : ∀ v' w', EOwn W0 w' v' (es ++ [e]) → wpList Try.prog ops Q rest (a.put o.dst v') w') : wpList Try.prog ops Q (o :: rest) a (w0.alloc (.cells #[.int .i64 e.tag, .int .i64 e.seq, .slice ad n c] 38)) := by
  subst hn
  obtain ⟨cs, h10, h20, h30⟩ := hown
  have hba : Below w0.heap.size w0 (w0.alloc (.cells #[.int .i64 e.tag, .int .i64 e.seq, .slice ad e.data.length c] 38)) := (Below.refl _ _).alloc (Nat.le_refl _) _
  have h1 := ownsRow_later h10 hba
  have h2 := h20.trans (hba.mono h20.size)
  have hx3 : ∀ (i : Nat) u, es[i]? = some u → ∀ ai ci, cs[i * 3 + 2]? = some (.slice ai u.data.length ci) → ∀ y, ai = some y → y.block < w0.heap.size ∧ v.ownBlock ≠ some y.block := by
    intro i u hu ai ci hc
    obtain ⟨ai2, ci2, _, _, c2, _, hx2⟩ := h30 i u hu
    rw [c2] at hc
    cases hc
    exact hx2
  have h3 : ∀ (i : Nat) u, es[i]? = some u → ∃ ai ci, cs[i * 3]? = some (.int .i64 u.tag) ∧ cs[i * 3 + 1]? = some (.int .i64 u.seq) ∧ cs[i * 3 + 2]? = some (.slice ai u.data.length ci) ∧ Row (w0.alloc (.cells #[.int .i64 e.tag, .int .i64 e.seq, .slice ad e.data.length c] 38)) ai ci u.data ∧
      ∀ y, ai = some y → y.block < (w0.alloc (.cells #[.int .i64 e.tag, .int .i64 e.seq, .slice ad e.data.length c] 38)).heap.size ∧ v.ownBlock ≠ some y.block := by
    intro i u hu
    obtain ⟨ai, ci, c0, c1, c2, hr, hx2⟩ := h30 i u hu
    exact ⟨ai, ci, c0, c1, c2, hr.later hba, fun y hy => ⟨Nat.lt_of_lt_of_le (hx2 y hy).1 hba.size, (hx2 y hy).2⟩⟩
  obtain ⟨i0, hi, hz0, hz1, hz2⟩ := info_parts info_en
  have hrec := RecAt.new w0 #[.int .i64 e.tag, .int .i64 e.seq, .slice ad e.data.length c] 38
  refine wpList_append_own_at _ hgd s x 26 ho W0.heap.size 38 i0 _ 3 40 Try.underlying26 hi hz0 hz1 hz2 rfl (by decide) v _ _ hs h1 ⟨w0.heap.size, 0, none⟩ 1 1 [.int .i64 e.tag, .int .i64 e.seq, .slice ad e.data.length c] hx rfl ?_ ?_ (by unfold maxLen; omega) (by omega) h2.size ?_
  · intro j u hu
    have e0 : (⟨w0.heap.size, 0, none⟩ : Addr).add j = ⟨w0.heap.size, j, none⟩ := by unfold Addr.add; split <;> simp_all
    rw [e0]
    exact hrec.cell (by simpa using hu)
  · intro u hu
    simp only [List.mem_cons, List.not_mem_nil, or_false] at hu
    rcases hu with rfl | rfl | rfl <;> rfl
  · intro v' w' ho' hg _ hat
    refine h v' w' ⟨_, by simpa using ho', h2.grown hg h2.size (fun k hk => (World.ownsRow.lt h1 k hk).1), fun i u hu => ?_⟩
    have hne : ∀ y : Addr, y.block < w0.heap.size → v.ownBlock ≠ some y.block → v'.ownBlock ≠ some y.block := by
      intro y hy1 hy2 he
      rcases hat with e1 | e1
      · rw [e1] at he; exact hy2 he
      · rw [e1] at he
        simp at he; omega
    have hcl : cs.length = es.length * 3 := h1.1
    by_cases hlt : i < es.length
    · rw [List.getElem?_append_left hlt] at hu
      obtain ⟨ai, ci, c0, c1, c2, hr2, hx2⟩ := h3 i u hu
      have hx3 := hx3 i u hu ai ci c2
      refine ⟨ai, ci, by rw [List.getElem?_append_left (by omega)]; exact c0, by rw [List.getElem?_append_left (by omega)]; exact c1, by rw [List.getElem?_append_left (by omega)]; exact c2, hr2.kept hg hx2, fun y hy => ⟨?_, ?_⟩⟩
      · exact Nat.lt_of_lt_of_le (hx2 y hy).1 hg.size
      · exact hne y (hx3 y hy).1 (hx3 y hy).2
    · have hi : i = es.length := by
        have := (List.getElem?_eq_some_iff.1 hu).1
        simp at this; omega
      subst hi
      rw [List.getElem?_append_right (Nat.le_refl _), Nat.sub_self] at hu
      simp at hu
      subst hu
      refine ⟨ad, c, by rw [List.getElem?_append_right (by omega), hcl, Nat.sub_self]; rfl, by rw [List.getElem?_append_right (by omega), hcl, show es.length * 3 + 1 - es.length * 3 = 1 by omega]; rfl,
        by rw [List.getElem?_append_right (by omega), hcl, show es.length * 3 + 2 - es.length * 3 = 2 by omega]; rfl, ?_, fun y hy => ⟨?_, ?_⟩⟩
      · refine (hr.later ((Below.refl _ _).alloc (Nat.le_refl _) _)).kept hg (fun y hy => ⟨?_, (had y hy).2⟩)
        have := (had y hy).1
        simp; omega
      · have h5 := (had y hy).1
        have h6 := hg.size
        simp at h6
        omega
      · exact hne y (had y hy).1 (had y hy).2
end
end Go.Proofs.Ytabeleihpnnadaa
