/- Slices of bytes: what one reads as ('Row'), one that a call made itself ('Own'), and what the operations on them leave. -/
import Derived.Test.YtbpddcmehjgleaaRows
import Derived.WalkKit
import Derived.WalkSpells
import Derived.WalkLawsBesides
import Derived.Handy
import Derived.Lib.Hide
import Derived.Lib.AppendStr
import Derived.Laws.AppendOwnNone
import Derived.Lib.SlBytesConst
import Derived.Laws.OwnMore
import Derived.OneCell
import Derived.OwnWalk
namespace Go.Proofs.Ytbpddcmehjgleaa
open Go.RowKit

def B8 (u : UInt8) : Value := .int .u8 (u.toNat : Int)

theorem info_u8 : (Try.prog.info? 5).map (fun i => (i.zero, i.size, i.bytes)) = some (some (.int .u8 0), 1, 1) := by kernel_rfl

/-- The slice value '.slice a l.length cap' reads as the bytes l. -/
def Row (w : World) (a : Option Addr) (cap : Nat) (l : List UInt8) : Prop :=
  l.length ≤ cap ∧ cap ≤ maxLen ∧ (a = none → cap = 0) ∧ ∀ x, a = some x → ∀ (i : Nat) u, l[i]? = some u → w.cell? (x.add i) = some (B8 u)

theorem Row.none (w : World) : Row w none 0 [] := ⟨by simp, by simp [maxLen], fun _ => rfl, fun x h => by cases h⟩
theorem Row.of_nil {w : World} {cap : Nat} {l : List UInt8} (h : Row w .none cap l) : l = [] ∧ cap = 0 := by
  have := h.2.2.1 rfl
  exact ⟨List.length_eq_zero_iff.1 (by have := h.1; omega), this⟩
theorem Row.later {w w' : World} {a : Option Addr} {cap : Nat} {l : List UInt8} (h : Row w a cap l) (hb : Below w.heap.size w w') : Row w' a cap l := by
  refine ⟨h.1, h.2.1, h.2.2.1, fun x hx i u hu => ?_⟩
  have := h.2.2.2 x hx i u hu
  rw [hb.cell (World.block_lt_of_cell? w _ this)]; exact this
theorem Row.at {w : World} {a : Option Addr} {cap : Nat} {l : List UInt8} (h : Row w a cap l) (hl : 0 < l.length) :
    ∃ b off, a = some ⟨b, off, .none⟩ ∧ ∀ i u, l[i]? = some u → w.cell? ⟨b, off + i, .none⟩ = some (B8 u) := by
  cases a with
  | none => have := h.of_nil; rw [this.1] at hl; simp at hl
  | some x =>
    have h0 := h.2.2.2 x rfl 0 l[0] (by simp [hl])
    obtain ⟨b, off, spot⟩ := x
    have hspot : spot = .none := by simpa [Addr.add] using World.cell?_spot h0
    subst hspot
    refine ⟨b, off, rfl, fun i u hu => ?_⟩
    have := h.2.2.2 _ rfl i u hu
    by_cases hi : i = 0
    · subst hi; simpa [Addr.add] using this
    · simpa [Addr.add, hi] using this
/-- Its first bytes alone. -/
theorem Row.take {w : World} {a : Option Addr} {cap : Nat} {l : List UInt8} (h : Row w a cap l) (k : Nat) : Row w a cap (l.take k) := by
  refine ⟨by have := h.1; simp; omega, h.2.1, h.2.2.1, fun x hx i u hu => h.2.2.2 x hx i u ?_⟩
  rw [List.getElem?_take] at hu
  split at hu
  · exact hu
  · cases hu
/-- From a place on. -/
theorem Row.drop {w : World} {b off : Nat} {cap : Nat} {l : List UInt8} (h : Row w (some ⟨b, off, .none⟩) cap l) (k : Nat) (hk : k ≤ l.length) : Row w (some ⟨b, off + k, .none⟩) (cap - k) (l.drop k) := by
  refine ⟨by have := h.1; simp; omega, by have := h.2.1; omega, fun e => (by cases e), fun x hx i u hu => ?_⟩
  cases hx
  rw [List.getElem?_drop] at hu
  have := h.2.2.2 _ rfl _ u hu
  by_cases hi : k + i = 0
  · have e1 : k = 0 := by omega
    have e2 : i = 0 := by omega
    subst e1; subst e2; simpa [Addr.add] using this
  · by_cases h2 : i = 0
    · subst h2; simp at hi; simpa [Addr.add, hi] using this
    · simpa [Addr.add, hi, h2, Nat.add_assoc] using this

/-- What the shell of a proof tells of a slice that came in. -/
theorem row_of_ints {w : World} {a : Option Addr} {len cap : Nat} {zs : List Int}
    (h : (a = none ∧ len = 0 ∧ cap = 0 ∧ zs = []) ∨ ∃ x, a = some x ∧ len ≤ cap ∧ cap ≤ maxLen ∧ zs.length = cap ∧ (∀ i, i < zs.length → w.cell? (x.add i) = some (.int .u8 (zs.getD i 0))) ∧ ∀ n ∈ zs, (Lit.int .u8 n).wf = true) :
    ∃ l : List UInt8, l.length = len ∧ Row w a cap l := by
  rcases h with ⟨rfl, rfl, rfl, _⟩ | ⟨x, rfl, hl, hm, hz, hc, hw⟩
  · exact ⟨[], rfl, Row.none w⟩
  · refine ⟨(zs.take len).map fun n => UInt8.ofNat n.toNat, by simp; omega, by simp; omega, hm, fun e => (by cases e), fun y hy i u hu => ?_⟩
    cases hy
    rw [List.getElem?_map, List.getElem?_take] at hu
    split at hu
    · rename_i hi
      have hi2 : i < zs.length := by omega
      rw [hc i hi2]
      rw [List.getElem?_eq_getElem hi2] at hu
      simp at hu
      have hwf := hw zs[i] (List.getElem_mem hi2)
      have hb : 0 ≤ zs[i] ∧ zs[i] ≤ 255 := by
        simp [Lit.wf, IntKind.min, IntKind.max, IntKind.signed, IntKind.bits] at hwf; omega
      subst hu
      simp only [B8, List.getD_eq_getElem?_getD, List.getElem?_eq_getElem hi2, Option.getD_some]
      congr 3
      simp [UInt8.toNat_ofNat']; omega
    · cases hu

/-! ### a slice that the call made itself -/
def Own (W0 w : World) (v : Value) (l : List UInt8) : Prop := w.ownsRow W0.heap.size 5 1 v l.length (l.map B8) ∧ Below W0.heap.size W0 w

theorem Own.row {W0 w : World} {v : Value} {l : List UInt8} (h : Own W0 w v l) : ∃ a cap, v = .slice a l.length cap ∧ Row w a cap l := by
  rcases h.1.2 with ⟨hv, hn⟩ | ⟨g, cap, cur, hv, hb, hg, hn, hc, hs, ht⟩
  · have : l = [] := List.length_eq_zero_iff.1 hn
    subst this
    exact ⟨none, 0, hv, Row.none w⟩
  · refine ⟨_, cap, hv, hn, hc, fun e => (by cases e), fun x hx i u hu => ?_⟩
    cases hx
    have hr := h.1
    rw [hv] at hr
    have hi : i < l.length := (List.getElem?_eq_some_iff.1 hu).1
    have := hr.cellAt i (by omega)
    rw [List.getElem?_map, hu] at this
    have e : (⟨g, 0, none⟩ : Addr).add i = ⟨g, i, none⟩ := by unfold Addr.add; split <;> simp_all
    rw [e]; exact this
theorem Own.below {W0 w : World} {v : Value} {l : List UInt8} (h : Own W0 w v l) : Below W0.heap.size W0 w := h.2
theorem Own.later {W0 w w' : World} {v : Value} {l : List UInt8} (h : Own W0 w v l) (hb : Below w.heap.size w w') : Own W0 w' v l := by
  refine ⟨⟨h.1.1, ?_⟩, h.2.trans (hb.mono h.2.size)⟩
  rcases h.1.2 with hv | ⟨g, cap, cur, hv, hb2, hg, rest⟩
  · exact .inl hv
  · exact .inr ⟨g, cap, cur, hv, hb2, by rw [hb.block g (Array.getElem?_eq_some_iff.1 hg).1]; exact hg, rest⟩
theorem Own.back {W0 W1 w : World} {v : Value} {l : List UInt8} (h : Own W1 w v l) (hb : Below W0.heap.size W0 W1) : Own W0 w v l := by
  refine ⟨⟨h.1.1, ?_⟩, hb.trans (h.2.mono hb.size)⟩
  rcases h.1.2 with hv | ⟨g, cap, cur, hv, hb2, rest⟩
  · exact .inl hv
  · exact .inr ⟨g, cap, cur, hv, Nat.le_trans hb.size hb2, rest⟩
theorem Own.alloc {W0 w : World} {v : Value} {l : List UInt8} (h : Own W0 w v l) (o : Obj) : Own W0 (w.alloc o) v l :=
  ⟨h.1.alloc o, h.2.alloc h.2.size o⟩
theorem below_drewN {B : Nat} (w : World) (n : Nat) : Below B w (w.drewN n) := ⟨rfl, rfl, rfl, Nat.le_refl _, fun _ _ => rfl⟩
theorem Own.drewN {W0 w : World} {v : Value} {l : List UInt8} (h : Own W0 w v l) (n : Nat) : Own W0 (w.drewN n) v l := h.later (below_drewN w n)
theorem Own.grown {W0 w w' : World} {v v' : Value} {l l' : List UInt8} {n : Nat} {xs : List Value} (h : Own W0 w v l) (hn : n = l'.length) (hx : xs = l'.map B8) (ho : w'.ownsRow W0.heap.size 5 1 v' n xs) (hg : w.grownBy w' v.ownBlock) : Own W0 w' v' l' :=
  ⟨by rw [← hn, ← hx]; exact ho, h.2.grown hg h.2.size (fun k hk => (h.1.lt k hk).1)⟩
theorem own_empty {W0 w : World} (h : Below W0.heap.size W0 w) : Own W0 (w.alloc (.cells #[] 5)) (.slice (some ⟨w.heap.size, 0, none⟩) 0 0) [] :=
  ⟨World.ownsRow_made w #[] 0 h.size (by simp [maxLen]) rfl, h.alloc h.size _⟩

section
variable {ops : Array Oper} {rest : List Oper} {o : Oper} {a : Act} {Q : Exit → Act → World → Prop}

/-- 'make([]byte, 0, n)'. -/
theorem wp_make {w : World} (hgd : o.guard = none) (l c : Operand) (ho : o.op = Op.makeSlice 22 l c) (W0 : World) (hb : Below W0.heap.size W0 w) (kl kc : IntKind) (C : Int) (n : Nat)
    (hl : a.eval l = .int kl 0) (hc : a.eval c = .int kc C) (hC : C = n) (hn : n ≤ 281474976710656)
    (h : ∀ w', Own W0 w' (.slice (some ⟨w.heap.size, 0, none⟩) 0 n) [] → Below w.heap.size w w' → wpList Try.prog ops Q rest (a.put o.dst (.slice (some ⟨w.heap.size, 0, none⟩) 0 n)) w') : wpList Try.prog ops Q (o :: rest) a w := by
  obtain ⟨i0, hi, hz0, hz1, hz2⟩ := info_parts info_u8
  refine wpList_make_own w hgd l c 22 ho W0.heap.size 5 i0 (.int .u8 0) 1 Try.underlying22 hi hz0 hz1 kl kc C n hl hc hC (by rw [hz2]; omega) (by unfold maxLen; omega) hb.size ?_
  intro w' ho' hg
  exact h w' ⟨ho', hb.grown hg hb.size (fun k hk => by cases hk)⟩ ((Below.refl _ _).grown hg (Nat.le_refl _) (fun k hk => by cases hk))

/-- 'make([]byte, n)'. -/
theorem wp_zeros {w : World} (hgd : o.guard = none) (l c : Operand) (ho : o.op = Op.makeSlice 22 l c) (W0 : World) (hb : Below W0.heap.size W0 w) (kl kc : IntKind) (L C : Int) (n : Nat)
    (hl : a.eval l = .int kl L) (hc : a.eval c = .int kc C) (hL : L = n) (hC : C = n) (hn : n ≤ 140737488355328)
    (h : ∀ w', Own W0 w' (.slice (some ⟨w.heap.size, 0, none⟩) n n) (List.replicate n 0) → Below w.heap.size w w' → wpList Try.prog ops Q rest (a.put o.dst (.slice (some ⟨w.heap.size, 0, none⟩) n n)) w') : wpList Try.prog ops Q (o :: rest) a w := by
  obtain ⟨i0, hi, hz0, hz1, hz2⟩ := info_parts info_u8
  refine wpList_make_full w hgd l c 22 ho W0.heap.size 5 i0 (.int .u8 0) 1 Try.underlying22 hi hz0 hz1 kl kc L C n hl hc hL hC (by rw [hz2]; omega) (by unfold maxLen; omega) hb.size ?_
  intro w' ho' hg
  have e : (madeCells (Value.int IntKind.u8 0).cells (n * 1)).toList = (List.replicate n (0 : UInt8)).map B8 := by
    rw [show (Value.int IntKind.u8 0).cells = #[.int .u8 0] from rfl, toList_madeCells_one, List.map_replicate, Nat.mul_one]; rfl
  rw [e] at ho'
  refine h w' ⟨by rw [List.length_replicate]; exact ho', hb.grown hg hb.size (fun k hk => by cases hk)⟩ ((Below.refl _ _).grown hg (Nat.le_refl _) (fun k hk => by cases hk))

/-- 'append(s, b...)', s the call's own, b whatever reads as bytes. -/
theorem wp_row {w : World} (hgd : o.guard = none) (s x : Operand) (ho : o.op = .call { callee := .builtin .append, args := #[s, x], argTypes := #[22, 22] })
    (v : Value) (l : List UInt8) (hs : a.eval s = v) (W0 : World) (hown : Own W0 w v l) (ad : Option Addr) (cap n : Nat) (l2 : List UInt8) (hr : Row w ad cap l2) (hn : l2.length = n) (hx : a.eval x = .slice ad n cap) (hlen : l.length + l2.length ≤ 140737488355328)
    (h : ∀ v' w', Own W0 w' v' (l ++ l2) → wpList Try.prog ops Q rest (a.put o.dst v') w') : wpList Try.prog ops Q (o :: rest) a w := by
  subst hn
  obtain ⟨i0, hi, hz0, hz1, hz2⟩ := info_parts info_u8
  cases ad with
  | none =>
    obtain ⟨rfl, rfl⟩ := hr.of_nil
    refine wpList_append_own_none hgd s x 22 ho W0.heap.size 5 i0 1 Try.underlying22 hi v _ _ hs hown.1 hx ?_
    have hv := h v w (by simpa using hown)
    exact hv
  | some y =>
    refine wpList_append_own w hgd s x 22 ho W0.heap.size 5 i0 (.int .u8 0) 1 1 Try.underlying22 hi hz0 hz1 hz2 rfl (by decide) v _ _ hs hown.1 y l2.length cap (l2.map B8) hx (by simp) ?_ ?_ (by unfold maxLen; omega) (by omega) hown.2.size ?_
    · intro j u hu
      rw [List.getElem?_map] at hu
      cases hj : l2[j]? with
      | none => rw [hj] at hu; cases hu
      | some z => rw [hj] at hu; simp at hu; subst hu; exact hr.2.2.2 y rfl j z hj
    · intro u hu
      simp at hu; obtain ⟨z, _, rfl⟩ := hu; rfl
    · intro v' w' ho' hg _
      exact h v' w' (hown.grown (by simp) (by simp) ho' hg)

/-- 'append(s, c)', s the call's own: the one new byte lies in the block that the statement has just laid. -/
theorem wp_byte {w0 : World} (hgd : o.guard = none) (s x : Operand) (ho : o.op = .call { callee := .builtin .append, args := #[s, x], argTypes := #[22, 22] })
    (v : Value) (l : List UInt8) (hs : a.eval s = v) (W0 : World) (hown : Own W0 w0 v l) (c : Int) (u : UInt8) (hc : c = u.toNat) (hx : a.eval x = .slice (some ⟨w0.heap.size, 0, none⟩) 1 1) (hlen : l.length + 1 ≤ 140737488355328)
    (h : ∀ v' w', Own W0 w' v' (l ++ [u]) → wpList Try.prog ops Q rest (a.put o.dst v') w') : wpList Try.prog ops Q (o :: rest) a (w0.alloc (.cells #[.int .u8 c] 5)) := by
  subst hc
  refine wp_row hgd s x ho v l hs W0 (hown.alloc _) (some ⟨w0.heap.size, 0, none⟩) 1 1 [u] ⟨by simp, by simp [maxLen], fun e => (by cases e), fun y hy i z hz => ?_⟩ rfl hx (by simpa using hlen) h
  cases hy
  match i, hz with
  | 0, hz =>
    simp at hz; subst hz
    rw [show ((⟨w0.heap.size, 0, none⟩ : Addr).add 0) = ⟨w0.heap.size, 0, none⟩ from rfl]
    simp [B8]

/-- 'append(s, t...)', t a string. -/
theorem wp_text {w : World} (hgd : o.guard = none) (s x : Operand) (ho : o.op = .call { callee := .builtin .append, args := #[s, x], argTypes := #[22, 9] })
    (v : Value) (l : List UInt8) (hs : a.eval s = v) (W0 : World) (hown : Own W0 w v l) (t : ByteArray) (hx : a.eval x = .string t) (hlen : l.length + t.size ≤ 140737488355328)
    (h : ∀ v' w', Own W0 w' v' (l ++ t.data.toList) → wpList Try.prog ops Q rest (a.put o.dst v') w') : wpList Try.prog ops Q (o :: rest) a w := by
  obtain ⟨i0, hi, hz0, hz1, hz2⟩ := info_parts info_u8
  refine Lib.wpList_append_own_string w hgd s x 22 9 ho W0.heap.size 5 i0 Try.underlying22 Try.underlying9 hi hz0 hz1 hz2 v _ _ hs hown.1 t hx (by unfold maxLen; omega) hlen hown.2.size ?_
  intro v' w' ho' hg _
  exact h v' w' (hown.grown (by simp) (by simp [Lib.strCells, B8]) ho' hg)
end

/-- 'string(b)'. -/
theorem conv_row {w : World} {a : Option Addr} {cap : Nat} {l : List UInt8} (h : Row w a cap l) :
    (convert 22 9 (.slice a l.length cap)).run Try.prog w = .ok (.string ⟨l.toArray⟩) w := by
  rw [run_convert_bytes_string w 22 9 5 a _ _ Try.underlying22 Try.underlying5 Try.underlying9]
  cases a with
  | none =>
    obtain ⟨rfl, rfl⟩ := h.of_nil
    simp [Conv.bytesToString]
    rfl
  | some y =>
    have hl : Sem.run Try.prog (loadCells y l.length) w = .ok ((l.map fun u => (u.toNat : Int)).map (Value.int IntKind.u8)).toArray w := by
      have := run_loadCells_list (P := Try.prog) (w := w) y (l.map B8) (fun j v hv => by
        rw [List.getElem?_map] at hv
        cases hj : l[j]? with
        | none => rw [hj] at hv; cases hv
        | some z => rw [hj] at hv; simp at hv; subst hv; exact h.2.2.2 y rfl j z hj)
      rw [List.length_map] at this
      rw [this]
      congr 2
      rw [List.map_map]; rfl
    rw [run_bytesToString w y l.length cap _ hl]
    congr 2
    have hf : ∀ (m : List UInt8) (r : ByteArray), List.foldl (fun (r : ByteArray) (n : Int) => r.push (UInt8.ofNat n.toNat)) r (m.map fun u => (u.toNat : Int)) = ⟨(r.data.toList ++ m).toArray⟩ := by
      intro m
      induction m with
      | nil => intro r; simp
      | cons c m ih =>
        intro r
        simp only [List.map_cons, List.foldl_cons, ih]
        congr 1
        simp [ByteArray.push]
    rw [hf]; simp
theorem conv_row_n {w : World} {a : Option Addr} {n cap : Nat} {l : List UInt8} (h : Row w a cap l) (hn : l.length = n) :
    (convert 22 9 (.slice a n cap)).run Try.prog w = .ok (.string ⟨l.toArray⟩) w := by subst hn; exact conv_row h
/-- The first n bytes of a slice, as 's[:n]' and 's[k:k+n]' make them, wherever they begin. -/
theorem Row.empty (w : World) (a : Option Addr) (cap : Nat) (h : cap ≤ maxLen) (h2 : a = .none → cap = 0) : Row w a cap [] :=
  ⟨by simp, h, h2, fun x _ i u hu => by simp at hu⟩
/-- A block that was just laid. -/
theorem row_new (w : World) (l : List UInt8) (h : l.length ≤ 1000000) : Row (w.alloc (.cells (l.map B8).toArray 5)) (some ⟨w.heap.size, 0, .none⟩) l.length l := by
  refine ⟨by omega, by unfold maxLen; omega, fun e => (by cases e), fun x hx i u hu => ?_⟩
  cases hx
  have e : (⟨w.heap.size, 0, .none⟩ : Addr).add i = ⟨w.heap.size, i, .none⟩ := by unfold Addr.add; split <;> simp_all
  rw [e, World.cell?_alloc_new]
  simp [hu]
/-! ### cells of one's own -/
theorem Own.cellAt {W0 w : World} {g n cap : Nat} {l : List UInt8} (h : Own W0 w (.slice (some ⟨g, 0, none⟩) n cap) l) (hn : l.length = n) {j : Nat} {u : UInt8} (hu : l[j]? = some u) : w.cell? ⟨g, j, none⟩ = some (B8 u) := by
  subst hn
  have hj := (List.getElem?_eq_some_iff.1 hu).1
  have := h.1.cellAt j (by omega)
  rw [List.getElem?_map, hu] at this
  exact this
theorem Own.frozenAt {W0 w : World} {g n cap : Nat} {l : List UInt8} (h : Own W0 w (.slice (some ⟨g, 0, none⟩) n cap) l) (hn : l.length = n) (j : Nat) : w.frozen? ⟨g, j, none⟩ = false := by
  subst hn
  exact h.1.frozenAt j
theorem Own.ge {W0 w : World} {g n cap : Nat} {l : List UInt8} (h : Own W0 w (.slice (some ⟨g, 0, none⟩) n cap) l) : W0.heap.size ≤ g ∧ g < w.heap.size := h.1.lt g rfl
theorem Own.stored {W0 w : World} {g n cap : Nat} {l : List UInt8} (h : Own W0 w (.slice (some ⟨g, 0, none⟩) n cap) l) (hn : l.length = n) (j : Nat) (u : UInt8) : Own W0 (w.setCell ⟨g, j, none⟩ (B8 u)) (.slice (some ⟨g, 0, none⟩) n cap) (l.set j u) := by
  subst hn
  have h1 := h.1.stored j (B8 u)
  refine ⟨?_, h.2.grown h1.2 h.2.size (fun k hk => ?_)⟩
  · rw [List.length_set, List.map_set]; exact h1.1
  · cases hk; exact h.ge.1
/-- A row of one's own, at least a byte long, is a block's beginning. -/
theorem Own.at {W0 w : World} {v : Value} {l : List UInt8} {n : Nat} (h : Own W0 w v l) (hn : l.length = n) (h0 : 0 < n) : ∃ g cap, v = .slice (some ⟨g, 0, none⟩) n cap ∧ n ≤ cap ∧ cap ≤ maxLen := by
  subst hn
  rcases h.1.2 with ⟨hv, hz⟩ | ⟨g, cap, cur, hv, hb, hg, hn, hc, hs, ht⟩
  · omega
  · exact ⟨g, cap, hv, hn, hc⟩
/-- What the call owns stays its own while another row of its own is written. -/
theorem Own.besides {W0 w : World} {v : Value} {l : List UInt8} (h : Own W0 w v l) {g : Nat} (hg : W0.heap.size ≤ g) (hne : v.ownBlock ≠ some g) (j : Nat) (u : Value) : Own W0 (w.setCell ⟨g, j, none⟩ u) v l := by
  refine ⟨Go.ownsRow_setCell_other h.1 hne u, ?_⟩
  exact h.2.setCell (by simpa using hg) u
theorem Row.besides {w : World} {a : Option Addr} {cap : Nat} {l : List UInt8} (h : Row w a cap l) {g : Nat} (hg : w.heap.size ≤ g) {W : World} (hw : Below w.heap.size w W) (j : Nat) (u : Value) : Row (W.setCell ⟨g, j, Option.none⟩ u) a cap l :=
  h.later (hw.setCell (by simpa using hg) u)
/-- A block that a constant's bytes were laid into. -/
theorem row_mark (w : World) (l : List UInt8) (fr : Nat × Nat) (h : l.length ≤ 1000000) : Row (w.alloc (.cells (l.map B8).toArray 5 fr)) (some ⟨w.heap.size, 0, .none⟩) l.length l := by
  refine ⟨by omega, by unfold maxLen; omega, fun e => (by cases e), fun x hx i u hu => ?_⟩
  cases hx
  have e : (⟨w.heap.size, 0, .none⟩ : Addr).add i = ⟨w.heap.size, i, .none⟩ := by unfold Addr.add; split <;> simp_all
  rw [e, World.cell?_alloc_mark]
  simp [hu]
theorem Own.row_n {W0 w : World} {v : Value} {l : List UInt8} {n : Nat} (h : Own W0 w v l) (hn : l.length = n) : ∃ a cap, v = .slice a n cap ∧ Row w a cap l := by subst hn; exact h.row
end Go.Proofs.Ytbpddcmehjgleaa
