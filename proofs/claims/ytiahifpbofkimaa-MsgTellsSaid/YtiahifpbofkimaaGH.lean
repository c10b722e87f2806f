/- Tags: rows of records of four numbers, read and one's own; rows of numbers that come in. | Chains: which tags may be, which chains. -/
import Derived.Test.YtiahifpbofkimaaGA
import Derived.Test.YtiahifpbofkimaaGD
import Derived.Test.YtiahifpbofkimaaRd
import Derived.Test.YtiahifpbofkimaaInts
import Derived.Test.YtiahifpbofkimaaPut
import Derived.Maps.AppendAt
import Derived.Laws.StructEq
import Derived.Deep.QuietTactic
namespace Go.Proofs.Ytiahifpbofkimaa
open Go.RowKit
set_option linter.unusedVariables false
set_option linter.unusedSimpArgs false

/-! ### one tag -/
/-- Numbers that a word holds. -/
def I64 (n : Int) : Prop := -9223372036854775808 ≤ n ∧ n ≤ 9223372036854775807
def Tg.B (t : Tg) : Prop := I64 t.id ∧ I64 t.owner ∧ I64 t.heir ∧ I64 t.at'
def tagV (t : Tg) : List Value := [.int .i64 t.id, .int .i64 t.owner, .int .i64 t.heir, .int .i64 t.at']
def TagE (cs : List Value) (t : Tg) : Prop := cs = tagV t ∧ t.B
set_option maxRecDepth 20000 in
theorem opens_tag {w : World} : Opens w 85 TagE :=
  Opens.fields Try.underlying85 (by kernel_rfl : Try.prog.cellsOf 85 = 4) fun cs hl hf => by
    obtain ⟨a, ha, wa⟩ := hf 0 _ rfl _ _ (Opens.int (k := .i64) Try.underlying3)
    obtain ⟨b, hb, wb⟩ := hf 1 _ rfl _ _ (Opens.int (k := .i64) Try.underlying3)
    obtain ⟨c, hc, wc⟩ := hf 2 _ rfl _ _ (Opens.int (k := .i64) Try.underlying3)
    obtain ⟨d, hd, wd⟩ := hf 3 _ rfl _ _ (Opens.int (k := .i64) Try.underlying3)
    refine ⟨⟨a, b, c, d⟩, ?_, wf_i64 wa, wf_i64 wb, wf_i64 wc, wf_i64 wd⟩
    match cs, hl with
    | [x, y, z, u], _ =>
      have h1 : Try.prog.cellsOf 3 = 1 := by kernel_rfl
      simp [h1] at ha hb hc hd
      simp [tagV, ha, hb, hc, hd]

/-! ### a row of tags that one reads -/
def TRow (w : World) (a : Option Addr) (cap : Nat) (ts : List Tg) : Prop :=
  ts.length ≤ cap ∧ cap ≤ maxLen ∧ (a = none → cap = 0) ∧ (∀ t ∈ ts, t.B) ∧ ∀ x, a = some x → ∀ (i : Nat) t, ts[i]? = some t → x.spot = .none ∧ w.cell? ⟨x.block, x.off + i * 4, .none⟩ = some (.int .i64 t.id) ∧ w.cell? ⟨x.block, x.off + i * 4 + 1, .none⟩ = some (.int .i64 t.owner) ∧
    w.cell? ⟨x.block, x.off + i * 4 + 2, .none⟩ = some (.int .i64 t.heir) ∧ w.cell? ⟨x.block, x.off + i * 4 + 3, .none⟩ = some (.int .i64 t.at')
theorem RowE.trow {w : World} {a : Option Addr} {cap : Nat} {ts : List Tg} (h : RowE w 4 TagE a cap ts) : TRow w a cap ts := by
  refine ⟨h.1, h.2.1, h.2.2.1, fun t ht => ?_, fun x hx i e he => ?_⟩
  · obtain ⟨i, hi⟩ := List.mem_iff_getElem?.1 ht
    cases ha : a with
    | none =>
      have := h.2.2.1 ha
      have := h.1
      have := (List.getElem?_eq_some_iff.1 hi).1
      omega
    | some x =>
      obtain ⟨cs, h1, h2, h3, h4⟩ := h.2.2.2 x ha i t hi
      exact h4
  · have hsp : x.spot = none := by
      have hi := (List.getElem?_eq_some_iff.1 he).1
      obtain ⟨cs, h1, h2, rfl, h4⟩ := h.2.2.2 x hx 0 ts[0] (List.getElem?_eq_getElem (by omega))
      have c0 := h2 0 (by omega)
      exact World.cell?_spot c0
    obtain ⟨cs, h1, h2, rfl, h4⟩ := h.2.2.2 x hx i e he
    have c0 := h2 0 (by omega)
    have c1 := h2 1 (by omega)
    have c2 := h2 2 (by omega)
    have c3 := h2 3 (by omega)
    rw [add_add hsp] at c0 c1 c2 c3
    exact ⟨hsp, c0, c1, c2, c3⟩
theorem TRow.later {w w' : World} {a : Option Addr} {cap : Nat} {ts : List Tg} (h : TRow w a cap ts) (hb : Below w.heap.size w w') : TRow w' a cap ts := by
  refine ⟨h.1, h.2.1, h.2.2.1, h.2.2.2.1, fun x hx i e he => ?_⟩
  obtain ⟨hs, c0, c1, c2, c3⟩ := h.2.2.2.2 x hx i e he
  exact ⟨hs, by rw [hb.cell (World.block_lt_of_cell? w _ c0)]; exact c0, by rw [hb.cell (World.block_lt_of_cell? w _ c1)]; exact c1, by rw [hb.cell (World.block_lt_of_cell? w _ c2)]; exact c2, by rw [hb.cell (World.block_lt_of_cell? w _ c3)]; exact c3⟩
theorem TRow.at {w : World} {a : Option Addr} {cap : Nat} {ts : List Tg} (h : TRow w a cap ts) {i : Nat} {t : Tg} (he : ts[i]? = some t) :
    ∃ b off, a = some ⟨b, off, .none⟩ ∧ w.cell? ⟨b, off + i * 4, .none⟩ = some (.int .i64 t.id) ∧ w.cell? ⟨b, off + i * 4 + 1, .none⟩ = some (.int .i64 t.owner) ∧
      w.cell? ⟨b, off + i * 4 + 2, .none⟩ = some (.int .i64 t.heir) ∧ w.cell? ⟨b, off + i * 4 + 3, .none⟩ = some (.int .i64 t.at') := by
  cases a with
  | none =>
    have := h.2.2.1 rfl
    have := h.1
    have := (List.getElem?_eq_some_iff.1 he).1
    omega
  | some x =>
    obtain ⟨hs, c0, c1, c2, c3⟩ := h.2.2.2.2 x rfl i t he
    obtain ⟨b, off, sp⟩ := x
    simp only at hs
    subst hs
    exact ⟨b, off, rfl, c0, c1, c2, c3⟩
theorem TRow.b {w : World} {a : Option Addr} {cap : Nat} {ts : List Tg} (h : TRow w a cap ts) {i : Nat} {t : Tg} (he : ts[i]? = some t) : t.B := h.2.2.2.1 t (List.mem_of_getElem? he)
theorem TRow.nil (w : World) : TRow w .none 0 [] := ⟨by simp, by simp [maxLen], fun _ => rfl, fun t h => (by cases h), fun x h => by cases h⟩
theorem TRow.take {w : World} {a : Option Addr} {cap : Nat} {ts : List Tg} (h : TRow w a cap ts) (k : Nat) : TRow w a cap (ts.take k) := by
  refine ⟨by have := h.1; simp; omega, h.2.1, h.2.2.1, fun t ht => h.2.2.2.1 t (List.mem_of_mem_take ht), fun x hx i e he => h.2.2.2.2 x hx i e ?_⟩
  rw [List.getElem?_take] at he
  split at he
  · exact he
  · cases he
theorem TRow.none_nil {w : World} {cap : Nat} {ts : List Tg} (h : TRow w none cap ts) : ts = [] ∧ cap = 0 := by
  have h1 := h.2.2.1 rfl
  exact ⟨List.length_eq_zero_iff.1 (by have := h.1; omega), h1⟩
/-- Its cells, one behind the other. -/
theorem TRow.flat {w : World} {x : Addr} {cap : Nat} {ts : List Tg} (h : TRow w (some x) cap ts) {j : Nat} {u : Value} (hj : (ts.flatMap tagV)[j]? = some u) : w.cell? (x.add j) = some u := by
  have key : ∀ (l : List Tg) (o : Nat), (∀ (i : Nat) t, l[i]? = some t → ∀ k v, (tagV t)[k]? = some v → w.cell? ⟨x.block, x.off + (o + i * 4) + k, .none⟩ = some v) → ∀ j u, (l.flatMap tagV)[j]? = some u → w.cell? ⟨x.block, x.off + (o + j), .none⟩ = some u := by
    intro l
    induction l with
    | nil => intro o _ j u hu; simp at hu
    | cons t l ih =>
      intro o hc j u hu
      rw [List.flatMap_cons] at hu
      by_cases hlt : j < 4
      · rw [List.getElem?_append_left (by simpa [tagV] using hlt)] at hu
        have := hc 0 t rfl j u hu
        rw [← this]; congr 2
        omega
      · rw [List.getElem?_append_right (by simp [tagV]; omega)] at hu
        have hl4 : (tagV t).length = 4 := rfl
        rw [hl4] at hu
        have := ih (o + 4) (fun i s hs k v hv => by
          have := hc (i + 1) s (by simpa using hs) k v hv
          rw [← this]; congr 2
          omega) (j - 4) u hu
        rw [← this]; congr 2
        omega
  have hne : ts ≠ [] := fun e => by rw [e] at hj; simp at hj
  have hsp : x.spot = none := by
    obtain ⟨t, ht⟩ : ∃ t, ts[0]? = some t := ⟨ts[0]'(List.length_pos_iff.2 hne), List.getElem?_eq_getElem _⟩
    exact (h.2.2.2.2 x rfl 0 t ht).1
  have := key ts 0 (fun i t ht k v hv => by
    obtain ⟨_, c0, c1, c2, c3⟩ := h.2.2.2.2 x rfl i t ht
    rw [Nat.zero_add]
    match k, hv with
    | 0, hv => simp [tagV] at hv; subst hv; exact c0
    | 1, hv => simp [tagV] at hv; subst hv; exact c1
    | 2, hv => simp [tagV] at hv; subst hv; exact c2
    | 3, hv => simp [tagV] at hv; subst hv; exact c3
    | k + 4, hv => simp [tagV] at hv) j u hj
  rw [Nat.zero_add] at this
  obtain ⟨b, off, sp⟩ := x
  simp only at hsp
  subst hsp
  have e : (⟨b, off, none⟩ : Addr).add j = ⟨b, off + j, none⟩ := by unfold Addr.add; split <;> simp_all
  rw [e]; exact this
theorem flat_len (ts : List Tg) : (ts.flatMap tagV).length = ts.length * 4 := by
  induction ts with
  | nil => rfl
  | cons t ts ih => rw [List.flatMap_cons, List.length_append, ih, List.length_cons]; simp [tagV]; omega
theorem flat_get {ts : List Tg} {i : Nat} {t : Tg} (h : ts[i]? = some t) : ∀ k, k < 4 → (ts.flatMap tagV)[i * 4 + k]? = (tagV t)[k]? := by
  induction ts generalizing i with
  | nil => simp at h
  | cons s ts ih =>
    intro k hk
    rw [List.flatMap_cons]
    cases i with
    | zero =>
      simp at h; subst h
      rw [List.getElem?_append_left (by simp [tagV]; omega)]
      simp
    | succ i =>
      rw [List.getElem?_append_right (by simp [tagV]; omega)]
      have hl4 : (tagV s).length = 4 := rfl
      rw [hl4, show (i + 1) * 4 + k - 4 = i * 4 + k by omega]
      exact ih (by simpa using h) k hk
theorem flat_one {ts : List Tg} : ∀ u ∈ ts.flatMap tagV, u.oneCell' = true := by
  intro u hu
  obtain ⟨t, _, h⟩ := List.mem_flatMap.1 hu
  simp only [tagV, List.mem_cons, List.not_mem_nil, or_false] at h
  rcases h with rfl | rfl | rfl | rfl <;> rfl

/-! ### a row of tags of one's own -/
def TOwn (W0 w : World) (v : Value) (ts : List Tg) : Prop := w.ownsRow W0.heap.size 85 4 v ts.length (ts.flatMap tagV) ∧ Below W0.heap.size W0 w ∧ ∀ t ∈ ts, t.B
theorem info_tag : (Try.prog.info? 85).map (fun i => (i.zero, i.size, i.bytes)) = some (some (.agg #[.int .i64 0, .int .i64 0, .int .i64 0, .int .i64 0]), 4, 32) := by kernel_rfl
theorem TOwn.nil (w : World) : TOwn w w (.slice .none 0 0) [] := ⟨World.ownsRow_nil _ _ _ _, Below.refl _ _, fun t h => by cases h⟩
theorem TOwn.below {W0 w : World} {v : Value} {ts : List Tg} (h : TOwn W0 w v ts) : Below W0.heap.size W0 w := h.2.1
theorem TOwn.later {W0 w w' : World} {v : Value} {ts : List Tg} (h : TOwn W0 w v ts) (hb : Below w.heap.size w w') : TOwn W0 w' v ts := ⟨ownsRow_later h.1 hb, h.2.1.trans (hb.mono h.2.1.size), h.2.2⟩
theorem TOwn.back {W0 W1 w : World} {v : Value} {ts : List Tg} (h : TOwn W1 w v ts) (hb : Below W0.heap.size W0 W1) : TOwn W0 w v ts := by
  refine ⟨⟨h.1.1, ?_⟩, hb.trans (h.2.1.mono hb.size), h.2.2⟩
  rcases h.1.2 with hv | ⟨g, cap, cur, hv, hb2, rest⟩
  · exact .inl hv
  · exact .inr ⟨g, cap, cur, hv, Nat.le_trans hb.size hb2, rest⟩
theorem TOwn.row {W0 w : World} {v : Value} {ts : List Tg} (h : TOwn W0 w v ts) : ∃ a cap, v = .slice a ts.length cap ∧ TRow w a cap ts := by
  rcases h.1.2 with ⟨hv, hn⟩ | ⟨g, cap, cur, hv, hb, hg, hn, hc, hs, ht⟩
  · have : ts = [] := List.length_eq_zero_iff.1 hn
    subst this
    exact ⟨.none, 0, hv, TRow.nil w⟩
  · refine ⟨_, cap, hv, hn, hc, fun e => (by cases e), h.2.2, fun x hx i t he => ?_⟩
    cases hx
    have hi := (List.getElem?_eq_some_iff.1 he).1
    have hr1 := h.1
    rw [hv] at hr1
    have c : ∀ k, k < 4 → w.cell? ⟨g, 0 + (i * 4 + k), none⟩ = (tagV t)[k]? := fun k hk => by
      rw [Nat.zero_add, hr1.cellAt (i * 4 + k) (by omega)]; exact flat_get he k hk
    exact ⟨rfl, c 0 (by omega), c 1 (by omega), c 2 (by omega), c 3 (by omega)⟩
theorem TOwn.row_n {W0 w : World} {v : Value} {ts : List Tg} {n : Nat} (h : TOwn W0 w v ts) (hn : ts.length = n) : ∃ a cap, v = .slice a n cap ∧ TRow w a cap ts := by subst hn; exact h.row
/-- A row of one tag, laid as a literal. -/
theorem TOwn.one {W0 w : World} {t : Tg} (hb : Below W0.heap.size W0 w) (h : t.B) : TOwn W0 (w.alloc (.cells #[.int .i64 t.id, .int .i64 t.owner, .int .i64 t.heir, .int .i64 t.at'] 85)) (.slice (some ⟨w.heap.size, 0, none⟩) 1 1) [t] :=
  ⟨⟨by simp [tagV], .inr ⟨w.heap.size, 1, _, rfl, hb.size, heap_alloc_new w _, Nat.le_refl _, by simp [maxLen], rfl, rfl⟩⟩, hb.alloc hb.size _, fun s hs => by simp at hs; subst hs; exact h⟩
theorem TOwn.empty {W0 w : World} (h : Below W0.heap.size W0 w) : TOwn W0 (w.alloc (.cells #[] 85)) (.slice (some ⟨w.heap.size, 0, none⟩) 0 0) [] :=
  ⟨World.ownsRow_made w #[] 0 h.size (by simp [maxLen]) rfl, h.alloc h.size _, fun t h => by cases h⟩
section
variable {ops : Array Oper} {rest : List Oper} {o : Oper} {a : Act} {Q : Exit → Act → World → Prop}
/-- 'append(s, t)', s the call's own: the tag lies in the block that the statement has just laid. -/
theorem wp_tag {w0 : World} (hgd : o.guard = none) (s x : Operand) (ho : o.op = .call { callee := .builtin .append, args := #[s, x], argTypes := #[22, 22] })
    (v : Value) (ts : List Tg) (hs : a.eval s = v) (W0 : World) (hown : TOwn W0 w0 v ts) (t : Tg) (ht : t.B) (hx : a.eval x = .slice (some ⟨w0.heap.size, 0, none⟩) 1 1) (hlen : ts.length + 1 ≤ 1000000)
    (h : ∀ v' w', TOwn W0 w' v' (ts ++ [t]) → (w0.alloc (.cells #[.int .i64 t.id, .int .i64 t.owner, .int .i64 t.heir, .int .i64 t.at'] 85)).grownBy w' v.ownBlock → wpList Try.prog ops Q rest (a.put o.dst v') w') :
    wpList Try.prog ops Q (o :: rest) a (w0.alloc (.cells #[.int .i64 t.id, .int .i64 t.owner, .int .i64 t.heir, .int .i64 t.at'] 85)) := by
  obtain ⟨i0, hi, hz0, hz1, hz2⟩ := info_parts info_tag
  have h1 := hown.later ((Below.refl _ _).alloc (Nat.le_refl _) (.cells #[.int .i64 t.id, .int .i64 t.owner, .int .i64 t.heir, .int .i64 t.at'] 85))
  have hrec := RecAt.new w0 #[.int .i64 t.id, .int .i64 t.owner, .int .i64 t.heir, .int .i64 t.at'] 85
  refine wpList_append_own_at _ hgd s x 22 ho W0.heap.size 85 i0 _ 4 32 Try.underlying22 hi hz0 hz1 hz2 rfl (by decide) v _ _ hs h1.1 ⟨w0.heap.size, 0, none⟩ 1 1 (tagV t) hx rfl ?_ ?_ (by unfold maxLen; omega) (by omega) h1.2.1.size ?_
  · intro j u hu
    have e0 : (⟨w0.heap.size, 0, none⟩ : Addr).add j = ⟨w0.heap.size, j, none⟩ := by unfold Addr.add; split <;> simp_all
    rw [e0]
    exact hrec.cell (by simpa [tagV] using hu)
  · intro u hu
    simp only [tagV, List.mem_cons, List.not_mem_nil, or_false] at hu
    rcases hu with rfl | rfl | rfl | rfl <;> rfl
  · intro v' w' ho' hg _ hat
    refine h v' w' ⟨by simpa using ho', h1.2.1.grown hg h1.2.1.size (fun k hk => (World.ownsRow.lt h1.1 k hk).1), fun s hs => ?_⟩ hg
    rcases List.mem_append.1 hs with hs | hs
    · exact h1.2.2 s hs
    · simp at hs; subst hs; exact ht
/-- 'append(s, l...)', s the call's own, l whatever reads as tags. -/
theorem wp_tags {w : World} (hgd : o.guard = none) (s x : Operand) (ho : o.op = .call { callee := .builtin .append, args := #[s, x], argTypes := #[22, 22] })
    (v : Value) (ts : List Tg) (hs : a.eval s = v) (W0 : World) (hown : TOwn W0 w v ts) (ad : Option Addr) (cap n : Nat) (us : List Tg) (hr : TRow w ad cap us) (hn : us.length = n) (hx : a.eval x = .slice ad n cap) (hlen : ts.length + us.length ≤ 4398046511104)
    (h : ∀ v' w', TOwn W0 w' v' (ts ++ us) → wpList Try.prog ops Q rest (a.put o.dst v') w') : wpList Try.prog ops Q (o :: rest) a w := by
  subst hn
  obtain ⟨i0, hi, hz0, hz1, hz2⟩ := info_parts info_tag
  cases ad with
  | none =>
    obtain ⟨rfl, rfl⟩ := hr.none_nil
    refine wpList_append_own_none hgd s x 22 ho W0.heap.size 85 i0 4 Try.underlying22 hi v _ _ hs hown.1 hx ?_
    exact h v w (by simpa using hown)
  | some y =>
    refine wpList_append_own_at w hgd s x 22 ho W0.heap.size 85 i0 _ 4 32 Try.underlying22 hi hz0 hz1 hz2 rfl (by decide) v _ _ hs hown.1 y us.length cap (us.flatMap tagV) hx (flat_len us) (fun j u hu => hr.flat hu) (fun u hu => flat_one u hu) (by unfold maxLen; omega) (by omega) hown.2.1.size ?_
    intro v' w' ho' hg _ hat
    refine h v' w' ⟨by simpa using ho', hown.2.1.grown hg hown.2.1.size (fun k hk => (World.ownsRow.lt hown.1 k hk).1), fun s hs => ?_⟩
    rcases List.mem_append.1 hs with hs | hs
    · exact hown.2.2 s hs
    · exact hr.2.2.2.1 s hs
end

/-! ### are two tags the same? -/
theorem tag_eq_iff (t u : Tg) : (t.id == u.id && (t.owner == u.owner && (t.heir == u.heir && t.at' == u.at'))) = decide (t = u) := by
  obtain ⟨a, b, c, d⟩ := t
  obtain ⟨e, f, g, h⟩ := u
  simp only [Tg.mk.injEq]
  by_cases h1 : a = e <;> by_cases h2 : b = f <;> by_cases h3 : c = g <;> by_cases h4 : d = h <;> simp [h1, h2, h3, h4]
theorem run_tag_in (w : World) (t u : Tg) : (Op.equalIn 10000 85 (.agg #[.int .i64 t.id, .int .i64 t.owner, .int .i64 t.heir, .int .i64 t.at']) (.agg #[.int .i64 u.id, .int .i64 u.owner, .int .i64 u.heir, .int .i64 u.at'])).run Try.prog w = .ok (decide (t = u)) w := by
  have u3 := Try.underlying3
  have a3 := Try.isAgg3
  have z3 := Try.sizeOf3
  have hS : Try.prog.underlying 85 = some (.struct (Try.prog.fieldsOf 85)) := by kernel_rfl
  have hp : Try.prog.stoodInHeld 85 = false := by kernel_rfl
  rw [show (10000 : Nat) = 9999 + 1 from rfl, run_equalIn_agg w 9999 85 _ _ hS hp, ← tag_eq_iff]
  simp only [Program.fieldsOf, Try.underlying85]
  go_simp
  by_cases h1 : t.id = u.id <;> by_cases h2 : t.owner = u.owner <;> by_cases h3 : t.heir = u.heir <;> by_cases h4 : t.at' = u.at' <;> simp [h1, h2, h3, h4]
theorem tag_eql (w : World) (t u : Tg) : (binOp .eql 85 (.agg #[.int .i64 t.id, .int .i64 t.owner, .int .i64 t.heir, .int .i64 t.at']) (.agg #[.int .i64 u.id, .int .i64 u.owner, .int .i64 u.heir, .int .i64 u.at'])).run Try.prog w = .ok (.bool (decide (t = u))) w := by
  rw [run_eql_struct, run_tag_in]; rfl
theorem tag_neq (w : World) (t u : Tg) : (binOp .neq 85 (.agg #[.int .i64 t.id, .int .i64 t.owner, .int .i64 t.heir, .int .i64 t.at']) (.agg #[.int .i64 u.id, .int .i64 u.owner, .int .i64 u.heir, .int .i64 u.at'])).run Try.prog w = .ok (.bool (!decide (t = u))) w := by
  rw [run_neq_struct, run_tag_in]; rfl
theorem tag_guard (w : World) (op : BinOp) (x y : Operand) (xs ys : Array Value) : (eqGuard op 85 x y (.agg xs) (.agg ys)).run Try.prog w = .ok () w := run_eqGuard_agg w op _ x y xs ys (by kernel_rfl)
end Go.Proofs.Ytiahifpbofkimaa
namespace Go.Proofs.Ytiahifpbofkimaa
open Go.RowKit Go.Proofs
set_option linter.unusedVariables false
set_option linter.unusedSimpArgs false

theorem btw_iff {n f l : Int} (hn : I64 n) (hf : 0 ≤ f) (hfl : f ≤ l) (hl : l ≤ 1099511627776) : decide (IntKind.u64.wrap (wrap64 (n - f)) ≤ IntKind.u64.wrap (wrap64 (l - f))) = (decide (f ≤ n) && decide (n ≤ l)) := by
  unfold I64 at hn
  rw [wrap_u64', wrap_u64', ← Bool.decide_and]
  unfold wrap64
  refine decide_eq_decide.2 ?_
  constructor
  · intro h; omega
  · intro h; omega
set_option maxHeartbeats 800000 in
theorem chbetween_any (n f l : Int) (w : World) (hn : I64 n) (hf : 0 ≤ f) (hfl : f ≤ l) (hl : l ≤ 1099511627776) :
    Calls Try.prog 89 #[.int .i64 n, .int .i64 f, .int .i64 l] w fun e w' => e = .returned (.bool (decide (f ≤ n) && decide (n ≤ l))) ∧ w = w' := by
  have H := Lib.hid (btw_iff hn hf hfl hl)
  clear hn hf hfl hl
  go_enter Try.func89, Try.ntmps89
  go_wp2
  go_ret
  exact ⟨ret_bool H.out, rfl⟩

noncomputable def okB (t : Tg) : Bool := open Classical in if t.Ok ∧ 0 ≤ t.at' then true else false
theorem okB_iff {t : Tg} : okB t = true ↔ (t.Ok ∧ 0 ≤ t.at') := by unfold okB; split <;> simp_all
theorem okB_no {t : Tg} (h : ¬ (t.Ok ∧ 0 ≤ t.at')) : okB t = false := by unfold okB; rw [if_neg h]

set_option maxRecDepth 20000 in
set_option maxHeartbeats 3200000 in
theorem rightTag_any (t : Tg) (w : World) (ht : t.B) :
    Calls Try.prog 77 #[.agg #[.int .i64 t.id, .int .i64 t.owner, .int .i64 t.heir, .int .i64 t.at']] w fun e w' => e = .returned (.bool (okB t)) ∧ Below w.heap.size w w' := by
  obtain ⟨i, o, h, a⟩ := t
  have hb : Below w.heap.size w (w.alloc (.cells #[.int .i64 i, .int .i64 o, .int .i64 h, .int .i64 a] 85)) := (Below.refl _ _).alloc (Nat.le_refl _) _
  have HB := Lib.hid hb
  have HE : Hid (okB ⟨i, o, h, a⟩ = ((decide (1 ≤ i) && decide (i ≤ 1073741824)) && (decide (0 ≤ a) && decide (a ≤ 1099511627776)) && (if o = 0 then decide (1 ≤ h) && decide (h ≤ 2) else (decide (1 ≤ o) && decide (o ≤ 2)) && decide (h = 0)))) := by
    refine Lib.hid ?_
    by_cases hh : (⟨i, o, h, a⟩ : Tg).Ok ∧ 0 ≤ (⟨i, o, h, a⟩ : Tg).at'
    · rw [okB_iff.2 hh]
      unfold Tg.Ok at hh
      simp only at hh
      split
      · simp; omega
      · simp; omega
    · rw [okB_no hh]
      unfold Tg.Ok at hh
      simp only at hh
      symm
      split
      · rw [← Bool.not_eq_true]; intro hx; simp at hx; omega
      · rw [← Bool.not_eq_true]; intro hx; simp at hx; omega
  have HI : Hid (I64 i ∧ I64 o ∧ I64 h ∧ I64 a) := Lib.hid ht
  clear ht hb
  obtain ⟨b1, h1⟩ : ∃ b, (decide (1 ≤ i) && decide (i ≤ 1073741824)) = b := ⟨_, rfl⟩
  obtain ⟨b2, h2⟩ : ∃ b, (decide (0 ≤ a) && decide (a ≤ 1099511627776)) = b := ⟨_, rfl⟩
  obtain ⟨b3, h3⟩ : ∃ b, (decide (1 ≤ h) && decide (h ≤ 2)) = b := ⟨_, rfl⟩
  obtain ⟨b4, h4⟩ : ∃ b, (decide (1 ≤ o) && decide (o ≤ 2)) = b := ⟨_, rfl⟩
  rw [h1, h2, h3, h4] at HE
  have E1 := Lib.hid h1
  have E2 := Lib.hid h2
  have E3 := Lib.hid h3
  have E4 := Lib.hid h4
  clear h1 h2 h3 h4
  cases b1 <;> cases b2 <;> cases b4 <;> by_cases ho : o = 0
  all_goals
    go_enter Try.func77, Try.ntmps77
    go_wp2_with (go_at_call 89; refine (chbetween_any _ _ _ _ (by first | exact HI.out.1 | exact HI.out.2.1 | exact HI.out.2.2.1 | exact HI.out.2.2.2) (by decide) (by decide) (by decide)).mono ?_; (first | rw [E1.out] | rw [E2.out] | rw [E3.out] | rw [E4.out]); rintro e w1 ⟨rfl, rfl⟩)
    go_ret
    refine ⟨ret_bool ?_, (Below.refl _ _).alloc (Nat.le_refl _) _⟩
    rw [HE.out]
    by_cases hh : h = 0 <;> simp [ho, hh]

/-! ### is an ID among them? -/
def hasId (ts : List Tg) (k : Int) : Bool := ts.any fun t => decide (t.id = k)
set_option maxHeartbeats 800000 in
theorem isID_any (t : Tg) (k : Int) (x : Nat) (w : World) (hc : w.cell? ⟨x, 0, none⟩ = some (.int .i64 k)) :
    Calls Try.prog 91 #[.agg #[.int .i64 t.id, .int .i64 t.owner, .int .i64 t.heir, .int .i64 t.at'], .pointer (some ⟨x, 0, none⟩)] w fun e w' => e = .returned (.bool (decide (t.id = k))) ∧ Below w.heap.size w w' := by
  obtain ⟨i, o, h, a⟩ := t
  have hx := World.block_lt_of_cell? w _ hc
  have hb : Below w.heap.size w (w.alloc (.cells #[.int .i64 i, .int .i64 o, .int .i64 h, .int .i64 a] 85)) := (Below.refl _ _).alloc (Nat.le_refl _) _
  have hc2 : (w.alloc (.cells #[.int .i64 i, .int .i64 o, .int .i64 h, .int .i64 a] 85)).cell? ⟨x, 0, none⟩ = some (.int .i64 k) := by rw [hb.cell hx]; exact hc
  have HB := Lib.hid hb
  clear hb
  go_enter Try.func91, Try.ntmps91
  go_wp2
  go_ret
  exact ⟨ret_bool rfl, HB.out⟩
/-- Where the first one is; -1: nowhere. -/
def idAt (ts : List Tg) (k : Int) : Int := if hasId ts k then (ts.findIdx fun t => decide (t.id = k) : Nat) else -1
set_option maxRecDepth 20000 in
set_option maxHeartbeats 3200000 in
theorem idxF_any (a : Option Addr) (n c : Nat) (ts : List Tg) (k : Int) (x : Nat) (w : World) (hr : TRow w a c ts) (hn : ts.length = n) (hn2 : n ≤ 1000000) (hc : w.cell? ⟨x, 0, none⟩ = some (.int .i64 k)) :
    Calls Try.prog 99 #[.slice a n c, .func (.func 91) #[] #[.pointer (some ⟨x, 0, none⟩)]] w fun e w' => (∃ z : Int, e = .returned (.int .i64 z) ∧ (decide (0 ≤ z) = hasId ts k)) ∧ Below w.heap.size w w' := by
  have HR := Lib.hid hr
  have HN := Lib.hid hn
  have HC := Lib.hid hc
  have hxl := World.block_lt_of_cell? w _ hc
  have hc1 := hr.1
  rw [hn] at hc1
  clear hr hn hc
  go_enter Try.func99, Try.ntmps99
  go_wp2_with fail
  go_loopw [5, 8] (fun _ i wr => ∃ j : Nat, i = .int .i64 j ∧ j ≤ n ∧ Below w.heap.size w wr ∧ Hid (∀ (m : Nat) t, m < j → ts[m]? = some t → t.id ≠ k)) (fun _ i _ => n - (intOf i).toNat)
  case atStart => exact ⟨0, rfl, by omega, Below.refl _ _, Lib.hid (fun m t h => by omega)⟩
  case round =>
    obtain ⟨j, rfl, hj, hb, HA⟩ := hrel
    have HB := Lib.hid hb
    clear hb
    by_cases hjn : (j : Int) < n
    · obtain ⟨t, ht⟩ : ∃ t, ts[j]? = some t := ⟨ts[j]'(by have := HN.out; omega), List.getElem?_eq_getElem _⟩
      obtain ⟨b1, o1, rfl, p0, p1, p2, p3⟩ := (HR.out.later HB.out).at ht
      have HT := Lib.hid ht
      have HK := Lib.hid (isID_any t k x wr (by rw [HB.out.cell hxl]; exact HC.out))
      clear ht
      by_cases hk : t.id = k
      · have HY : Hid (hasId ts k = true) := Lib.hid (by unfold hasId; rw [List.any_eq_true]; exact ⟨t, List.mem_of_getElem? HT.out, by simp [hk]⟩)
        have hd : decide (t.id = k) = true := by simp [hk]
        rw [hd] at HK
        clear hk hd
        go_wp2_with (go_at_call 91; refine HK.out.mono ?_; rintro e w1 ⟨rfl, hb1⟩)
        go_ret
        exact ⟨⟨_, rfl, by rw [HY.out]; simp⟩, HB.out.trans (hb1.mono HB.out.size)⟩
      · have HA2 : Hid (∀ (m : Nat) u, m < j + 1 → ts[m]? = some u → u.id ≠ k) := Lib.hid (fun m u hm hu => by
          by_cases e : m = j
          · subst e
            rw [HT.out] at hu
            cases hu
            exact hk
          · exact HA.out m u (by omega) hu)
        have hd : decide (t.id = k) = false := by simp [hk]
        rw [hd] at HK
        clear hk hd
        go_wp2_with (go_at_call 91; refine HK.out.mono ?_; rintro e w1 ⟨rfl, hb1⟩)
        go_roundw
        case rel => exact ⟨j + 1, by go_num, by omega, HB.out.trans (hb1.mono HB.out.size), HA2⟩
        case measure => simp [intOf]; omega
    · have : j = n := by omega
      subst this
      have HY : Hid (hasId ts k = false) := Lib.hid (by
        unfold hasId; rw [List.any_eq_false]; intro t ht
        obtain ⟨m, hm⟩ := List.mem_iff_getElem?.1 ht
        have := HA.out m t (by have := (List.getElem?_eq_some_iff.1 hm).1; have := HN.out; omega) hm
        simpa using this)
      go_wp2_with fail
      go_ret
      exact ⟨⟨_, rfl, by rw [HY.out]; rfl⟩, HB.out⟩
set_option maxHeartbeats 800000 in
theorem hasF_any (a : Option Addr) (n c : Nat) (ts : List Tg) (k : Int) (x : Nat) (w : World) (hr : TRow w a c ts) (hn : ts.length = n) (hn2 : n ≤ 1000000) (hc : w.cell? ⟨x, 0, none⟩ = some (.int .i64 k)) :
    Calls Try.prog 90 #[.slice a n c, .func (.func 91) #[] #[.pointer (some ⟨x, 0, none⟩)]] w fun e w' => e = .returned (.bool (hasId ts k)) ∧ Below w.heap.size w w' := by
  have HK := Lib.hid (idxF_any a n c ts k x w hr hn hn2 hc)
  clear hr hn hc
  go_enter Try.func90, Try.ntmps90
  go_wp2_with (go_at_call 99; refine HK.out.mono ?_; rintro e w1 ⟨⟨z, rfl, hz⟩, hb1⟩)
  go_ret
  exact ⟨rfl, hb1⟩
set_option maxHeartbeats 800000 in
theorem hasID_any (a : Option Addr) (n c : Nat) (ts : List Tg) (k : Int) (w : World) (hr : TRow w a c ts) (hn : ts.length = n) (hn2 : n ≤ 1000000) :
    Calls Try.prog 78 #[.slice a n c, .int .i64 k] w fun e w' => e = .returned (.bool (hasId ts k)) ∧ Below w.heap.size w w' := by
  have hmf : ∀ (fn : Fn) (first cap : Array Value) (w : World), (Instr.makeFunc fn first cap).run Try.prog w = .ok (.func fn first cap) w := fun _ _ _ _ => rfl
  have hb : Below w.heap.size w (w.alloc (.cells #[.int .i64 k] 3)) := (Below.refl _ _).alloc (Nat.le_refl _) _
  have HB := Lib.hid hb
  have HK := Lib.hid (hasF_any a n c ts k w.heap.size _ (hr.later hb) hn hn2 ((RecAt.new w #[.int .i64 k] 3).cell rfl))
  clear hr hn hb
  go_enter Try.func78, Try.ntmps78
  go_wp2_with (go_at_call 90; refine HK.out.mono ?_; rintro e w1 ⟨rfl, hb1⟩)
  go_ret
  exact ⟨rfl, HB.out.trans (hb1.mono HB.out.size)⟩
end Go.Proofs.Ytiahifpbofkimaa
