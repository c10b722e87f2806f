/- Chains: the tag of an entry, by the library's way backwards. -/
import Derived.Test.YtpeamfndanbhiaaChE
import Derived.RangeFuncNested
import Derived.RangeFuncBound
import Derived.RangeFuncCalls
import Derived.RangeFuncLeaves
import Derived.RangeFuncBox
import Derived.Shelf.Abstract
import Derived.Shelf.RegionOpen
import Derived.WalkKit
import Derived.OwnWalkIn
import Derived.TacticsInMore
import Derived.LoopNIn
import Derived.LoopIn
namespace Go.Proofs.Ytpeamfndanbhiaa
open Go.RowKit Go.Shelf Go.Proofs
attribute [local go_sem] Oper.semAt_some
set_option linter.unusedVariables false
set_option linter.unusedSimpArgs false

def upto {α : Type} (f : Nat → α) (k : Nat) : List α := (List.range k).map f
theorem upto_succ {α : Type} (f : Nat → α) (k : Nat) : upto f (k + 1) = upto f k ++ [f k] := by simp [upto, List.range_succ]
theorem upto_length {α : Type} (f : Nat → α) (k : Nat) : (upto f k).length = k := by simp [upto]
def noTg : Tg := ⟨0, 0, 0, 0⟩
/-- What comes as the k-th, from behind. -/
def bk (ts : List Tg) (k : Nat) : Nat × Tg := (ts.length - 1 - k, ts[ts.length - 1 - k]?.getD noTg)
theorem bk_at {ts : List Tg} {k m : Nat} {t : Tg} (h : m + 1 + k = ts.length) (ht : ts[m]? = some t) : bk ts k = (m, t) := by
  unfold bk
  rw [show ts.length - 1 - k = m by omega, ht]; rfl
def TagV (t : Tg) : Value := .agg #[.int .i64 t.id, .int .i64 t.owner, .int .i64 t.heir, .int .i64 t.at']

set_option maxRecDepth 100000 in
set_option maxHeartbeats 2000000 in
/-- The closure: from the last one to the first, for every body that keeps what lay below n₀. -/
theorem back1_in (F : Fence) (n : Nat) (hf : F.fn 49) (hro : F.round = none) (hn : 1 ≤ n) (l Bs n₀ : Nat) (ad : Option Addr) (len cap : Nat) (ts : List Tg) (J Jx : List (Nat × Tg) → World → Prop)
    (hY : ∀ pre x W, J pre W → pre.length < len → YieldAt F (n - 1) Try.prog l #[.int .i64 (x.1 : Int), TagV x.2] W fun e W' =>
      (e = .returned (.bool true) ∧ J (pre ++ [x]) W' ∧ Below n₀ W W') ∨ (e = .returned (.bool false) ∧ Jx (pre ++ [x]) W'))
    (W : World) (hBl : Bs < n₀) (hBs : W.cell? ⟨Bs, 0, none⟩ = some (.slice ad len cap)) (hr : TRow W ad cap ts) (hl : ts.length = len) (hn0 : ∀ x, ad = some x → ts ≠ [] → x.block < n₀) (h0 : J [] W) :
    CallsIn F n Try.prog 49 #[.func (.yield l) #[] #[], .pointer (some ⟨Bs, 0, none⟩)] W fun e W' => (∃ v, e = .returned v) ∧
      ((∃ ys, ys = upto (bk ts) len ∧ J ys W') ∨ (∃ pre, (∃ k, k ≤ len ∧ pre = upto (bk ts) k) ∧ Jx pre W')) := by
  have hlc : len ≤ 9223372036854775807 := by have := hr.1; have := hr.2.1; unfold maxLen at this; omega
  have HR := Lib.hid hr
  have HL := Lib.hid hl
  clear hr hl
  refine callsIn_of_wp Try.func49 rfl hf ?_ hro
  simp only [Try.ntmps49, List.size_toArray, List.length_cons, List.length_nil, Nat.reduceAdd, Nat.reduceSub, Array.replicate_succ, Array.replicate_zero, List.push_toArray, List.append_toArray, List.nil_append, List.cons_append]
  gi_wp2
  gi_loopw [3] (fun i wr => ∃ k : Nat, k ≤ len ∧ ((k = len ∧ i = .int .i64 (-1)) ∨ (∃ m : Nat, m + 1 + k = len ∧ i = .int .i64 m)) ∧ J (upto (bk ts) k) wr ∧ Below n₀ W wr)
    (fun i _ => (intOf i + 1).toNat)
  case atStart =>
    refine ⟨0, Nat.zero_le _, ?_, h0, Below.refl _ _⟩
    by_cases h : len = 0
    · subst h; exact .inl ⟨rfl, rfl⟩
    · exact .inr ⟨len - 1, by omega, by congr 1; omega⟩
  case round =>
    obtain ⟨k, hk, hi, hJs, hnx⟩ := hrel
    rcases hi with ⟨rfl, rfl⟩ | ⟨m, hm, rfl⟩
    · gi_wp2
      go_end0
      exact ⟨⟨_, rfl⟩, .inl ⟨_, rfl, hJs⟩⟩
    · obtain ⟨t, ht⟩ : ∃ t, ts[m]? = some t := ⟨ts[m]'(by have := HL.out; omega), List.getElem?_eq_getElem _⟩
      obtain ⟨b0, o0, rfl, p0, p1, p2, p3⟩ := HR.out.at ht
      have hb0 : b0 < n₀ := hn0 _ rfl (fun e => by rw [e] at ht; simp at ht)
      have q0 := (hnx.cell (p := ⟨b0, o0 + m * 4, none⟩) hb0).trans p0
      have q1 := (hnx.cell (p := ⟨b0, o0 + m * 4 + 1, none⟩) hb0).trans p1
      have q2 := (hnx.cell (p := ⟨b0, o0 + m * 4 + 2, none⟩) hb0).trans p2
      have q3 := (hnx.cell (p := ⟨b0, o0 + m * 4 + 3, none⟩) hb0).trans p3
      have hbs := (hnx.cell (p := ⟨Bs, 0, none⟩) hBl).trans hBs
      have HT := Lib.hid (bk_at (by rw [HL.out]; exact hm) ht)
      clear p0 p1 p2 p3 ht
      have hlt : (m : Int) < (len : Int) := by omega
      obtain ⟨fn, tmps, assign, body, hy, hR⟩ := hY _ (m, t) wr hJs (by rw [upto_length]; omega)
      simp only [TagV] at hy
      gi_wp2
      refine hR.mono ?_
      rintro e W3 (⟨rfl, hJ3, hk3⟩ | ⟨rfl, hJx3⟩)
      · gi_wp2
        go_roundw
        case rel =>
          refine ⟨k + 1, by omega, ?_, by rw [upto_succ, HT.out]; exact hJ3, hnx.trans hk3⟩
          by_cases h : m = 0
          · subst h; exact .inl ⟨by omega, rfl⟩
          · exact .inr ⟨m - 1, by omega, by congr 1; omega⟩
        case measure => simp [intOf] <;> omega
      · gi_wp2
        refine bodyPost_ret (results_none rfl _ _ _) rfl ?_
        exact ⟨⟨_, rfl⟩, .inr ⟨_, ⟨k + 1, by omega, by rw [upto_succ, HT.out]⟩, hJx3⟩⟩
set_option maxHeartbeats 1000000 in
theorem back_in (F : Fence) (n : Nat) (hf : F.fn 40) (hro : F.round = none) (a : Option Addr) (len cap : Nat) (w : World) :
    CallsIn F n Try.prog 40 #[.slice a len cap] w fun e w' => e = .returned (.func (.func 49) #[] #[.pointer (some ⟨w.heap.size, 0, none⟩)]) ∧ w' = w.alloc (.cells #[.slice a len cap] 22) := by
  refine callsIn_of_wp Try.func40 rfl hf ?_ hro
  simp only [Try.ntmps40, List.size_toArray, List.length_cons, List.length_nil, Nat.reduceAdd, Nat.reduceSub, Array.replicate_succ, Array.replicate_zero, List.push_toArray, List.append_toArray, List.nil_append, List.cons_append]
  gi_wp2
  go_ret
  exact ⟨rfl, rfl⟩
theorem back_stops (F : Fence) (n : Nat) (hf : F.fn 49) (hro : F.round = none) (hn : 1 ≤ n) (Bs n₀ : Nat) (ad : Option Addr) (len cap : Nat) (ts : List Tg) (w : World) (hBs : Bs < w.heap.size) (hn₀ : n₀ ≤ w.heap.size) (hBn : Bs < n₀)
    (hc : w.cell? ⟨Bs, 0, none⟩ = some (.slice ad len cap)) (hr : TRow w ad cap ts) (hl : ts.length = len) (hn0 : ∀ x, ad = some x → ts ≠ [] → x.block < n₀) :
    SeqStopsK F n Try.prog 49 #[.pointer (some ⟨Bs, 0, none⟩)] (fun x : Nat × Tg => #[Value.int .i64 (x.1 : Int), TagV x.2]) (Below n₀) (fun ys => ys = upto (bk ts) len)
      (fun pre => ∃ k, k ≤ len ∧ pre = upto (bk ts) k) len w := fun l J Jx W hW _ _ hY h0 =>
  back1_in F n hf hro hn l Bs n₀ ad len cap ts J Jx hY W hBn ((hW.cell (p := ⟨Bs, 0, none⟩) hBs).trans hc) (hr.later hW) hl hn0 h0

/-! ### which tag -/
theorem ofC_last {ts : List Tg} {s : Int} {m : Nat} {t : Tg} (ht : ts[m]? = some t) (hlt : t.at' < s) (h : ∀ j u, m < j → ts[j]? = some u → ¬ u.at' < s) : ofC ts s = t.id := by
  have h1 : ofC ts s = ofC (ts.take (m + 1)) s := by
    unfold ofC
    conv => lhs; rw [← List.take_append_drop (m + 1) ts, List.foldl_append]
    refine foldl_skip _ _ _ fun u hu => ?_
    obtain ⟨i, hi⟩ := List.mem_iff_getElem?.1 hu
    rw [List.getElem?_drop] at hi
    have := h (m + 1 + i) u (by omega) hi
    omega
  rw [h1, of_snoc ht, if_pos hlt]
theorem ofC_none {ts : List Tg} {s : Int} (h : ∀ u ∈ ts, ¬ u.at' < s) : ofC ts s = 0 := foldl_skip ts s 0 fun t ht => by have := h t ht; omega
def OfI (w : World) (sv : Value) (s : Int) (pre : List (Nat × Tg)) (W : World) : Prop :=
  ((∀ p ∈ pre, ¬ p.2.at' < s) ∧ W.cell? ⟨w.heap.size, 0, none⟩ = some (.int .i64 s) ∧ W.cell? ⟨w.heap.size + 1, 0, none⟩ = some (.int .i64 0) ∧ W.frozen? ⟨w.heap.size + 1, 0, none⟩ = false ∧ W.cell? ⟨w.heap.size + 1 + 1, 0, none⟩ = some sv) ∧ Below w.heap.size w W
def OfX (w : World) (s : Int) (c : Code) (pre : List (Nat × Tg)) (W : World) : Prop :=
  (c = .ret ∧ ∃ ini last, pre = ini ++ [last] ∧ (∀ p ∈ ini, ¬ p.2.at' < s) ∧ last.2.at' < s ∧ W.cell? ⟨w.heap.size + 1, 0, none⟩ = some (.int .i64 last.2.id)) ∧ Below w.heap.size w W
set_option maxRecDepth 100000 in
set_option maxHeartbeats 4000000 in
theorem of_in (F : Fence) (n : Nat) (h4 : F.fn 20) (h6 : F.fn 40) (h8 : F.fn 49) (hro : F.round = none) (hn : 3 ≤ n)
    (a : Option Addr) (len cap : Nat) (ts : List Tg) (s : Int) (w : World) (hr : TRow w a cap ts) (hl : ts.length = len) (ha : ∀ x, a = some x → ts ≠ [] → x.block < w.heap.size) :
    CallsIn F n Try.prog 20 #[.slice a len cap, .int .i64 s] w fun e W' => e = .returned (.int .i64 (ofC ts s)) ∧ Below w.heap.size w W' := by
  have h1 : 1 ≤ n := by omega
  refine callsIn_of_wp_marks Try.func20 rfl h4 ?_ hro
  simp only [Try.ntmps20, List.size_toArray, List.length_cons, List.length_nil, Nat.reduceAdd, Nat.reduceSub, Array.replicate_succ, Array.replicate_zero, List.push_toArray, List.append_toArray, List.nil_append, List.cons_append]
  gi_wp2_with (gi_at_call 40; refine (back_in F (n - 1) h6 hro _ _ _ _).mono ?_; rintro e w' ⟨rfl, rfl⟩)
  have hA := Boxed.new w 3 (.int .i64 s)
  have hB := Boxed.new (w.alloc (.cells #[.int .i64 s] 3)) 3 (.int .i64 0)
  have hC := Boxed.new ((w.alloc (.cells #[.int .i64 s] 3)).alloc (.cells #[.int .i64 0] 3)) 22 (.slice a len cap)
  rw [World.size_alloc] at hB
  rw [World.size_alloc, World.size_alloc] at hC
  have hB0 : Below w.heap.size w (((w.alloc (.cells #[.int .i64 s] 3)).alloc (.cells #[.int .i64 0] 3)).alloc (.cells #[.slice a len cap] 22)) := (((Below.refl _ w).alloc (Nat.le_refl _) _).alloc (by simp) _).alloc (by simp; omega) _
  have hr2 := hr.later hB0
  refine wpIn_rangeFunc_ownH hro h1 (gf := 49) (lb := #[.pointer (some ⟨w.heap.size + 1 + 1, 0, none⟩)]) rfl h8 (enters_of Try.func49 (by kernel_rfl) rfl)
    (back_stops F (n - 1) h8 hro (by omega) (w.heap.size + 1 + 1) (w.heap.size + 1 + 1 + 1) a len cap ts _ (by simp) (by simp) (by omega) hC.cell hr2 hl (fun x hx hne => by have := ha x hx hne; omega)) belowK_t (belowK_b (by simp)) (Below.refl _ _) (fun _ => rfl)
    (OfI w (.slice a len cap) s) (OfX w s)
    (OwnFrom.and (Own.from (fun s' A B row hs hg hr => ⟨hs.1, cell_kept hs.2.1 hg hr, cell_kept hs.2.2.1 hg hr, (frozen_kept hs.2.2.1 hg hr).trans hs.2.2.2.1, cell_kept hs.2.2.2.2 hg hr⟩) _) (ownFrom_below (Nat.le_refl _) (by simp; omega)))
    (fun c => OwnFrom.and (Own.from (fun s' A B row hs hg hr => by obtain ⟨hc, ini, last, e1, e2, e3, e4⟩ := hs; exact ⟨hc, ini, last, e1, e2, e3, cell_kept e4 hg hr⟩) _) (ownFrom_below (Nat.le_refl _) (by simp; omega)))
    ⟨⟨by simp, ((hA.alloc _).alloc _).cell, (hB.alloc _).cell, (hB.alloc _).frozen, hC.cell⟩, hB0⟩
    (fun x a' W => ∃ Bx, w.heap.size + 1 < Bx ∧ (W.cell? ⟨Bx, 0, none⟩ = some (.int .i64 x.2.id) ∧ W.cell? ⟨Bx, 3, none⟩ = some (.int .i64 x.2.at')) ∧ a' = { tmps := #[.slice a len cap, .int .i64 s, undef, .pointer (some ⟨w.heap.size, 0, none⟩), .pointer (some ⟨w.heap.size + 1, 0, none⟩), undef, .pointer (some ⟨Bx, 0, none⟩), .slice a len cap, .func (.func 49) #[] #[.pointer (some ⟨w.heap.size + 1 + 1, 0, none⟩)], .int .i64 (x.1 : Int), TagV x.2, undef, undef, undef, undef, undef, undef], defers := [] })
    (fun x a' => Own.from (fun s' A B row hs hg hr => by obtain ⟨Bx, h1, ⟨c0, c3⟩, e⟩ := hs; exact ⟨Bx, h1, ⟨cell_kept c0 hg hr, cell_kept c3 hg hr⟩, e⟩) _) ?assign ?body ?done ?stop
  case assign =>
    rintro l pre x W K ⟨⟨hp, hcs, hcr, hfr, hcb⟩, hB⟩ hK
    have hlt3 := World.block_lt_of_cell? W _ hcb
    simp only at hlt3
    have hlt := World.block_lt_of_cell? W _ hcr
    simp only at hlt
    simp only [TagV]
    gi_wp2
    have hX := RecAt.new W #[.int .i64 x.2.id, .int .i64 x.2.owner, .int .i64 x.2.heir, .int .i64 x.2.at'] 43
    have hba : Below W.heap.size W (W.alloc (.cells #[.int .i64 x.2.id, .int .i64 x.2.owner, .int .i64 x.2.heir, .int .i64 x.2.at'] 43)) := (Below.refl _ _).alloc (Nat.le_refl _) _
    have hlt2 := World.block_lt_of_cell? W _ hcs
    simp only at hlt2
    refine hK _ _ ((KeepsOthers.alloc _ _).from _) ((Below.refl _ W).alloc (by omega) _) ⟨⟨(fun p h => by have := hp p h; omega), by rw [hba.cell hlt2]; exact hcs, by rw [hba.cell hlt]; exact hcr, by rw [hba.frozen hlt]; exact hfr, by rw [hba.cell hlt3]; exact hcb⟩, hB.alloc hB.size _⟩ ⟨W.heap.size, by omega, ⟨hX.cell rfl, hX.cell rfl⟩, rfl⟩
  case body =>
    rintro l pre x a' W hl ⟨r, hr'⟩ ⟨⟨hp, hcs, hcr, hfr, hcb⟩, hB⟩ ⟨Bx, hBx, ⟨c0, c3⟩, rfl⟩ hlt
    by_cases hx : x.2.at' < s
    · gi_wp2
      refine ⟨(KeepsOthers.setCell _ _ _).from _, ?_⟩
      exact ⟨⟨rfl, pre, x, rfl, (fun p h => by have := hp p h; omega), hx, World.cell?_setCell_same' _ _ _ (by rw [hcr]; rfl)⟩, hB.setCell (p := ⟨w.heap.size + 1, 0, none⟩) (by simp) _⟩
    · gi_wp2
      refine ⟨KeepsFrom.refl _ _, Below.refl _ _, ?_⟩
      exact ⟨⟨fun p hp' => (List.mem_append.1 hp').elim (fun h => by have := hp p h; omega) (fun e => by simp at e; subst e; omega), hcs, hcr, hfr, hcb⟩, hB⟩
  case done =>
    rintro D ys W hD rfl ⟨⟨hne, hcs, hcr, hfr, hcb⟩, hB⟩ hK
    have HF := Lib.hid (ofC_none (ts := ts) (s := s) fun u hu => by
      obtain ⟨i, hi⟩ := List.mem_iff_getElem?.1 hu
      have hi2 := (List.getElem?_eq_some_iff.1 hi).1
      have := hne (i, u) (by
        unfold upto; rw [List.mem_map]
        exact ⟨ts.length - 1 - i, by rw [List.mem_range]; omega, bk_at (by omega) hi⟩)
      exact this)
    clear hne
    gi_wp2
    have hK' := (KeepsOthers.setCell W ⟨w.heap.size + 1, 0, none⟩ (.int .i64 0)).same D _ hK rfl
    refine ⟨by simp, .inl ⟨_, _, rfl, run_takeDeferred hK', ?_⟩⟩
    have hc5 := cell_kept (World.cell?_setCell_same' W ⟨w.heap.size + 1, 0, none⟩ (.int .i64 0) (by rw [hcr]; rfl)) (grownBy_putObj' _ D (.deferred none)) (fun r e => by cases e; exact ⟨_, hK', rfl⟩)
    refine ⟨.int .i64 0, ?_, by rw [HF.out], (hB.setCell (p := ⟨w.heap.size + 1, 0, none⟩) (by simp) _).trans (belowK_b (w := w) (Nat.le_refl _) _ D _ _ (by simp at hD; omega) hK' rfl rfl)⟩
    simp [results, Try.f20, go_sem, hc5]
  case stop =>
    rintro D c pre W hD ⟨k, hk, rfl⟩ ⟨⟨rfl, ini, last, e1, e2, e3, hcr⟩, hB⟩ hK
    gi_wp2
    refine ⟨by simp, .inl ⟨_, _, rfl, run_takeDeferred hK, ?_⟩⟩
    have hc5 := cell_kept hcr (grownBy_putObj' _ D (.deferred none)) (fun r e => by cases e; exact ⟨_, hK, rfl⟩)
    obtain ⟨k', rfl⟩ : ∃ k', k = k' + 1 := by
      cases k with
      | zero => simp [upto] at e1
      | succ k' => exact ⟨k', rfl⟩
    rw [upto_succ] at e1
    obtain ⟨rfl, e5⟩ := List.append_inj' e1 rfl
    obtain ⟨m, hm⟩ : ∃ m, m + 1 + k' = ts.length := ⟨ts.length - 1 - k', by omega⟩
    obtain ⟨t, ht⟩ : ∃ t, ts[m]? = some t := ⟨ts[m]'(by omega), List.getElem?_eq_getElem _⟩
    rw [bk_at hm ht] at e5
    obtain rfl : (m, t) = last := by simpa using e5
    have HF := ofC_last ht e3 fun j u hj hu => by
      have hj2 := (List.getElem?_eq_some_iff.1 hu).1
      exact (by simpa using e2 (j, u) (by unfold upto; rw [List.mem_map]; exact ⟨ts.length - 1 - j, by rw [List.mem_range]; omega, bk_at (by omega) hu⟩))
    refine ⟨.int .i64 t.id, ?_, by rw [HF], hB.trans (belowK_b (w := w) (Nat.le_refl _) W D _ _ (by simp at hD; omega) hK rfl rfl)⟩
    simp [results, Try.f20, go_sem, hc5]
theorem of_row (a : Option Addr) (len cap : Nat) (ts : List Tg) (s : Int) (w : World) (hr : TRow w a cap ts) (hl : ts.length = len) :
    Calls Try.prog 20 #[.slice a len cap, .int .i64 s] w fun e W' => e = .returned (.int .i64 (ofC ts s)) ∧ Below w.heap.size w W' :=
  (callsIn_wide (n := 3)).1 (of_in _ 3 trivial trivial trivial rfl (by decide) a len cap ts s w hr hl fun x hx hne => by
    subst hx
    obtain ⟨t, ht⟩ : ∃ t, ts[0]? = some t := ⟨ts[0]'(List.length_pos_iff.2 hne), List.getElem?_eq_getElem _⟩
    obtain ⟨b, o, e, p0, _⟩ := hr.at ht
    cases e
    exact World.block_lt_of_cell? w _ p0)
theorem of_any (a : Option Addr) (len cap : Nat) (ts : List Tg) (s : Int) (w : World) (hr : TRow w a cap ts) (hl : ts.length = len) (ha : ∀ x, a = some x → x.block < w.heap.size) :
    Calls Try.prog 20 #[.slice a len cap, .int .i64 s] w fun e W' => e = .returned (.int .i64 (ofC ts s)) ∧ Below w.heap.size w W' := of_row a len cap ts s w hr hl
end Go.Proofs.Ytpeamfndanbhiaa
