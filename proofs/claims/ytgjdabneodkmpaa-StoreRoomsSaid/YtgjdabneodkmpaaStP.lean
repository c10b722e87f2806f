/- What a Fall leaves of one object: 'kept', 'torn', 'left'. -/
import Derived.Test.YtgjdabneodkmpaaStDo
import Derived.Laws.Rows
namespace Go.Proofs.Ytgjdabneodkmpaa
open Go.RowKit
set_option linter.unusedVariables false

theorem kept_any (w : World) (r : Nat → Role) (k : K4) (x : Nat) (dp : Option Nat) (dv : Value) (p : Past) (h : PaAt w r k x dp dv p) (n : Int) :
    Calls Try.prog 41 #[.pointer (some ⟨x, 0, .none⟩), .int .i64 n] w fun e w' => e = .returned (.int .i64 (heldI n 0 p.deeds.length)) ∧ w = w' := by
  obtain ⟨a, cap, hcap⟩ : ∃ a cap, dv = .slice a p.deeds.length cap := by
    obtain ⟨vs, _, ho, _⟩ := h.row
    rcases ho.2 with ⟨hv, hn⟩ | ⟨g, cap, cur, hv, _⟩
    · exact ⟨.none, 0, by rw [hv, hn]⟩
    · exact ⟨_, cap, hv⟩
  subst hcap
  have c1 : w.cell? ⟨x, 1, .none⟩ = some (.slice a p.deeds.length cap) := cell_of_block h.heap rfl
  obtain ⟨R, hR⟩ : ∃ R, heldI n 0 p.deeds.length = R := ⟨_, rfl⟩
  have HH := Lib.hid (held_any n 0 p.deeds.length w)
  rw [hR] at HH ⊢
  clear h
  go_enter Try.func41, Try.ntmps41
  go_wp2_with fail
  refine HH.out.mono ?_
  rintro e w' ⟨rfl, rfl⟩
  clear HH
  go_wp2_with fail
  go_ret
  exact ⟨rfl, rfl⟩

def tornD (d : Deed) (t : Int) : Deed := { d with data := d.data.take (heldI t 0 (max ((d.data.length : Int) - 1) 0)).toNat }
def jT (w0 w1 : World) (d : Deed) (sl : Value) : Nat → World → Prop
  | 0, w => Below w1.heap.size w1 w
  | _, w => DeedAt w w0.heap.size d sl ∧ Below w0.heap.size w0 w ∧ w.heap[w0.heap.size + 1]? = w1.heap[w0.heap.size + 1]?
theorem jT_st {w0 w1 : World} {d : Deed} {sl : Value} (hW : w1.heap.size = w0.heap.size + 2) (ph : Nat) {w w' : World} (h : jT w0 w1 d sl ph w) (hb : Below w.heap.size w w') : jT w0 w1 d sl ph w' := by
  match ph, h with
  | 0, h => exact Below.trans h (hb.mono h.size)
  | n + 1, h =>
    obtain ⟨h1, h2, h3⟩ := h
    refine ⟨h1.later hb, h2.trans (hb.mono h2.size), ?_⟩
    by_cases hlt : w0.heap.size + 1 < w.heap.size
    · rw [hb.block _ hlt]; exact h3
    · exfalso
      have e1 : w.heap[w0.heap.size + 1]? = .none := Array.getElem?_eq_none (by omega)
      rw [e1] at h3
      have e2 := Array.getElem?_eq_getElem (xs := w1.heap) (i := w0.heap.size + 1) (by omega)
      rw [e2] at h3
      cases h3
theorem jT_store {w0 w1 w : World} {d : Deed} {dv sl : Value} {n : Nat} (hW : w1.heap.size = w0.heap.size + 2) (hb : Below w1.heap.size w1 w) (hd : DeedAt w w0.heap.size d dv) (h01 : Below w0.heap.size w0 w1) : jT w0 w1 d sl (n + 1) (w.setCell ⟨w0.heap.size, 3, .none⟩ sl) := by
  refine ⟨?_, ?_, ?_⟩
  · have := heap_setCell_same w w0.heap.size 3 _ _ sl hd
    simpa [DeedAt] using this
  · exact (h01.trans (hb.mono h01.size)).setCell (p := ⟨w0.heap.size, 3, .none⟩) (Nat.le_refl _) sl
  · rw [RowKit.Below.heap_setCell _ _ _ _ (by simp)]
    exact hb.block _ (by omega)

set_option maxRecDepth 20000 in
theorem torn_any (w : World) (r : Nat → Role) (hdom : Dom w r) (d : Deed) (dv : Value) (hs : Shr w r dv d.data) (t : Int) (hl : d.data.length ≤ 100000) :
    Calls Try.prog 67 #[deedV d dv, .int .i64 t] w fun e w' => ∃ dv', e = .returned (deedV (tornD d t) dv') ∧ Shr w' r dv' (tornD d t).data ∧ Below w.heap.size w w' := by
  obtain ⟨ad, cap, rfl, hr, hj⟩ := hs
  obtain ⟨n, hn⟩ : ∃ n, d.data.length = n := ⟨_, rfl⟩
  obtain ⟨mx, hmx⟩ : ∃ mx, max ((n : Int) - 1) 0 = mx := ⟨_, rfl⟩
  obtain ⟨q, hq⟩ : ∃ q, (heldI t 0 mx).toNat = q := ⟨_, rfl⟩
  have hq0 : heldI t 0 mx = q := by
    have : 0 ≤ heldI t 0 mx := by unfold heldI; omega
    omega
  have hqn : q ≤ n := by unfold heldI at hq0; omega
  have htd : (tornD d t).data = d.data.take q := by unfold tornD; simp only [hn, hmx, hq]
  have hcm : ((if (n : Int) - 1 < 0 then 0 else (n : Int) - 1) : Int) = mx := by rw [← hmx]; split <;> omega
  obtain ⟨sl, hsl⟩ : ∃ sl, Value.slice ad q cap = sl := ⟨_, rfl⟩
  have HDM := Lib.hid hdom
  unfold deedV
  rw [hn]
  go_enter Try.func67, Try.ntmps67
  go_wp2_with fail
  obtain ⟨wa, hwa⟩ : ∃ wa, w.alloc (.cells #[Value.int IntKind.i64 d.kind, Value.int IntKind.i64 d.at_, Value.string { data := d.name.toArray }, Value.slice ad n cap] 69) = wa := ⟨_, rfl⟩
  rw [hwa]
  have hba : Below w.heap.size w wa := by rw [← hwa]; exact (Below.refl _ _).alloc (Nat.le_refl _) _
  have hsa : wa.heap.size = w.heap.size + 1 := by rw [← hwa]; simp
  have hda : DeedAt wa w.heap.size d (.slice ad n cap) := by rw [← hwa]; exact (MapKept.heap_alloc w _).1
  obtain ⟨wB, hw1⟩ : ∃ wB, wa.alloc (.cells #[Value.int IntKind.i64 0, Value.int IntKind.i64 0, Value.string { data := #[] }, Value.slice none 0 0] 69) = wB := ⟨_, rfl⟩
  rw [hw1]
  have hb1 : Below wa.heap.size wa wB := by rw [← hw1]; exact (Below.refl _ _).alloc (Nat.le_refl _) _
  have HZ := Lib.hid (show wB.heap[w.heap.size + 1]? = some (.cells #[Value.int IntKind.i64 0, Value.int IntKind.i64 0, Value.string { data := #[] }, Value.slice none 0 0] 69) by rw [← hsa, ← hw1]; exact (MapKept.heap_alloc wa _).1)
  have HW := Lib.hid (show wB.heap.size = w.heap.size + 2 by rw [← hw1]; simp [hsa])
  have HD := Lib.hid (hda.later hb1)
  have HRS := Lib.hid (hba.trans (hb1.mono hba.size))
  have HMX := Lib.hid hcm
  have HQ := Lib.hid hq0
  have HSH : Hid (∃ aa nn cc, sl = .slice aa nn cc) := Lib.hid ⟨_, _, _, hsl.symm⟩
  have HSR : Hid (Shr w r sl (d.data.take q)) := Lib.hid ⟨ad, cap, by rw [← hsl]; simp [hn, Nat.min_eq_left hqn], hr.take q, hj⟩
  have HSL : Hid (∀ W, (Instr.slice 31 (.slice ad n cap) none (some (.int .i64 q)) none).run Try.prog W = .ok sl W) := by
    refine Lib.hid fun W => ?_
    have hc : n ≤ cap := by rw [← hn]; exact hr.1
    have h1 : q ≤ cap := by omega
    cases ad with
    | none =>
      obtain ⟨h2, h3⟩ := hr.of_nil
      have hn0 : n = 0 := by rw [← hn, h2]; rfl
      have hq0 : q = 0 := by omega
      subst hq0 h3
      rw [← hsl]
      simp [Instr.slice, Instr.sliceBounds, Instr.sliceBound, asIntOf, run_underlying Try.underlying31, Result.andThen]
    | some x =>
      rw [← hsl]
      simp [Instr.slice, Instr.sliceBounds, Instr.sliceBound, asIntOf, run_underlying Try.underlying31, Result.andThen, h1]
      intro _
      cases x
      unfold Addr.add
      split <;> simp_all
  have HTD := Lib.hid htd
  have HT : Hid (tornD d t = { d with data := d.data.take q }) := Lib.hid (by have := HTD.out; unfold tornD at this ⊢; simp only at this; rw [this])
  have HN0 : Hid (n ≤ 100000) := Lib.hid (by omega)
  clear hdom hr hj hmx hq hq0 hqn htd hcm hsl hba hsa hda hb1 hw1 hwa hn hl
  have hn1 : n ≤ 100000 := HN0.out
-- REG T1
  refine wp_region_ptab (L := fun ph => match ph with | 0 => [cV (.pointer (some ⟨w.heap.size, 3, .none⟩)), cV (.slice ad n cap), cV (.int .i64 t), cV (.pointer (some ⟨w.heap.size, 3, .none⟩)), cV (.slice ad n cap), cV (.int .i64 n), cV (.int .i64 ((n : Int) - 1)), cV (.int .i64 mx), cV (.int .i64 q), cV (sl), cV (.pointer (some ⟨w.heap.size, 3, .none⟩)), tV] | _ => [cV (.pointer (some ⟨w.heap.size, 3, .none⟩)), cV (.slice ad n cap), cV (.int .i64 t), cV (.pointer (some ⟨w.heap.size, 3, .none⟩)), cV (.slice ad n cap), cV (.int .i64 n), cV (.int .i64 ((n : Int) - 1)), cV (.int .i64 mx), cV (.int .i64 q), cV (sl), cV (.pointer (some ⟨w.heap.size, 3, .none⟩)), tV]) (jT w wB d sl) [11] [(0, 0), (0, 0), (0, 0), (0, 0), (0, 0), (0, 0), (0, 0), (0, 0), (0, 0), (0, 0), (0, 0), (0, 1)] [[(2, none)], [(5, some 0)], [(1, none)], [(2, none)], [(8, some 3)], [(9, some 4)], [(10, some 5)], [(11, some 6)], [(7, some 2), (12, some 7)], [(6, some 1), (13, some 8)], [(2, none)], [(15, some 10), (14, some 9)]] 12 1 17 (by kernel_rfl) rfl rfl rfl (by kernel_rfl) (by kernel_rfl) (by decide) (by kernel_rfl) ?_ ?_ ?_ ?_ ?_
  · exact fun ph w2 w3 h hb => jT_st HW.out ph h hb
  · exact Below.refl _ _
  · show ∀ i, i < 12 → _
    iterate 12 (refine fls ?_ ?_)
    · exact fl0
    · intro hne lo hi ph hran hp1 hp2 a w1 hJ hsz hs      -- 0: slot 5
      obtain ⟨rfl, rfl⟩ : 0 = lo ∧ 0 = hi := Prod.mk.inj (Option.some.inj hran)
      obtain rfl : ph = 0 := by omega
      obtain ⟨h0, _⟩ := hs
      have h0 : a.tmps.getD 2 undef = .pointer (some ⟨w.heap.size, 0, .none⟩) := h0
      refine op_run rfl rfl (v := .pointer (some ⟨w.heap.size, 3, .none⟩)) (w' := w1) ?_ rfl (Below.refl _ _)
      simp [execOp, Act.eval, h0, go_sem]
    · intro hne lo hi ph hran hp1 hp2 a w1 hJ hsz hs      -- 1: slot 6
      obtain ⟨rfl, rfl⟩ : 0 = lo ∧ 0 = hi := Prod.mk.inj (Option.some.inj hran)
      obtain rfl : ph = 0 := by omega
      obtain ⟨h0, _⟩ := hs
      have h0 : a.tmps.getD 5 undef = .pointer (some ⟨w.heap.size, 3, .none⟩) := h0
      obtain ⟨_, _, _, c⟩ := DeedAt.cells (HD.out.later hJ)
      refine op_run rfl rfl (v := .slice ad n cap) (w' := w1) ?_ rfl (Below.refl _ _)
      simp [execOp, Act.eval, h0, c, go_sem]
    · intro hne lo hi ph hran hp1 hp2 a w1 hJ hsz hs      -- 2: slot 7
      obtain ⟨rfl, rfl⟩ : 0 = lo ∧ 0 = hi := Prod.mk.inj (Option.some.inj hran)
      obtain rfl : ph = 0 := by omega
      obtain ⟨h0, _⟩ := hs
      have h0 : a.tmps.getD 1 undef = .int .i64 t := h0
      refine op_run rfl rfl (v := .int .i64 t) (w' := w1) ?_ rfl (Below.refl _ _)
      simp [execOp, Act.eval, h0, go_sem]
    · intro hne lo hi ph hran hp1 hp2 a w1 hJ hsz hs      -- 3: slot 8
      obtain ⟨rfl, rfl⟩ : 0 = lo ∧ 0 = hi := Prod.mk.inj (Option.some.inj hran)
      obtain rfl : ph = 0 := by omega
      obtain ⟨h0, _⟩ := hs
      have h0 : a.tmps.getD 2 undef = .pointer (some ⟨w.heap.size, 0, .none⟩) := h0
      refine op_run rfl rfl (v := .pointer (some ⟨w.heap.size, 3, .none⟩)) (w' := w1) ?_ rfl (Below.refl _ _)
      simp [execOp, Act.eval, h0, go_sem]
    · intro hne lo hi ph hran hp1 hp2 a w1 hJ hsz hs      -- 4: slot 9
      obtain ⟨rfl, rfl⟩ : 0 = lo ∧ 0 = hi := Prod.mk.inj (Option.some.inj hran)
      obtain rfl : ph = 0 := by omega
      obtain ⟨h0, _⟩ := hs
      have h0 : a.tmps.getD 8 undef = .pointer (some ⟨w.heap.size, 3, .none⟩) := h0
      obtain ⟨_, _, _, c⟩ := DeedAt.cells (HD.out.later hJ)
      refine op_run rfl rfl (v := .slice ad n cap) (w' := w1) ?_ rfl (Below.refl _ _)
      simp [execOp, Act.eval, h0, c, go_sem]
    · intro hne lo hi ph hran hp1 hp2 a w1 hJ hsz hs      -- 5: slot 10
      obtain ⟨rfl, rfl⟩ : 0 = lo ∧ 0 = hi := Prod.mk.inj (Option.some.inj hran)
      obtain rfl : ph = 0 := by omega
      obtain ⟨h0, _⟩ := hs
      have h0 : a.tmps.getD 9 undef = .slice ad n cap := h0
      refine op_run rfl rfl (v := .int .i64 n) (w' := w1) ?_ rfl (Below.refl _ _)
      simp [execOp, Act.eval, h0, go_sem]
    · intro hne lo hi ph hran hp1 hp2 a w1 hJ hsz hs      -- 6: slot 11
      obtain ⟨rfl, rfl⟩ : 0 = lo ∧ 0 = hi := Prod.mk.inj (Option.some.inj hran)
      obtain rfl : ph = 0 := by omega
      obtain ⟨h0, _⟩ := hs
      have h0 : a.tmps.getD 10 undef = .int .i64 n := h0
      have c : IntKind.i64.wrap ((n : Int) - 1) = (n : Int) - 1 := by rw [IntKind.wrap_i64]; omega
      refine op_run rfl rfl (v := .int .i64 ((n : Int) - 1)) (w' := w1) ?_ rfl (Below.refl _ _)
      simp [execOp, Act.eval, h0, c, go_sem]
    · intro hne lo hi ph hran hp1 hp2 a w1 hJ hsz hs      -- 7: slot 12
      obtain ⟨rfl, rfl⟩ : 0 = lo ∧ 0 = hi := Prod.mk.inj (Option.some.inj hran)
      obtain rfl : ph = 0 := by omega
      obtain ⟨h0, _⟩ := hs
      have h0 : a.tmps.getD 11 undef = .int .i64 ((n : Int) - 1) := h0
      have c := HMX.out
      refine op_run rfl rfl (v := .int .i64 mx) (w' := w1) ?_ rfl (Below.refl _ _)
      simp [execOp, Act.eval, h0, go_sem]
      omega
    · intro hne lo hi ph hran hp1 hp2 a w1 hJ hsz hs      -- 8: slot 13
      obtain ⟨rfl, rfl⟩ : 0 = lo ∧ 0 = hi := Prod.mk.inj (Option.some.inj hran)
      obtain rfl : ph = 0 := by omega
      obtain ⟨h0, h1, _⟩ := hs
      have h0 : a.tmps.getD 7 undef = .int .i64 t := h0
      have h1 : a.tmps.getD 12 undef = .int .i64 mx := h1
      refine op_call rfl rfl (f := 32) (args := #[.int .i64 t, .int .i64 0, .int .i64 mx]) (by simp [execOp, Act.eval, resolve, h0, h1, go_sem]) ?_
      exact (held_any t 0 mx _).mono (fun e w' ⟨h1, h2⟩ => ⟨_, h1, by rw [HQ.out]; rfl, h2 ▸ Below.refl _ _⟩)
    · intro hne lo hi ph hran hp1 hp2 a w1 hJ hsz hs      -- 9: slot 14
      obtain ⟨rfl, rfl⟩ : 0 = lo ∧ 0 = hi := Prod.mk.inj (Option.some.inj hran)
      obtain rfl : ph = 0 := by omega
      obtain ⟨h0, h1, _⟩ := hs
      have h0 : a.tmps.getD 6 undef = .slice ad n cap := h0
      have h1 : a.tmps.getD 13 undef = .int .i64 q := h1
      have c := HSL.out
      refine op_run rfl rfl (v := sl) (w' := w1) ?_ rfl (Below.refl _ _)
      simp [execOp, Act.eval, h0, h1, c, go_sem]
    · intro hne lo hi ph hran hp1 hp2 a w1 hJ hsz hs      -- 10: slot 15
      obtain ⟨rfl, rfl⟩ : 0 = lo ∧ 0 = hi := Prod.mk.inj (Option.some.inj hran)
      obtain rfl : ph = 0 := by omega
      obtain ⟨h0, _⟩ := hs
      have h0 : a.tmps.getD 2 undef = .pointer (some ⟨w.heap.size, 0, .none⟩) := h0
      refine op_run rfl rfl (v := .pointer (some ⟨w.heap.size, 3, .none⟩)) (w' := w1) ?_ rfl (Below.refl _ _)
      simp [execOp, Act.eval, h0, go_sem]
    · intro hne lo hi ph hran hp1 hp2 a w1 hJ hsz hs      -- 11: slot None
      exact absurd (by decide) hne
  · show ∀ ph, ph < 1 → _
    iterate 1 (refine fls ?_ ?_)
    · exact fl0
    · intro i hi a w1 hJ hsz hs      -- heavy 0: op 11 slot None
      obtain rfl : 11 = i := Option.some.inj hi
      obtain ⟨h0, h1, _⟩ := hs
      have h0 : a.tmps.getD 15 undef = .pointer (some ⟨w.heap.size, 3, .none⟩) := h0
      have h1 : a.tmps.getD 14 undef = sl := h1
      have hcalm : ∀ (wq1 wq2 : World) (kk : Nat) (v0 : Value), kk ≠ 11 → VL [cV (.pointer (some ⟨w.heap.size, 3, .none⟩)), cV (.slice ad n cap), cV (.int .i64 t), cV (.pointer (some ⟨w.heap.size, 3, .none⟩)), cV (.slice ad n cap), cV (.int .i64 n), cV (.int .i64 ((n : Int) - 1)), cV (.int .i64 mx), cV (.int .i64 q), cV (sl), cV (.pointer (some ⟨w.heap.size, 3, .none⟩)), tV] kk wq1 v0 → VL [cV (.pointer (some ⟨w.heap.size, 3, .none⟩)), cV (.slice ad n cap), cV (.int .i64 t), cV (.pointer (some ⟨w.heap.size, 3, .none⟩)), cV (.slice ad n cap), cV (.int .i64 n), cV (.int .i64 ((n : Int) - 1)), cV (.int .i64 mx), cV (.int .i64 q), cV (sl), cV (.pointer (some ⟨w.heap.size, 3, .none⟩)), tV] kk wq2 v0 := Calm.all (n := 0) ⟨.inl ⟨_, rfl, rfl⟩, .inl ⟨_, rfl, rfl⟩, .inl ⟨_, rfl, rfl⟩, .inl ⟨_, rfl, rfl⟩, .inl ⟨_, rfl, rfl⟩, .inl ⟨_, rfl, rfl⟩, .inl ⟨_, rfl, rfl⟩, .inl ⟨_, rfl, rfl⟩, .inl ⟨_, rfl, rfl⟩, .inl ⟨_, rfl, rfl⟩, .inl ⟨_, rfl, rfl⟩, .inr (.inr rfl), trivial⟩
      have hda := HD.out.later hJ
      have cc := (DeedAt.cells hda).2.2.2
      have cf : w1.frozen? ⟨w.heap.size, 3, .none⟩ = false := frozen_of_block hda 3
      refine hv_skip rfl rfl (w' := w1.setCell ⟨w.heap.size, 3, .none⟩ sl) ?_ trivial (jT_store HW.out hJ hda HRS.out) (hcalm _ _)
      obtain ⟨aa, nn, ca, hsl⟩ := HSH.out
      rw [hsl] at h1 ⊢
      simp [execOp, Act.eval, h0, h1, go_sem, cc, cf]
  · intro f w1 hJ hv
    try simp only [Exit.then]
    simp only [putAll, List.foldl_cons, List.foldl_nil, Option.getD_some, Act.put, List.setIfInBounds_toArray, List.set_cons_succ, List.set_cons_zero]
    clear hv
    obtain ⟨h1, h2, h3⟩ := hJ
    have HZ2 := Lib.hid (h3.trans HZ.out)
    have H1 := Lib.hid h1
    have H2 := Lib.hid h2
    obtain ⟨c0, c1, c2, c3⟩ := DeedAt.cells h1
    have z0 : w1.cell? ⟨w.heap.size + 1, 0, .none⟩ = some (.int .i64 0) := cell_of_block HZ2.out rfl
    have z1 : w1.cell? ⟨w.heap.size + 1, 1, .none⟩ = some (.int .i64 0) := cell_of_block HZ2.out rfl
    have z2 : w1.cell? ⟨w.heap.size + 1, 2, .none⟩ = some (.string { data := #[] }) := cell_of_block HZ2.out rfl
    have z3 : w1.cell? ⟨w.heap.size + 1, 3, .none⟩ = some (.slice none 0 0) := cell_of_block HZ2.out rfl
    have f0 : w1.frozen? ⟨w.heap.size + 1, 0, .none⟩ = false := frozen_of_block HZ2.out 0
    have f1 : w1.frozen? ⟨w.heap.size + 1, 1, .none⟩ = false := frozen_of_block HZ2.out 1
    have f2 : w1.frozen? ⟨w.heap.size + 1, 2, .none⟩ = false := frozen_of_block HZ2.out 2
    have f3 : w1.frozen? ⟨w.heap.size + 1, 3, .none⟩ = false := frozen_of_block HZ2.out 3
    clear h1 h2 h3
    obtain ⟨aa, nn, cc, hsl⟩ := HSH.out
    have HSR2 := Lib.hid (HSR.out.later H2.out)
    clear HSL
    subst hsl
    go_wp2_with fail
    have hp := heap_setCell_same _ _ 0 _ _ (.int .i64 d.kind) HZ2.out
    have hp := heap_setCell_same _ _ 1 _ _ (.int .i64 d.at_) hp
    have hp := heap_setCell_same _ _ 2 _ _ (.string { data := d.name.toArray }) hp
    have hp := heap_setCell_same _ _ 3 _ _ (.slice aa nn cc) hp
    try simp only [Exit.inBlock, Exit.then]
    refine bodyPost_ret (results_cell_row rfl _ _ _ _ _ _ _ rfl hp Try.underlying69 rfl rfl) rfl ?_
    have hbw := fun v => H2.out.trans ((((((Below.refl w.heap.size w1).setCell (p := ⟨w.heap.size + 1, 0, .none⟩) (by simp) (.int .i64 d.kind)).setCell (p := ⟨w.heap.size + 1, 1, .none⟩) (by simp) (.int .i64 d.at_)).setCell (p := ⟨w.heap.size + 1, 2, .none⟩) (by simp) (.string { data := d.name.toArray })).setCell (p := ⟨w.heap.size + 1, 3, .none⟩) (by simp) v))
    refine ⟨.slice aa nn cc, ?_, ?_, hbw _⟩
    · rw [HT.out]; rfl
    · rw [HTD.out]; exact HSR.out.later (hbw _)
-- END T1

end Go.Proofs.Ytgjdabneodkmpaa
