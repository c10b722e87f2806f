/- An attribute of an object is set. -/
import Derived.Test.YtgjdabneodkmpaaStAt
import Derived.Deep.DeepCutAuto
namespace Go.Proofs.Ytgjdabneodkmpaa
open Go.RowKit
set_option linter.unusedVariables false
set_option linter.unusedSimpArgs false

def obOf (p : Bool) (k : K4) (t : Role) : Prop := t = .ob p k
def jS (w0 : World) (r : Nat → Role) (p : Bool) (k : K4) (x : Nat) (bv av : Value) (Z : Int) : Nat → World → Prop
  | 0, w => Below w0.heap.size w0 w
  | _, w => w.heap[x]? = some (.cells #[bv, av, .int .i64 Z] 75) ∧ Fr w0 w r r (obOf p k)
theorem jS_st {w0 : World} {r : Nat → Role} {p : Bool} {k : K4} {x : Nat} {bv av : Value} {Z : Int} (ph : Nat) {w w' : World} (h : jS w0 r p k x bv av Z ph w) (hb : Below w.heap.size w w') : jS w0 r p k x bv av Z ph w' := by
  match ph, h with
  | 0, h => exact Below.trans h (hb.mono h.size)
  | n + 1, h => exact ⟨by rw [hb.block x (Array.getElem?_eq_some_iff.1 h.1).1]; exact h.1, h.2.later hb⟩
theorem jS_store {w w1 : World} {r : Nat → Role} {p : Bool} {k : K4} {x : Nat} {bv av : Value} {z Z : Int} {n : Nat} (h : w.heap[x]? = some (.cells #[bv, av, .int .i64 z] 75)) (hr : r x = .ob p k) (hb : Below w.heap.size w w1) :
    jS w r p k x bv av Z (n + 1) (w1.setCell ⟨x, 2, .none⟩ (.int .i64 Z)) := by
  have e : w1.heap[x]? = some (.cells #[bv, av, .int .i64 z] 75) := by rw [hb.block x (Array.getElem?_eq_some_iff.1 h).1]; exact h
  refine ⟨?_, (Fr.of_below hb r (obOf p k)).trans (Fr.of_set (by exact hr))⟩
  have := heap_setCell_same w1 x 2 _ _ (.int .i64 Z) e
  simpa using this
theorem ownBlock_ne {w : World} {v : Value} {l : List UInt8} (h : BRow w v l) {x : Nat} {cs : Array Value} (hx : w.heap[x]? = some (.cells cs 75)) : v.ownBlock ≠ some x := by
  intro e
  rcases h.2 with ⟨hv, _⟩ | ⟨g2, cap, cur, hv, _, hg2, _⟩
  · rw [hv] at e; cases e
  · rw [hv] at e; cases e
    rw [hx] at hg2; cases hg2
theorem ObAt.reset {w w1 w2 : World} {r r1 r2 : Nat → Role} {p : Bool} {k : K4} {x : Nat} {bv av av' : Value} {o : Ob} {f' : List UInt8 → List UInt8} {Z' : Int} (h : ObAt w r p k x bv av o) (h1 : Fr w w1 r r1 (obOf p k)) (hh : w1.heap[x]? = some (.cells #[bv, av', .int .i64 Z'] 75))
    (h2 : Fr w1 w2 r1 r2 (fun t => t = .at_ p k)) (hat : AttrAt w2 r2 p k av' f' Z') : ObAt w2 r2 p k x bv av' { o with attrs := f', named := Z' } :=
  have e1 : r1 x = .ob p k := by rw [h1.role x h.lt]; exact h.role
  have hb := h.row.fr h1 (fun g hg => by rw [h.rrow g hg]; unfold obOf; simp)
  have hr1 := h.row.role h1 h.rrow
  { role := by rw [h2.role x (Array.getElem?_eq_some_iff.1 hh).1]; exact e1
    heap := by rw [h2.block x (Array.getElem?_eq_some_iff.1 hh).1 (by rw [e1]; simp)]; exact hh
    row := hb.fr h2 (fun g hg => by rw [hr1 g hg]; simp)
    rrow := hb.role h2 hr1
    attrs := hat }
theorem AttrAt.made {w : World} {r : Nat → Role} (hd : Dom w r) (p : Bool) (k : K4) {f : List UInt8 → List UInt8} (hf : ∀ s, f s = []) : AttrAt (w.alloc (.map #[] 0)) (setRole r w.heap.size (.at_ p k)) p k (.map (some w.heap.size)) f 0 :=
  .inr ⟨_, 0, .map [], rfl, setRole_same _ _ _, World.ownsMap_made w _ _ _, fun s _ => ⟨.slice none 0 0, rfl, none, 0, by rw [hf s]; rfl, by rw [hf s]; exact Row.none _, fun x hx => by cases hx⟩, fun s => by rw [hf s]; rfl, AttrSum.none hf⟩
theorem mapIn_eql (w : World) (d : Nat) (b : Option Nat) : (Op.equalIn (d + 1) 73 (.map b) (.map none)).run Try.prog w = .ok b.isNone w := by
  have h := Try.underlying73
  cases b <;> simp [Op.equalIn, run_underlying h]
theorem map_equal (w : World) (b : Option Nat) : (Op.equal 73 (.map b) (.map none)).run Try.prog w = .ok b.isNone w := mapIn_eql w 9999 b
theorem map_eql (w : World) (b : Option Nat) : (binOp .eql 73 (.map b) (.map none)).run Try.prog w = .ok (.bool b.isNone) w := by
  simp [binOp, map_equal w b]
/-- What a set leaves. -/
def SetPost (w : World) (r : Nat → Role) (p : Bool) (k : K4) (x : Nat) (o : Ob) (e : Ending) (w' : World) : Prop :=
  e = .returned (.tuple #[]) ∧ ∃ r', Fr w w' r r' (ofOb p k) ∧ Dom w' r' ∧ ObX w' r' p k x o
set_option maxRecDepth 20000 in
set_option maxHeartbeats 3200000 in
theorem oset_any (w : World) (r : Nat → Role) (p : Bool) (k : K4) (x : Nat) (o : Ob) (h : ObX w r p k x o) (hdom : Dom w r) (hN : o.named ≤ 1099511627776) (nm : ByteArray) (hs : nm.size ≤ 100000) (ad : Option Addr) (n cp : Nat) (l : List UInt8) (hl : l.length = n) (hn : n ≤ 100000) (hv : Shr w r (.slice ad n cp) l) :
    Calls Try.prog 84 #[.pointer (some ⟨x, 0, .none⟩), .string nm, .slice ad n cp] w (SetPost w r p k x (o.set nm.data.toList l)) := by
  obtain ⟨bv, av, h⟩ := h
  obtain ⟨m0, hsum⟩ := h.attrs.sum
  have hle := hsum.le nm.data.toList
  have hnn := hsum.nn
  have hx : x < w.heap.size := h.lt
  have HGR := Lib.hid (fun W (hb : Below w.heap.size w W) => attrGrowth_any W r p k x o (ObX.fr (Z := fun _ => False) ⟨bv, av, h⟩ (Fr.of_below hb r (fun _ => False)) (fun _ _ h => h) (fun h => h)) nm hs ad n cp l hl hn (by have := hle.1; omega))
  obtain ⟨lb, fa, Z⟩ := o
  simp only at HGR hN hle hnn hsum
  obtain ⟨G, hG⟩ : ∃ G, growA fa nm.data.toList l = G := ⟨_, rfl⟩
  have hGb : -1099511627776 ≤ G ∧ G ≤ 1099511627776 := by
    rw [← hG]; unfold growA
    have h1 : 0 ≤ usedA nm.data.toList l ∧ usedA nm.data.toList l ≤ 200000 := by unfold usedA; rw [ba_len, hl]; split <;> omega
    have h2 : 0 ≤ usedA nm.data.toList (fa nm.data.toList) := by unfold usedA; split <;> omega
    have := hle.2
    omega
  rw [hG] at HGR
  have HGG := Lib.hid hG
  have HW : Hid (IntKind.i64.wrap (Z + G) = Z + G) := Lib.hid (by rw [IntKind.wrap_i64]; omega)
  have HH := Lib.hid h
  have HHP := Lib.hid h.heap
  have HRO := Lib.hid h.role
  have HD := Lib.hid hdom
  have HV := Lib.hid hv
  have HL := Lib.hid hl
  have c2 : w.cell? ⟨x, 2, .none⟩ = some (.int .i64 Z) := cell_of_block h.heap rfl
  have f2 : w.frozen? ⟨x, 2, .none⟩ = false := frozen_of_block h.heap 2
  clear h hdom hv hl hG hsum hle hnn
  go_enter Try.func84, Try.ntmps84
  go_wp2_with fail
  -- REG 0
  refine wp_region_ptab (L := fun ph => match ph with | 0 => [cV (.pointer (some ⟨x, 0, .none⟩)), cV (.pointer (some ⟨x, 0, .none⟩)), cV (.pointer (some ⟨x, 2, .none⟩)), cV (.int .i64 Z), cV (.pointer (some ⟨x, 0, .none⟩)), cV (.string nm), cV (.slice ad n cp), cV (.int .i64 G), cV (.int .i64 (Z + G)), cV (.pointer (some ⟨x, 0, .none⟩)), cV (.pointer (some ⟨x, 2, .none⟩)), tV] | _ => [cV (.pointer (some ⟨x, 0, .none⟩)), cV (.pointer (some ⟨x, 0, .none⟩)), cV (.pointer (some ⟨x, 2, .none⟩)), cV (.int .i64 Z), cV (.pointer (some ⟨x, 0, .none⟩)), cV (.string nm), cV (.slice ad n cp), cV (.int .i64 G), cV (.int .i64 (Z + G)), cV (.pointer (some ⟨x, 0, .none⟩)), cV (.pointer (some ⟨x, 2, .none⟩)), tV]) (jS w r p k x bv av (Z + G)) [11] [(0, 0), (0, 0), (0, 0), (0, 0), (0, 0), (0, 0), (0, 0), (0, 0), (0, 0), (0, 0), (0, 0), (0, 1)] [[(0, none)], [(6, some 0)], [(7, some 1)], [(8, some 2)], [(0, none)], [(1, none)], [(2, none)], [(10, some 4), (11, some 5), (12, some 6)], [(9, some 3), (13, some 7)], [(6, some 0)], [(15, some 9)], [(16, some 10), (14, some 8)]] 12 1 40 (by kernel_rfl) rfl rfl rfl (by kernel_rfl) (by kernel_rfl) (by decide) (by kernel_rfl) ?_ ?_ ?_ ?_ ?_
  · exact fun ph w1 w2 h hb => jS_st ph h hb
  · exact Below.refl _ _
  · show ∀ i, i < 12 → _
    iterate 12 (refine fls ?_ ?_)
    · exact fl0
    · intro hne lo hi ph hran hp1 hp2 a w1 hJ hsz hs      -- 0: slot 6
      obtain ⟨rfl, rfl⟩ : 0 = lo ∧ 0 = hi := Prod.mk.inj (Option.some.inj hran)
      obtain rfl : ph = 0 := by omega
      obtain ⟨h0, _⟩ := hs
      have h0 : a.tmps.getD 0 undef = .pointer (some ⟨x, 0, .none⟩) := h0
      refine op_run rfl rfl (v := .pointer (some ⟨x, 0, .none⟩)) (w' := w1) ?_ rfl (Below.refl _ _)
      simp [execOp, Act.eval, h0, go_sem]
    · intro hne lo hi ph hran hp1 hp2 a w1 hJ hsz hs      -- 1: slot 7
      obtain ⟨rfl, rfl⟩ : 0 = lo ∧ 0 = hi := Prod.mk.inj (Option.some.inj hran)
      obtain rfl : ph = 0 := by omega
      obtain ⟨h0, _⟩ := hs
      have h0 : a.tmps.getD 6 undef = .pointer (some ⟨x, 0, .none⟩) := h0
      refine op_run rfl rfl (v := .pointer (some ⟨x, 0, .none⟩)) (w' := w1) ?_ rfl (Below.refl _ _)
      simp [execOp, Act.eval, h0, go_sem]
    · intro hne lo hi ph hran hp1 hp2 a w1 hJ hsz hs      -- 2: slot 8
      obtain ⟨rfl, rfl⟩ : 0 = lo ∧ 0 = hi := Prod.mk.inj (Option.some.inj hran)
      obtain rfl : ph = 0 := by omega
      obtain ⟨h0, _⟩ := hs
      have h0 : a.tmps.getD 7 undef = .pointer (some ⟨x, 0, .none⟩) := h0
      refine op_run rfl rfl (v := .pointer (some ⟨x, 2, .none⟩)) (w' := w1) ?_ rfl (Below.refl _ _)
      simp [execOp, Act.eval, h0, go_sem]
    · intro hne lo hi ph hran hp1 hp2 a w1 hJ hsz hs      -- 3: slot 9
      obtain ⟨rfl, rfl⟩ : 0 = lo ∧ 0 = hi := Prod.mk.inj (Option.some.inj hran)
      obtain rfl : ph = 0 := by omega
      obtain ⟨h0, _⟩ := hs
      have h0 : a.tmps.getD 8 undef = .pointer (some ⟨x, 2, .none⟩) := h0
      have c := (Below.cell hJ (p := ⟨x, 2, .none⟩) hx).trans c2
      refine op_run rfl rfl (v := .int .i64 Z) (w' := w1) ?_ rfl (Below.refl _ _)
      simp [execOp, Act.eval, h0, c, go_sem]
    · intro hne lo hi ph hran hp1 hp2 a w1 hJ hsz hs      -- 4: slot 10
      obtain ⟨rfl, rfl⟩ : 0 = lo ∧ 0 = hi := Prod.mk.inj (Option.some.inj hran)
      obtain rfl : ph = 0 := by omega
      obtain ⟨h0, _⟩ := hs
      have h0 : a.tmps.getD 0 undef = .pointer (some ⟨x, 0, .none⟩) := h0
      refine op_run rfl rfl (v := .pointer (some ⟨x, 0, .none⟩)) (w' := w1) ?_ rfl (Below.refl _ _)
      simp [execOp, Act.eval, h0, go_sem]
    · intro hne lo hi ph hran hp1 hp2 a w1 hJ hsz hs      -- 5: slot 11
      obtain ⟨rfl, rfl⟩ : 0 = lo ∧ 0 = hi := Prod.mk.inj (Option.some.inj hran)
      obtain rfl : ph = 0 := by omega
      obtain ⟨h0, _⟩ := hs
      have h0 : a.tmps.getD 1 undef = .string nm := h0
      refine op_run rfl rfl (v := .string nm) (w' := w1) ?_ rfl (Below.refl _ _)
      simp [execOp, Act.eval, h0, go_sem]
    · intro hne lo hi ph hran hp1 hp2 a w1 hJ hsz hs      -- 6: slot 12
      obtain ⟨rfl, rfl⟩ : 0 = lo ∧ 0 = hi := Prod.mk.inj (Option.some.inj hran)
      obtain rfl : ph = 0 := by omega
      obtain ⟨h0, _⟩ := hs
      have h0 : a.tmps.getD 2 undef = .slice ad n cp := h0
      refine op_run rfl rfl (v := .slice ad n cp) (w' := w1) ?_ rfl (Below.refl _ _)
      simp [execOp, Act.eval, h0, go_sem]
    · intro hne lo hi ph hran hp1 hp2 a w1 hJ hsz hs      -- 7: slot 13
      obtain ⟨rfl, rfl⟩ : 0 = lo ∧ 0 = hi := Prod.mk.inj (Option.some.inj hran)
      obtain rfl : ph = 0 := by omega
      obtain ⟨h0, h1, h2, _⟩ := hs
      have h0 : a.tmps.getD 10 undef = .pointer (some ⟨x, 0, .none⟩) := h0
      have h1 : a.tmps.getD 11 undef = .string nm := h1
      have h2 : a.tmps.getD 12 undef = .slice ad n cp := h2
      refine op_call rfl rfl (f := 76) (args := #[.pointer (some ⟨x, 0, .none⟩), .string nm, .slice ad n cp]) (by simp [execOp, Act.eval, resolve, h0, h1, h2, go_sem]) ?_
      exact (HGR.out w1 hJ).mono fun e w' h => by
              obtain ⟨rfl, q, rfl⟩ := h
              exact ⟨_, rfl, rfl, below_drewN _ _⟩
    · intro hne lo hi ph hran hp1 hp2 a w1 hJ hsz hs      -- 8: slot 14
      obtain ⟨rfl, rfl⟩ : 0 = lo ∧ 0 = hi := Prod.mk.inj (Option.some.inj hran)
      obtain rfl : ph = 0 := by omega
      obtain ⟨h0, h1, _⟩ := hs
      have h0 : a.tmps.getD 9 undef = .int .i64 Z := h0
      have h1 : a.tmps.getD 13 undef = .int .i64 G := h1
      have c := HW.out
      refine op_run rfl rfl (v := .int .i64 (Z + G)) (w' := w1) ?_ rfl (Below.refl _ _)
      simp [execOp, Act.eval, h0, h1, c, go_sem]
    · intro hne lo hi ph hran hp1 hp2 a w1 hJ hsz hs      -- 9: slot 15
      obtain ⟨rfl, rfl⟩ : 0 = lo ∧ 0 = hi := Prod.mk.inj (Option.some.inj hran)
      obtain rfl : ph = 0 := by omega
      obtain ⟨h0, _⟩ := hs
      have h0 : a.tmps.getD 6 undef = .pointer (some ⟨x, 0, .none⟩) := h0
      refine op_run rfl rfl (v := .pointer (some ⟨x, 0, .none⟩)) (w' := w1) ?_ rfl (Below.refl _ _)
      simp [execOp, Act.eval, h0, go_sem]
    · intro hne lo hi ph hran hp1 hp2 a w1 hJ hsz hs      -- 10: slot 16
      obtain ⟨rfl, rfl⟩ : 0 = lo ∧ 0 = hi := Prod.mk.inj (Option.some.inj hran)
      obtain rfl : ph = 0 := by omega
      obtain ⟨h0, _⟩ := hs
      have h0 : a.tmps.getD 15 undef = .pointer (some ⟨x, 0, .none⟩) := h0
      refine op_run rfl rfl (v := .pointer (some ⟨x, 2, .none⟩)) (w' := w1) ?_ rfl (Below.refl _ _)
      simp [execOp, Act.eval, h0, go_sem]
    · intro hne lo hi ph hran hp1 hp2 a w1 hJ hsz hs      -- 11: slot None
      exact absurd (by decide) hne
  · show ∀ ph, ph < 1 → _
    iterate 1 (refine fls ?_ ?_)
    · exact fl0
    · intro i hi a w1 hJ hsz hs      -- heavy 0: op 11 slot None
      obtain rfl : 11 = i := Option.some.inj hi
      obtain ⟨h0, h1, _⟩ := hs
      have h0 : a.tmps.getD 16 undef = .pointer (some ⟨x, 2, .none⟩) := h0
      have g0 : a.tmps[16]?.getD undef = .pointer (some ⟨x, 2, .none⟩) := (Array.getD_eq_getD_getElem? ..).symm.trans h0
      have h1 : a.tmps.getD 14 undef = .int .i64 (Z + G) := h1
      have g1 : a.tmps[14]?.getD undef = .int .i64 (Z + G) := (Array.getD_eq_getD_getElem? ..).symm.trans h1
      have hcalm : ∀ (wq1 wq2 : World) (kk : Nat) (v0 : Value), kk ≠ 11 → VL [cV (.pointer (some ⟨x, 0, .none⟩)), cV (.pointer (some ⟨x, 0, .none⟩)), cV (.pointer (some ⟨x, 2, .none⟩)), cV (.int .i64 Z), cV (.pointer (some ⟨x, 0, .none⟩)), cV (.string nm), cV (.slice ad n cp), cV (.int .i64 G), cV (.int .i64 (Z + G)), cV (.pointer (some ⟨x, 0, .none⟩)), cV (.pointer (some ⟨x, 2, .none⟩)), tV] kk wq1 v0 → VL [cV (.pointer (some ⟨x, 0, .none⟩)), cV (.pointer (some ⟨x, 0, .none⟩)), cV (.pointer (some ⟨x, 2, .none⟩)), cV (.int .i64 Z), cV (.pointer (some ⟨x, 0, .none⟩)), cV (.string nm), cV (.slice ad n cp), cV (.int .i64 G), cV (.int .i64 (Z + G)), cV (.pointer (some ⟨x, 0, .none⟩)), cV (.pointer (some ⟨x, 2, .none⟩)), tV] kk wq2 v0 := Calm.all (n := 0) ⟨.inl ⟨_, rfl, rfl⟩, .inl ⟨_, rfl, rfl⟩, .inl ⟨_, rfl, rfl⟩, .inl ⟨_, rfl, rfl⟩, .inl ⟨_, rfl, rfl⟩, .inl ⟨_, rfl, rfl⟩, .inl ⟨_, rfl, rfl⟩, .inl ⟨_, rfl, rfl⟩, .inl ⟨_, rfl, rfl⟩, .inl ⟨_, rfl, rfl⟩, .inl ⟨_, rfl, rfl⟩, .inr (.inr rfl), trivial⟩
      refine hv_skip rfl rfl (w' := w1.setCell ⟨x, 2, .none⟩ (.int .i64 (Z + G))) ?_ trivial (jS_store HHP.out HRO.out hJ) (hcalm _ _)
      have cc := (Below.cell hJ (p := ⟨x, 2, .none⟩) hx).trans c2
      have cf := (Below.frozen hJ (p := ⟨x, 2, .none⟩) hx).trans f2
      simp [execOp, Act.eval, h0, h1, go_sem, cc, cf]
  intro f w1 hJ hv
  try simp only [Exit.then]
  simp only [putAll, List.foldl_cons, List.foldl_nil, Option.getD_some, Act.put, List.setIfInBounds_toArray, List.set_cons_succ, List.set_cons_zero]
  clear hv c2 f2
  -- END 0
  have HJ := Lib.hid hJ
  clear hJ hx
  obtain ⟨mo, rfl⟩ : ∃ m, av = .map m := by
    rcases HH.out.attrs with ⟨h1, _⟩ | ⟨b, _, _, h1, _⟩
    · exact ⟨_, h1⟩
    · exact ⟨_, h1⟩
  have HAT := Lib.hid (HH.out.attrs.fr HJ.out.2 (by unfold obOf; simp) (by unfold obOf; simp))
  have HVV := Lib.hid (HV.out.fr HJ.out.2 (by unfold obOf; simp))
  have c1 : w1.cell? ⟨x, 1, .none⟩ = some (.map mo) := cell_of_block HJ.out.1 rfl
  have HD1 := Lib.hid (Dom.later HD.out HJ.out.2.size)
  simp only at HAT
  have hF0 : ∀ w2 : World, Fr w1 w2 r r (fun t => t = .at_ p k) → Fr w w2 r r (ofOb p k) := fun w2 h => (HJ.out.2.mono (fun t ht => .inl ht)).trans (h.mono (fun t ht => .inr (.inr ht)))
  have HF0 := Lib.hid hF0
  clear hF0
  by_cases h0 : n = 0
  · subst h0
    have hl0 : l = [] := List.length_eq_zero_iff.1 HL.out
    obtain ⟨w2, hrun, hat, hgb, hrb⟩ := HAT.out.del nm (by unfold maxLen; omega) 0
    rw [← hl0] at hat
    rw [HGG.out] at hat
    have hf2 : Fr w1 w2 r r (fun t => t = .at_ p k) := Fr.of_grown hgb hrb
    have HFIN : Hid (Fr w w2 r r (ofOb p k) ∧ Dom w2 r ∧ ObX w2 r p k x (Ob.set ⟨lb, fa, Z⟩ nm.data.toList l)) := Lib.hid ⟨HF0.out _ hf2, Dom.later HD1.out hf2.size, bv, _, by
      have := HH.out.reset HJ.out.2 HJ.out.1 hf2 hat
      unfold Ob.set
      simp only [HGG.out]
      exact this⟩
    clear hat hgb hrb hf2 hl0 HAT
    go_wp2_with fail
    refine bodyPost_ret (results_none rfl _ _ _) rfl ?_
    exact ⟨rfl, r, HFIN.out⟩
  · have hl0 : l ≠ [] := fun e => by have := HL.out; rw [e] at this; simp at this; omega
    have hq : ((n : Int) == 0) = false := by simp; omega
    have HL0 := Lib.hid hl0
    clear hl0
    cases mo with
    | some b =>
      have hme : ∀ W, (binOp .eql 73 (.map (some b)) (.map none)).run Try.prog W = .ok (.bool false) W := fun W => map_eql W (some b)
      obtain ⟨w2, hrun, hat, hgb, hrb⟩ := HAT.out.put hN nm (by unfold maxLen; omega) HVV.out HL0.out
      rw [HGG.out] at hat
      have hf2 : Fr w1 w2 r r (fun t => t = .at_ p k) := Fr.of_grown hgb (fun b' e => by cases e; exact hrb)
      have HFIN : Hid (Fr w w2 r r (ofOb p k) ∧ Dom w2 r ∧ ObX w2 r p k x (Ob.set ⟨lb, fa, Z⟩ nm.data.toList l)) := Lib.hid ⟨HF0.out _ hf2, Dom.later HD1.out hf2.size, bv, _, by
        have := HH.out.reset HJ.out.2 HJ.out.1 hf2 hat
        unfold Ob.set
        simp only [HGG.out]
        exact this⟩
      clear hat hgb hrb hf2 HAT
      go_wp2_with fail
      refine bodyPost_ret (results_none rfl _ _ _) rfl ?_
      exact ⟨rfl, r, HFIN.out⟩
    | none =>
      have hme : ∀ W, (binOp .eql 73 (.map none) (.map none)).run Try.prog W = .ok (.bool true) W := fun W => map_eql W none
      have hmm := @run_makeMap Try.prog
      have hfn : ∀ y : List UInt8, fa y = [] ∧ Z = 0 := fun y => by
        rcases HAT.out with ⟨_, h1, h2⟩ | ⟨b, _, _, h1, _⟩
        · exact ⟨h1 y, h2⟩
        · cases h1
      have hba : Below w1.heap.size w1 (w1.alloc (.map #[] 0)) := (Below.refl _ _).alloc (Nat.le_refl _) _
      have hx1 : x < w1.heap.size := (Array.getElem?_eq_some_iff.1 HJ.out.1).1
      have c1b : (w1.alloc (.map #[] 0)).cell? ⟨x, 1, .none⟩ = some (.map none) := by rw [hba.cell hx1]; exact c1
      have f1b : (w1.alloc (.map #[] 0)).frozen? ⟨x, 1, .none⟩ = false := by rw [hba.frozen hx1]; exact frozen_of_block HJ.out.1 1
      obtain ⟨w3, hw3⟩ : ∃ w3, (w1.alloc (.map #[] 0)).setCell ⟨x, 1, .none⟩ (.map (some w1.heap.size)) = w3 := ⟨_, rfl⟩
      have hh3 : w3.heap[x]? = some (.cells #[bv, .map (some w1.heap.size), .int .i64 (Z + G)] 75) := by
        rw [← hw3]
        have := heap_setCell_same (w1.alloc (.map #[] 0)) x 1 _ _ (.map (some w1.heap.size)) (by rw [hba.block x hx1]; exact HJ.out.1)
        simpa using this
      have hfs : Fr (w1.alloc (.map #[] 0)) w3 r r (obOf p k) := by rw [← hw3]; exact Fr.of_set (by exact HRO.out)
      have hf3 : Fr w w3 r r (obOf p k) := (HJ.out.2.later hba).trans hfs
      have hatm : AttrAt (w1.alloc (.map #[] 0)) (setRole r w1.heap.size (.at_ p k)) p k (.map (some w1.heap.size)) fa 0 := AttrAt.made HD1.out p k (fun y => (hfn y).1)
      have hrr : setRole r w1.heap.size (.at_ p k) x = .ob p k := by rw [setRole_other _ _ (by omega)]; exact HRO.out
      have hat3 : AttrAt w3 (setRole r w1.heap.size (.at_ p k)) p k (.map (some w1.heap.size)) fa Z := by
        rw [(hfn []).2]
        have h1 : Fr (w1.alloc (.map #[] 0)) w3 (setRole r w1.heap.size (.at_ p k)) (setRole r w1.heap.size (.at_ p k)) (obOf p k) := by rw [← hw3]; exact Fr.of_set (by exact hrr)
        exact hatm.fr h1 (by unfold obOf; simp) (by unfold obOf; simp)
      have hv3 : Shr w3 (setRole r w1.heap.size (.at_ p k)) (.slice ad n cp) l := by
        have h1 : Fr w1 w3 r (setRole r w1.heap.size (.at_ p k)) (obOf p k) := ((Fr.of_below hba r (obOf p k)).trans hfs).newrole (fun y hy => setRole_other r _ (by omega))
        exact HVV.out.fr h1 (by unfold obOf; simp)
      obtain ⟨w4, hrun, hat, hgb, hrb⟩ := hat3.put hN nm (by unfold maxLen; omega) hv3 HL0.out
      rw [HGG.out] at hat
      have hsz3 : w1.heap.size + 1 ≤ w3.heap.size := by rw [← hw3]; simp
      have hF13 : Fr w w3 r (setRole r w1.heap.size (.at_ p k)) (obOf p k) := hf3.newrole (fun y hy => setRole_other r _ (by have := HJ.out.2.size; omega))
      have hf4 : Fr w3 w4 (setRole r w1.heap.size (.at_ p k)) (setRole r w1.heap.size (.at_ p k)) (fun t => t = .at_ p k) := Fr.of_grown hgb (fun b' e => by cases e; exact hrb)
      have HFIN : Hid (Fr w w4 r (setRole r w1.heap.size (.at_ p k)) (ofOb p k) ∧ Dom w4 (setRole r w1.heap.size (.at_ p k)) ∧ ObX w4 (setRole r w1.heap.size (.at_ p k)) p k x (Ob.set ⟨lb, fa, Z⟩ nm.data.toList l)) := Lib.hid ⟨(hF13.mono (fun t ht => .inl ht)).trans (hf4.mono (fun t ht => .inr (.inr ht))), Dom.later ((Dom.later HD1.out (by omega)).set _ (by omega)) hf4.size, bv, _, by
        have := HH.out.reset hF13 hh3 hf4 hat
        unfold Ob.set
        simp only [HGG.out]
        exact this⟩
      have c1c : w3.cell? ⟨x, 1, .none⟩ = some (.map (some w1.heap.size)) := cell_of_block hh3 rfl
      rw [World.setCell_alloc_past (hn := hx1)] at hw3
      have HW3 := Lib.hid hw3
      clear hat hgb hrb hf4 hF13 hat3 hv3 hatm hf3 hfs hh3 HAT hfn hrr hsz3 hba hw3
      go_upto_region 5 with fail
      rw [HW3.out]
      clear hmm hme c1 c1b f1b
      go_wp2_with fail
      refine bodyPost_ret (results_none rfl _ _ _) rfl ?_
      exact ⟨rfl, _, HFIN.out⟩
end Go.Proofs.Ytgjdabneodkmpaa
