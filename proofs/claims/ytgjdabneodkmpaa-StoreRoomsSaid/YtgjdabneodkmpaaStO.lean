/- What the functions of one object do: copies, writings, deeds. -/
import Derived.Test.YtgjdabneodkmpaaStC
import Derived.Test.YtgjdabneodkmpaaPhase
import Derived.Laws.CopyOwn
import Derived.Test.YtgjdabneodkmpaaShelf
namespace Go.Proofs.Ytgjdabneodkmpaa
open Go.RowKit Go.Shelf
set_option linter.unusedVariables false

theorem BRow.later {w w' : World} {v : Value} {l : List UInt8} (h : BRow w v l) (hb : Below w.heap.size w w') : BRow w' v l := h.keep fun g _ hlt => hb.block g hlt
theorem Shr.later {w w' : World} {r : Nat → Role} {v : Value} {l : List UInt8} (h : Shr w r v l) (hb : Below w.heap.size w w') : Shr w' r v l := h.fr (Fr.of_below hb r (fun _ => False)) (fun x => x)
/-- Bytes in new memory. -/
def bV (N : Nat) (l : List UInt8) : SV := ⟨fun w v => BRow w v l ∧ ∀ g, v.ownBlock = some g → N ≤ g, fun w w' v h hb => ⟨h.1.later hb, h.2⟩⟩
/-- Attributes in new memory; their values as they lay. -/
def AttrNew (w0 : World) (w : World) (r : Nat → Role) (av : Value) (f : List UInt8 → List UInt8) (z : Int) : Prop :=
  (av = .map .none ∧ (∀ s, f s = []) ∧ z = 0) ∨
  ∃ b n D, av = .map (some b) ∧ w0.heap.size ≤ b ∧ w.ownsMap Try.prog 9 slE b n D ∧ (∀ s : List UInt8, s.length ≤ maxLen → ∃ v, D.atKey (.string s) (.held (.slice .none 0 0)) = .held v ∧ Shr w0 r v (f s)) ∧
    (∀ s : List UInt8, Go.Maps.has D (.string s) = !(f s).isEmpty) ∧ AttrSum f z (Go.Maps.size D)
def aV (w0 : World) (r : Nat → Role) (f : List UInt8 → List UInt8) (z : Int) : SV := ⟨fun w v => AttrNew w0 w r v f z, fun w w' v h hb => by
  rcases h with h | ⟨b, n, D, hv, hN, ho, hs⟩
  · exact .inl h
  · have hlt := ho.lt
    obtain ⟨es, clock, h2, rest⟩ := ho
    exact .inr ⟨b, n, D, hv, hN, ⟨es, clock, by rw [hb.block b hlt]; exact h2, rest⟩, hs⟩⟩
def gV (w0 : World) (r : Nat → Role) (l : List UInt8) (f : List UInt8 → List UInt8) (z : Int) : SV := ⟨fun w v => ∃ bv av, v = .agg #[bv, av, .int .i64 z] ∧ (bV w0.heap.size l).p w bv ∧ (aV w0 r f z).p w av,
  fun w w' v ⟨bv, av, h1, h2, h3⟩ hb => ⟨bv, av, h1, (bV w0.heap.size l).st _ _ _ h2 hb, (aV w0 r f z).st _ _ _ h3 hb⟩⟩
def oV (w0 : World) (r : Nat → Role) (l : List UInt8) (f : List UInt8 → List UInt8) (z : Int) : SV := ⟨fun w v => ∃ x bv av, v = .pointer (some ⟨x, 0, .none⟩) ∧ w0.heap.size ≤ x ∧ w.heap[x]? = some (.cells #[bv, av, .int .i64 z] 75) ∧ (bV w0.heap.size l).p w bv ∧ (aV w0 r f z).p w av,
  fun w w' v ⟨x, bv, av, h1, hN, h2, h3, h4⟩ hb => ⟨x, bv, av, h1, hN, by rw [hb.block x (Array.getElem?_eq_some_iff.1 h2).1]; exact h2, (bV w0.heap.size l).st _ _ _ h3 hb, (aV w0 r f z).st _ _ _ h4 hb⟩⟩

theorem bV_clone {N : Nat} {w w1 : World} {a : Option Addr} {n cap : Nat} {l : List UInt8} (h : Row w a cap l ∧ l.length = n ∧ n ≤ 100000 ∧ N = w.heap.size) (hb : Below w.heap.size w w1) :
    Calls Try.prog 45 #[.slice a n cap] w1 fun e w' => ∃ v, e = .returned v ∧ (bV N l).p w' v ∧ Below w1.heap.size w1 w' := by
  obtain ⟨hr, hn, hl, rfl⟩ := h
  refine (clone_any a n cap l w1 (hr.later hb) hn hl).mono ?_
  rintro e w' ⟨v, rfl, ho⟩
  exact ⟨v, rfl, ⟨ho.bRow, fun g hg => Nat.le_trans hb.size (ho.new g hg).1⟩, ho.below⟩
theorem aV_clone {w w1 : World} {r : Nat → Role} {p : Bool} {k : K4} {av : Value} {f : List UInt8 → List UInt8} {z : Int} (h : AttrAt w r p k av f z) (hb : Below w.heap.size w w1) :
    Calls Try.prog 101 #[av] w1 fun e w' => ∃ v, e = .returned v ∧ (aV w r f z).p w' v ∧ Below w1.heap.size w1 w' := by
  rcases h with ⟨rfl, hf⟩ | ⟨b, n, D, rfl, hr, ho, hs, hq⟩
  · have hcon := AnyW.maps_Clone_nil Try.cloneA w1
    change Calls Try.prog 101 _ _ _ at hcon
    refine hcon.mono ?_
    rintro e w' ⟨rfl, rfl⟩
    exact ⟨_, rfl, .inl ⟨rfl, hf⟩, Below.refl _ _⟩
  · have hlt := ho.lt
    have ho1 : w1.ownsMap Try.prog 9 slE b n D := by
      obtain ⟨es, clock, h2, rest⟩ := ho
      exact ⟨es, clock, by rw [hb.block b hlt]; exact h2, rest⟩
    have hcon := AnyW.maps_Clone_owns Try.cloneA 9 slE b n D w1 ho1
    change Calls Try.prog 101 _ _ _ at hcon
    refine hcon.mono ?_
    rintro e w' ⟨rfl, h1, _, hb2⟩
    refine ⟨_, rfl, .inr ⟨_, n, D, rfl, hb.size, h1, fun s hl => ?_, hq⟩, hb2⟩
    obtain ⟨v, e1, e2⟩ := hs s hl
    exact ⟨v, e1, e2⟩

/-- A copy, in new memory. -/
theorem copied_some (w w2 : World) (r : Nat → Role) (p : Bool) (k : K4) (x : Nat) (o : Ob) (h : ObX w r p k x o) (hl : o.bytes.length ≤ 100000) (hB0 : Below w.heap.size w w2) :
    Calls Try.prog 81 #[.pointer (some ⟨x, 0, .none⟩)] w2 fun e w' => ∃ v, e = .returned v ∧ (oV w r o.bytes o.attrs o.named).p w' v ∧ Below w2.heap.size w2 w' := by
  obtain ⟨bv, m, h⟩ := h
  obtain ⟨l, fa, z⟩ := o
  simp only at hl ⊢
  have hx : x < w.heap.size := h.lt
  obtain ⟨ad, cap, rfl, hr, _⟩ := h.row.row
  have c0 : w.cell? ⟨x, 0, .none⟩ = some (  .slice ad l.length cap) := cell_of_block h.heap rfl
  have c1 : w.cell? ⟨x, 1, .none⟩ = some m := cell_of_block h.heap rfl
  have c2 : w.cell? ⟨x, 2, .none⟩ = some (.int .i64 z) := cell_of_block h.heap rfl
  have hb : Row w ad cap l ∧ l.length = l.length ∧ l.length ≤ 100000 ∧ w.heap.size = w.heap.size := ⟨hr, rfl, hl, rfl⟩
  have hm : AttrAt w r p k m fa z ∧ w.heap.size = w.heap.size := ⟨h.attrs, rfl⟩
  obtain ⟨n, hn⟩ : ∃ n, l.length = n := ⟨_, rfl⟩
  obtain ⟨N, hN⟩ : ∃ N, w.heap.size = N := ⟨_, rfl⟩
  rw [hn] at c0
  have HB : Hid (Row w ad cap l ∧ l.length = n ∧ n ≤ 100000 ∧ N = w.heap.size) := Lib.hid ⟨hr, hn, by omega, hN.symm⟩
  have HM : Hid (AttrAt w r p k m fa z) := Lib.hid h.attrs
  clear hb hm
  go_enter Try.func81, Try.ntmps81
  go_wp2_with fail
-- REG 3
  refine wp_region_tab (L := [cV (.pointer (some ⟨x, 0, .none⟩)), cV (.pointer (some ⟨x, 0, .none⟩)), cV (.pointer (some ⟨x, 0, .none⟩)), cV (.slice ad n cap), bV w.heap.size l, cV (.pointer (some ⟨x, 0, .none⟩)), cV (.pointer (some ⟨x, 0, .none⟩)), cV (.pointer (some ⟨x, 1, .none⟩)), cV (m), aV w r fa z, cV (.pointer (some ⟨x, 0, .none⟩)), cV (.pointer (some ⟨x, 0, .none⟩)), cV (.pointer (some ⟨x, 2, .none⟩)), cV (.int .i64 z), gV w r l fa z, oV w r l fa z, oV w r l fa z]) [[(0, none)], [(5, some 0)], [(6, some 1)], [(7, some 2)], [(8, some 3)], [(0, none)], [(10, some 5)], [(11, some 6)], [(12, some 7)], [(13, some 8)], [(0, none)], [(15, some 10)], [(16, some 11)], [(17, some 12)], [(9, some 4), (14, some 9), (18, some 13)], [(19, some 14)], [(20, some 15)]] 17 21 (by kernel_rfl) rfl rfl (by kernel_rfl) (by kernel_rfl) ?_ ?_
  · show ∀ i, i < 17 → _
    iterate 17 (refine fls ?_ ?_)
    · exact fl0
    · intro a w1 hR hsz hs      -- 0: slot 5
      obtain ⟨h0, _⟩ := hs
      have h0 : a.tmps.getD 0 undef = .pointer (some ⟨x, 0, .none⟩) := h0
      refine op_run rfl rfl (v := .pointer (some ⟨x, 0, .none⟩)) (w' := w1) ?_ rfl (Below.refl _ _)
      simp [execOp, Act.eval, h0, go_sem]
    · intro a w1 hR hsz hs      -- 1: slot 6
      obtain ⟨h0, _⟩ := hs
      have h0 : a.tmps.getD 5 undef = .pointer (some ⟨x, 0, .none⟩) := h0
      refine op_run rfl rfl (v := .pointer (some ⟨x, 0, .none⟩)) (w' := w1) ?_ rfl (Below.refl _ _)
      simp [execOp, Act.eval, h0, go_sem]
    · intro a w1 hR hsz hs      -- 2: slot 7
      obtain ⟨h0, _⟩ := hs
      have h0 : a.tmps.getD 6 undef = .pointer (some ⟨x, 0, .none⟩) := h0
      refine op_run rfl rfl (v := .pointer (some ⟨x, 0, .none⟩)) (w' := w1) ?_ rfl (Below.refl _ _)
      simp [execOp, Act.eval, h0, go_sem]
    · intro a w1 hR hsz hs      -- 3: slot 8
      obtain ⟨h0, _⟩ := hs
      have h0 : a.tmps.getD 7 undef = .pointer (some ⟨x, 0, .none⟩) := h0
      have c := ((hB0.trans (hR.mono hB0.size)).cell (p := ⟨x, 0, .none⟩) hx).trans c0
      refine op_run rfl rfl (v := .slice ad n cap) (w' := w1) ?_ rfl (Below.refl _ _)
      simp [execOp, Act.eval, h0, c, go_sem]
    · intro a w1 hR hsz hs      -- 4: slot 9
      obtain ⟨h0, _⟩ := hs
      have h0 : a.tmps.getD 8 undef = .slice ad n cap := h0
      refine op_call rfl rfl (f := 45) (args := #[.slice ad n cap]) (by simp [execOp, Act.eval, resolve, h0, go_sem]) ?_
      exact bV_clone (N := w.heap.size) ⟨HB.out.1, HB.out.2.1, HB.out.2.2.1, rfl⟩ (hB0.trans (hR.mono hB0.size))
    · intro a w1 hR hsz hs      -- 5: slot 10
      obtain ⟨h0, _⟩ := hs
      have h0 : a.tmps.getD 0 undef = .pointer (some ⟨x, 0, .none⟩) := h0
      refine op_run rfl rfl (v := .pointer (some ⟨x, 0, .none⟩)) (w' := w1) ?_ rfl (Below.refl _ _)
      simp [execOp, Act.eval, h0, go_sem]
    · intro a w1 hR hsz hs      -- 6: slot 11
      obtain ⟨h0, _⟩ := hs
      have h0 : a.tmps.getD 10 undef = .pointer (some ⟨x, 0, .none⟩) := h0
      refine op_run rfl rfl (v := .pointer (some ⟨x, 0, .none⟩)) (w' := w1) ?_ rfl (Below.refl _ _)
      simp [execOp, Act.eval, h0, go_sem]
    · intro a w1 hR hsz hs      -- 7: slot 12
      obtain ⟨h0, _⟩ := hs
      have h0 : a.tmps.getD 11 undef = .pointer (some ⟨x, 0, .none⟩) := h0
      refine op_run rfl rfl (v := .pointer (some ⟨x, 1, .none⟩)) (w' := w1) ?_ rfl (Below.refl _ _)
      simp [execOp, Act.eval, h0, go_sem]
    · intro a w1 hR hsz hs      -- 8: slot 13
      obtain ⟨h0, _⟩ := hs
      have h0 : a.tmps.getD 12 undef = .pointer (some ⟨x, 1, .none⟩) := h0
      have c := ((hB0.trans (hR.mono hB0.size)).cell (p := ⟨x, 1, .none⟩) hx).trans c1
      refine op_run rfl rfl (v := m) (w' := w1) ?_ rfl (Below.refl _ _)
      simp [execOp, Act.eval, h0, c, go_sem]
    · intro a w1 hR hsz hs      -- 9: slot 14
      obtain ⟨h0, _⟩ := hs
      have h0 : a.tmps.getD 13 undef = m := h0
      refine op_call rfl rfl (f := 101) (args := #[m]) (by simp [execOp, Act.eval, resolve, h0, go_sem]) ?_
      exact aV_clone HM.out (hB0.trans (hR.mono hB0.size))
    · intro a w1 hR hsz hs      -- 10: slot 15
      obtain ⟨h0, _⟩ := hs
      have h0 : a.tmps.getD 0 undef = .pointer (some ⟨x, 0, .none⟩) := h0
      refine op_run rfl rfl (v := .pointer (some ⟨x, 0, .none⟩)) (w' := w1) ?_ rfl (Below.refl _ _)
      simp [execOp, Act.eval, h0, go_sem]
    · intro a w1 hR hsz hs      -- 11: slot 16
      obtain ⟨h0, _⟩ := hs
      have h0 : a.tmps.getD 15 undef = .pointer (some ⟨x, 0, .none⟩) := h0
      refine op_run rfl rfl (v := .pointer (some ⟨x, 0, .none⟩)) (w' := w1) ?_ rfl (Below.refl _ _)
      simp [execOp, Act.eval, h0, go_sem]
    · intro a w1 hR hsz hs      -- 12: slot 17
      obtain ⟨h0, _⟩ := hs
      have h0 : a.tmps.getD 16 undef = .pointer (some ⟨x, 0, .none⟩) := h0
      refine op_run rfl rfl (v := .pointer (some ⟨x, 2, .none⟩)) (w' := w1) ?_ rfl (Below.refl _ _)
      simp [execOp, Act.eval, h0, go_sem]
    · intro a w1 hR hsz hs      -- 13: slot 18
      obtain ⟨h0, _⟩ := hs
      have h0 : a.tmps.getD 17 undef = .pointer (some ⟨x, 2, .none⟩) := h0
      have c := ((hB0.trans (hR.mono hB0.size)).cell (p := ⟨x, 2, .none⟩) hx).trans c2
      refine op_run rfl rfl (v := .int .i64 z) (w' := w1) ?_ rfl (Below.refl _ _)
      simp [execOp, Act.eval, h0, c, go_sem]
    · intro a w1 hR hsz hs      -- 14: slot 19
      obtain ⟨h0, h1, h2, _⟩ := hs
      obtain ⟨b0, e0, hb0⟩ : ∃ v, a.tmps.getD 9 undef = v ∧ (bV w.heap.size l).p w1 v := ⟨_, rfl, h0⟩
      obtain ⟨b1, e1, hb1⟩ : ∃ v, a.tmps.getD 14 undef = v ∧ (aV w r fa z).p w1 v := ⟨_, rfl, h1⟩
      have h2 : a.tmps.getD 18 undef = .int .i64 z := h2
      obtain ⟨ab, cb, eb, _⟩ := hb0.1.row
      obtain ⟨mm, em⟩ : ∃ q, b1 = .map q := by
        rcases hb1 with ⟨h, _⟩ | ⟨b, _, _, h, _⟩
        · exact ⟨_, h⟩
        · exact ⟨_, h⟩
      have e0 : a.tmps[9]?.getD undef = .slice ab l.length cb := by rw [← eb, ← e0]; exact (Array.getD_eq_getD_getElem?).symm
      have e1 : a.tmps[14]?.getD undef = .map mm := by rw [← em, ← e1]; exact (Array.getD_eq_getD_getElem?).symm
      have h2 : a.tmps[18]?.getD undef = .int .i64 z := by rw [← h2]; exact (Array.getD_eq_getD_getElem?).symm
      refine op_run rfl rfl (v := .agg #[b0, b1, .int .i64 z]) (w' := w1) ?_ ⟨b0, b1, rfl, hb0, hb1⟩ (Below.refl _ _)
      rw [eb, em]
      simp [execOp, Act.eval, e0, e1, h2, go_sem]
    · intro a w1 hR hsz hs      -- 15: slot 20
      obtain ⟨h0, _⟩ := hs
      obtain ⟨b0, m0, e0, hb0, hm0⟩ := h0
      refine op_run rfl rfl (v := .pointer (some ⟨w1.heap.size, 0, .none⟩)) (w' := w1.alloc (.cells #[b0, m0, .int .i64 z] 75)) ?_ ⟨w1.heap.size, b0, m0, rfl, (hB0.trans (hR.mono hB0.size)).size, (MapKept.heap_alloc w1 _).1, (bV w.heap.size l).st _ _ _ hb0 ((Below.refl _ _).alloc (Nat.le_refl _) _), (aV w r fa z).st _ _ _ hm0 ((Below.refl _ _).alloc (Nat.le_refl _) _)⟩ ((Below.refl _ _).alloc (Nat.le_refl _) _)
      simp [execOp, Act.eval, e0, go_sem]
    · intro a w1 hR hsz hs      -- 16: slot 2
      obtain ⟨h0, _⟩ := hs
      obtain ⟨b0, e0, hb0⟩ : ∃ v, a.tmps.getD 20 undef = v ∧ (oV w r l fa z).p w1 v := ⟨_, rfl, h0⟩
      refine op_run rfl rfl (v := b0) (w' := w1) ?_ hb0 (Below.refl _ _)
      simp [execOp, Act.eval, e0, go_sem]
  · intro f w1 hR hv
    have e2 : (oV w r l fa z).p w1 (f 2) := hv 16 _ 2 rfl rfl
    clear hv
    simp only [Exit.then]
    simp only [putAll, List.foldl_cons, List.foldl_nil, Option.getD_some, Act.put, List.setIfInBounds_toArray, List.set_cons_succ, List.set_cons_zero]
    generalize f 2 = v2 at e2 ⊢
    go_wp2_with fail
    go_ret
    exact ⟨_, rfl, e2, hR⟩
-- END 3

/-! ### a copy, given its roles -/
/-- The copy of what may not be there. -/
def cpOf (w0 : World) (r : Nat → Role) (w : World) : Option Nat → Option Ob → Prop
  | .none, .none => True
  | some y, some o => (oV w0 r o.bytes o.attrs o.named).p w (.pointer (some ⟨y, 0, .none⟩))
  | _, _ => False
theorem cpOf_st {w0 : World} {r : Nat → Role} {w w' : World} {y : Option Nat} {o : Option Ob} (h : cpOf w0 r w y o) (hb : Below w.heap.size w w') : cpOf w0 r w' y o := by
  cases y <;> cases o <;> simp only [cpOf] at h ⊢
  exact SV.st _ _ _ _ h hb
def cpV (w0 : World) (r : Nat → Role) (o : Option Ob) : SV := ⟨fun w v => ∃ y, v = ptrV y ∧ cpOf w0 r w y o, fun w w' v ⟨y, h1, h2⟩ hb => ⟨y, h1, cpOf_st h2 hb⟩⟩
theorem copied_any (w0 w : World) (r : Nat → Role) (p : Bool) (k : K4) (x : Option Nat) (o : Option Ob) (h : OpAt w0 r p k x o) (hl : ∀ o', o = some o' → o'.bytes.length ≤ 16384) (hb : Below w0.heap.size w0 w) :
    Calls Try.prog 81 #[ptrV x] w fun e w' => ∃ v, e = .returned v ∧ (cpV w0 r o).p w' v ∧ Below w.heap.size w w' := by
  cases x with
  | none =>
    cases o with
    | some o => exact h.elim
    | none =>
      simp only [ptrV, Option.map]
      go_enter Try.func81, Try.ntmps81
      go_wp2_with fail
      go_ret
      exact ⟨_, rfl, ⟨.none, rfl, trivial⟩, Below.refl _ _⟩
  | some x =>
    cases o with
    | none => exact h.elim
    | some o =>
      refine (copied_some w0 w r p k x o h (by have := hl o rfl; omega) hb).mono ?_
      rintro e w' ⟨v, rfl, hv, hb2⟩
      refine ⟨v, rfl, ?_, hb2⟩
      obtain ⟨y, bv, av, rfl, h2⟩ := hv
      exact ⟨some y, rfl, ⟨y, bv, av, rfl, h2⟩⟩

/-- Roles for a copy in new memory. -/
def cpRole (r : Nat → Role) (p : Bool) (k : K4) (w : World) (N : Nat) (y : Option Nat) : Nat → Role := fun z =>
  if z < N then r z else if y = some z then .ob p k else
  match y with
  | .none => r z
  | some y => match w.heap[y]? with
    | some (.cells cs _ _) => if (cs.getD 0 undef).ownBlock = some z then .by p k else if mapBlock (cs.getD 1 undef) = some z then .at_ p k else r z
    | _ => r z
theorem cpRole_old (r : Nat → Role) (p : Bool) (k : K4) (w : World) {N : Nat} (y : Option Nat) {z : Nat} (h : z < N) : cpRole r p k w N y z = r z := by simp [cpRole, h]
theorem cpRole_or (r : Nat → Role) (p : Bool) (k : K4) (w : World) (N : Nat) (y : Option Nat) (z : Nat) : cpRole r p k w N y z = r z ∨ ofOb p k (cpRole r p k w N y z) := by
  unfold cpRole
  split
  · exact .inl rfl
  · split
    · exact .inr (.inl rfl)
    · split
      · exact .inl rfl
      · split
        · split
          · exact .inr (.inr (.inl rfl))
          · split
            · exact .inr (.inr (.inr rfl))
            · exact .inl rfl
        · exact .inl rfl
theorem OpAt.of_copy {w0 w : World} {r : Nat → Role} {p : Bool} {k : K4} {y : Option Nat} {o : Option Ob} (h : cpOf w0 r w y o) (hb : Below w0.heap.size w0 w) (hd : Dom w0 r) :
    OpAt w (cpRole r p k w w0.heap.size y) p k y o ∧ Dom w (cpRole r p k w w0.heap.size y) := by
  cases y with
  | none =>
    cases o with
    | some o => exact h.elim
    | none =>
      refine ⟨trivial, fun z hz => ?_⟩
      unfold cpRole
      have hz2 : w0.heap.size ≤ z := Nat.le_trans hb.size hz
      rw [if_neg (by omega), if_neg (by simp)]
      exact hd z hz2
  | some y =>
    cases o with
    | none => exact h.elim
    | some o =>
      obtain ⟨y2, bv, av, hy, hN, hh, ⟨hB, hB2⟩, hA⟩ := h
      simp only [Value.pointer.injEq, Option.some.injEq, Addr.mk.injEq, and_true] at hy
      subst hy
      have hlt := (Array.getElem?_eq_some_iff.1 hh).1
      have hby : ∀ g, bv.ownBlock = some g → g ≠ y := by
        rintro g hg rfl
        rcases hB.2 with ⟨hv, _⟩ | ⟨g2, cap, cur, hv, _, hg2, _⟩
        · rw [hv] at hg; cases hg
        · rw [hv] at hg; cases hg
          rw [hh] at hg2
          cases hg2
      have hR : ∀ z, w0.heap.size ≤ z → z ≠ y → cpRole r p k w w0.heap.size (some y) z = if bv.ownBlock = some z then .by p k else if mapBlock av = some z then .at_ p k else r z := by
        intro z hz hne
        unfold cpRole
        rw [if_neg (by omega), if_neg (by simp; exact fun e => hne e.symm)]
        simp only [hh]
        rfl
      refine ⟨⟨bv, av, ?_, hh, hB, fun g hg => ?_, ?_⟩, fun z hz => ?_⟩
      · unfold cpRole
        rw [if_neg (by omega), if_pos rfl]
      · rw [hR g (hB2 g hg) (hby g hg), if_pos hg]
      · rcases hA with ⟨h1, h2⟩ | ⟨b, n, D, h1, h2, h3, h4, hq⟩
        · exact .inl ⟨h1, h2⟩
        · have hne : b ≠ y := by
            rintro rfl
            obtain ⟨es, clock, h5, _⟩ := h3
            rw [hh] at h5; cases h5
          have hnb : bv.ownBlock ≠ some b := by
            intro e
            rcases hB.2 with ⟨hv, _⟩ | ⟨g2, cap, cur, hv, _, hg2, _⟩
            · rw [hv] at e; cases e
            · rw [hv] at e; cases e
              obtain ⟨es, clock, h5, _⟩ := h3
              rw [hg2] at h5; cases h5
          refine .inr ⟨b, n, D, h1, by rw [hR b h2 hne, if_neg hnb, if_pos (by rw [h1]; rfl)], h3, fun s hs => ?_, hq⟩
          obtain ⟨v, e1, e2⟩ := h4 s hs
          exact ⟨v, e1, e2.fr ((Fr.of_below hb r (fun _ => False)).newrole fun z hz => cpRole_old _ _ _ _ _ hz) (fun h => h)⟩
      · have hz2 : w0.heap.size ≤ z := Nat.le_trans hb.size hz
        rw [hR z hz2 (by omega), if_neg, if_neg]
        · exact hd z hz2
        · intro e
          rcases hA with ⟨h1, h2⟩ | ⟨b, n, D, h1, h2, h3, h4⟩
          · rw [h1] at e; cases e
          · rw [h1] at e; cases e; have := h3.lt; omega
        · intro e
          have := (World.ownsRow.lt hB z e).2
          omega

/-- The same, and one block more of another role. -/
theorem OpAt.of_copy_set {w0 w : World} {r : Nat → Role} {p : Bool} {k : K4} {y : Option Nat} {o : Option Ob} (h : cpOf w0 r w y o) (hb : Below w0.heap.size w0 w) (hd : Dom w0 r) {x : Nat} {cs : Array Value} (hx : w.heap[x]? = some (.cells cs 100)) (hN : w0.heap.size ≤ x) (t : Role) :
    OpAt w (setRole (cpRole r p k w w0.heap.size y) x t) p k y o := by
  obtain ⟨h1, _⟩ := OpAt.of_copy (p := p) (k := k) h hb hd
  cases y with
  | none => cases o <;> exact h1
  | some y =>
    cases o with
    | none => exact h1
    | some o =>
      obtain ⟨bv, av, h1⟩ := h1
      obtain ⟨y2, bv2, av2, hy, _, hh, _, hA⟩ := h
      simp only [Value.pointer.injEq, Option.some.injEq, Addr.mk.injEq, and_true] at hy
      subst hy
      rw [h1.heap] at hh
      simp only [Option.some.injEq, Obj.cells.injEq, and_true, Array.mk.injEq, List.cons.injEq] at hh
      obtain ⟨rfl, rfl, _⟩ := hh
      have hxy : y ≠ x := fun e => by have := h1.heap; rw [e, hx] at this; cases this
      refine ⟨bv, av, ?_, h1.heap, h1.row, fun g hg => ?_, ?_⟩
      · rw [setRole_other _ _ hxy]; exact h1.role
      · rw [setRole_other _ _ ?_]
        · exact h1.rrow g hg
        · rintro rfl
          rcases h1.row.2 with ⟨hv, _⟩ | ⟨g2, cap, cur, hv, _, hg2, _⟩
          · rw [hv] at hg; cases hg
          · rw [hv] at hg; cases hg
            rw [hx] at hg2; cases hg2
      · rcases hA with ⟨a1, a2⟩ | ⟨b, n, D, a1, a2, a3, a4, hq⟩
        · exact .inl ⟨a1, a2⟩
        · have hbx : b ≠ x := by
            rintro rfl
            obtain ⟨es, clock, h5, _⟩ := a3
            rw [hx] at h5; cases h5
          rcases h1.attrs with ⟨c1, _⟩ | ⟨b', n', D', c1, c2, _⟩
          · rw [a1] at c1; cases c1
          · rw [a1] at c1; cases c1
            refine .inr ⟨b, n, D, a1, by rw [setRole_other _ _ hbx]; exact c2, a3, fun s hs => ?_, hq⟩
            obtain ⟨v, e1, e2⟩ := a4 s hs
            exact ⟨v, e1, e2.fr ((Fr.of_below hb r (fun _ => False)).newrole fun z hz => by rw [setRole_other _ _ (by omega)]; exact cpRole_old _ _ _ _ _ hz) (fun h => h)⟩

/-! ### a writing -/
def padL (b : List UInt8) (n : Nat) : List UInt8 := b ++ List.replicate (n - b.length) 0
def writeL (b : List UInt8) (off : Nat) (p : List UInt8) : List UInt8 := if p = [] then b else (padL b (off + p.length)).take off ++ p ++ (padL b (off + p.length)).drop (off + p.length)
def Ob.wr (o : Ob) (off : Nat) (p : List UInt8) : Ob := { o with bytes := writeL o.bytes off p }
def byOf (p : Bool) (k : K4) (t : Role) : Prop := t = .ob p k ∨ t = .by p k
theorem byOf_at (p : Bool) (k : K4) : ¬ byOf p k (.at_ p k) := by rintro (h | h) <;> cases h
theorem byOf_junk (p : Bool) (k : K4) : ¬ byOf p k .junk := by rintro (h | h) <;> cases h
theorem Fr.later {w w1 w2 : World} {r r1 : Nat → Role} {Z : Role → Prop} (h : Fr w w1 r r1 Z) (hb : Below w1.heap.size w1 w2) : Fr w w2 r r1 Z := h.trans (Fr.of_below hb r1 Z)
/-- The row behind the append, where it lies, and the roles from then on. -/
def apV (w0 : World) (r : Nat → Role) (p : Bool) (k : K4) (l : List UInt8) : SV :=
  ⟨fun w v => ∃ r', Fr w0 w r r' (byOf p k) ∧ Dom w r' ∧ BRow w v l ∧ (∀ g, v.ownBlock = some g → r' g = .by p k) ∧ ∀ y, r y = .ob p k → y < w0.heap.size → w.heap[y]? = w0.heap[y]?,
   fun w w' v ⟨r', h1, h2, h3, h4, h5⟩ hb => ⟨r', h1.later hb, h2.later hb.size, h3.later hb, h4, fun y hy hlt => (hb.block y (Nat.lt_of_lt_of_le hlt h1.size)).trans (h5 y hy hlt)⟩⟩
def jW (w0 : World) (r : Nat → Role) (p : Bool) (k : K4) (x : Nat) (av : Value) (z : Ob) (l : List UInt8) : Nat → World → Prop
  | 0, w => Below w0.heap.size w0 w
  | 1, _ => True
  | _, w => ∃ r' bv, Fr w0 w r r' (byOf p k) ∧ Dom w r' ∧ ObAt w r' p k x bv av { z with bytes := l }
theorem jW_st {w0 : World} {r : Nat → Role} {p : Bool} {k : K4} {x : Nat} {av : Value} {z : Ob} {l : List UInt8} (ph : Nat) {w w' : World} (h : jW w0 r p k x av z l ph w) (hb : Below w.heap.size w w') : jW w0 r p k x av z l ph w' := by
  match ph, h with
  | 0, h => exact Below.trans h (hb.mono h.size)
  | 1, _ => trivial
  | n + 2, h =>
    obtain ⟨r', bv, h1, h2, h3⟩ := h
    exact ⟨r', bv, h1.later hb, h2.later hb.size, h3.fr (Fr.of_below hb r' (fun _ => False)) (fun _ _ h => h) (fun h => h)⟩
theorem apV_run {w w1 : World} {r : Nat → Role} {p : Bool} {k : K4} {x : Nat} {bv av : Value} {o : Ob} (h : ObAt w r p k x bv av o) (hb : Below w.heap.size w w1) {q : Nat} (hq : o.bytes.length + q ≤ 1000000) {ty : TypeId} :
    ∃ v' w', (Builtin.append_ #[31, 3] ty #[bv, .int .i64 q]).run Try.prog w1 = .ok v' w' ∧ BRow w' v' (o.bytes ++ List.replicate q 0) ∧ w1.grownBy w' bv.ownBlock ∧ (v'.ownBlock = bv.ownBlock ∨ v'.ownBlock = some w1.heap.size) :=
  run_append_zeros w1 ty bv o.bytes (h.row.later hb) q hq
theorem apV_of {w w1 w2 : World} {r : Nat → Role} {p : Bool} {k : K4} {x : Nat} {bv av : Value} {o : Ob} (h : ObAt w r p k x bv av o) (hd : Dom w r) (hb : Below w.heap.size w w1) {v' : Value} {l : List UInt8} (hB : BRow w2 v' l) (hg : w1.grownBy w2 bv.ownBlock) (hat : v'.ownBlock = bv.ownBlock ∨ v'.ownBlock = some w1.heap.size) :
    (apV w r p k l).p w2 v' := by
  have hf1 : Fr w w1 r r (byOf p k) := Fr.of_below hb r _
  have hf2 : Fr w1 w2 r r (byOf p k) := Fr.of_grown hg (fun b hb2 => .inr (h.rrow b hb2))
  have hf := (hf1.trans hf2)
  have hsz : w1.heap.size ≤ w2.heap.size := hf2.size
  refine ⟨fun y => if y < w.heap.size then r y else if v'.ownBlock = some y then .by p k else r y, ⟨hf.os, hf.tape, hf.output, hf.size, hf.block, fun b hb2 => by simp [hb2]⟩, fun y hy => ?_, hB, fun g hgo => ?_, fun y hy hlt => ?_⟩
  · have h1 : ¬ y < w.heap.size := by have := hf.size; omega
    have h2 : v'.ownBlock ≠ some y := fun e => by have := (World.ownsRow.lt hB y e).2; omega
    simp only [h1, h2, if_false]
    exact hd y (by have := hf.size; omega)
  · by_cases hlt : g < w.heap.size
    · simp only [hlt, if_true]
      rcases hat with e | e
      · exact h.rrow g (by rw [← e]; exact hgo)
      · rw [e] at hgo; cases hgo; have := hb.size; omega
    · simp only [hlt, hgo, if_false, if_true]
  · have hyw : y < w1.heap.size := Nat.lt_of_lt_of_le hlt hb.size
    have hne : some y ≠ bv.ownBlock := fun e => by have := h.rrow y e.symm; rw [hy] at this; cases this
    rw [hg.block y hyw hne]
    exact hb.block y hlt
theorem frozen_of_block {w : World} {x : Nat} {cs : Array Value} {t : TypeId} (h : w.heap[x]? = some (.cells cs t)) (i : Nat) : w.frozen? ⟨x, i, .none⟩ = false := by
  simp [World.frozen?, h]
theorem apV_cells {w w1 : World} {r : Nat → Role} {p : Bool} {k : K4} {x : Nat} {bv av : Value} {o : Ob} {v1 : Value} {l : List UInt8} (h : ObAt w r p k x bv av o) (m : (apV w r p k l).p w1 v1) :
    w1.cell? ⟨x, 0, .none⟩ = some bv ∧ w1.frozen? ⟨x, 0, .none⟩ = false := by
  obtain ⟨r', _, _, _, _, h5⟩ := m
  have e := (h5 x h.role h.lt).trans h.heap
  exact ⟨cell_of_block e rfl, frozen_of_block e 0⟩
theorem jW_store {w w1 : World} {r : Nat → Role} {p : Bool} {k : K4} {x : Nat} {bv av : Value} {o : Ob} {v1 : Value} {l : List UInt8} {n : Nat} (h : ObAt w r p k x bv av o) (m : (apV w r p k l).p w1 v1) :
    jW w r p k x av o l (n + 2) (w1.setCell ⟨x, 0, .none⟩ v1) := by
  obtain ⟨r', h1, h2, h3, h4, h5⟩ := m
  have e := (h5 x h.role h.lt).trans h.heap
  have hr' : r' x = .ob p k := by rw [h1.role x h.lt]; exact h.role
  have hf : Fr w1 (w1.setCell ⟨x, 0, .none⟩ v1) r' r' (fun t => t = .ob p k) := Fr.of_set (by exact hr')
  refine ⟨r', v1, h1.trans (hf.mono fun t ht => .inl ht), h2.later hf.size, ⟨hr', ?_, ?_, h4, ?_⟩⟩
  · have := heap_setCell_same w1 x 0 _ _ v1 e
    simpa using this
  · exact h3.fr hf (fun g hg => by rw [h4 g hg]; simp)
  · exact (h.attrs.fr h1 (byOf_at p k) (byOf_junk p k)).fr hf (by simp) (by simp)

theorem exec_append {P : Program} {w w' : World} {a : Act} {o : Oper} {s x : Operand} {t tn : TypeId} {vs vx v' : Value} (ho : o.op = .call { callee := .builtin .append, args := #[s, x], argTypes := #[t, tn] }) (hs : a.eval s = vs) (hx : a.eval x = vx)
    (hr : (Builtin.append_ #[t, tn] o.type #[vs, vx]).run P w = .ok v' w') : (execOp a.eval o).run P w = .ok (.value v') w' := by
  unfold execOp
  simp only [ho, resolve, invoke, builtin, Sem.run_bind, Sem.run_pure, Result.andThen_ok, List.map_toArray, List.map_cons, List.map_nil, hs, hx, hr]
theorem apV_slice {w w1 : World} {r : Nat → Role} {p : Bool} {k : K4} {v1 : Value} {l : List UInt8} (m : (apV w r p k l).p w1 v1) : ∃ aa nn cc, v1 = .slice aa nn cc := by
  obtain ⟨r', _, _, h3, _⟩ := m
  obtain ⟨a, c, e, _⟩ := h3.row
  exact ⟨_, _, _, e⟩
theorem growthI_nat (o : Ob) (off n : Nat) : growthI o off n = ((if n = 0 then 0 else off + n - o.bytes.length : Nat) : Int) := by
  unfold growthI
  by_cases h : n = 0
  · subst h; simp
  · have : ¬ ((n : Int) = 0) := by omega
    rw [if_neg this, if_neg h]
    omega
def growN (b : List UInt8) (off n : Nat) : Nat := if n = 0 then 0 else off + n - b.length
theorem writeL_nil (b : List UInt8) (off : Nat) : writeL b off [] = b := by simp [writeL]
theorem writeL_pos (b : List UInt8) (off : Nat) (p : List UInt8) (h : 0 < p.length) : writeL b off p = (padL b (off + p.length)).take off ++ p ++ (padL b (off + p.length)).drop (off + p.length) := by
  unfold writeL
  rw [if_neg]
  intro e; rw [e] at h; simp at h
/-- The row behind the copying. -/
theorem ObAt.copied {w : World} {r : Nat → Role} {p : Bool} {k : K4} {x : Nat} {av : Value} {o : Ob} {g cap : Nat} {cur : Array Value} {l2 d : List UInt8} {off : Nat} (h : ObAt w r p k x (.slice (some ⟨g, 0, .none⟩) l2.length cap) av { o with bytes := l2 })
    (hg : w.heap[g]? = some (.cells cur 5)) (hcap : l2.length ≤ cap ∧ cap ≤ maxLen ∧ cur.size = cap * 1 ∧ cur.toList.take (l2.length * 1) = l2.map B8) (hfit : off + d.length ≤ l2.length) :
    Fr w (w.setRow g (cur.toList.take off ++ (d.map B8 ++ cur.toList.drop (off + (d.map B8).length))).toArray) r r (byOf p k) ∧
    ObAt (w.setRow g (cur.toList.take off ++ (d.map B8 ++ cur.toList.drop (off + (d.map B8).length))).toArray) r p k x (.slice (some ⟨g, 0, .none⟩) l2.length cap) av { o with bytes := l2.take off ++ d ++ l2.drop (off + d.length) } := by
  obtain ⟨h1, h2, h3, h4⟩ := hcap
  have hrg : r g = .by p k := h.rrow g rfl
  have hf : Fr w (w.setRow g (cur.toList.take off ++ (d.map B8 ++ cur.toList.drop (off + (d.map B8).length))).toArray) r r (fun t => t = .by p k) := by
    refine ⟨rfl, rfl, rfl, by simp, fun b hb hn => setRow_other w g b _ (fun e => hn (by rw [e]; exact hrg)), fun _ _ => rfl⟩
  have hcl : cur.toList.length = cap := by simp; omega
  have hlen : (l2.take off ++ d ++ l2.drop (off + d.length)).length = l2.length := by simp; omega
  have hx : x ≠ g := fun e => by have := h.role; rw [e, hrg] at this; cases this
  refine ⟨hf.mono fun t ht => .inr ht, ⟨h.role, ?_, ?_, fun g2 hg2 => by cases hg2; exact hrg, h.attrs.fr hf (by simp) (by simp)⟩⟩
  · rw [hf.block x h.lt (by rw [h.role]; simp)]; exact h.heap
  · refine ⟨by simp, .inr ⟨g, cap, _, by rw [hlen], Nat.zero_le _, setRow_heap w g cur _ _ _ hg, by rw [hlen]; exact h1, h2, ?_, ?_⟩⟩
    · simp only [List.size_toArray, List.length_append, List.length_take, List.length_drop, List.length_map, hcl]
      omega
    · rw [hlen]
      simp only [Nat.mul_one, List.length_map] at h4 ⊢
      have e1 : cur.toList.take off = (l2.take off).map B8 := by
        rw [List.map_take, ← h4, List.take_take]
        congr 1; omega
      have e2 : (cur.toList.drop (off + d.length)).take (l2.length - (off + d.length)) = (l2.drop (off + d.length)).map B8 := by
        rw [List.map_drop, ← h4, List.drop_take]
      rw [e1]
      simp only [List.map_append, List.append_assoc]
      rw [List.take_append, List.take_append]
      have hl1 : ((l2.take off).map B8).length = off := by simp; omega
      rw [hl1, List.take_of_length_le (by rw [hl1]; omega)]
      congr 1
      have hl3 : (d.map B8).length = d.length := by simp
      rw [hl3, List.take_of_length_le (by rw [hl3]; omega)]
      congr 1
      rw [← e2]
      congr 1
      omega
set_option maxRecDepth 20000 in
/-- Of the object's own 'write'. -/
theorem obwrite_any (w : World) (r : Nat → Role) (p : Bool) (k : K4) (x : Nat) (o : Ob) (h : ObX w r p k x o) (hdom : Dom w r) (off : Nat) (ad : Option Addr) (cap n : Nat) (d : List UInt8)
    (hs : Row w ad cap d ∧ (∀ y, ad = some y → r y.block = .junk ∧ y.block < w.heap.size)) (hn : d.length = n) (hoff : off ≤ 20000) (hn2 : n ≤ 20000) (hl : o.bytes.length ≤ 20000) :
    Calls Try.prog 82 #[.pointer (some ⟨x, 0, .none⟩), .int .i64 off, .slice ad n cap] w fun e w' =>
      e = .returned (.tuple #[]) ∧ ∃ r', Fr w w' r r' (byOf p k) ∧ Dom w' r' ∧ ObX w' r' p k x (o.wr off d) := by
  have HX := Lib.hid h
  obtain ⟨bv, av, h⟩ := h
  have hx : x < w.heap.size := h.lt
  have HB := Lib.hid h
  have c0 : w.cell? ⟨x, 0, .none⟩ = some bv := cell_of_block h.heap rfl
  obtain ⟨q, hq⟩ : ∃ q, growN o.bytes off n = q := ⟨_, rfl⟩
  have HQ : Hid (growthI o off n = q) := Lib.hid (by rw [growthI_nat, ← hq]; rfl)
  have hql : o.bytes.length + q ≤ 1000000 := by unfold growN at hq; split at hq <;> omega
  have HL := Lib.hid hql
  obtain ⟨l2, hl2⟩ : ∃ l2, o.bytes ++ List.replicate q 0 = l2 := ⟨_, rfl⟩
  have HG := Lib.hid hq
  have H2 := Lib.hid hl2
  have HD := Lib.hid hdom
  have HS := Lib.hid hs
  clear h hq hql hs hdom hl2
  go_enter Try.func82, Try.ntmps82
  go_wp2_with fail
-- REG W0
  refine wp_region_ptab (L := fun ph => match ph with | 0 => [cV (.pointer (some ⟨x, 0, .none⟩)), cV (.pointer (some ⟨x, 0, .none⟩)), cV (.pointer (some ⟨x, 0, .none⟩)), cV (.pointer (some ⟨x, 0, .none⟩)), cV (bv), cV (.pointer (some ⟨x, 0, .none⟩)), cV (.int .i64 off), cV (.slice ad n cap), cV (.int .i64 n), cV (.int .i64 q), apV w r p k l2, cV (.pointer (some ⟨x, 0, .none⟩)), cV (.pointer (some ⟨x, 0, .none⟩)), tV] | 1 => [cV (.pointer (some ⟨x, 0, .none⟩)), cV (.pointer (some ⟨x, 0, .none⟩)), cV (.pointer (some ⟨x, 0, .none⟩)), cV (.pointer (some ⟨x, 0, .none⟩)), cV (bv), cV (.pointer (some ⟨x, 0, .none⟩)), cV (.int .i64 off), cV (.slice ad n cap), cV (.int .i64 n), cV (.int .i64 q), apV w r p k l2, cV (.pointer (some ⟨x, 0, .none⟩)), cV (.pointer (some ⟨x, 0, .none⟩)), tV] | _ => [cV (.pointer (some ⟨x, 0, .none⟩)), cV (.pointer (some ⟨x, 0, .none⟩)), cV (.pointer (some ⟨x, 0, .none⟩)), cV (.pointer (some ⟨x, 0, .none⟩)), cV (bv), cV (.pointer (some ⟨x, 0, .none⟩)), cV (.int .i64 off), cV (.slice ad n cap), cV (.int .i64 n), cV (.int .i64 q), tV, cV (.pointer (some ⟨x, 0, .none⟩)), cV (.pointer (some ⟨x, 0, .none⟩)), tV]) (jW w r p k x av o l2) [10, 13] [(0, 1), (0, 0), (0, 0), (0, 0), (0, 0), (0, 0), (0, 0), (0, 0), (0, 0), (0, 0), (0, 1), (0, 1), (0, 1), (1, 2)] [[(0, none)], [(0, none)], [(7, some 1)], [(8, some 2)], [(9, some 3)], [(0, none)], [(1, none)], [(2, none)], [(13, some 7)], [(11, some 5), (12, some 6), (14, some 8)], [(10, some 4), (15, some 9)], [(6, some 0)], [(17, some 11)], [(18, some 12), (16, some 10)]] 14 2 30 (by kernel_rfl) rfl rfl rfl (by kernel_rfl) (by kernel_rfl) (by decide) (by kernel_rfl) ?_ ?_ ?_ ?_ ?_
  · exact fun ph w1 w2 h hb => jW_st ph h hb
  · exact Below.refl _ _
  · show ∀ i, i < 14 → _
    iterate 14 (refine fls ?_ ?_)
    · exact fl0
    · intro hne lo hi ph hran hp1 hp2 a w1 hJ hsz hs      -- 0: slot 6
      obtain ⟨rfl, rfl⟩ : 0 = lo ∧ 1 = hi := Prod.mk.inj (Option.some.inj hran)
      rcases (by omega : ph = 0 ∨ ph = 1) with rfl | rfl
      · obtain ⟨h0, _⟩ := hs
        have h0 : a.tmps.getD 0 undef = .pointer (some ⟨x, 0, .none⟩) := h0
        refine op_run rfl rfl (v := .pointer (some ⟨x, 0, .none⟩)) (w' := w1) ?_ rfl (Below.refl _ _)
        simp [execOp, Act.eval, h0, go_sem]
      · obtain ⟨h0, _⟩ := hs
        have h0 : a.tmps.getD 0 undef = .pointer (some ⟨x, 0, .none⟩) := h0
        refine op_run rfl rfl (v := .pointer (some ⟨x, 0, .none⟩)) (w' := w1) ?_ rfl (Below.refl _ _)
        simp [execOp, Act.eval, h0, go_sem]
    · intro hne lo hi ph hran hp1 hp2 a w1 hJ hsz hs      -- 1: slot 7
      obtain ⟨rfl, rfl⟩ : 0 = lo ∧ 0 = hi := Prod.mk.inj (Option.some.inj hran)
      obtain rfl : ph = 0 := by omega
      obtain ⟨h0, _⟩ := hs
      have h0 : a.tmps.getD 0 undef = .pointer (some ⟨x, 0, .none⟩) := h0
      refine op_run rfl rfl (v := .pointer (some ⟨x, 0, .none⟩)) (w' := w1) ?_ rfl (Below.refl _ _)
      simp [execOp, Act.eval, h0, go_sem]
    · intro hne lo hi ph hran hp1 hp2 a w1 hJ hsz hs      -- 2: slot 8
      obtain ⟨rfl, rfl⟩ : 0 = lo ∧ 0 = hi := Prod.mk.inj (Option.some.inj hran)
      obtain rfl : ph = 0 := by omega
      obtain ⟨h0, _⟩ := hs
      have h0 : a.tmps.getD 7 undef = .pointer (some ⟨x, 0, .none⟩) := h0
      refine op_run rfl rfl (v := .pointer (some ⟨x, 0, .none⟩)) (w' := w1) ?_ rfl (Below.refl _ _)
      simp [execOp, Act.eval, h0, go_sem]
    · intro hne lo hi ph hran hp1 hp2 a w1 hJ hsz hs      -- 3: slot 9
      obtain ⟨rfl, rfl⟩ : 0 = lo ∧ 0 = hi := Prod.mk.inj (Option.some.inj hran)
      obtain rfl : ph = 0 := by omega
      obtain ⟨h0, _⟩ := hs
      have h0 : a.tmps.getD 8 undef = .pointer (some ⟨x, 0, .none⟩) := h0
      refine op_run rfl rfl (v := .pointer (some ⟨x, 0, .none⟩)) (w' := w1) ?_ rfl (Below.refl _ _)
      simp [execOp, Act.eval, h0, go_sem]
    · intro hne lo hi ph hran hp1 hp2 a w1 hJ hsz hs      -- 4: slot 10
      obtain ⟨rfl, rfl⟩ : 0 = lo ∧ 0 = hi := Prod.mk.inj (Option.some.inj hran)
      obtain rfl : ph = 0 := by omega
      obtain ⟨h0, _⟩ := hs
      have h0 : a.tmps.getD 9 undef = .pointer (some ⟨x, 0, .none⟩) := h0
      have c := (Below.cell hJ (p := ⟨x, 0, .none⟩) hx).trans c0
      refine op_run rfl rfl (v := bv) (w' := w1) ?_ rfl (Below.refl _ _)
      simp [execOp, Act.eval, h0, c, go_sem]
    · intro hne lo hi ph hran hp1 hp2 a w1 hJ hsz hs      -- 5: slot 11
      obtain ⟨rfl, rfl⟩ : 0 = lo ∧ 0 = hi := Prod.mk.inj (Option.some.inj hran)
      obtain rfl : ph = 0 := by omega
      obtain ⟨h0, _⟩ := hs
      have h0 : a.tmps.getD 0 undef = .pointer (some ⟨x, 0, .none⟩) := h0
      refine op_run rfl rfl (v := .pointer (some ⟨x, 0, .none⟩)) (w' := w1) ?_ rfl (Below.refl _ _)
      simp [execOp, Act.eval, h0, go_sem]
    · intro hne lo hi ph hran hp1 hp2 a w1 hJ hsz hs      -- 6: slot 12
      obtain ⟨rfl, rfl⟩ : 0 = lo ∧ 0 = hi := Prod.mk.inj (Option.some.inj hran)
      obtain rfl : ph = 0 := by omega
      obtain ⟨h0, _⟩ := hs
      have h0 : a.tmps.getD 1 undef = .int .i64 off := h0
      refine op_run rfl rfl (v := .int .i64 off) (w' := w1) ?_ rfl (Below.refl _ _)
      simp [execOp, Act.eval, h0, go_sem]
    · intro hne lo hi ph hran hp1 hp2 a w1 hJ hsz hs      -- 7: slot 13
      obtain ⟨rfl, rfl⟩ : 0 = lo ∧ 0 = hi := Prod.mk.inj (Option.some.inj hran)
      obtain rfl : ph = 0 := by omega
      obtain ⟨h0, _⟩ := hs
      have h0 : a.tmps.getD 2 undef = .slice ad n cap := h0
      refine op_run rfl rfl (v := .slice ad n cap) (w' := w1) ?_ rfl (Below.refl _ _)
      simp [execOp, Act.eval, h0, go_sem]
    · intro hne lo hi ph hran hp1 hp2 a w1 hJ hsz hs      -- 8: slot 14
      obtain ⟨rfl, rfl⟩ : 0 = lo ∧ 0 = hi := Prod.mk.inj (Option.some.inj hran)
      obtain rfl : ph = 0 := by omega
      obtain ⟨h0, _⟩ := hs
      have h0 : a.tmps.getD 13 undef = .slice ad n cap := h0
      refine op_run rfl rfl (v := .int .i64 n) (w' := w1) ?_ rfl (Below.refl _ _)
      simp [execOp, Act.eval, h0, go_sem]
    · intro hne lo hi ph hran hp1 hp2 a w1 hJ hsz hs      -- 9: slot 15
      obtain ⟨rfl, rfl⟩ : 0 = lo ∧ 0 = hi := Prod.mk.inj (Option.some.inj hran)
      obtain rfl : ph = 0 := by omega
      obtain ⟨h0, h1, h2, _⟩ := hs
      have h0 : a.tmps.getD 11 undef = .pointer (some ⟨x, 0, .none⟩) := h0
      have h1 : a.tmps.getD 12 undef = .int .i64 off := h1
      have h2 : a.tmps.getD 14 undef = .int .i64 n := h2
      refine op_call rfl rfl (f := 62) (args := #[.pointer (some ⟨x, 0, .none⟩), .int .i64 off, .int .i64 n]) (by simp [execOp, Act.eval, resolve, h0, h1, h2, go_sem]) ?_
      exact (growth_any w1 r p k x o (HX.out.fr (Fr.of_below hJ r (fun _ => False)) (fun _ _ h => h) (fun h => h)) off n (by omega) (by omega) (by omega) (by omega) (by omega)).mono fun e w' h => by
        obtain ⟨rfl, rfl⟩ := h
        rw [HQ.out]
        exact ⟨_, rfl, rfl, Below.refl _ _⟩
    · intro hne lo hi ph hran hp1 hp2 a w1 hJ hsz hs      -- 10: slot 16
      exact absurd (by decide) hne
    · intro hne lo hi ph hran hp1 hp2 a w1 hJ hsz hs      -- 11: slot 17
      obtain ⟨rfl, rfl⟩ : 0 = lo ∧ 1 = hi := Prod.mk.inj (Option.some.inj hran)
      rcases (by omega : ph = 0 ∨ ph = 1) with rfl | rfl
      · obtain ⟨h0, _⟩ := hs
        have h0 : a.tmps.getD 6 undef = .pointer (some ⟨x, 0, .none⟩) := h0
        refine op_run rfl rfl (v := .pointer (some ⟨x, 0, .none⟩)) (w' := w1) ?_ rfl (Below.refl _ _)
        simp [execOp, Act.eval, h0, go_sem]
      · obtain ⟨h0, _⟩ := hs
        have h0 : a.tmps.getD 6 undef = .pointer (some ⟨x, 0, .none⟩) := h0
        refine op_run rfl rfl (v := .pointer (some ⟨x, 0, .none⟩)) (w' := w1) ?_ rfl (Below.refl _ _)
        simp [execOp, Act.eval, h0, go_sem]
    · intro hne lo hi ph hran hp1 hp2 a w1 hJ hsz hs      -- 12: slot 18
      obtain ⟨rfl, rfl⟩ : 0 = lo ∧ 1 = hi := Prod.mk.inj (Option.some.inj hran)
      rcases (by omega : ph = 0 ∨ ph = 1) with rfl | rfl
      · obtain ⟨h0, _⟩ := hs
        have h0 : a.tmps.getD 17 undef = .pointer (some ⟨x, 0, .none⟩) := h0
        refine op_run rfl rfl (v := .pointer (some ⟨x, 0, .none⟩)) (w' := w1) ?_ rfl (Below.refl _ _)
        simp [execOp, Act.eval, h0, go_sem]
      · obtain ⟨h0, _⟩ := hs
        have h0 : a.tmps.getD 17 undef = .pointer (some ⟨x, 0, .none⟩) := h0
        refine op_run rfl rfl (v := .pointer (some ⟨x, 0, .none⟩)) (w' := w1) ?_ rfl (Below.refl _ _)
        simp [execOp, Act.eval, h0, go_sem]
    · intro hne lo hi ph hran hp1 hp2 a w1 hJ hsz hs      -- 13: slot None
      exact absurd (by decide) hne
  · show ∀ ph, ph < 2 → _
    iterate 2 (refine fls ?_ ?_)
    · exact fl0
    · intro i hi a w1 hJ hsz hs      -- heavy 0: op 10 slot 16
      obtain rfl : 10 = i := Option.some.inj hi
      obtain ⟨h0, h1, _⟩ := hs
      have h0 : a.tmps.getD 10 undef = bv := h0
      have h1 : a.tmps.getD 15 undef = .int .i64 q := h1
      have hcalm : ∀ (w1 w2 : World) (kk : Nat) (v0 : Value), kk ≠ 10 → VL [cV (.pointer (some ⟨x, 0, .none⟩)), cV (.pointer (some ⟨x, 0, .none⟩)), cV (.pointer (some ⟨x, 0, .none⟩)), cV (.pointer (some ⟨x, 0, .none⟩)), cV (bv), cV (.pointer (some ⟨x, 0, .none⟩)), cV (.int .i64 off), cV (.slice ad n cap), cV (.int .i64 n), cV (.int .i64 q), apV w r p k l2, cV (.pointer (some ⟨x, 0, .none⟩)), cV (.pointer (some ⟨x, 0, .none⟩)), tV] kk w1 v0 → VL [cV (.pointer (some ⟨x, 0, .none⟩)), cV (.pointer (some ⟨x, 0, .none⟩)), cV (.pointer (some ⟨x, 0, .none⟩)), cV (.pointer (some ⟨x, 0, .none⟩)), cV (bv), cV (.pointer (some ⟨x, 0, .none⟩)), cV (.int .i64 off), cV (.slice ad n cap), cV (.int .i64 n), cV (.int .i64 q), apV w r p k l2, cV (.pointer (some ⟨x, 0, .none⟩)), cV (.pointer (some ⟨x, 0, .none⟩)), tV] kk w2 v0 := Calm.all (n := 0) ⟨.inl ⟨_, rfl, rfl⟩, .inl ⟨_, rfl, rfl⟩, .inl ⟨_, rfl, rfl⟩, .inl ⟨_, rfl, rfl⟩, .inl ⟨_, rfl, rfl⟩, .inl ⟨_, rfl, rfl⟩, .inl ⟨_, rfl, rfl⟩, .inl ⟨_, rfl, rfl⟩, .inl ⟨_, rfl, rfl⟩, .inl ⟨_, rfl, rfl⟩, .inr (.inr rfl), .inl ⟨_, rfl, rfl⟩, .inl ⟨_, rfl, rfl⟩, .inr (.inl rfl), trivial⟩
      obtain ⟨v', w', hr, hB, hg, hat⟩ := apV_run (w1 := w1) HB.out hJ HL.out
      rw [H2.out] at hB
      refine hv_run rfl rfl (v := v') (w' := w') ?_ (apV_of HB.out HD.out hJ hB hg hat) trivial (hcalm _ _)
      exact exec_append rfl (by simp [Act.eval, h0]) (by simp [Act.eval, h1]) hr
    · intro i hi a w1 hJ hsz hs      -- heavy 1: op 13 slot None
      obtain rfl : 13 = i := Option.some.inj hi
      obtain ⟨h0, h1, _⟩ := hs
      have h0 : a.tmps.getD 18 undef = .pointer (some ⟨x, 0, .none⟩) := h0
      obtain ⟨v1, e1, m1⟩ : ∃ v, a.tmps.getD 16 undef = v ∧ (apV w r p k l2).p w1 v := ⟨_, rfl, h1⟩
      have hcalm : ∀ (w1 w2 : World) (kk : Nat) (v0 : Value), kk ≠ 13 → VL [cV (.pointer (some ⟨x, 0, .none⟩)), cV (.pointer (some ⟨x, 0, .none⟩)), cV (.pointer (some ⟨x, 0, .none⟩)), cV (.pointer (some ⟨x, 0, .none⟩)), cV (bv), cV (.pointer (some ⟨x, 0, .none⟩)), cV (.int .i64 off), cV (.slice ad n cap), cV (.int .i64 n), cV (.int .i64 q), apV w r p k l2, cV (.pointer (some ⟨x, 0, .none⟩)), cV (.pointer (some ⟨x, 0, .none⟩)), tV] kk w1 v0 → VL [cV (.pointer (some ⟨x, 0, .none⟩)), cV (.pointer (some ⟨x, 0, .none⟩)), cV (.pointer (some ⟨x, 0, .none⟩)), cV (.pointer (some ⟨x, 0, .none⟩)), cV (bv), cV (.pointer (some ⟨x, 0, .none⟩)), cV (.int .i64 off), cV (.slice ad n cap), cV (.int .i64 n), cV (.int .i64 q), tV, cV (.pointer (some ⟨x, 0, .none⟩)), cV (.pointer (some ⟨x, 0, .none⟩)), tV] kk w2 v0 := Calm.all (n := 0) ⟨.inl ⟨_, rfl, rfl⟩, .inl ⟨_, rfl, rfl⟩, .inl ⟨_, rfl, rfl⟩, .inl ⟨_, rfl, rfl⟩, .inl ⟨_, rfl, rfl⟩, .inl ⟨_, rfl, rfl⟩, .inl ⟨_, rfl, rfl⟩, .inl ⟨_, rfl, rfl⟩, .inl ⟨_, rfl, rfl⟩, .inl ⟨_, rfl, rfl⟩, .inr (.inl rfl), .inl ⟨_, rfl, rfl⟩, .inl ⟨_, rfl, rfl⟩, .inr (.inr rfl), trivial⟩
      obtain ⟨aa, nn, ca, rfl⟩ := apV_slice m1
      refine hv_skip rfl rfl (w' := w1.setCell ⟨x, 0, .none⟩ (.slice aa nn ca)) ?_ trivial (jW_store HB.out m1) (hcalm _ _)
      obtain ⟨cc, cf⟩ := apV_cells HB.out m1
      simp [execOp, Act.eval, h0, e1, go_sem, cc, cf]
  · intro f w1 hJ hv
    simp only [Exit.then]
    simp only [putAll, List.foldl_cons, List.foldl_nil, Option.getD_some, Act.put, List.setIfInBounds_toArray, List.set_cons_succ, List.set_cons_zero]
    clear hv c0 hx HB
    obtain ⟨r', b2, h1, h2, h3⟩ := hJ
    have hrow : Row w1 ad cap d := HS.out.1.keep fun y hy hlt => h1.block _ hlt (by rw [(HS.out.2 y hy).1]; exact byOf_junk p k)
    have HF := Lib.hid (And.intro h1 (And.intro h2 h3))
    have hx : x < w1.heap.size := h3.lt
    have c0 : w1.cell? ⟨x, 0, .none⟩ = some b2 := cell_of_block h3.heap rfl
    rcases Nat.eq_zero_or_pos n with hz | hpos
    · subst hz
      obtain rfl : d = [] := List.length_eq_zero_iff.1 hn
      have e2 : l2 = o.bytes := by rw [← H2.out, ← HG.out]; simp [growN]
      clear h1 h2 h3 hrow hn hn2
      go_wp2_with fail
      go_end0
      refine ⟨rfl, r', HF.out.1, HF.out.2.1, b2, av, ?_⟩
      have h4 := HF.out.2.2
      rw [e2] at h4
      unfold Ob.wr
      rw [writeL_nil]; exact h4
    · have e2 : l2 = padL o.bytes (off + d.length) := by rw [← H2.out, ← HG.out]; unfold growN padL; rw [if_neg (by omega), hn]
      have hl2 : off + d.length ≤ l2.length := by rw [e2]; unfold padL; simp; omega
      have hl3 : l2.length ≤ 100000 := by rw [e2]; unfold padL; simp; omega
      rcases h3.row.2 with ⟨_, hbad⟩ | ⟨g, cap2, cur, e3, _, hg, hc1, hc2, hc3, hc4⟩
      · simp only at hbad; omega
      have HC := Lib.hid (And.intro hc1 (And.intro hc2 (And.intro hc3 hc4)))
      obtain ⟨m, hm⟩ : ∃ m, l2.length = m := ⟨_, rfl⟩
      simp only [hm] at e3 hl2 hl3
      subst e3
      obtain ⟨ay, rfl⟩ : ∃ y, ad = some y := by
        rcases row_nil_or' hrow with ⟨_, h, _⟩ | h
        · rw [h] at hn; simp at hn; omega
        · exact h
      have hdl : (d.map B8).length = n := by simp [hn]
      have hsrc : ∀ j v, (d.map B8)[j]? = some v → w1.cell? (ay.add j) = some v := by
        intro j v hv2
        rw [List.getElem?_map] at hv2
        cases hj : d[j]? with
        | none => rw [hj] at hv2; cases hv2
        | some u => rw [hj] at hv2; simp at hv2; subst hv2; exact hrow.2.2.2 ay rfl j u hj
      have hcs : cur.size = cap2 := by omega
      have hmc : m ≤ cap2 := by simp only [hm] at hc1; exact hc1
      have hone : ∀ v ∈ d.map B8, v.oneCell' = true := by intro v hv2; simp at hv2; obtain ⟨u, _, rfl⟩ := hv2; rfl
      have hi8 : (Try.prog.info? 5).map (·.size) = some 1 := by kernel_rfl
      clear h1 h2 h3 hrow hc1 hc2 hc3 hc4 HX HQ HL HD
      have HE := Lib.hid e2
      have HM := Lib.hid hm
      clear e2 hm
      have HDL := Lib.hid hdl
      have HSR := Lib.hid hsrc
      have HON := Lib.hid hone
      have HI8 := Lib.hid hi8
      clear hdl hsrc hone hi8
      have HG2 := Lib.hid hg
      have HCS := Lib.hid hcs
      clear hg hcs
      go_wp2_with fail
      have hrun := run_copy_row (P := Try.prog) w1 31 31 3 5 g off (m - off) (cap2 - off) ay n cap cur 5 (d.map B8) Try.underlying31 HI8.out HG2.out (by rw [HDL.out]; exact (Nat.min_eq_left (by omega)).symm) HSR.out (by rw [HDL.out, HCS.out]; omega) HON.out
      rw [hrun]
      simp only [Result.andThen]
      rw [Oper.upon_value]
      clear hrun
      go_wp2_with fail
      go_end0
      have hfit : off + d.length ≤ l2.length := by rw [HM.out]; exact hl2
      have h3 := HF.out.2.2
      have h4 := ObAt.copied (g := g) (cap := cap2) (cur := cur) (l2 := l2) (d := d) (off := off) (by rw [HM.out]; exact h3) HG2.out HC.out hfit
      rw [HDL.out] at h4
      have e9 : o.wr off d = { o with bytes := l2.take off ++ d ++ l2.drop (off + d.length) } := by
        unfold Ob.wr
        rw [writeL_pos _ _ _ (by omega), ← HE.out]
      rw [e9]
      exact ⟨rfl, r', HF.out.1.trans h4.1, HF.out.2.1.later h4.1.size, _, _, h4.2⟩
-- END W0
end Go.Proofs.Ytgjdabneodkmpaa
