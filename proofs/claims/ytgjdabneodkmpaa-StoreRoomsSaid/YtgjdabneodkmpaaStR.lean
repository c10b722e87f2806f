/- How keys are ordered ('rising'), and slices of keys sorted. -/
import Derived.Test.YtgjdabneodkmpaaStK
import Derived.Shelf.SlSortCmp.WholeK
import Derived.Lib.Small
namespace Go.Proofs.Ytgjdabneodkmpaa
open Go.RowKit Go.Proofs Go.Shelf Go.Sort
set_option linter.unusedVariables false

/-! ### regions that draw, and lay new blocks: what the world then is, written out -/
def GrR (w w' : World) : Prop := ∃ q os, w' = grow (w.drewN q) os
theorem GrR.refl (w : World) : GrR w w := ⟨0, #[], by rw [grow_empty]; rfl⟩
theorem drewN_grow (w : World) (os : Array Obj) (q : Nat) : (grow w os).drewN q = grow (w.drewN q) os := rfl
theorem drewN_drewN' (w : World) (q r : Nat) : (w.drewN q).drewN r = w.drewN (q + r) := by simp [World.drewN, Nat.add_assoc]
theorem GrR.trans {a b c : World} (h : GrR a b) (k : GrR b c) : GrR a c := by
  obtain ⟨q, os, rfl⟩ := h
  obtain ⟨r, os', rfl⟩ := k
  exact ⟨q + r, os ++ os', by rw [drewN_grow, drewN_drewN', grow_grow]⟩
theorem GrR.alloc (w : World) (o : Obj) : GrR w (w.alloc o) := ⟨0, #[o], by rw [alloc_eq_grow]; rfl⟩
theorem GrR.below {w w' : World} (h : GrR w w') : RowKit.Below w.heap.size w w' := by
  obtain ⟨q, os, rfl⟩ := h
  refine ⟨rfl, rfl, rfl, by simp [grow, World.drewN], fun k hk => ?_⟩
  simp [grow, World.drewN, Array.getElem?_append, hk]
theorem GrR.drew (w : World) : GrR w w.drew := ⟨1, #[], by rw [grow_empty]; rfl⟩

def OpGoalG (P : Program) (ops : Array Oper) (Q : Exit → Act → World → Prop) (L : List SV) (i : Nat) (a : Act) (w : World) : Prop :=
  wpOp P ops Q i (fun a' w' => ∃ o v, ops[i]? = some o ∧ a' = a.put o.dst v ∧ VL L i w' v ∧ GrR w w') a w
theorem wp_region_tabG {P : Program} {ops : Array Oper} {Q : Exit → Act → World → Prop} {a0 : Act} {w0 : World} {id : Nat} (L : List SV) (tab : List (List (Nat × Option Nat))) (n size : Nat)
    (hm : P.follows .mixedOrders = true) (hn : ops.size = n) (hsize : a0.tmps.size = size) (hok : freeOk ops size = true) (htab : table ops = tab)
    (hop : ∀ i, i < n → ∀ a w, GrR w0 w → a.tmps.size = size → SeesL (VL L) a0 a w (tab.getD i []) → OpGoalG P ops Q L i a w)
    (hend : ∀ (f : Nat → Value) w, GrR w0 w → (∀ i o d, ops[i]? = some o → o.dst = some d → VL L i w (f d)) → Q .normal (putAll ops f a0) w) :
    (Code.region id ops true).wp P Q a0 w0 := by
  subst hn hsize
  refine wp_region_free (VL L) GrR hm hok (fun i w w' v h hb => VL_st L i w w' v h hb.below) (fun x y z h1 h2 => h1.trans h2) (GrR.drew w0) ?_ hend
  intro i hi a w hR hS
  refine hop i hi a w hR hS.2.1 ?_
  have h := seesL_of hS
  have e : tab.getD i [] = ((((ops[i]?).map fun o => o.looksAt ops).getD []).map fun t => (t, srcOf ops i t)) := by
    rw [← htab]
    unfold table
    rw [List.getD_eq_getElem?_getD, List.getElem?_map, List.getElem?_range hi]
    rfl
  rw [e]; exact h
section
variable {P : Program} {ops : Array Oper} {Q : Exit → Act → World → Prop} {L : List SV} {i : Nat} {a : Act} {w : World} {o : Oper}
theorem op_runG (hi : ops[i]? = some o) (hg : o.guard = none) {v : Value} {w' : World} (hrun : (execOp a.eval o).run P w = .ok (.value v) w') (hv : VL L i w' v) (hR : GrR w w') : OpGoalG P ops Q L i a w := by
  unfold OpGoalG wpOp
  simp only [hi]
  have : Region.wanted o (yielded ops a.tmps) = true := by unfold Region.wanted; rw [hg]
  rw [if_pos this]
  refine .inl ?_
  unfold Oper.wp
  rw [hrun]
  exact ⟨o, v, rfl, rfl, hv, hR⟩
theorem op_callG (hi : ops[i]? = some o) (hg : o.guard = none) {f : FuncId} {args : Array Value} (hrun : (execOp a.eval o).run P w = .ok (.enter f args) w)
    (hc : Calls P f args w fun e w' => ∃ v, e = .returned v ∧ VL L i w' v ∧ GrR w w') : OpGoalG P ops Q L i a w := by
  unfold OpGoalG wpOp
  simp only [hi]
  have : Region.wanted o (yielded ops a.tmps) = true := by unfold Region.wanted; rw [hg]
  rw [if_pos this]
  refine .inl ?_
  unfold Oper.wp
  rw [hrun]
  refine Calls.mono hc fun e w' ⟨v, he, hv, hR⟩ => ?_
  subst he
  exact ⟨o, v, rfl, rfl, hv, hR⟩
end

/-! ### cmp.Compare, cmp.Or -/
theorem isNaN_any (x : Int) (w : World) : Calls Try.prog 86 #[.int .i64 x] w fun e w' => e = .returned (.bool false) ∧ w = w' := by
  go_enter Try.func86, Try.ntmps86
  go_wp2_with fail
  go_ret
  refine ⟨?_, rfl⟩
  simp
theorem compare_any (x y : Int) (w : World) : Calls Try.prog 66 #[.int .i64 x, .int .i64 y] w fun e w' => e = .returned (.int .i64 (Lib.compareInt x y)) ∧ w = w' := by
  obtain ⟨c, hc⟩ : ∃ c, Lib.compareInt x y = c := ⟨_, rfl⟩
  rw [hc]
  have HC := Lib.hid hc
  clear hc
  go_enter Try.func66, Try.ntmps66
  go_wp2_with fail
  refine (isNaN_any x w).mono ?_
  rintro e w' ⟨rfl, rfl⟩
  go_wp2_with fail
  refine (isNaN_any y w).mono ?_
  rintro e w' ⟨rfl, rfl⟩
  rcases Int.lt_trichotomy x y with h | h | h
  · have hd : ¬ y < x := by omega
    go_wp2_with fail
    go_ret
    refine ⟨?_, rfl⟩
    rw [← HC.out]
    simp [Lib.compareInt, h]
  · subst h
    go_wp2_with fail
    go_ret
    refine ⟨?_, rfl⟩
    rw [← HC.out]
    simp [Lib.compareInt]
  · have hd : ¬ x < y := by omega
    go_wp2_with fail
    go_ret
    refine ⟨?_, rfl⟩
    rw [← HC.out]
    simp [Lib.compareInt, hd, h]
def orI (a b c d : Int) : Int := if a ≠ 0 then a else if b ≠ 0 then b else if c ≠ 0 then c else d
theorem or_any (a b c d : Int) (x : Nat) (w : World) (h : w.heap[x]? = some (.cells #[.int .i64 a, .int .i64 b, .int .i64 c, .int .i64 d] 3)) :
    Calls Try.prog 65 #[.slice (some ⟨x, 0, none⟩) 4 4] w fun e w' => e = .returned (.int .i64 (orI a b c d)) ∧ w = w' := by
  obtain ⟨r, hr⟩ : ∃ r, orI a b c d = r := ⟨_, rfl⟩
  rw [hr]
  have HR := Lib.hid hr
  have c0 : w.cell? ⟨x, 0, .none⟩ = some (.int .i64 a) := cell_of_block h rfl
  have c1 : w.cell? ⟨x, 1, .none⟩ = some (.int .i64 b) := cell_of_block h rfl
  have c2 : w.cell? ⟨x, 2, .none⟩ = some (.int .i64 c) := cell_of_block h rfl
  have c3 : w.cell? ⟨x, 3, .none⟩ = some (.int .i64 d) := cell_of_block h rfl
  clear hr h
  go_enter Try.func65, Try.ntmps65
  go_wp2
  refine wp_loop_rounds 5 ?_
  rw [rounds_succ]
  by_cases ha : a = 0
  · subst ha
    go_wp2
    rw [rounds_succ]
    by_cases hb : b = 0
    · subst hb
      go_wp2
      rw [rounds_succ]
      by_cases hc : c = 0
      · subst hc
        go_wp2
        rw [rounds_succ]
        by_cases hd : d = 0
        · subst hd
          go_wp2
          rw [rounds_succ]
          go_wp2
          go_ret
          refine ⟨?_, rfl⟩
          rw [← HR.out]
          simp [orI]
        · go_wp2
          go_ret
          refine ⟨?_, rfl⟩
          rw [← HR.out]
          simp [orI]
      · go_wp2
        go_ret
        refine ⟨?_, rfl⟩
        rw [← HR.out]
        simp [orI, hc]
    · go_wp2
      go_ret
      refine ⟨?_, rfl⟩
      rw [← HR.out]
      simp [orI, hb]
  · go_wp2
    go_ret
    refine ⟨?_, rfl⟩
    rw [← HR.out]
    simp [orI, ha]

/-! ### rising -/
def cmpK (x y : K4) : Int := orI (Lib.compareInt x.a y.a) (Lib.compareInt x.b y.b) (Lib.compareInt x.c y.c) (Lib.compareInt x.d y.d)
def c4V (a b c d : Int) : SV := ⟨fun w v => ∃ z, v = .slice (some ⟨z, 0, .none⟩) 4 4 ∧ w.heap[z]? = some (.cells #[.int .i64 a, .int .i64 b, .int .i64 c, .int .i64 d] 3),
  fun w w' v ⟨z, h1, h2⟩ hb => ⟨z, h1, by rw [hb.block z (Array.getElem?_eq_some_iff.1 h2).1]; exact h2⟩⟩
set_option maxRecDepth 20000 in
theorem rising_any (x y : K4) (w : World) : Calls Try.prog 40 #[kv x, kv y] w fun e w' => e = .returned (.int .i64 (cmpK x y)) ∧ GrR w w' := by
  obtain ⟨w1, hw1⟩ : ∃ w1, (w.alloc (.cells #[.int .i64 x.a, .int .i64 x.b, .int .i64 x.c, .int .i64 x.d] 27)).alloc (.cells #[.int .i64 y.a, .int .i64 y.b, .int .i64 y.c, .int .i64 y.d] 27) = w1 := ⟨_, rfl⟩
  have HG : Hid (GrR w w1) := Lib.hid (by rw [← hw1]; exact (GrR.alloc _ _).trans (GrR.alloc _ _))
  have HX : Hid (KeyAt w1 w.heap.size x) := Lib.hid (by rw [← hw1]; exact (KeyAt.new w x).later ((RowKit.Below.refl _ _).alloc (Nat.le_refl _) _))
  have HY : Hid (KeyAt w1 (w.heap.size + 1) y) := Lib.hid (by
    have h2 := KeyAt.new (w.alloc (.cells #[.int .i64 x.a, .int .i64 x.b, .int .i64 x.c, .int .i64 x.d] 27)) y
    have e : (w.alloc (.cells #[.int .i64 x.a, .int .i64 x.b, .int .i64 x.c, .int .i64 x.d] 27)).heap.size = w.heap.size + 1 := by simp
    rw [e] at h2
    rw [← hw1]; exact h2)
  unfold kv
  go_enter Try.func40, Try.ntmps40
  go_upto_region 1 with fail
  clear hw1
-- REG R1
  refine wp_region_tabG (L := [cV (.pointer (some ⟨w.heap.size, 0, .none⟩)), cV (.int .i64 x.a), cV (.pointer (some ⟨w.heap.size + 1, 0, .none⟩)), cV (.int .i64 y.a), cV (.int .i64 (Lib.compareInt x.a y.a)), cV (.pointer (some ⟨w.heap.size, 1, .none⟩)), cV (.int .i64 x.b), cV (.pointer (some ⟨w.heap.size + 1, 1, .none⟩)), cV (.int .i64 y.b), cV (.int .i64 (Lib.compareInt x.b y.b)), cV (.pointer (some ⟨w.heap.size, 2, .none⟩)), cV (.int .i64 x.c), cV (.pointer (some ⟨w.heap.size + 1, 2, .none⟩)), cV (.int .i64 y.c), cV (.int .i64 (Lib.compareInt x.c y.c)), cV (.pointer (some ⟨w.heap.size, 3, .none⟩)), cV (.int .i64 x.d), cV (.pointer (some ⟨w.heap.size + 1, 3, .none⟩)), cV (.int .i64 y.d), cV (.int .i64 (Lib.compareInt x.d y.d)), c4V (Lib.compareInt x.a y.a) (Lib.compareInt x.b y.b) (Lib.compareInt x.c y.c) (Lib.compareInt x.d y.d), cV (.int .i64 (cmpK x y)), cV (.int .i64 (cmpK x y))]) [[(2, none)], [(5, some 0)], [(3, none)], [(7, some 2)], [(6, some 1), (8, some 3)], [(2, none)], [(10, some 5)], [(3, none)], [(12, some 7)], [(11, some 6), (13, some 8)], [(2, none)], [(15, some 10)], [(3, none)], [(17, some 12)], [(16, some 11), (18, some 13)], [(2, none)], [(20, some 15)], [(3, none)], [(22, some 17)], [(21, some 16), (23, some 18)], [(9, some 4), (14, some 9), (19, some 14), (24, some 19)], [(25, some 20)], [(26, some 21)]] 23 27 (by kernel_rfl) rfl rfl (by kernel_rfl) (by kernel_rfl) ?_ ?_
  · show ∀ i, i < 23 → _
    iterate 23 (refine fls ?_ ?_)
    · exact fl0
    · intro a w1 hR hsz hs      -- 0: slot 5
      obtain ⟨h0, _⟩ := hs
      have h0 : a.tmps.getD 2 undef = .pointer (some ⟨w.heap.size, 0, .none⟩) := h0
      refine op_runG rfl rfl (v := .pointer (some ⟨w.heap.size, 0, .none⟩)) (w' := w1) ?_ rfl (GrR.refl _)
      simp [execOp, Act.eval, h0, go_sem]
    · intro a w1 hR hsz hs      -- 1: slot 6
      obtain ⟨h0, _⟩ := hs
      have h0 : a.tmps.getD 5 undef = .pointer (some ⟨w.heap.size, 0, .none⟩) := h0
      obtain ⟨q0, q1, q2, q3⟩ := (HX.out.later hR.below).cells
      refine op_runG rfl rfl (v := .int .i64 x.a) (w' := w1) ?_ rfl (GrR.refl _)
      simp [execOp, Act.eval, h0, q0, go_sem]
    · intro a w1 hR hsz hs      -- 2: slot 7
      obtain ⟨h0, _⟩ := hs
      have h0 : a.tmps.getD 3 undef = .pointer (some ⟨w.heap.size + 1, 0, .none⟩) := h0
      refine op_runG rfl rfl (v := .pointer (some ⟨w.heap.size + 1, 0, .none⟩)) (w' := w1) ?_ rfl (GrR.refl _)
      simp [execOp, Act.eval, h0, go_sem]
    · intro a w1 hR hsz hs      -- 3: slot 8
      obtain ⟨h0, _⟩ := hs
      have h0 : a.tmps.getD 7 undef = .pointer (some ⟨w.heap.size + 1, 0, .none⟩) := h0
      obtain ⟨q0, q1, q2, q3⟩ := (HY.out.later hR.below).cells
      refine op_runG rfl rfl (v := .int .i64 y.a) (w' := w1) ?_ rfl (GrR.refl _)
      simp [execOp, Act.eval, h0, q0, go_sem]
    · intro a w1 hR hsz hs      -- 4: slot 9
      obtain ⟨h0, h1, _⟩ := hs
      have h0 : a.tmps.getD 6 undef = .int .i64 x.a := h0
      have h1 : a.tmps.getD 8 undef = .int .i64 y.a := h1
      refine op_callG rfl rfl (f := 66) (args := #[.int .i64 x.a, .int .i64 y.a]) (by simp [execOp, Act.eval, resolve, h0, h1, go_sem]) ?_
      exact (compare_any _ _ _).mono (fun e w' ⟨h1, h2⟩ => ⟨_, h1, rfl, h2 ▸ GrR.refl _⟩)
    · intro a w1 hR hsz hs      -- 5: slot 10
      obtain ⟨h0, _⟩ := hs
      have h0 : a.tmps.getD 2 undef = .pointer (some ⟨w.heap.size, 0, .none⟩) := h0
      refine op_runG rfl rfl (v := .pointer (some ⟨w.heap.size, 1, .none⟩)) (w' := w1) ?_ rfl (GrR.refl _)
      simp [execOp, Act.eval, h0, go_sem]
    · intro a w1 hR hsz hs      -- 6: slot 11
      obtain ⟨h0, _⟩ := hs
      have h0 : a.tmps.getD 10 undef = .pointer (some ⟨w.heap.size, 1, .none⟩) := h0
      obtain ⟨q0, q1, q2, q3⟩ := (HX.out.later hR.below).cells
      refine op_runG rfl rfl (v := .int .i64 x.b) (w' := w1) ?_ rfl (GrR.refl _)
      simp [execOp, Act.eval, h0, q1, go_sem]
    · intro a w1 hR hsz hs      -- 7: slot 12
      obtain ⟨h0, _⟩ := hs
      have h0 : a.tmps.getD 3 undef = .pointer (some ⟨w.heap.size + 1, 0, .none⟩) := h0
      refine op_runG rfl rfl (v := .pointer (some ⟨w.heap.size + 1, 1, .none⟩)) (w' := w1) ?_ rfl (GrR.refl _)
      simp [execOp, Act.eval, h0, go_sem]
    · intro a w1 hR hsz hs      -- 8: slot 13
      obtain ⟨h0, _⟩ := hs
      have h0 : a.tmps.getD 12 undef = .pointer (some ⟨w.heap.size + 1, 1, .none⟩) := h0
      obtain ⟨q0, q1, q2, q3⟩ := (HY.out.later hR.below).cells
      refine op_runG rfl rfl (v := .int .i64 y.b) (w' := w1) ?_ rfl (GrR.refl _)
      simp [execOp, Act.eval, h0, q1, go_sem]
    · intro a w1 hR hsz hs      -- 9: slot 14
      obtain ⟨h0, h1, _⟩ := hs
      have h0 : a.tmps.getD 11 undef = .int .i64 x.b := h0
      have h1 : a.tmps.getD 13 undef = .int .i64 y.b := h1
      refine op_callG rfl rfl (f := 66) (args := #[.int .i64 x.b, .int .i64 y.b]) (by simp [execOp, Act.eval, resolve, h0, h1, go_sem]) ?_
      exact (compare_any _ _ _).mono (fun e w' ⟨h1, h2⟩ => ⟨_, h1, rfl, h2 ▸ GrR.refl _⟩)
    · intro a w1 hR hsz hs      -- 10: slot 15
      obtain ⟨h0, _⟩ := hs
      have h0 : a.tmps.getD 2 undef = .pointer (some ⟨w.heap.size, 0, .none⟩) := h0
      refine op_runG rfl rfl (v := .pointer (some ⟨w.heap.size, 2, .none⟩)) (w' := w1) ?_ rfl (GrR.refl _)
      simp [execOp, Act.eval, h0, go_sem]
    · intro a w1 hR hsz hs      -- 11: slot 16
      obtain ⟨h0, _⟩ := hs
      have h0 : a.tmps.getD 15 undef = .pointer (some ⟨w.heap.size, 2, .none⟩) := h0
      obtain ⟨q0, q1, q2, q3⟩ := (HX.out.later hR.below).cells
      refine op_runG rfl rfl (v := .int .i64 x.c) (w' := w1) ?_ rfl (GrR.refl _)
      simp [execOp, Act.eval, h0, q2, go_sem]
    · intro a w1 hR hsz hs      -- 12: slot 17
      obtain ⟨h0, _⟩ := hs
      have h0 : a.tmps.getD 3 undef = .pointer (some ⟨w.heap.size + 1, 0, .none⟩) := h0
      refine op_runG rfl rfl (v := .pointer (some ⟨w.heap.size + 1, 2, .none⟩)) (w' := w1) ?_ rfl (GrR.refl _)
      simp [execOp, Act.eval, h0, go_sem]
    · intro a w1 hR hsz hs      -- 13: slot 18
      obtain ⟨h0, _⟩ := hs
      have h0 : a.tmps.getD 17 undef = .pointer (some ⟨w.heap.size + 1, 2, .none⟩) := h0
      obtain ⟨q0, q1, q2, q3⟩ := (HY.out.later hR.below).cells
      refine op_runG rfl rfl (v := .int .i64 y.c) (w' := w1) ?_ rfl (GrR.refl _)
      simp [execOp, Act.eval, h0, q2, go_sem]
    · intro a w1 hR hsz hs      -- 14: slot 19
      obtain ⟨h0, h1, _⟩ := hs
      have h0 : a.tmps.getD 16 undef = .int .i64 x.c := h0
      have h1 : a.tmps.getD 18 undef = .int .i64 y.c := h1
      refine op_callG rfl rfl (f := 66) (args := #[.int .i64 x.c, .int .i64 y.c]) (by simp [execOp, Act.eval, resolve, h0, h1, go_sem]) ?_
      exact (compare_any _ _ _).mono (fun e w' ⟨h1, h2⟩ => ⟨_, h1, rfl, h2 ▸ GrR.refl _⟩)
    · intro a w1 hR hsz hs      -- 15: slot 20
      obtain ⟨h0, _⟩ := hs
      have h0 : a.tmps.getD 2 undef = .pointer (some ⟨w.heap.size, 0, .none⟩) := h0
      refine op_runG rfl rfl (v := .pointer (some ⟨w.heap.size, 3, .none⟩)) (w' := w1) ?_ rfl (GrR.refl _)
      simp [execOp, Act.eval, h0, go_sem]
    · intro a w1 hR hsz hs      -- 16: slot 21
      obtain ⟨h0, _⟩ := hs
      have h0 : a.tmps.getD 20 undef = .pointer (some ⟨w.heap.size, 3, .none⟩) := h0
      obtain ⟨q0, q1, q2, q3⟩ := (HX.out.later hR.below).cells
      refine op_runG rfl rfl (v := .int .i64 x.d) (w' := w1) ?_ rfl (GrR.refl _)
      simp [execOp, Act.eval, h0, q3, go_sem]
    · intro a w1 hR hsz hs      -- 17: slot 22
      obtain ⟨h0, _⟩ := hs
      have h0 : a.tmps.getD 3 undef = .pointer (some ⟨w.heap.size + 1, 0, .none⟩) := h0
      refine op_runG rfl rfl (v := .pointer (some ⟨w.heap.size + 1, 3, .none⟩)) (w' := w1) ?_ rfl (GrR.refl _)
      simp [execOp, Act.eval, h0, go_sem]
    · intro a w1 hR hsz hs      -- 18: slot 23
      obtain ⟨h0, _⟩ := hs
      have h0 : a.tmps.getD 22 undef = .pointer (some ⟨w.heap.size + 1, 3, .none⟩) := h0
      obtain ⟨q0, q1, q2, q3⟩ := (HY.out.later hR.below).cells
      refine op_runG rfl rfl (v := .int .i64 y.d) (w' := w1) ?_ rfl (GrR.refl _)
      simp [execOp, Act.eval, h0, q3, go_sem]
    · intro a w1 hR hsz hs      -- 19: slot 24
      obtain ⟨h0, h1, _⟩ := hs
      have h0 : a.tmps.getD 21 undef = .int .i64 x.d := h0
      have h1 : a.tmps.getD 23 undef = .int .i64 y.d := h1
      refine op_callG rfl rfl (f := 66) (args := #[.int .i64 x.d, .int .i64 y.d]) (by simp [execOp, Act.eval, resolve, h0, h1, go_sem]) ?_
      exact (compare_any _ _ _).mono (fun e w' ⟨h1, h2⟩ => ⟨_, h1, rfl, h2 ▸ GrR.refl _⟩)
    · intro a w1 hR hsz hs      -- 20: slot 25
      obtain ⟨h0, h1, h2, h3, _⟩ := hs
      have h0 : a.tmps.getD 9 undef = .int .i64 (Lib.compareInt x.a y.a) := h0
      have h1 : a.tmps.getD 14 undef = .int .i64 (Lib.compareInt x.b y.b) := h1
      have h2 : a.tmps.getD 19 undef = .int .i64 (Lib.compareInt x.c y.c) := h2
      have h3 : a.tmps.getD 24 undef = .int .i64 (Lib.compareInt x.d y.d) := h3
      refine op_runG rfl rfl (v := .slice (some ⟨w1.heap.size, 0, .none⟩) 4 4) (w' := w1.alloc (.cells #[.int .i64 (Lib.compareInt x.a y.a), .int .i64 (Lib.compareInt x.b y.b), .int .i64 (Lib.compareInt x.c y.c), .int .i64 (Lib.compareInt x.d y.d)] 3)) ?_ ⟨w1.heap.size, rfl, (MapKept.heap_alloc w1 _).1⟩ (GrR.alloc _ _)
      have g0 : a.tmps[9]?.getD undef = .int .i64 (Lib.compareInt x.a y.a) := by rw [← h0]; exact (Array.getD_eq_getD_getElem?).symm
      have g1 : a.tmps[14]?.getD undef = .int .i64 (Lib.compareInt x.b y.b) := by rw [← h1]; exact (Array.getD_eq_getD_getElem?).symm
      have g2 : a.tmps[19]?.getD undef = .int .i64 (Lib.compareInt x.c y.c) := by rw [← h2]; exact (Array.getD_eq_getD_getElem?).symm
      have g3 : a.tmps[24]?.getD undef = .int .i64 (Lib.compareInt x.d y.d) := by rw [← h3]; exact (Array.getD_eq_getD_getElem?).symm
      simp [execOp, Act.eval, g0, g1, g2, g3, go_sem]
    · intro a w1 hR hsz hs      -- 21: slot 26
      obtain ⟨h0, _⟩ := hs
      obtain ⟨z0, h0, m0⟩ := h0
      refine op_callG rfl rfl (f := 65) (args := #[.slice (some ⟨z0, 0, .none⟩) 4 4]) (by simp [execOp, Act.eval, resolve, h0, go_sem]) ?_
      exact (or_any _ _ _ _ z0 _ m0).mono (fun e w' ⟨h1, h2⟩ => ⟨_, h1, rfl, h2 ▸ GrR.refl _⟩)
    · intro a w1 hR hsz hs      -- 22: slot 4
      obtain ⟨h0, _⟩ := hs
      have h0 : a.tmps.getD 26 undef = .int .i64 (cmpK x y) := h0
      refine op_runG rfl rfl (v := .int .i64 (cmpK x y)) (w' := w1) ?_ rfl (GrR.refl _)
      simp [execOp, Act.eval, h0, go_sem]
  · intro f w1 hR hv
    have e4 : f 4 = .int .i64 (cmpK x y) := hv 22 _ 4 rfl rfl
    clear hv
    try simp only [Exit.then]
    simp only [putAll, List.foldl_cons, List.foldl_nil, Option.getD_some, Act.put, List.setIfInBounds_toArray, List.set_cons_succ, List.set_cons_zero]
    have HR := Lib.hid (HG.out.trans hR)
    clear hR
    go_wp2_with fail
    go_ret
    exact ⟨congrArg Ending.returned e4, HR.out⟩
-- END R1
end Go.Proofs.Ytgjdabneodkmpaa
