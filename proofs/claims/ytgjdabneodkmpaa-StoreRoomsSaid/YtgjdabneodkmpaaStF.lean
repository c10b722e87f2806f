/- What a store's own functions answer, and what they leave: the others. -/
import Derived.Test.YtgjdabneodkmpaaStE
import Derived.Test.YtgjdabneodkmpaaRv
namespace Go.Proofs.Ytgjdabneodkmpaa
open Go.RowKit
set_option linter.unusedVariables false

def St.dried (S : St) : St := { S with wet := fun _ => .none, wks := [], deeds := S.deeds + 1 }
theorem Sto.setWet {w : World} {b : Nat} {g : Gh} {S : St} (h : Sto w b g S) : Sto (w.setCell ⟨b, 3, .none⟩ (.map .none)) b { g with wv := .map .none, pw := fun _ => .none } { S with wet := fun _ => .none, wks := [] } ∧ Fr w (w.setCell ⟨b, 3, .none⟩ (.map .none)) g.r g.r ours := by
  have hf : Fr w (w.setCell ⟨b, 3, .none⟩ (.map .none)) g.r g.r (fun t => t = .st) := Fr.of_set (by exact h.role)
  refine ⟨⟨h.role, ?_, h.sm.keep fun x hx hlt => hf.block x hlt (by rw [h.sr x hx]; simp), h.sr, PMap.nil _, (fun x hx => nomatch hx),
    fun k' hk' => (h.seen k' hk').fr hf (by rintro t (rfl | rfl | rfl) <;> simp) (by simp), fun k' hk' => trivial, Dom.later (w := w) h.dom hf.size⟩, hf.mono fun t ht => by rw [ht]; simp [ours]⟩
  have := heap_setCell_same w b 3 _ _ (.map .none) h.heap
  simpa using this
theorem Sto.setOff {w : World} {b : Nat} {g : Gh} {S : St} (h : Sto w b g S) (u : Bool) : Sto (w.setCell ⟨b, 1, .none⟩ (.bool u)) b g { S with off := u } ∧ Fr w (w.setCell ⟨b, 1, .none⟩ (.bool u)) g.r g.r ours := by
  have hf : Fr w (w.setCell ⟨b, 1, .none⟩ (.bool u)) g.r g.r (fun t => t = .st) := Fr.of_set (by exact h.role)
  refine ⟨⟨h.role, ?_, h.sm.keep fun x hx hlt => hf.block x hlt (by rw [h.sr x hx]; simp), h.sr, h.wm.keep fun x hx hlt => hf.block x hlt (by rw [h.wr x hx]; simp), h.wr,
    fun k' hk' => (h.seen k' hk').fr hf (by rintro t (rfl | rfl | rfl) <;> simp) (by simp), fun k' hk' => (h.wet k' hk').fr hf (by rintro t (rfl | rfl | rfl | rfl | rfl) <;> simp) (by simp), Dom.later (w := w) h.dom hf.size⟩, hf.mono fun t ht => by rw [ht]; simp [ours]⟩
  have := heap_setCell_same w b 1 _ _ (.bool u) h.heap
  simpa using this

set_option maxRecDepth 20000 in
theorem barrier_any (w : World) (b : Nat) (g : Gh) (S : St) (h : Sto w b g S) (hoff : S.off = false) (hd : 0 ≤ S.deeds ∧ S.deeds ≤ 1000000) :
    Calls Try.prog 11 #[.pointer (some ⟨b, 0, .none⟩)] w fun e w' =>
      e = .returned (.int .i64 0) ∧ ∃ g', Sto w' b g' S.dried ∧ Fr w w' g.r g'.r ours := by
  obtain ⟨hd0, hd1⟩ := hd
  have c1 : w.cell? ⟨b, 1, .none⟩ = some (.bool false) := hoff ▸ cell_of_block h.heap rfl
  have c3 : w.cell? ⟨b, 3, .none⟩ = some g.wv := cell_of_block h.heap rfl
  have f3 : w.frozen? ⟨b, 3, .none⟩ = false := frozen_of_block h.heap 3
  have c5 : w.cell? ⟨b, 5, .none⟩ = some (.int .i64 S.deeds) := cell_of_block h.heap rfl
  have f5 : w.frozen? ⟨b, 5, .none⟩ = false := frozen_of_block h.heap 5
  have HBL := Lib.hid (blown_any w b g S h)
  have H1 := h.setWet
  have H2 := Lib.hid (H1.1.setDeeds (S.deeds + 1))
  have HF := Lib.hid H1.2
  clear h H1
  go_enter Try.func11, Try.ntmps11
  go_wp2_with fail
  refine HBL.out.mono ?_
  rintro e w2 ⟨rfl, rfl⟩
  clear HBL
  go_wp2_with fail
  go_ret
  exact ⟨rfl, _, H2.out.1, HF.out.trans H2.out.2⟩

set_option maxRecDepth 20000 in
theorem power_any (w : World) (b : Nat) (g : Gh) (S : St) (h : Sto w b g S) :
    Calls Try.prog 14 #[.pointer (some ⟨b, 0, .none⟩)] w fun e w' =>
      e = .returned (.bool S.off) ∧ ∃ g', Sto w' b g' { S with off := false } ∧ Fr w w' g.r g'.r ours := by
  obtain ⟨u, hu⟩ : ∃ u, S.off = u := ⟨_, rfl⟩
  have c1 : w.cell? ⟨b, 1, .none⟩ = some (.bool u) := hu ▸ cell_of_block h.heap rfl
  have f1 : w.frozen? ⟨b, 1, .none⟩ = false := frozen_of_block h.heap 1
  have H1 := Lib.hid (h.setOff false)
  have H := Lib.hid h
  have HU := Lib.hid hu
  rw [hu]
  clear h hu
  cases u
  · go_enter Try.func14, Try.ntmps14
    go_wp2_with fail
    go_ret
    refine ⟨rfl, g, ?_, Fr.refl _ _ _⟩
    have := H.out
    have e : { S with off := false } = S := by rw [← HU.out]
    rw [e]; exact this
  · go_enter Try.func14, Try.ntmps14
    go_wp2_with fail
    go_ret
    exact ⟨rfl, g, H1.out.1, H1.out.2⟩

def St.new (room : Int) : St := ⟨heldI room 0 1048576, false, fun _ => .none, [], fun _ => .none, [], 0, 0⟩
set_option maxRecDepth 20000 in
theorem new_any (w : World) (room : Int) :
    Calls Try.prog 9 #[.int .i64 room] w fun e w' =>
      ∃ b g, e = .returned (.pointer (some ⟨b, 0, .none⟩)) ∧ Sto w' b g (St.new room) ∧ Below w.heap.size w w' ∧ w.heap.size ≤ b ∧ ∀ x, x < w.heap.size → g.r x = .junk := by
  have HH := Lib.hid (held_any room 0 1048576 w)
  go_enter Try.func9, Try.ntmps9
  go_wp2_with fail
  refine HH.out.mono ?_
  rintro e w2 ⟨rfl, rfl⟩
  clear HH
  obtain ⟨hh, hhe⟩ : ∃ hh, heldI room 0 1048576 = hh := ⟨_, rfl⟩
  rw [hhe]
  have HHE := Lib.hid hhe
  clear hhe
  go_wp2_with fail
  go_ret
  refine ⟨w.heap.size, ⟨setRole (fun _ => .junk) w.heap.size .st, .map .none, .map .none, fun _ => .none, fun _ => .none⟩, rfl, ?_, (Below.refl _ _).alloc (Nat.le_refl _) _, Nat.le_refl _, fun x hx => ?_⟩
  · refine ⟨?_, ?_, PMap.nil _, (fun x hx => nomatch hx), PMap.nil _, (fun x hx => nomatch hx), fun k hk => trivial, fun k hk => trivial, fun x hx => ?_⟩
    · exact setRole_same (fun _ => Role.junk) w.heap.size .st
    · rw [← HHE.out]
      exact (MapKept.heap_alloc w _).1
    · exact setRole_other (fun _ => Role.junk) .st (by simp at hx; omega)
  · exact setRole_other (fun _ => Role.junk) .st (by omega)

set_option maxRecDepth 20000 in
set_option maxHeartbeats 2000000 in
theorem read_any (w : World) (b : Nat) (g : Gh) (S : St) (h : Sto w b g S) (k : K4) (hk : k.ok) (o : Ob) (ho : S.seen k = some o) (hwhy : whyNot S k = 0) (off n : Nat) (hoff : off ≤ o.bytes.length) (hn : n ≤ 100000000) (hl : o.bytes.length ≤ 16384) :
    Calls Try.prog 15 #[.pointer (some ⟨b, 0, .none⟩), kv k, .int .i64 off, .int .i64 n] w fun e w' =>
      ∃ a c, e = .returned (.tuple #[.slice a ((o.bytes.drop off).take n).length c, .int .i64 0]) ∧ Row w' a c ((o.bytes.drop off).take n) ∧ Below w.heap.size w w' := by
  obtain ⟨D, hD⟩ : ∃ D, (o.bytes.drop off).take n = D := ⟨_, rfl⟩
  rw [hD]
  obtain ⟨w1, hwe⟩ : ∃ w1, w.alloc (.cells #[.int .i64 k.a, .int .i64 k.b, .int .i64 k.c, .int .i64 k.d] 27) = w1 := ⟨_, rfl⟩
  have hb1 : Below w.heap.size w w1 := by rw [← hwe]; exact (Below.refl _ _).alloc (Nat.le_refl _) _
  have hK : KeyAt w1 w.heap.size k := by rw [← hwe]; exact KeyAt.new w k
  obtain ⟨x, hx⟩ : ∃ x, g.pm k = some x := by
    have := h.seen k hk
    rw [ho] at this
    cases hp : g.pm k with
    | none => rw [hp] at this; exact this.elim
    | some x => exact ⟨x, rfl⟩
  have HFD := Lib.hid (find_any w1 b g S (h.later hb1) k hk)
  rw [hx] at HFD
  have e : findR S k (some x) = .tuple #[.pointer (some ⟨x, 0, .none⟩), .int .i64 0] := by simp [findR, hwhy, ptrV]
  rw [e] at HFD
  obtain ⟨k0, k1, k2, k3⟩ := hK.cells
  have H := Lib.hid (h.later hb1)
  have HB := Lib.hid hb1
  clear h hb1 hK e
  unfold kv at HFD ⊢
  go_enter Try.func15, Try.ntmps15
  go_upto_region 1 with fail
  clear hwe
  go_wp2_with fail
  refine HFD.out.mono ?_
  rintro e w2 ⟨rfl, hb2⟩
  clear HFD k0 k1 k2 k3
  have H2 := Lib.hid (H.out.later hb2)
  have HB2 := Lib.hid (HB.out.trans (hb2.mono HB.out.size))
  clear H HB hb2
  have hox := H2.out.seen k hk
  rw [hx, ho] at hox
  obtain ⟨bv, av, hob⟩ := hox
  have hshape := hob.row.2
  obtain ⟨aa, ca, rfl, hrow, _⟩ := hob.row.row
  have haa : aa = .none ∨ ∃ gb, aa = some ⟨gb, 0, .none⟩ := by
    rcases hshape with ⟨e, _⟩ | ⟨gb, cap, cur, e, _⟩
    · injection e with e1 e2 e3; exact .inl e1
    · injection e with e1 e2 e3; exact .inr ⟨gb, e1⟩
  clear hshape
  obtain ⟨m, hm⟩ : ∃ m, o.bytes.length = m := ⟨_, rfl⟩
  rw [hm] at hoff hl
  have c0 : w2.cell? ⟨x, 0, .none⟩ = some (.slice aa m ca) := hm ▸ cell_of_block hob.heap rfl
  have hmc : m ≤ ca := by have := hrow.1; omega
  have hcm : ca ≤ 9223372036854775807 := by have := hrow.2.1; unfold maxLen at this; omega
  have HR := Lib.hid hrow
  have HM := Lib.hid hm
  have HDD := Lib.hid hD
  clear hob ho hx hm hrow hD
  go_upto_region 6 with fail
  obtain ⟨q, hq⟩ : ∃ q : Nat, min n (m - off) = q := ⟨_, rfl⟩
  have hqm : off + q ≤ m := by omega
  have HQM : Hid ((if (m : Int) - off < n then (m : Int) - off else n) = q) := Lib.hid (by split <;> omega)
  obtain ⟨sl, HSL, HCL⟩ : ∃ sl : Value, Hid (∀ W, (Instr.slice 31 (.slice aa m ca) (some (.int .i64 off)) (some (.int .i64 ((off : Int) + q))) none).run Try.prog W = .ok sl W) ∧
      Hid (∀ w3, Below w2.heap.size w2 w3 → Calls Try.prog 45 #[sl] w3 fun e w' => ∃ v, e = .returned v ∧ (rV D).p w' v ∧ Below w3.heap.size w3 w') := by
    have hDq : D = (o.bytes.drop off).take q := by
      rw [← HDD.out, ← hq]
      by_cases h : n ≤ m - off
      · rw [Nat.min_eq_left h]
      · rw [Nat.min_eq_right (by omega)]
        have e : (o.bytes.drop off).length = m - off := by simp [HM.out]
        rw [List.take_of_length_le (by omega), List.take_of_length_le (by omega)]
    have hDl : D.length = q := by rw [hDq]; simp [HM.out]; omega
    rcases haa with rfl | ⟨gb, rfl⟩
    · obtain ⟨h1, h2⟩ := HR.out.of_nil
      have hm0 : m = 0 := by rw [← HM.out, h1]; rfl
      have hq0 : q = 0 := by omega
      have ho0 : off = 0 := by omega
      refine ⟨.slice .none 0 0, Lib.hid fun W => ?_, Lib.hid fun w3 hb3 => ?_⟩
      · subst hm0 hq0 ho0 h2
        simp [Instr.slice, Instr.sliceBounds, Instr.sliceBound, asIntOf, run_underlying Try.underlying31, Result.andThen]
      · have hD0 : D = [] := List.length_eq_zero_iff.1 (by omega)
        rw [hD0]
        refine (clone_any .none 0 0 [] w3 (Row.none w3) rfl (by omega)).mono ?_
        rintro e w' ⟨v, rfl, ho⟩
        obtain ⟨a, c, hv, hr⟩ := ho.row
        exact ⟨v, rfl, ⟨a, c, hv, hr⟩, ho.below⟩
    · have hrow2 : Row w2 (some ⟨gb, off, .none⟩) (ca - off) D := by
        have := (HR.out.drop (b := gb) (off := 0) off (by rw [HM.out]; exact hoff)).take q
        rw [← hDq] at this
        simpa using this
      have hrun : ∀ W, (Instr.slice 31 (.slice (some ⟨gb, 0, .none⟩) m ca) (some (.int .i64 off)) (some (.int .i64 ((off : Int) + q))) none).run Try.prog W = .ok (.slice (some (if ca = off then ⟨gb, 0, .none⟩ else ⟨gb, off, .none⟩)) q (ca - off)) W := by
        intro W
        have h1 : 0 ≤ (off : Int) + q ∧ (off : Int) + q ≤ ca := by omega
        have h3 : ((off : Int) + q).toNat = off + q := by omega
        simp [Instr.slice, Instr.sliceBounds, Instr.sliceBound, asIntOf, run_underlying Try.underlying31, Result.andThen, h1, h3]
        by_cases hco : ca = off
        · simp [hco]
        · simp [hco, Addr.add_lit]
      refine ⟨_, Lib.hid hrun, Lib.hid fun w3 hb3 => ?_⟩
      have hrow3 : Row w2 (some (if ca = off then (⟨gb, 0, .none⟩ : Addr) else ⟨gb, off, .none⟩)) (ca - off) D := by
        by_cases hco : ca = off
        · have hD0 : D = [] := List.length_eq_zero_iff.1 (by omega)
          rw [hD0]
          exact Row.empty _ _ _ (by unfold maxLen; omega) (fun e => nomatch e)
        · rw [if_neg hco]; exact hrow2
      refine (clone_any _ q (ca - off) D w3 (hrow3.later hb3) hDl (by omega)).mono ?_
      rintro e w' ⟨v, rfl, ho⟩
      obtain ⟨a, c, hv, hr⟩ := ho.row
      exact ⟨v, rfl, ⟨a, c, hv, hr⟩, ho.below⟩
  have HX : Hid (x < w2.heap.size) := Lib.hid (World.block_lt_of_cell? w2 _ c0)
  have hb3 : Below w2.heap.size w2 w2 := Below.refl _ _
-- REG F6
  refine wp_region_tab (L := [cV (.pointer (some ⟨x, 0, .none⟩)), cV (.pointer (some ⟨x, 0, .none⟩)), cV (.pointer (some ⟨x, 0, .none⟩)), cV (.slice aa m ca), cV (.int .i64 off), cV (.int .i64 off), cV (.int .i64 n), cV (.pointer (some ⟨x, 0, .none⟩)), cV (.pointer (some ⟨x, 0, .none⟩)), cV (.pointer (some ⟨x, 0, .none⟩)), cV (.slice aa m ca), cV (.int .i64 m), cV (.int .i64 off), cV (.int .i64 ((m : Int) - off)), cV (.int .i64 q), cV (.int .i64 ((off : Int) + q)), cV (sl), rV D, rV D, cV (.int .i64 0)]) [[(10, none)], [(36, some 0)], [(37, some 1)], [(38, some 2)], [(2, none)], [(2, none)], [(3, none)], [(10, none)], [(43, some 7)], [(44, some 8)], [(45, some 9)], [(46, some 10)], [(2, none)], [(47, some 11), (48, some 12)], [(42, some 6), (49, some 13)], [(41, some 5), (50, some 14)], [(39, some 3), (40, some 4), (51, some 15)], [(52, some 16)], [(53, some 17)], []] 20 54 (by kernel_rfl) rfl rfl (by kernel_rfl) (by kernel_rfl) ?_ ?_
  · show ∀ i, i < 20 → _
    iterate 20 (refine fls ?_ ?_)
    · exact fl0
    · intro a w1 hR hsz hs      -- 0: slot 36
      obtain ⟨h0, _⟩ := hs
      have h0 : a.tmps.getD 10 undef = .pointer (some ⟨x, 0, .none⟩) := h0
      refine op_run rfl rfl (v := .pointer (some ⟨x, 0, .none⟩)) (w' := w1) ?_ rfl (Below.refl _ _)
      simp [execOp, Act.eval, h0, go_sem]
    · intro a w1 hR hsz hs      -- 1: slot 37
      obtain ⟨h0, _⟩ := hs
      have h0 : a.tmps.getD 36 undef = .pointer (some ⟨x, 0, .none⟩) := h0
      refine op_run rfl rfl (v := .pointer (some ⟨x, 0, .none⟩)) (w' := w1) ?_ rfl (Below.refl _ _)
      simp [execOp, Act.eval, h0, go_sem]
    · intro a w1 hR hsz hs      -- 2: slot 38
      obtain ⟨h0, _⟩ := hs
      have h0 : a.tmps.getD 37 undef = .pointer (some ⟨x, 0, .none⟩) := h0
      refine op_run rfl rfl (v := .pointer (some ⟨x, 0, .none⟩)) (w' := w1) ?_ rfl (Below.refl _ _)
      simp [execOp, Act.eval, h0, go_sem]
    · intro a w1 hR hsz hs      -- 3: slot 39
      obtain ⟨h0, _⟩ := hs
      have h0 : a.tmps.getD 38 undef = .pointer (some ⟨x, 0, .none⟩) := h0
      have c := ((hb3.trans (hR.mono hb3.size)).cell (p := ⟨x, 0, .none⟩) HX.out).trans c0
      refine op_run rfl rfl (v := .slice aa m ca) (w' := w1) ?_ rfl (Below.refl _ _)
      simp [execOp, Act.eval, h0, c, go_sem]
    · intro a w1 hR hsz hs      -- 4: slot 40
      obtain ⟨h0, _⟩ := hs
      have h0 : a.tmps.getD 2 undef = .int .i64 off := h0
      refine op_run rfl rfl (v := .int .i64 off) (w' := w1) ?_ rfl (Below.refl _ _)
      simp [execOp, Act.eval, h0, go_sem]
    · intro a w1 hR hsz hs      -- 5: slot 41
      obtain ⟨h0, _⟩ := hs
      have h0 : a.tmps.getD 2 undef = .int .i64 off := h0
      refine op_run rfl rfl (v := .int .i64 off) (w' := w1) ?_ rfl (Below.refl _ _)
      simp [execOp, Act.eval, h0, go_sem]
    · intro a w1 hR hsz hs      -- 6: slot 42
      obtain ⟨h0, _⟩ := hs
      have h0 : a.tmps.getD 3 undef = .int .i64 n := h0
      refine op_run rfl rfl (v := .int .i64 n) (w' := w1) ?_ rfl (Below.refl _ _)
      simp [execOp, Act.eval, h0, go_sem]
    · intro a w1 hR hsz hs      -- 7: slot 43
      obtain ⟨h0, _⟩ := hs
      have h0 : a.tmps.getD 10 undef = .pointer (some ⟨x, 0, .none⟩) := h0
      refine op_run rfl rfl (v := .pointer (some ⟨x, 0, .none⟩)) (w' := w1) ?_ rfl (Below.refl _ _)
      simp [execOp, Act.eval, h0, go_sem]
    · intro a w1 hR hsz hs      -- 8: slot 44
      obtain ⟨h0, _⟩ := hs
      have h0 : a.tmps.getD 43 undef = .pointer (some ⟨x, 0, .none⟩) := h0
      refine op_run rfl rfl (v := .pointer (some ⟨x, 0, .none⟩)) (w' := w1) ?_ rfl (Below.refl _ _)
      simp [execOp, Act.eval, h0, go_sem]
    · intro a w1 hR hsz hs      -- 9: slot 45
      obtain ⟨h0, _⟩ := hs
      have h0 : a.tmps.getD 44 undef = .pointer (some ⟨x, 0, .none⟩) := h0
      refine op_run rfl rfl (v := .pointer (some ⟨x, 0, .none⟩)) (w' := w1) ?_ rfl (Below.refl _ _)
      simp [execOp, Act.eval, h0, go_sem]
    · intro a w1 hR hsz hs      -- 10: slot 46
      obtain ⟨h0, _⟩ := hs
      have h0 : a.tmps.getD 45 undef = .pointer (some ⟨x, 0, .none⟩) := h0
      have c := ((hb3.trans (hR.mono hb3.size)).cell (p := ⟨x, 0, .none⟩) HX.out).trans c0
      refine op_run rfl rfl (v := .slice aa m ca) (w' := w1) ?_ rfl (Below.refl _ _)
      simp [execOp, Act.eval, h0, c, go_sem]
    · intro a w1 hR hsz hs      -- 11: slot 47
      obtain ⟨h0, _⟩ := hs
      have h0 : a.tmps.getD 46 undef = .slice aa m ca := h0
      refine op_run rfl rfl (v := .int .i64 m) (w' := w1) ?_ rfl (Below.refl _ _)
      simp [execOp, Act.eval, h0, go_sem]
    · intro a w1 hR hsz hs      -- 12: slot 48
      obtain ⟨h0, _⟩ := hs
      have h0 : a.tmps.getD 2 undef = .int .i64 off := h0
      refine op_run rfl rfl (v := .int .i64 off) (w' := w1) ?_ rfl (Below.refl _ _)
      simp [execOp, Act.eval, h0, go_sem]
    · intro a w1 hR hsz hs      -- 13: slot 49
      obtain ⟨h0, h1, _⟩ := hs
      have h0 : a.tmps.getD 47 undef = .int .i64 m := h0
      have h1 : a.tmps.getD 48 undef = .int .i64 off := h1
      have c : IntKind.i64.wrap ((m : Int) - off) = (m : Int) - off := by rw [IntKind.wrap_i64]; omega
      refine op_run rfl rfl (v := .int .i64 ((m : Int) - off)) (w' := w1) ?_ rfl (Below.refl _ _)
      simp [execOp, Act.eval, h0, h1, c, go_sem]
    · intro a w1 hR hsz hs      -- 14: slot 50
      obtain ⟨h0, h1, _⟩ := hs
      have h0 : a.tmps.getD 42 undef = .int .i64 n := h0
      have h1 : a.tmps.getD 49 undef = .int .i64 ((m : Int) - off) := h1
      have c : min (n : Int) ((m : Int) - off) = q := by have := HQM.out; omega
      refine op_run rfl rfl (v := .int .i64 q) (w' := w1) ?_ rfl (Below.refl _ _)
      simp [execOp, Act.eval, h0, h1, c, go_sem]
    · intro a w1 hR hsz hs      -- 15: slot 51
      obtain ⟨h0, h1, _⟩ := hs
      have h0 : a.tmps.getD 41 undef = .int .i64 off := h0
      have h1 : a.tmps.getD 50 undef = .int .i64 q := h1
      have c : IntKind.i64.wrap ((off : Int) + q) = (off : Int) + q := by rw [IntKind.wrap_i64]; omega
      refine op_run rfl rfl (v := .int .i64 ((off : Int) + q)) (w' := w1) ?_ rfl (Below.refl _ _)
      simp [execOp, Act.eval, h0, h1, c, go_sem]
    · intro a w1 hR hsz hs      -- 16: slot 52
      obtain ⟨h0, h1, h2, _⟩ := hs
      have h0 : a.tmps.getD 39 undef = .slice aa m ca := h0
      have h1 : a.tmps.getD 40 undef = .int .i64 off := h1
      have h2 : a.tmps.getD 51 undef = .int .i64 ((off : Int) + q) := h2
      have c := HSL.out w1
      refine op_run rfl rfl (v := sl) (w' := w1) ?_ rfl (Below.refl _ _)
      simp [execOp, Act.eval, h0, h1, h2, c, go_sem]
    · intro a w1 hR hsz hs      -- 17: slot 53
      obtain ⟨h0, _⟩ := hs
      have h0 : a.tmps.getD 52 undef = sl := h0
      refine op_call rfl rfl (f := 45) (args := #[sl]) (by simp [execOp, Act.eval, resolve, h0, go_sem]) ?_
      exact HCL.out w1 (hb3.trans (hR.mono hb3.size))
    · intro a w1 hR hsz hs      -- 18: slot 8
      obtain ⟨h0, _⟩ := hs
      obtain ⟨v0, e0, m0⟩ : ∃ v, a.tmps.getD 53 undef = v ∧ (rV D).p w1 v := ⟨_, rfl, h0⟩
      refine op_run rfl rfl (v := v0) (w' := w1) ?_ m0 (Below.refl _ _)
      simp [execOp, Act.eval, e0, go_sem]
    · intro a w1 hR hsz hs      -- 19: slot 9
      refine op_run rfl rfl (v := .int .i64 0) (w' := w1) ?_ rfl (Below.refl _ _)
      simp [execOp, Act.eval, go_sem]
  · intro f w1 hR hv
    have e8 : (rV D).p w1 (f 8) := hv 18 _ 8 rfl rfl
    have e9 : f 9 = .int .i64 0 := hv 19 _ 9 rfl rfl
    clear hv
    try simp only [Exit.then]
    simp only [putAll, List.foldl_cons, List.foldl_nil, Option.getD_some, Act.put, List.setIfInBounds_toArray, List.set_cons_succ, List.set_cons_zero]
    rw [e9]
    generalize f 8 = v8 at e8 ⊢
    obtain ⟨a8, c8, rfl, r8⟩ := e8
    have HBW := Lib.hid (HB2.out.trans ((hb3.trans (hR.mono hb3.size)).mono HB2.out.size))
    clear hb3 hR
    go_wp2_with fail
    go_ret2
    exact ⟨a8, c8, rfl, r8, HBW.out⟩
-- END F6
end Go.Proofs.Ytgjdabneodkmpaa
