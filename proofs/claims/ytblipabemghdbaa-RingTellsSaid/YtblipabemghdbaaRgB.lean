/- Rings: the document's own Need, Sets. -/
import Derived.Test.YtblipabemghdbaaRgA
import Derived.Test.YtblipabemghdbaaPhW
import Derived.Test.YtblipabemghdbaaGRow
import Derived.Test.YtblipabemghdbaaZi
namespace Go.Proofs.Ytblipabemghdbaa
open Go.RowKit Go.Proofs
set_option linter.unusedVariables false
set_option linter.unusedSimpArgs false
set_option linter.unnecessarySimpa false

def Z5 : Array Value := #[.int .i64 0, .int .i64 0, .int .i64 0, .int .i64 0, .int .i64 0]
def Z2 : Array Value := #[.int .i64 0, .int .i64 0]
def zfV (W : World) (cs : Array Value) : SV := ⟨fun w v => ∃ g, v = .pointer (some ⟨g, 0, none⟩) ∧ RecAt w g cs 26 ∧ W.heap.size ≤ g, fun w w' v ⟨g, h1, h2, h3⟩ hb => ⟨g, h1, h2.later hb, h3⟩⟩
def zpV (W : World) (cs : Array Value) : SV := ⟨fun w v => ∃ g, v = .pointer (some ⟨g, 0, none⟩) ∧ RecAt w g cs 28 ∧ W.heap.size ≤ g, fun w w' v ⟨g, h1, h2, h3⟩ hb => ⟨g, h1, h2.later hb, h3⟩⟩
theorem rec_ne {w : World} {x y : Nat} {cs ds : Array Value} {t u : TypeId} (h1 : RecAt w x cs t) (h2 : RecAt w y ds u) (hne : t ≠ u) : x ≠ y := fun e => by
  subst e
  unfold RecAt at h1 h2
  rw [h1] at h2
  simp only [Option.some.injEq, Obj.cells.injEq] at h2
  exact hne h2.2.1
theorem fillR_bound {c : Rg} : ∀ {g0 g : Fl} {q : Int} {l : List Int}, fillR c g0 q l = some g → l = [] ∨ q + l.length ≤ 1099511627777
  | g0, g, q, [], h => .inl rfl
  | g0, g, q, n :: l, h => by
    rw [fillR_cons] at h
    split at h
    · rename_i hp
      rcases fillR_bound h with rfl | h2
      · right; have := hp.2.2.1; simp; omega
      · right; rw [List.length_cons]; omega
    · cases h
theorem fillR_stop {c : Rg} {g0 G : Fl} {q x : Int} {l : List Int} {j : Nat} (h : fillR c g0 q (l.take j) = some G) (hx : l[j]? = some x) (hp : ¬ PutOk c G (q + j) x) : fillR c g0 q l = none := by
  obtain ⟨hj, rfl⟩ := List.getElem?_eq_some_iff.1 hx
  have e : l = l.take j ++ l[j] :: l.drop (j + 1) := by rw [List.getElem_cons_drop, List.take_append_drop]
  have hl : (l.take j).length = j := by rw [List.length_take]; omega
  rw [e, fillR_app, h]
  show fillR c G (q + (l.take j).length) (l[j] :: l.drop (j + 1)) = none
  rw [hl, fillR_cons, if_neg hp]
theorem fillR_next {c : Rg} {g0 G : Fl} {q x : Int} {l : List Int} {j : Nat} (h : fillR c g0 q (l.take j) = some G) (hx : l[j]? = some x) (hp : PutOk c G (q + j) x) :
    fillR c g0 q (l.take (j + 1)) = some (putR c G (q + j) x).1 ∧ moreR c g0 q (l.take (j + 1)) = moreR c g0 q (l.take j) + (if (putR c G (q + j) x).2.2.1 then 1 else 0) ∧ placesR c g0 q (l.take (j + 1)) = placesR c g0 q (l.take j) ++ [(putR c G (q + j) x).2.1] := by
  obtain ⟨hj, rfl⟩ := List.getElem?_eq_some_iff.1 hx
  have hl : (l.take j).length = j := by rw [List.length_take]; omega
  have hp2 : PutOk c G (q + ((l.take j).length : Nat)) l[j] := by rw [hl]; exact hp
  rw [List.take_succ_eq_append_getElem hj]
  refine ⟨?_, ?_, ?_⟩
  · rw [fillR_snoc, h]; show (if PutOk c G (q + ((l.take j).length : Nat)) l[j] then _ else _) = _; rw [if_pos hp2, hl]
  · rw [moreR_snoc h hp2, hl]
  · rw [placesR_snoc h hp2, hl]
theorem moreR_bound {c : Rg} : ∀ {g0 : Fl} {q : Int} {l : List Int}, 0 ≤ moreR c g0 q l ∧ moreR c g0 q l ≤ l.length
  | g0, q, [] => by simp [moreR]
  | g0, q, n :: l => by
    rw [moreR_cons, List.length_cons]
    have := moreR_bound (c := c) (g0 := (putR c g0 q n).1) (q := q + 1) (l := l)
    split
    · split <;> omega
    · omega
set_option maxRecDepth 20000 in
set_option maxHeartbeats 6400000 in
theorem rneed10_any (c : Rg) (g0 : Fl) (q : Int) (ad : Option Addr) (m cap : Nat) (l : List Int) (w : World) (hr : ZRow w ad cap l) (hm : l.length = m) :
    Calls Try.prog 20 #[rgV c, flV g0, .int .i64 q, .slice ad m cap] w fun e w' => e = .returned (.int .i64 (needR c g0 q l)) ∧ Below w.heap.size w w' := by
  obtain ⟨X4, X5, B1⟩ := two_recsR w (rgC c) (flC g0) 23 26
  have HX4 := Lib.hid X4
  have HX5 := Lib.hid X5
  have HB1 := Lib.hid B1
  have HR := Lib.hid hr
  have HM := Lib.hid hm
  have hcm : cap ≤ 9223372036854775807 := by have := hr.2.1; unfold maxLen at this; omega
  have hmc : m ≤ cap := by rw [← hm]; exact hr.1
  have HRG : Hid (¬ (1 ≤ q ∧ q ≤ 1099511627776) → needR c g0 q l = 0) := Lib.hid (fun h => by unfold needR; rw [if_neg h])
  have HNO : Hid ((1 ≤ q ∧ q ≤ 1099511627776) → fillR c g0 q l = none → needR c g0 q l = 0) := Lib.hid (fun h h2 => by unfold needR; rw [if_pos h, h2]; rfl)
  have HYE : Hid ((1 ≤ q ∧ q ≤ 1099511627776) → ∀ G, fillR c g0 q l = some G → needR c g0 q l = moreR c g0 q l) := Lib.hid (fun h G h2 => by unfold needR; rw [if_pos h, h2]; rfl)
  obtain ⟨N, hN⟩ : ∃ N, needR c g0 q l = N := ⟨_, rfl⟩
  rw [hN] at HRG HNO HYE ⊢
  clear X4 X5 B1 hr hm hN
  go_enter Try.func20, Try.ntmps20
  go_upto_region 1 with fail
  generalize ((w.alloc (.cells (rgC c) 23)).alloc (.cells (flC g0) 26)) = w1 at *
  obtain ⟨P5, hP5⟩ : ∃ P, w.heap.size + 1 = P := ⟨_, rfl⟩
  have HP5 := Lib.hid hP5
  rw [hP5] at HX5 ⊢
  clear hP5
  obtain ⟨P4, hP4⟩ : ∃ P, w.heap.size = P := ⟨_, rfl⟩
  have HP4 := Lib.hid hP4
  rw [hP4]
  rw [hP4] at HX4 HP5
  clear hP4
  cases d1 : decide (q < 1) with
  | true =>
    have hb := HRG.out (by simp at d1; omega)
    go_wp2_with fail
    go_ret
    exact ⟨ret_int hb.symm, HB1.out⟩
  | false =>
  cases d2 : decide (1099511627776 < q) with
  | true =>
    have hb := HRG.out (by simp at d2; omega)
    go_wp2_with fail
    go_ret
    exact ⟨ret_int hb.symm, HB1.out⟩
  | false =>
  have HQ : Hid (1 ≤ q ∧ q ≤ 1099511627776) := Lib.hid (by simp at d1 d2; omega)
  go_upto_region 4 with fail
  clear d1 d2
  go_wp2_with fail
  go_loopw [9, 10, 11, 12, 13, 14] (fun nv i _ _ _ _ wr => ∃ (j : Nat) (G : Fl), i = .int .i64 (j : Nat) ∧ nv = .int .i64 (moreR c g0 q (l.take j)) ∧ j ≤ m ∧ Hid (fillR c g0 q (l.take j) = some G) ∧ Hid (RecAt wr P4 (rgC c) 23) ∧ Hid (RecAt wr P5 (flC G) 26) ∧ Hid (Below w.heap.size w wr)) (fun _ i _ _ _ _ _ => m - (intOf i).toNat)
  case atStart => exact ⟨0, g0, rfl, rfl, by omega, Lib.hid rfl, HX4, HX5, HB1⟩
  case round =>
    clear HX4 HX5 HB1
    obtain ⟨j, G, rfl, rfl, hj, HFI, hXR, hXF, HB⟩ := hrel
    by_cases hjm : (j : Int) < m
    · obtain ⟨x, hx⟩ : ∃ x, l[j]? = some x := ⟨l[j]'(by have := HM.out; omega), List.getElem?_eq_getElem _⟩
      obtain ⟨b0, o0, rfl, p0⟩ := (HR.out.later HB.out).at hx
      have HX := Lib.hid hx
      have HXX : Hid (∀ W, Below wr.heap.size wr W → W.cell? ⟨b0, o0 + j, none⟩ = some (.int .i64 x)) := Lib.hid (fun W hW => (hW.cell (World.block_lt_of_cell? _ _ p0)).trans p0)
      have hjb : j ≤ 1099511627777 := by
        have hl : (l.take j).length = j := by rw [List.length_take]; have := HM.out; omega
        rcases fillR_bound HFI.out with h | h
        · rw [h] at hl; simp at hl; omega
        · rw [hl] at h; have := HQ.out; omega
      obtain ⟨F, P, nx, ok, hpt⟩ : ∃ F P b k, putR c G (q + (j : Nat)) x = (F, P, b, k) := ⟨_, _, _, _, rfl⟩
      have HPT := Lib.hid (fun W => rput10_any c G (q + (j : Nat)) x W)
      rw [hpt] at HPT
      have HPE := Lib.hid hpt
      obtain ⟨wo, hwo⟩ : ∃ W, W = wr := ⟨_, rfl⟩
      subst hwo
      have HW1 : Hid (IntKind.i64.wrap (q + (j : Nat)) = q + (j : Nat)) := Lib.hid (by have := HQ.out; rw [IntKind.wrap_i64]; omega)
      have HW2 : Hid (True) := Lib.hid trivial
      have HIX : Hid (∀ W : World, (0 : Int) ≤ (j : Nat) ∧ ((j : Nat) : Int) < m) := Lib.hid (fun W => by omega)
      have ub0 := Try.underlying26
      have ub1 := Try.underlying28
      have ub2 := Try.underlying37
      clear hx p0 hpt
      go_upto_region 7 with fail
      -- REG A
      refine wp_region_ptabW (L := fun ph => match ph with | 0 => [cV (.agg #[.int .i64 c.sp, .int .i64 c.st, .int .i64 c.sz]), cV (.agg #[.int .i64 G.set, .int .i64 G.u0, .int .i64 G.u1, .int .i64 G.u2, .int .i64 G.u3]), cV (.int .i64 q), cV (.int .i64 (j : Nat)), cV (.int .i64 (q + (j : Nat))), cV (.slice (some ⟨b0, o0, none⟩) m cap), cV (.int .i64 (j : Nat)), cV (.pointer (some ⟨b0, o0 + j, none⟩)), cV (.int .i64 x), cV (.tuple #[.agg #[.int .i64 F.set, .int .i64 F.u0, .int .i64 F.u1, .int .i64 F.u2, .int .i64 F.u3], .agg #[.int .i64 P.set, .int .i64 P.obj], .bool nx, .bool ok]), cV (.tuple #[.agg #[.int .i64 F.set, .int .i64 F.u0, .int .i64 F.u1, .int .i64 F.u2, .int .i64 F.u3], .agg #[.int .i64 P.set, .int .i64 P.obj], .bool nx, .bool ok]), cV (.agg #[.int .i64 F.set, .int .i64 F.u0, .int .i64 F.u1, .int .i64 F.u2, .int .i64 F.u3]), cV (.agg #[.int .i64 P.set, .int .i64 P.obj]), cV (.bool nx), cV (.bool ok), zfV wo Z5, zpV wo Z2, tV, tV, cV (.bool nx), cV (.bool ok)] | 1 => [cV (.agg #[.int .i64 c.sp, .int .i64 c.st, .int .i64 c.sz]), cV (.agg #[.int .i64 G.set, .int .i64 G.u0, .int .i64 G.u1, .int .i64 G.u2, .int .i64 G.u3]), cV (.int .i64 q), cV (.int .i64 (j : Nat)), cV (.int .i64 (q + (j : Nat))), cV (.slice (some ⟨b0, o0, none⟩) m cap), cV (.int .i64 (j : Nat)), cV (.pointer (some ⟨b0, o0 + j, none⟩)), cV (.int .i64 x), cV (.tuple #[.agg #[.int .i64 F.set, .int .i64 F.u0, .int .i64 F.u1, .int .i64 F.u2, .int .i64 F.u3], .agg #[.int .i64 P.set, .int .i64 P.obj], .bool nx, .bool ok]), cV (.tuple #[.agg #[.int .i64 F.set, .int .i64 F.u0, .int .i64 F.u1, .int .i64 F.u2, .int .i64 F.u3], .agg #[.int .i64 P.set, .int .i64 P.obj], .bool nx, .bool ok]), cV (.agg #[.int .i64 F.set, .int .i64 F.u0, .int .i64 F.u1, .int .i64 F.u2, .int .i64 F.u3]), cV (.agg #[.int .i64 P.set, .int .i64 P.obj]), cV (.bool nx), cV (.bool ok), zfV wo (flC F), zpV wo Z2, tV, tV, cV (.bool nx), cV (.bool ok)] | _ => [cV (.agg #[.int .i64 c.sp, .int .i64 c.st, .int .i64 c.sz]), cV (.agg #[.int .i64 G.set, .int .i64 G.u0, .int .i64 G.u1, .int .i64 G.u2, .int .i64 G.u3]), cV (.int .i64 q), cV (.int .i64 (j : Nat)), cV (.int .i64 (q + (j : Nat))), cV (.slice (some ⟨b0, o0, none⟩) m cap), cV (.int .i64 (j : Nat)), cV (.pointer (some ⟨b0, o0 + j, none⟩)), cV (.int .i64 x), cV (.tuple #[.agg #[.int .i64 F.set, .int .i64 F.u0, .int .i64 F.u1, .int .i64 F.u2, .int .i64 F.u3], .agg #[.int .i64 P.set, .int .i64 P.obj], .bool nx, .bool ok]), cV (.tuple #[.agg #[.int .i64 F.set, .int .i64 F.u0, .int .i64 F.u1, .int .i64 F.u2, .int .i64 F.u3], .agg #[.int .i64 P.set, .int .i64 P.obj], .bool nx, .bool ok]), cV (.agg #[.int .i64 F.set, .int .i64 F.u0, .int .i64 F.u1, .int .i64 F.u2, .int .i64 F.u3]), cV (.agg #[.int .i64 P.set, .int .i64 P.obj]), cV (.bool nx), cV (.bool ok), zfV wo (flC F), zpV wo (pcC P), tV, tV, cV (.bool nx), cV (.bool ok)]) (fun _ wq => Below wo.heap.size wo wq) [17, 18] [(0, 0), (0, 0), (0, 0), (0, 0), (0, 0), (0, 0), (0, 0), (0, 0), (0, 0), (0, 0), (0, 0), (0, 0), (0, 1), (0, 2), (0, 2), (0, 0), (0, 0), (0, 1), (1, 2), (0, 2), (0, 2)] [[(4, none)], [(5, none)], [(2, none)], [(10, none)], [(30, some 2), (31, some 3)], [(3, none)], [(10, none)], [(33, some 5), (34, some 6)], [(35, some 7)], [(28, some 0), (29, some 1), (32, some 4), (36, some 8)], [(37, some 9)], [(27, some 10)], [(27, some 10)], [(27, some 10)], [(27, some 10)], [], [], [(11, some 15), (38, some 11)], [(12, some 16), (39, some 12)], [(40, some 13)], [(41, some 14)]] 21 2 49 (by kernel_rfl) rfl rfl rfl (by kernel_rfl) (by kernel_rfl) (by decide) (by kernel_rfl) ?_ ?_ ?_ ?_ ?_
      · exact fun ph w1 w2 h hb => h.trans (hb.mono h.size)
      · exact (Below.refl _ _)
      · show ∀ i, i < 21 → _
        iterate 21 (refine fls ?_ ?_)
        · exact fl0
        · intro hne lo hi ph hran hp1 hp2 a w1 hJ hsz hs      -- 0: slot 28
          obtain ⟨rfl, rfl⟩ : 0 = lo ∧ 0 = hi := Prod.mk.inj (Option.some.inj hran)
          obtain rfl : ph = 0 := by omega
          obtain ⟨h0, _⟩ := hs
          have h0 : a.tmps.getD 4 undef = .pointer (some ⟨P4, 0, none⟩) := h0
          obtain ⟨x0, x1, x2⟩ := (hXR.out.later (show Below wo.heap.size wo w1 from hJ)).c3
          refine op_run rfl rfl (v := .agg #[.int .i64 c.sp, .int .i64 c.st, .int .i64 c.sz]) (w' := w1) ?_ rfl (Below.refl _ _)
          simp [execOp, Act.eval, h0, x0, x1, x2, go_sem]
        · intro hne lo hi ph hran hp1 hp2 a w1 hJ hsz hs      -- 1: slot 29
          obtain ⟨rfl, rfl⟩ : 0 = lo ∧ 0 = hi := Prod.mk.inj (Option.some.inj hran)
          obtain rfl : ph = 0 := by omega
          obtain ⟨h0, _⟩ := hs
          have h0 : a.tmps.getD 5 undef = .pointer (some ⟨P5, 0, none⟩) := h0
          obtain ⟨x0, x1, x2, x3, x4⟩ := (hXF.out.later (show Below wo.heap.size wo w1 from hJ)).e5
          refine op_run rfl rfl (v := .agg #[.int .i64 G.set, .int .i64 G.u0, .int .i64 G.u1, .int .i64 G.u2, .int .i64 G.u3]) (w' := w1) ?_ rfl (Below.refl _ _)
          simp [execOp, Act.eval, h0, x0, x1, x2, x3, x4, go_sem]
        · intro hne lo hi ph hran hp1 hp2 a w1 hJ hsz hs      -- 2: slot 30
          obtain ⟨rfl, rfl⟩ : 0 = lo ∧ 0 = hi := Prod.mk.inj (Option.some.inj hran)
          obtain rfl : ph = 0 := by omega
          obtain ⟨h0, _⟩ := hs
          have h0 : a.tmps.getD 2 undef = .int .i64 q := h0
          refine op_run rfl rfl (v := .int .i64 q) (w' := w1) ?_ rfl (Below.refl _ _)
          simp [execOp, Act.eval, h0, go_sem]
        · intro hne lo hi ph hran hp1 hp2 a w1 hJ hsz hs      -- 3: slot 31
          obtain ⟨rfl, rfl⟩ : 0 = lo ∧ 0 = hi := Prod.mk.inj (Option.some.inj hran)
          obtain rfl : ph = 0 := by omega
          obtain ⟨h0, _⟩ := hs
          have h0 : a.tmps.getD 10 undef = .int .i64 (j : Nat) := h0
          refine op_run rfl rfl (v := .int .i64 (j : Nat)) (w' := w1) ?_ rfl (Below.refl _ _)
          simp [execOp, Act.eval, h0, go_sem]
        · intro hne lo hi ph hran hp1 hp2 a w1 hJ hsz hs      -- 4: slot 32
          obtain ⟨rfl, rfl⟩ : 0 = lo ∧ 0 = hi := Prod.mk.inj (Option.some.inj hran)
          obtain rfl : ph = 0 := by omega
          obtain ⟨h0, h1, _⟩ := hs
          have h0 : a.tmps.getD 30 undef = .int .i64 q := h0
          have h1 : a.tmps.getD 31 undef = .int .i64 (j : Nat) := h1
          refine op_run rfl rfl (v := .int .i64 (q + (j : Nat))) (w' := w1) ?_ rfl (Below.refl _ _)
          simp [execOp, Act.eval, h0, h1, HW1.out, HW2.out, go_sem]
        · intro hne lo hi ph hran hp1 hp2 a w1 hJ hsz hs      -- 5: slot 33
          obtain ⟨rfl, rfl⟩ : 0 = lo ∧ 0 = hi := Prod.mk.inj (Option.some.inj hran)
          obtain rfl : ph = 0 := by omega
          obtain ⟨h0, _⟩ := hs
          have h0 : a.tmps.getD 3 undef = .slice (some ⟨b0, o0, none⟩) m cap := h0
          refine op_run rfl rfl (v := .slice (some ⟨b0, o0, none⟩) m cap) (w' := w1) ?_ rfl (Below.refl _ _)
          simp [execOp, Act.eval, h0, go_sem]
        · intro hne lo hi ph hran hp1 hp2 a w1 hJ hsz hs      -- 6: slot 34
          obtain ⟨rfl, rfl⟩ : 0 = lo ∧ 0 = hi := Prod.mk.inj (Option.some.inj hran)
          obtain rfl : ph = 0 := by omega
          obtain ⟨h0, _⟩ := hs
          have h0 : a.tmps.getD 10 undef = .int .i64 (j : Nat) := h0
          refine op_run rfl rfl (v := .int .i64 (j : Nat)) (w' := w1) ?_ rfl (Below.refl _ _)
          simp [execOp, Act.eval, h0, go_sem]
        · intro hne lo hi ph hran hp1 hp2 a w1 hJ hsz hs      -- 7: slot 35
          obtain ⟨rfl, rfl⟩ : 0 = lo ∧ 0 = hi := Prod.mk.inj (Option.some.inj hran)
          obtain rfl : ph = 0 := by omega
          obtain ⟨h0, h1, _⟩ := hs
          have h0 : a.tmps.getD 33 undef = .slice (some ⟨b0, o0, none⟩) m cap := h0
          have h1 : a.tmps.getD 34 undef = .int .i64 (j : Nat) := h1
          have hix := HIX.out w1
          refine op_run rfl rfl (v := .pointer (some ⟨b0, o0 + j, none⟩)) (w' := w1) ?_ rfl (Below.refl _ _)
          simp [execOp, Act.eval, h0, h1, hix, hjm, go_sem]
        · intro hne lo hi ph hran hp1 hp2 a w1 hJ hsz hs      -- 8: slot 36
          obtain ⟨rfl, rfl⟩ : 0 = lo ∧ 0 = hi := Prod.mk.inj (Option.some.inj hran)
          obtain rfl : ph = 0 := by omega
          obtain ⟨h0, _⟩ := hs
          have h0 : a.tmps.getD 35 undef = .pointer (some ⟨b0, o0 + j, none⟩) := h0
          have xx := HXX.out w1 (show Below wo.heap.size wo w1 from hJ)
          refine op_run rfl rfl (v := .int .i64 x) (w' := w1) ?_ rfl (Below.refl _ _)
          simp [execOp, Act.eval, h0, xx, go_sem]
        · intro hne lo hi ph hran hp1 hp2 a w1 hJ hsz hs      -- 9: slot 37
          obtain ⟨rfl, rfl⟩ : 0 = lo ∧ 0 = hi := Prod.mk.inj (Option.some.inj hran)
          obtain rfl : ph = 0 := by omega
          obtain ⟨h0, h1, h2, h3, _⟩ := hs
          have h0 : a.tmps.getD 28 undef = .agg #[.int .i64 c.sp, .int .i64 c.st, .int .i64 c.sz] := h0
          have h1 : a.tmps.getD 29 undef = .agg #[.int .i64 G.set, .int .i64 G.u0, .int .i64 G.u1, .int .i64 G.u2, .int .i64 G.u3] := h1
          have h2 : a.tmps.getD 32 undef = .int .i64 (q + (j : Nat)) := h2
          have h3 : a.tmps.getD 36 undef = .int .i64 x := h3
          refine op_call rfl rfl (f := 9) (args := #[.agg #[.int .i64 c.sp, .int .i64 c.st, .int .i64 c.sz], .agg #[.int .i64 G.set, .int .i64 G.u0, .int .i64 G.u1, .int .i64 G.u2, .int .i64 G.u3], .int .i64 (q + (j : Nat)), .int .i64 x]) (by simp [execOp, Act.eval, resolve, h0, h1, h2, h3, go_sem]) ?_
          exact calls_c ((HPT.out w1).mono fun e w' h => h)
        · intro hne lo hi ph hran hp1 hp2 a w1 hJ hsz hs      -- 10: slot 27
          obtain ⟨rfl, rfl⟩ : 0 = lo ∧ 0 = hi := Prod.mk.inj (Option.some.inj hran)
          obtain rfl : ph = 0 := by omega
          obtain ⟨h0, _⟩ := hs
          have h0 : a.tmps.getD 37 undef = .tuple #[.agg #[.int .i64 F.set, .int .i64 F.u0, .int .i64 F.u1, .int .i64 F.u2, .int .i64 F.u3], .agg #[.int .i64 P.set, .int .i64 P.obj], .bool nx, .bool ok] := h0
          refine op_run rfl rfl (v := .tuple #[.agg #[.int .i64 F.set, .int .i64 F.u0, .int .i64 F.u1, .int .i64 F.u2, .int .i64 F.u3], .agg #[.int .i64 P.set, .int .i64 P.obj], .bool nx, .bool ok]) (w' := w1) ?_ rfl (Below.refl _ _)
          simp [execOp, Act.eval, h0, go_sem]
        · intro hne lo hi ph hran hp1 hp2 a w1 hJ hsz hs      -- 11: slot 38
          obtain ⟨rfl, rfl⟩ : 0 = lo ∧ 0 = hi := Prod.mk.inj (Option.some.inj hran)
          obtain rfl : ph = 0 := by omega
          obtain ⟨h0, _⟩ := hs
          have h0 : a.tmps.getD 27 undef = .tuple #[.agg #[.int .i64 F.set, .int .i64 F.u0, .int .i64 F.u1, .int .i64 F.u2, .int .i64 F.u3], .agg #[.int .i64 P.set, .int .i64 P.obj], .bool nx, .bool ok] := h0
          refine op_run rfl rfl (v := .agg #[.int .i64 F.set, .int .i64 F.u0, .int .i64 F.u1, .int .i64 F.u2, .int .i64 F.u3]) (w' := w1) ?_ rfl (Below.refl _ _)
          simp [execOp, Act.eval, h0, go_sem]
        · intro hne lo hi ph hran hp1 hp2 a w1 hJ hsz hs      -- 12: slot 39
          obtain ⟨rfl, rfl⟩ : 0 = lo ∧ 1 = hi := Prod.mk.inj (Option.some.inj hran)
          rcases (by omega : ph = 0 ∨ ph = 1) with rfl | rfl
          · obtain ⟨h0, _⟩ := hs
            have h0 : a.tmps.getD 27 undef = .tuple #[.agg #[.int .i64 F.set, .int .i64 F.u0, .int .i64 F.u1, .int .i64 F.u2, .int .i64 F.u3], .agg #[.int .i64 P.set, .int .i64 P.obj], .bool nx, .bool ok] := h0
            refine op_run rfl rfl (v := .agg #[.int .i64 P.set, .int .i64 P.obj]) (w' := w1) ?_ rfl (Below.refl _ _)
            simp [execOp, Act.eval, h0, go_sem]
          · obtain ⟨h0, _⟩ := hs
            have h0 : a.tmps.getD 27 undef = .tuple #[.agg #[.int .i64 F.set, .int .i64 F.u0, .int .i64 F.u1, .int .i64 F.u2, .int .i64 F.u3], .agg #[.int .i64 P.set, .int .i64 P.obj], .bool nx, .bool ok] := h0
            refine op_run rfl rfl (v := .agg #[.int .i64 P.set, .int .i64 P.obj]) (w' := w1) ?_ rfl (Below.refl _ _)
            simp [execOp, Act.eval, h0, go_sem]
        · intro hne lo hi ph hran hp1 hp2 a w1 hJ hsz hs      -- 13: slot 40
          obtain ⟨rfl, rfl⟩ : 0 = lo ∧ 2 = hi := Prod.mk.inj (Option.some.inj hran)
          rcases (by omega : ph = 0 ∨ ph = 1 ∨ ph = 2) with rfl | rfl | rfl
          · obtain ⟨h0, _⟩ := hs
            have h0 : a.tmps.getD 27 undef = .tuple #[.agg #[.int .i64 F.set, .int .i64 F.u0, .int .i64 F.u1, .int .i64 F.u2, .int .i64 F.u3], .agg #[.int .i64 P.set, .int .i64 P.obj], .bool nx, .bool ok] := h0
            refine op_run rfl rfl (v := .bool nx) (w' := w1) ?_ rfl (Below.refl _ _)
            simp [execOp, Act.eval, h0, go_sem]
          · obtain ⟨h0, _⟩ := hs
            have h0 : a.tmps.getD 27 undef = .tuple #[.agg #[.int .i64 F.set, .int .i64 F.u0, .int .i64 F.u1, .int .i64 F.u2, .int .i64 F.u3], .agg #[.int .i64 P.set, .int .i64 P.obj], .bool nx, .bool ok] := h0
            refine op_run rfl rfl (v := .bool nx) (w' := w1) ?_ rfl (Below.refl _ _)
            simp [execOp, Act.eval, h0, go_sem]
          · obtain ⟨h0, _⟩ := hs
            have h0 : a.tmps.getD 27 undef = .tuple #[.agg #[.int .i64 F.set, .int .i64 F.u0, .int .i64 F.u1, .int .i64 F.u2, .int .i64 F.u3], .agg #[.int .i64 P.set, .int .i64 P.obj], .bool nx, .bool ok] := h0
            refine op_run rfl rfl (v := .bool nx) (w' := w1) ?_ rfl (Below.refl _ _)
            simp [execOp, Act.eval, h0, go_sem]
        · intro hne lo hi ph hran hp1 hp2 a w1 hJ hsz hs      -- 14: slot 41
          obtain ⟨rfl, rfl⟩ : 0 = lo ∧ 2 = hi := Prod.mk.inj (Option.some.inj hran)
          rcases (by omega : ph = 0 ∨ ph = 1 ∨ ph = 2) with rfl | rfl | rfl
          · obtain ⟨h0, _⟩ := hs
            have h0 : a.tmps.getD 27 undef = .tuple #[.agg #[.int .i64 F.set, .int .i64 F.u0, .int .i64 F.u1, .int .i64 F.u2, .int .i64 F.u3], .agg #[.int .i64 P.set, .int .i64 P.obj], .bool nx, .bool ok] := h0
            refine op_run rfl rfl (v := .bool ok) (w' := w1) ?_ rfl (Below.refl _ _)
            simp [execOp, Act.eval, h0, go_sem]
          · obtain ⟨h0, _⟩ := hs
            have h0 : a.tmps.getD 27 undef = .tuple #[.agg #[.int .i64 F.set, .int .i64 F.u0, .int .i64 F.u1, .int .i64 F.u2, .int .i64 F.u3], .agg #[.int .i64 P.set, .int .i64 P.obj], .bool nx, .bool ok] := h0
            refine op_run rfl rfl (v := .bool ok) (w' := w1) ?_ rfl (Below.refl _ _)
            simp [execOp, Act.eval, h0, go_sem]
          · obtain ⟨h0, _⟩ := hs
            have h0 : a.tmps.getD 27 undef = .tuple #[.agg #[.int .i64 F.set, .int .i64 F.u0, .int .i64 F.u1, .int .i64 F.u2, .int .i64 F.u3], .agg #[.int .i64 P.set, .int .i64 P.obj], .bool nx, .bool ok] := h0
            refine op_run rfl rfl (v := .bool ok) (w' := w1) ?_ rfl (Below.refl _ _)
            simp [execOp, Act.eval, h0, go_sem]
        · intro hne lo hi ph hran hp1 hp2 a w1 hJ hsz hs      -- 15: slot 11
          obtain ⟨rfl, rfl⟩ : 0 = lo ∧ 0 = hi := Prod.mk.inj (Option.some.inj hran)
          obtain rfl : ph = 0 := by omega
          refine op_run rfl rfl (v := .pointer (some ⟨w1.heap.size, 0, none⟩)) (w' := w1.alloc (.cells Z5 26)) ?_ ⟨w1.heap.size, rfl, RecAt.new w1 _ _, (show Below wo.heap.size wo w1 from hJ).size⟩ ((Below.refl _ _).alloc (Nat.le_refl _) _)
          simp [execOp, Act.eval, go_sem, ub0, ub1, ub2, Z5, Z2]
        · intro hne lo hi ph hran hp1 hp2 a w1 hJ hsz hs      -- 16: slot 12
          obtain ⟨rfl, rfl⟩ : 0 = lo ∧ 0 = hi := Prod.mk.inj (Option.some.inj hran)
          obtain rfl : ph = 0 := by omega
          refine op_run rfl rfl (v := .pointer (some ⟨w1.heap.size, 0, none⟩)) (w' := w1.alloc (.cells Z2 28)) ?_ ⟨w1.heap.size, rfl, RecAt.new w1 _ _, (show Below wo.heap.size wo w1 from hJ).size⟩ ((Below.refl _ _).alloc (Nat.le_refl _) _)
          simp [execOp, Act.eval, go_sem, ub0, ub1, ub2, Z5, Z2]
        · intro hne lo hi ph hran hp1 hp2 a w1 hJ hsz hs      -- 17: slot None
          exact absurd (by decide) hne
        · intro hne lo hi ph hran hp1 hp2 a w1 hJ hsz hs      -- 18: slot None
          exact absurd (by decide) hne
        · intro hne lo hi ph hran hp1 hp2 a w1 hJ hsz hs      -- 19: slot 13
          obtain ⟨rfl, rfl⟩ : 0 = lo ∧ 2 = hi := Prod.mk.inj (Option.some.inj hran)
          rcases (by omega : ph = 0 ∨ ph = 1 ∨ ph = 2) with rfl | rfl | rfl
          · obtain ⟨h0, _⟩ := hs
            have h0 : a.tmps.getD 40 undef = .bool nx := h0
            refine op_run rfl rfl (v := .bool nx) (w' := w1) ?_ rfl (Below.refl _ _)
            simp [execOp, Act.eval, h0, go_sem]
          · obtain ⟨h0, _⟩ := hs
            have h0 : a.tmps.getD 40 undef = .bool nx := h0
            refine op_run rfl rfl (v := .bool nx) (w' := w1) ?_ rfl (Below.refl _ _)
            simp [execOp, Act.eval, h0, go_sem]
          · obtain ⟨h0, _⟩ := hs
            have h0 : a.tmps.getD 40 undef = .bool nx := h0
            refine op_run rfl rfl (v := .bool nx) (w' := w1) ?_ rfl (Below.refl _ _)
            simp [execOp, Act.eval, h0, go_sem]
        · intro hne lo hi ph hran hp1 hp2 a w1 hJ hsz hs      -- 20: slot 14
          obtain ⟨rfl, rfl⟩ : 0 = lo ∧ 2 = hi := Prod.mk.inj (Option.some.inj hran)
          rcases (by omega : ph = 0 ∨ ph = 1 ∨ ph = 2) with rfl | rfl | rfl
          · obtain ⟨h0, _⟩ := hs
            have h0 : a.tmps.getD 41 undef = .bool ok := h0
            refine op_run rfl rfl (v := .bool ok) (w' := w1) ?_ rfl (Below.refl _ _)
            simp [execOp, Act.eval, h0, go_sem]
          · obtain ⟨h0, _⟩ := hs
            have h0 : a.tmps.getD 41 undef = .bool ok := h0
            refine op_run rfl rfl (v := .bool ok) (w' := w1) ?_ rfl (Below.refl _ _)
            simp [execOp, Act.eval, h0, go_sem]
          · obtain ⟨h0, _⟩ := hs
            have h0 : a.tmps.getD 41 undef = .bool ok := h0
            refine op_run rfl rfl (v := .bool ok) (w' := w1) ?_ rfl (Below.refl _ _)
            simp [execOp, Act.eval, h0, go_sem]
      · show ∀ ph, ph < 2 → _
        iterate 2 (refine fls ?_ ?_)
        · exact fl0
        · intro i hi a w1 hJ hsz hs      -- heavy 0: op 17 slot None
          obtain rfl : 17 = i := Option.some.inj hi
          obtain ⟨h0, h1, _⟩ := hs
          have m0 : (zfV wo Z5).p w1 (a.tmps.getD 11 undef) := h0
          have h1 : a.tmps.getD 38 undef = .agg #[.int .i64 F.set, .int .i64 F.u0, .int .i64 F.u1, .int .i64 F.u2, .int .i64 F.u3] := h1
          have g1 : a.tmps[38]?.getD undef = .agg #[.int .i64 F.set, .int .i64 F.u0, .int .i64 F.u1, .int .i64 F.u2, .int .i64 F.u3] := (Array.getD_eq_getD_getElem? ..).symm.trans h1
          obtain ⟨PX, hvx, hX, hXs⟩ := (show ∃ g, a.tmps.getD 11 undef = .pointer (some ⟨g, 0, none⟩) ∧ RecAt w1 g Z5 26 ∧ wo.heap.size ≤ g from m0)
          refine hv_recW rfl rfl (x := PX) (p := .tmp 11) (v := .tmp 38) (cs := Z5) (vs := flC F) rfl hvx h1 hX rfl (by kernel_rfl) (by kernel_rfl) (fun w' => trivial) ?_
          intro w' r1 r2 r3 r4
          have hb : Below wo.heap.size wo w' := (show Below wo.heap.size wo w1 from hJ).grown r4 (show Below wo.heap.size wo w1 from hJ).size (fun q e => by cases e; exact hXs)
          exact ⟨hb, CalmW.all ⟨.inr fun _ _ h => h, .inr fun _ _ h => h, .inr fun _ _ h => h, .inr fun _ _ h => h, .inr fun _ _ h => h, .inr fun _ _ h => h, .inr fun _ _ h => h, .inr fun _ _ h => h, .inr fun _ _ h => h, .inr fun _ _ h => h, .inr fun _ _ h => h, .inr fun _ _ h => h, .inr fun _ _ h => h, .inr fun _ _ h => h, .inr fun _ _ h => h, .inr fun v hh _ => ⟨PX, (hh _ _ rfl rfl).trans hvx, r1, hXs⟩, .inr fun v hh ⟨g, e1, e2, e3⟩ => ⟨g, e1, e2.keep r3 (rec_ne e2 hX (by decide)), e3⟩, .inl rfl, .inr fun _ _ h => h, .inr fun _ _ h => h, .inr fun _ _ h => h, trivial⟩⟩
        · intro i hi a w1 hJ hsz hs      -- heavy 1: op 18 slot None
          obtain rfl : 18 = i := Option.some.inj hi
          obtain ⟨h0, h1, _⟩ := hs
          have m0 : (zpV wo Z2).p w1 (a.tmps.getD 12 undef) := h0
          have h1 : a.tmps.getD 39 undef = .agg #[.int .i64 P.set, .int .i64 P.obj] := h1
          have g1 : a.tmps[39]?.getD undef = .agg #[.int .i64 P.set, .int .i64 P.obj] := (Array.getD_eq_getD_getElem? ..).symm.trans h1
          obtain ⟨PX, hvx, hX, hXs⟩ := (show ∃ g, a.tmps.getD 12 undef = .pointer (some ⟨g, 0, none⟩) ∧ RecAt w1 g Z2 28 ∧ wo.heap.size ≤ g from m0)
          refine hv_recW rfl rfl (x := PX) (p := .tmp 12) (v := .tmp 39) (cs := Z2) (vs := pcC P) rfl hvx h1 hX rfl (by kernel_rfl) (by kernel_rfl) (fun w' => trivial) ?_
          intro w' r1 r2 r3 r4
          have hb : Below wo.heap.size wo w' := (show Below wo.heap.size wo w1 from hJ).grown r4 (show Below wo.heap.size wo w1 from hJ).size (fun q e => by cases e; exact hXs)
          exact ⟨hb, CalmW.all ⟨.inr fun _ _ h => h, .inr fun _ _ h => h, .inr fun _ _ h => h, .inr fun _ _ h => h, .inr fun _ _ h => h, .inr fun _ _ h => h, .inr fun _ _ h => h, .inr fun _ _ h => h, .inr fun _ _ h => h, .inr fun _ _ h => h, .inr fun _ _ h => h, .inr fun _ _ h => h, .inr fun _ _ h => h, .inr fun _ _ h => h, .inr fun _ _ h => h, .inr fun v hh ⟨g, e1, e2, e3⟩ => ⟨g, e1, e2.keep r3 (rec_ne e2 hX (by decide)), e3⟩, .inr fun v hh _ => ⟨PX, (hh _ _ rfl rfl).trans hvx, r1, hXs⟩, .inr fun _ _ h => h, .inl rfl, .inr fun _ _ h => h, .inr fun _ _ h => h, trivial⟩⟩
      intro f w1 hJ hv
      have e11 : (zfV wo (flC F)).p w1 (f 11) := hv 15 _ 11 rfl rfl
      have e12 : (zpV wo (pcC P)).p w1 (f 12) := hv 16 _ 12 rfl rfl
      have e13 : f 13 = .bool nx := hv 19 _ 13 rfl rfl
      have e14 : f 14 = .bool ok := hv 20 _ 14 rfl rfl
      clear hv
      try simp only [Exit.then]
      simp only [putAll, List.foldl_cons, List.foldl_nil, Option.getD_some, Act.put, List.setIfInBounds_toArray, List.set_cons_succ, List.set_cons_zero]
      obtain ⟨PX, e1, hX, hXs⟩ := e11
      obtain ⟨PY, e2, hY, hYs⟩ := e12
      rw [e1, e2, e13, e14]
      -- END A
      have hbo : Below wo.heap.size wo w1 := hJ
      have HX5n := Lib.hid (hXF.out.later hbo)
      have HX4n := Lib.hid (hXR.out.later hbo)
      have HBn := Lib.hid (HB.out.trans (hbo.mono HB.out.size))
      have HXn := Lib.hid hX
      have HNE : Hid (P5 ≠ PX) := Lib.hid (by have := hXF.out.lt; omega)
      clear hXR hXF HB hX hY hYs hXs hJ e1 e2 e13 e14 HXX HPT HW1 HW2 HIX
      cases ok with
      | false =>
        have hno : ¬ PutOk c G (q + (j : Nat)) x := fun h => by
          have h1 := HPE.out
          unfold putR at h1
          rw [if_pos h] at h1
          split at h1 <;> simp at h1
        have hb := HNO.out HQ.out (fillR_stop HFI.out HX.out hno)
        go_wp2_with fail
        go_ret
        exact ⟨ret_int hb.symm, HBn.out⟩
      | true =>
        have hpo : PutOk c G (q + (j : Nat)) x := Classical.byContradiction fun h => by
          have h1 := HPE.out
          rw [putR_no h] at h1
          simp at h1
        obtain ⟨n1, n2, _⟩ := fillR_next HFI.out HX.out hpo
        rw [HPE.out] at n1 n2
        simp only at n1 n2
        have HFn := Lib.hid n1
        have HMn := Lib.hid n2
        obtain ⟨y0, y1, y2, y3, y4⟩ := HXn.out.e5
        have hmb := moreR_bound (c := c) (g0 := g0) (q := q) (l := l.take j)
        have hlj : (l.take j).length ≤ j := by rw [List.length_take]; omega
        clear n1 n2
        cases nx with
        | true =>
          have hw1 : IntKind.i64.wrap (moreR c g0 q (l.take j) + 1) = moreR c g0 q (l.take j) + 1 := by rw [IntKind.wrap_i64]; omega
          go_wp2_with (refine wpList_rec rfl rfl P5 (flC G) (flC F) rfl rfl HX5n.out rfl (by kernel_rfl) (by kernel_rfl) ?_; intro w8 r1 r2 r3 r4)
          go_roundw
          case rel => exact ⟨j + 1, F, by go_num, by rw [HMn.out]; simp, by omega, HFn, Lib.hid (HX4n.out.keep r3 (by have := HP4.out; have := HP5.out; omega)), Lib.hid r1, Lib.hid (HBn.out.grown r4 HBn.out.size (fun k e => by cases e; have := HP5.out; have := HP4.out; omega))⟩
          case measure => simp [intOf]; omega
        | false =>
          go_wp2_with (refine wpList_rec rfl rfl P5 (flC G) (flC F) rfl rfl HX5n.out rfl (by kernel_rfl) (by kernel_rfl) ?_; intro w8 r1 r2 r3 r4)
          go_roundw
          case rel => exact ⟨j + 1, F, by go_num, by rw [HMn.out]; simp, by omega, HFn, Lib.hid (HX4n.out.keep r3 (by have := HP4.out; have := HP5.out; omega)), Lib.hid r1, Lib.hid (HBn.out.grown r4 HBn.out.size (fun k e => by cases e; have := HP5.out; have := HP4.out; omega))⟩
          case measure => simp [intOf]; omega
    · have hjm' : j = m := by omega
      subst hjm'
      have hb := HYE.out HQ.out G (by have := HFI.out; rwa [List.take_of_length_le (Nat.le_of_eq HM.out)] at this)
      rw [← List.take_of_length_le (l := l) (Nat.le_of_eq HM.out)] at hb
      have HBB := Lib.hid hb
      clear hb
      go_wp2_with fail
      go_ret
      exact ⟨ret_int HBB.out.symm, HB.out⟩
end Go.Proofs.Ytblipabemghdbaa
