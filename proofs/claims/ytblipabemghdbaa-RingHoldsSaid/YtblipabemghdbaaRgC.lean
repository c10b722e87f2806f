/- Rings: the document's own Sets; rows of places that are alike. -/
import Derived.Test.YtblipabemghdbaaRgB
import Derived.Test.YtblipabemghdbaaRd
import Derived.Laws.StructEq
import Derived.BigQuiet
namespace Go.Proofs.Ytblipabemghdbaa
open Go.RowKit Go.Proofs
set_option linter.unusedVariables false
set_option linter.unusedSimpArgs false
set_option linter.unnecessarySimpa false

def pcL (p : Pc) : List Value := [.int .i64 p.set, .int .i64 p.obj]
abbrev pcT : RT Pc := ⟨pcL, 2, fun _ => True, 28, 40⟩
theorem info_pc : (Try.prog.info? 28).map (fun i => (i.zero, i.size, i.bytes)) = some (some (.agg #[.int .i64 0, .int .i64 0]), 2, 16) := by kernel_rfl
theorem pcOk : (pcT).Ok := RT.Ok.of (fun t => rfl) (fun t u h => by
    simp only [pcL, List.mem_cons, List.not_mem_nil, or_false] at h
    rcases h with rfl | rfl <;> rfl) (by decide) Try.underlying40 info_pc rfl (by decide) rfl
theorem GRow.c2 {w : World} {a : Option Addr} {cap : Nat} {ts : List Pc} (h : GRow pcT w a cap ts) {i : Nat} {t : Pc} (he : ts[i]? = some t) :
    ∃ b off, a = some ⟨b, off, none⟩ ∧ w.cell? ⟨b, off + i * 2, none⟩ = some (.int .i64 t.set) ∧ w.cell? ⟨b, off + i * 2 + 1, none⟩ = some (.int .i64 t.obj) := by
  obtain ⟨b, off, rfl, h2⟩ := h.at he
  exact ⟨b, off, rfl, h2 0 _ rfl, h2 1 _ rfl⟩
set_option maxRecDepth 20000 in
set_option maxHeartbeats 6400000 in
theorem rsets10_any (c : Rg) (at' : Int) (ad : Option Addr) (m cap : Nat) (l : List Int) (w : World) (hr : ZRow w ad cap l) (hm : l.length = m) (hm2 : m ≤ 100000) :
    Calls Try.prog 18 #[rgV c, .int .i64 at', .slice ad m cap] w fun e w' => ∃ v, e = .returned v ∧ GOwn pcT w w' v (setsR c at' l) := by
  obtain ⟨X3, X8, B1⟩ := two_recsR w (rgC c) Z5 23 26
  have HX3 := Lib.hid X3
  have HX8 := Lib.hid X8
  have HB1 := Lib.hid B1
  have HR := Lib.hid hr
  have HM := Lib.hid hm
  have hcm : cap ≤ 9223372036854775807 := by have := hr.2.1; unfold maxLen at this; omega
  have hmc : m ≤ cap := by rw [← hm]; exact hr.1
  have HRG : Hid (¬ (0 ≤ at' ∧ at' ≤ 1099511627776) → setsR c at' l = []) := Lib.hid (fun h => by unfold setsR; rw [if_neg h])
  have HNO : Hid ((0 ≤ at' ∧ at' ≤ 1099511627776) → fillR c noFl (at' + 1) l = none → setsR c at' l = []) := Lib.hid (fun h h2 => by unfold setsR; rw [if_pos h, h2]; rfl)
  have HYE : Hid ((0 ≤ at' ∧ at' ≤ 1099511627776) → ∀ G, fillR c noFl (at' + 1) l = some G → setsR c at' l = placesR c noFl (at' + 1) l) := Lib.hid (fun h G h2 => by unfold setsR; rw [if_pos h, h2]; rfl)
  obtain ⟨N, hN⟩ : ∃ N, setsR c at' l = N := ⟨_, rfl⟩
  rw [hN] at HRG HNO HYE ⊢
  clear X3 X8 B1 hr hm hN
  simp only [Z5] at HX3 HX8 HB1
  go_enter Try.func18, Try.ntmps18
  go_upto_region 3 with fail
  generalize ((w.alloc (.cells (rgC c) 23)).alloc (.cells #[.int .i64 0, .int .i64 0, .int .i64 0, .int .i64 0, .int .i64 0] 26)) = w1 at *
  obtain ⟨P8, hP8⟩ : ∃ P, w.heap.size + 1 = P := ⟨_, rfl⟩
  have HP8 := Lib.hid hP8
  rw [hP8] at HX8 ⊢
  clear hP8
  obtain ⟨P3, hP3⟩ : ∃ P, w.heap.size = P := ⟨_, rfl⟩
  have HP3 := Lib.hid hP3
  rw [hP3]
  rw [hP3] at HX3 HP8
  clear hP3
  cases d1 : decide (at' < 0) with
  | true =>
    have hb := HRG.out (by simp at d1; omega)
    subst hb
    go_wp2_with fail
    go_ret
    exact ⟨_, rfl, GOwn.nil' HB1.out⟩
  | false =>
  cases d2 : decide (1099511627776 < at') with
  | true =>
    have hb := HRG.out (by simp at d2; omega)
    subst hb
    go_wp2_with fail
    go_ret
    exact ⟨_, rfl, GOwn.nil' HB1.out⟩
  | false =>
  have HQ : Hid (0 ≤ at' ∧ at' ≤ 1099511627776) := Lib.hid (by simp at d1 d2; omega)
  go_upto_region 5 with fail
  clear d1 d2
  go_wp2_with fail
  go_loopw [7, 9, 10, 11, 12, 13] (fun ov i _ _ _ _ wr => ∃ (j : Nat) (G : Fl) (ap : Option Addr) (cp : Nat), i = .int .i64 (j : Nat) ∧ ov = .slice ap j cp ∧ j ≤ m ∧ Hid (fillR c noFl (at' + 1) (l.take j) = some G) ∧ Hid (RecAt wr P3 (rgC c) 23) ∧ Hid (RecAt wr P8 (flC G) 26) ∧ Hid (GOwn pcT w wr (.slice ap j cp) (placesR c noFl (at' + 1) (l.take j)))) (fun _ i _ _ _ _ _ => m - (intOf i).toNat)
  case atStart => exact ⟨0, noFl, none, 0, rfl, rfl, by omega, Lib.hid rfl, HX3, HX8, Lib.hid (GOwn.nil' HB1.out)⟩
  case round =>
    clear HX3 HX8 HB1
    obtain ⟨j, G, ap, cp, rfl, rfl, hj, HFI, hXR, hXF, HO⟩ := hrel
    have HPL : Hid ((placesR c noFl (at' + 1) (l.take j)).length = j) := Lib.hid (by rw [placesR_len HFI.out, List.length_take]; have := HM.out; omega)
    by_cases hjm : (j : Int) < m
    · obtain ⟨x, hx⟩ : ∃ x, l[j]? = some x := ⟨l[j]'(by have := HM.out; omega), List.getElem?_eq_getElem _⟩
      obtain ⟨b0, o0, rfl, p0⟩ := (HR.out.later HO.out.below).at hx
      have HX := Lib.hid hx
      have HXX : Hid (∀ W, Below wr.heap.size wr W → W.cell? ⟨b0, o0 + j, none⟩ = some (.int .i64 x)) := Lib.hid (fun W hW => (hW.cell (World.block_lt_of_cell? _ _ p0)).trans p0)
      obtain ⟨F, P, nx, ok, hpt⟩ : ∃ F P b k, putR c G (at' + 1 + (j : Nat)) x = (F, P, b, k) := ⟨_, _, _, _, rfl⟩
      have HPT := Lib.hid (fun W => rput10_any c G (at' + 1 + (j : Nat)) x W)
      rw [hpt] at HPT
      have HPE := Lib.hid hpt
      obtain ⟨wo, hwo⟩ : ∃ W, W = wr := ⟨_, rfl⟩
      subst hwo
      have HW1 : Hid (IntKind.i64.wrap (at' + 1) = at' + 1) := Lib.hid (by have := HQ.out; rw [IntKind.wrap_i64]; omega)
      have HW2 : Hid (IntKind.i64.wrap (at' + 1 + (j : Nat)) = at' + 1 + (j : Nat)) := Lib.hid (by have := HQ.out; rw [IntKind.wrap_i64]; omega)
      have HIX : Hid (∀ W : World, (0 : Int) ≤ (j : Nat) ∧ ((j : Nat) : Int) < m) := Lib.hid (fun W => by omega)
      have ub0 := Try.underlying26
      have ub1 := Try.underlying28
      have ub2 := Try.underlying37
      clear hx p0 hpt
      go_upto_region 8 with fail
      -- REG A
      refine wp_region_ptabW (L := fun ph => match ph with | 0 => [cV (.agg #[.int .i64 c.sp, .int .i64 c.st, .int .i64 c.sz]), cV (.agg #[.int .i64 G.set, .int .i64 G.u0, .int .i64 G.u1, .int .i64 G.u2, .int .i64 G.u3]), cV (.int .i64 at'), cV (.int .i64 (at' + 1)), cV (.int .i64 (j : Nat)), cV (.int .i64 (at' + 1 + (j : Nat))), cV (.slice (some ⟨b0, o0, none⟩) m cap), cV (.int .i64 (j : Nat)), cV (.pointer (some ⟨b0, o0 + j, none⟩)), cV (.int .i64 x), cV (.tuple #[.agg #[.int .i64 F.set, .int .i64 F.u0, .int .i64 F.u1, .int .i64 F.u2, .int .i64 F.u3], .agg #[.int .i64 P.set, .int .i64 P.obj], .bool nx, .bool ok]), cV (.tuple #[.agg #[.int .i64 F.set, .int .i64 F.u0, .int .i64 F.u1, .int .i64 F.u2, .int .i64 F.u3], .agg #[.int .i64 P.set, .int .i64 P.obj], .bool nx, .bool ok]), cV (.agg #[.int .i64 F.set, .int .i64 F.u0, .int .i64 F.u1, .int .i64 F.u2, .int .i64 F.u3]), cV (.agg #[.int .i64 P.set, .int .i64 P.obj]), cV (.bool nx), cV (.bool ok), zfV wo Z5, zpV wo Z2, tV, tV, cV (.bool nx), cV (.bool ok)] | 1 => [cV (.agg #[.int .i64 c.sp, .int .i64 c.st, .int .i64 c.sz]), cV (.agg #[.int .i64 G.set, .int .i64 G.u0, .int .i64 G.u1, .int .i64 G.u2, .int .i64 G.u3]), cV (.int .i64 at'), cV (.int .i64 (at' + 1)), cV (.int .i64 (j : Nat)), cV (.int .i64 (at' + 1 + (j : Nat))), cV (.slice (some ⟨b0, o0, none⟩) m cap), cV (.int .i64 (j : Nat)), cV (.pointer (some ⟨b0, o0 + j, none⟩)), cV (.int .i64 x), cV (.tuple #[.agg #[.int .i64 F.set, .int .i64 F.u0, .int .i64 F.u1, .int .i64 F.u2, .int .i64 F.u3], .agg #[.int .i64 P.set, .int .i64 P.obj], .bool nx, .bool ok]), cV (.tuple #[.agg #[.int .i64 F.set, .int .i64 F.u0, .int .i64 F.u1, .int .i64 F.u2, .int .i64 F.u3], .agg #[.int .i64 P.set, .int .i64 P.obj], .bool nx, .bool ok]), cV (.agg #[.int .i64 F.set, .int .i64 F.u0, .int .i64 F.u1, .int .i64 F.u2, .int .i64 F.u3]), cV (.agg #[.int .i64 P.set, .int .i64 P.obj]), cV (.bool nx), cV (.bool ok), zfV wo (flC F), zpV wo Z2, tV, tV, cV (.bool nx), cV (.bool ok)] | _ => [cV (.agg #[.int .i64 c.sp, .int .i64 c.st, .int .i64 c.sz]), cV (.agg #[.int .i64 G.set, .int .i64 G.u0, .int .i64 G.u1, .int .i64 G.u2, .int .i64 G.u3]), cV (.int .i64 at'), cV (.int .i64 (at' + 1)), cV (.int .i64 (j : Nat)), cV (.int .i64 (at' + 1 + (j : Nat))), cV (.slice (some ⟨b0, o0, none⟩) m cap), cV (.int .i64 (j : Nat)), cV (.pointer (some ⟨b0, o0 + j, none⟩)), cV (.int .i64 x), cV (.tuple #[.agg #[.int .i64 F.set, .int .i64 F.u0, .int .i64 F.u1, .int .i64 F.u2, .int .i64 F.u3], .agg #[.int .i64 P.set, .int .i64 P.obj], .bool nx, .bool ok]), cV (.tuple #[.agg #[.int .i64 F.set, .int .i64 F.u0, .int .i64 F.u1, .int .i64 F.u2, .int .i64 F.u3], .agg #[.int .i64 P.set, .int .i64 P.obj], .bool nx, .bool ok]), cV (.agg #[.int .i64 F.set, .int .i64 F.u0, .int .i64 F.u1, .int .i64 F.u2, .int .i64 F.u3]), cV (.agg #[.int .i64 P.set, .int .i64 P.obj]), cV (.bool nx), cV (.bool ok), zfV wo (flC F), zpV wo (pcC P), tV, tV, cV (.bool nx), cV (.bool ok)]) (fun _ wq => Below wo.heap.size wo wq) [18, 19] [(0, 0), (0, 0), (0, 0), (0, 0), (0, 0), (0, 0), (0, 0), (0, 0), (0, 0), (0, 0), (0, 0), (0, 0), (0, 0), (0, 1), (0, 2), (0, 2), (0, 0), (0, 0), (0, 1), (1, 2), (0, 2), (0, 2)] [[(3, none)], [(8, none)], [(1, none)], [(29, some 2)], [(9, none)], [(30, some 3), (31, some 4)], [(2, none)], [(9, none)], [(33, some 6), (34, some 7)], [(35, some 8)], [(27, some 0), (28, some 1), (32, some 5), (36, some 9)], [(37, some 10)], [(26, some 11)], [(26, some 11)], [(26, some 11)], [(26, some 11)], [], [], [(10, some 16), (38, some 12)], [(11, some 17), (39, some 13)], [(40, some 14)], [(41, some 15)]] 22 2 50 (by kernel_rfl) rfl rfl rfl (by kernel_rfl) (by kernel_rfl) (by decide) (by kernel_rfl) ?_ ?_ ?_ ?_ ?_
      · exact fun ph w1 w2 h hb => h.trans (hb.mono h.size)
      · exact (Below.refl _ _)
      · show ∀ i, i < 22 → _
        iterate 22 (refine fls ?_ ?_)
        · exact fl0
        · intro hne lo hi ph hran hp1 hp2 a w1 hJ hsz hs      -- 0: slot 27
          obtain ⟨rfl, rfl⟩ : 0 = lo ∧ 0 = hi := Prod.mk.inj (Option.some.inj hran)
          obtain rfl : ph = 0 := by omega
          obtain ⟨h0, _⟩ := hs
          have h0 : a.tmps.getD 3 undef = .pointer (some ⟨P3, 0, none⟩) := h0
          obtain ⟨x0, x1, x2⟩ := (hXR.out.later (show Below wo.heap.size wo w1 from hJ)).c3
          refine op_run rfl rfl (v := .agg #[.int .i64 c.sp, .int .i64 c.st, .int .i64 c.sz]) (w' := w1) ?_ rfl (Below.refl _ _)
          simp [execOp, Act.eval, h0, x0, x1, x2, go_sem]
        · intro hne lo hi ph hran hp1 hp2 a w1 hJ hsz hs      -- 1: slot 28
          obtain ⟨rfl, rfl⟩ : 0 = lo ∧ 0 = hi := Prod.mk.inj (Option.some.inj hran)
          obtain rfl : ph = 0 := by omega
          obtain ⟨h0, _⟩ := hs
          have h0 : a.tmps.getD 8 undef = .pointer (some ⟨P8, 0, none⟩) := h0
          obtain ⟨x0, x1, x2, x3, x4⟩ := (hXF.out.later (show Below wo.heap.size wo w1 from hJ)).e5
          refine op_run rfl rfl (v := .agg #[.int .i64 G.set, .int .i64 G.u0, .int .i64 G.u1, .int .i64 G.u2, .int .i64 G.u3]) (w' := w1) ?_ rfl (Below.refl _ _)
          simp [execOp, Act.eval, h0, x0, x1, x2, x3, x4, go_sem]
        · intro hne lo hi ph hran hp1 hp2 a w1 hJ hsz hs      -- 2: slot 29
          obtain ⟨rfl, rfl⟩ : 0 = lo ∧ 0 = hi := Prod.mk.inj (Option.some.inj hran)
          obtain rfl : ph = 0 := by omega
          obtain ⟨h0, _⟩ := hs
          have h0 : a.tmps.getD 1 undef = .int .i64 at' := h0
          refine op_run rfl rfl (v := .int .i64 at') (w' := w1) ?_ rfl (Below.refl _ _)
          simp [execOp, Act.eval, h0, go_sem]
        · intro hne lo hi ph hran hp1 hp2 a w1 hJ hsz hs      -- 3: slot 30
          obtain ⟨rfl, rfl⟩ : 0 = lo ∧ 0 = hi := Prod.mk.inj (Option.some.inj hran)
          obtain rfl : ph = 0 := by omega
          obtain ⟨h0, _⟩ := hs
          have h0 : a.tmps.getD 29 undef = .int .i64 at' := h0
          refine op_run rfl rfl (v := .int .i64 (at' + 1)) (w' := w1) ?_ rfl (Below.refl _ _)
          simp [execOp, Act.eval, h0, HW1.out, HW2.out, go_sem]
        · intro hne lo hi ph hran hp1 hp2 a w1 hJ hsz hs      -- 4: slot 31
          obtain ⟨rfl, rfl⟩ : 0 = lo ∧ 0 = hi := Prod.mk.inj (Option.some.inj hran)
          obtain rfl : ph = 0 := by omega
          obtain ⟨h0, _⟩ := hs
          have h0 : a.tmps.getD 9 undef = .int .i64 (j : Nat) := h0
          refine op_run rfl rfl (v := .int .i64 (j : Nat)) (w' := w1) ?_ rfl (Below.refl _ _)
          simp [execOp, Act.eval, h0, go_sem]
        · intro hne lo hi ph hran hp1 hp2 a w1 hJ hsz hs      -- 5: slot 32
          obtain ⟨rfl, rfl⟩ : 0 = lo ∧ 0 = hi := Prod.mk.inj (Option.some.inj hran)
          obtain rfl : ph = 0 := by omega
          obtain ⟨h0, h1, _⟩ := hs
          have h0 : a.tmps.getD 30 undef = .int .i64 (at' + 1) := h0
          have h1 : a.tmps.getD 31 undef = .int .i64 (j : Nat) := h1
          refine op_run rfl rfl (v := .int .i64 (at' + 1 + (j : Nat))) (w' := w1) ?_ rfl (Below.refl _ _)
          simp [execOp, Act.eval, h0, h1, HW1.out, HW2.out, go_sem]
        · intro hne lo hi ph hran hp1 hp2 a w1 hJ hsz hs      -- 6: slot 33
          obtain ⟨rfl, rfl⟩ : 0 = lo ∧ 0 = hi := Prod.mk.inj (Option.some.inj hran)
          obtain rfl : ph = 0 := by omega
          obtain ⟨h0, _⟩ := hs
          have h0 : a.tmps.getD 2 undef = .slice (some ⟨b0, o0, none⟩) m cap := h0
          refine op_run rfl rfl (v := .slice (some ⟨b0, o0, none⟩) m cap) (w' := w1) ?_ rfl (Below.refl _ _)
          simp [execOp, Act.eval, h0, go_sem]
        · intro hne lo hi ph hran hp1 hp2 a w1 hJ hsz hs      -- 7: slot 34
          obtain ⟨rfl, rfl⟩ : 0 = lo ∧ 0 = hi := Prod.mk.inj (Option.some.inj hran)
          obtain rfl : ph = 0 := by omega
          obtain ⟨h0, _⟩ := hs
          have h0 : a.tmps.getD 9 undef = .int .i64 (j : Nat) := h0
          refine op_run rfl rfl (v := .int .i64 (j : Nat)) (w' := w1) ?_ rfl (Below.refl _ _)
          simp [execOp, Act.eval, h0, go_sem]
        · intro hne lo hi ph hran hp1 hp2 a w1 hJ hsz hs      -- 8: slot 35
          obtain ⟨rfl, rfl⟩ : 0 = lo ∧ 0 = hi := Prod.mk.inj (Option.some.inj hran)
          obtain rfl : ph = 0 := by omega
          obtain ⟨h0, h1, _⟩ := hs
          have h0 : a.tmps.getD 33 undef = .slice (some ⟨b0, o0, none⟩) m cap := h0
          have h1 : a.tmps.getD 34 undef = .int .i64 (j : Nat) := h1
          have hix := HIX.out w1
          refine op_run rfl rfl (v := .pointer (some ⟨b0, o0 + j, none⟩)) (w' := w1) ?_ rfl (Below.refl _ _)
          simp [execOp, Act.eval, h0, h1, hix, hjm, go_sem]
        · intro hne lo hi ph hran hp1 hp2 a w1 hJ hsz hs      -- 9: slot 36
          obtain ⟨rfl, rfl⟩ : 0 = lo ∧ 0 = hi := Prod.mk.inj (Option.some.inj hran)
          obtain rfl : ph = 0 := by omega
          obtain ⟨h0, _⟩ := hs
          have h0 : a.tmps.getD 35 undef = .pointer (some ⟨b0, o0 + j, none⟩) := h0
          have xx := HXX.out w1 (show Below wo.heap.size wo w1 from hJ)
          refine op_run rfl rfl (v := .int .i64 x) (w' := w1) ?_ rfl (Below.refl _ _)
          simp [execOp, Act.eval, h0, xx, go_sem]
        · intro hne lo hi ph hran hp1 hp2 a w1 hJ hsz hs      -- 10: slot 37
          obtain ⟨rfl, rfl⟩ : 0 = lo ∧ 0 = hi := Prod.mk.inj (Option.some.inj hran)
          obtain rfl : ph = 0 := by omega
          obtain ⟨h0, h1, h2, h3, _⟩ := hs
          have h0 : a.tmps.getD 27 undef = .agg #[.int .i64 c.sp, .int .i64 c.st, .int .i64 c.sz] := h0
          have h1 : a.tmps.getD 28 undef = .agg #[.int .i64 G.set, .int .i64 G.u0, .int .i64 G.u1, .int .i64 G.u2, .int .i64 G.u3] := h1
          have h2 : a.tmps.getD 32 undef = .int .i64 (at' + 1 + (j : Nat)) := h2
          have h3 : a.tmps.getD 36 undef = .int .i64 x := h3
          refine op_call rfl rfl (f := 9) (args := #[.agg #[.int .i64 c.sp, .int .i64 c.st, .int .i64 c.sz], .agg #[.int .i64 G.set, .int .i64 G.u0, .int .i64 G.u1, .int .i64 G.u2, .int .i64 G.u3], .int .i64 (at' + 1 + (j : Nat)), .int .i64 x]) (by simp [execOp, Act.eval, resolve, h0, h1, h2, h3, go_sem]) ?_
          exact calls_c ((HPT.out w1).mono fun e w' h => h)
        · intro hne lo hi ph hran hp1 hp2 a w1 hJ hsz hs      -- 11: slot 26
          obtain ⟨rfl, rfl⟩ : 0 = lo ∧ 0 = hi := Prod.mk.inj (Option.some.inj hran)
          obtain rfl : ph = 0 := by omega
          obtain ⟨h0, _⟩ := hs
          have h0 : a.tmps.getD 37 undef = .tuple #[.agg #[.int .i64 F.set, .int .i64 F.u0, .int .i64 F.u1, .int .i64 F.u2, .int .i64 F.u3], .agg #[.int .i64 P.set, .int .i64 P.obj], .bool nx, .bool ok] := h0
          refine op_run rfl rfl (v := .tuple #[.agg #[.int .i64 F.set, .int .i64 F.u0, .int .i64 F.u1, .int .i64 F.u2, .int .i64 F.u3], .agg #[.int .i64 P.set, .int .i64 P.obj], .bool nx, .bool ok]) (w' := w1) ?_ rfl (Below.refl _ _)
          simp [execOp, Act.eval, h0, go_sem]
        · intro hne lo hi ph hran hp1 hp2 a w1 hJ hsz hs      -- 12: slot 38
          obtain ⟨rfl, rfl⟩ : 0 = lo ∧ 0 = hi := Prod.mk.inj (Option.some.inj hran)
          obtain rfl : ph = 0 := by omega
          obtain ⟨h0, _⟩ := hs
          have h0 : a.tmps.getD 26 undef = .tuple #[.agg #[.int .i64 F.set, .int .i64 F.u0, .int .i64 F.u1, .int .i64 F.u2, .int .i64 F.u3], .agg #[.int .i64 P.set, .int .i64 P.obj], .bool nx, .bool ok] := h0
          refine op_run rfl rfl (v := .agg #[.int .i64 F.set, .int .i64 F.u0, .int .i64 F.u1, .int .i64 F.u2, .int .i64 F.u3]) (w' := w1) ?_ rfl (Below.refl _ _)
          simp [execOp, Act.eval, h0, go_sem]
        · intro hne lo hi ph hran hp1 hp2 a w1 hJ hsz hs      -- 13: slot 39
          obtain ⟨rfl, rfl⟩ : 0 = lo ∧ 1 = hi := Prod.mk.inj (Option.some.inj hran)
          rcases (by omega : ph = 0 ∨ ph = 1) with rfl | rfl
          · obtain ⟨h0, _⟩ := hs
            have h0 : a.tmps.getD 26 undef = .tuple #[.agg #[.int .i64 F.set, .int .i64 F.u0, .int .i64 F.u1, .int .i64 F.u2, .int .i64 F.u3], .agg #[.int .i64 P.set, .int .i64 P.obj], .bool nx, .bool ok] := h0
            refine op_run rfl rfl (v := .agg #[.int .i64 P.set, .int .i64 P.obj]) (w' := w1) ?_ rfl (Below.refl _ _)
            simp [execOp, Act.eval, h0, go_sem]
          · obtain ⟨h0, _⟩ := hs
            have h0 : a.tmps.getD 26 undef = .tuple #[.agg #[.int .i64 F.set, .int .i64 F.u0, .int .i64 F.u1, .int .i64 F.u2, .int .i64 F.u3], .agg #[.int .i64 P.set, .int .i64 P.obj], .bool nx, .bool ok] := h0
            refine op_run rfl rfl (v := .agg #[.int .i64 P.set, .int .i64 P.obj]) (w' := w1) ?_ rfl (Below.refl _ _)
            simp [execOp, Act.eval, h0, go_sem]
        · intro hne lo hi ph hran hp1 hp2 a w1 hJ hsz hs      -- 14: slot 40
          obtain ⟨rfl, rfl⟩ : 0 = lo ∧ 2 = hi := Prod.mk.inj (Option.some.inj hran)
          rcases (by omega : ph = 0 ∨ ph = 1 ∨ ph = 2) with rfl | rfl | rfl
          · obtain ⟨h0, _⟩ := hs
            have h0 : a.tmps.getD 26 undef = .tuple #[.agg #[.int .i64 F.set, .int .i64 F.u0, .int .i64 F.u1, .int .i64 F.u2, .int .i64 F.u3], .agg #[.int .i64 P.set, .int .i64 P.obj], .bool nx, .bool ok] := h0
            refine op_run rfl rfl (v := .bool nx) (w' := w1) ?_ rfl (Below.refl _ _)
            simp [execOp, Act.eval, h0, go_sem]
          · obtain ⟨h0, _⟩ := hs
            have h0 : a.tmps.getD 26 undef = .tuple #[.agg #[.int .i64 F.set, .int .i64 F.u0, .int .i64 F.u1, .int .i64 F.u2, .int .i64 F.u3], .agg #[.int .i64 P.set, .int .i64 P.obj], .bool nx, .bool ok] := h0
            refine op_run rfl rfl (v := .bool nx) (w' := w1) ?_ rfl (Below.refl _ _)
            simp [execOp, Act.eval, h0, go_sem]
          · obtain ⟨h0, _⟩ := hs
            have h0 : a.tmps.getD 26 undef = .tuple #[.agg #[.int .i64 F.set, .int .i64 F.u0, .int .i64 F.u1, .int .i64 F.u2, .int .i64 F.u3], .agg #[.int .i64 P.set, .int .i64 P.obj], .bool nx, .bool ok] := h0
            refine op_run rfl rfl (v := .bool nx) (w' := w1) ?_ rfl (Below.refl _ _)
            simp [execOp, Act.eval, h0, go_sem]
        · intro hne lo hi ph hran hp1 hp2 a w1 hJ hsz hs      -- 15: slot 41
          obtain ⟨rfl, rfl⟩ : 0 = lo ∧ 2 = hi := Prod.mk.inj (Option.some.inj hran)
          rcases (by omega : ph = 0 ∨ ph = 1 ∨ ph = 2) with rfl | rfl | rfl
          · obtain ⟨h0, _⟩ := hs
            have h0 : a.tmps.getD 26 undef = .tuple #[.agg #[.int .i64 F.set, .int .i64 F.u0, .int .i64 F.u1, .int .i64 F.u2, .int .i64 F.u3], .agg #[.int .i64 P.set, .int .i64 P.obj], .bool nx, .bool ok] := h0
            refine op_run rfl rfl (v := .bool ok) (w' := w1) ?_ rfl (Below.refl _ _)
            simp [execOp, Act.eval, h0, go_sem]
          · obtain ⟨h0, _⟩ := hs
            have h0 : a.tmps.getD 26 undef = .tuple #[.agg #[.int .i64 F.set, .int .i64 F.u0, .int .i64 F.u1, .int .i64 F.u2, .int .i64 F.u3], .agg #[.int .i64 P.set, .int .i64 P.obj], .bool nx, .bool ok] := h0
            refine op_run rfl rfl (v := .bool ok) (w' := w1) ?_ rfl (Below.refl _ _)
            simp [execOp, Act.eval, h0, go_sem]
          · obtain ⟨h0, _⟩ := hs
            have h0 : a.tmps.getD 26 undef = .tuple #[.agg #[.int .i64 F.set, .int .i64 F.u0, .int .i64 F.u1, .int .i64 F.u2, .int .i64 F.u3], .agg #[.int .i64 P.set, .int .i64 P.obj], .bool nx, .bool ok] := h0
            refine op_run rfl rfl (v := .bool ok) (w' := w1) ?_ rfl (Below.refl _ _)
            simp [execOp, Act.eval, h0, go_sem]
        · intro hne lo hi ph hran hp1 hp2 a w1 hJ hsz hs      -- 16: slot 10
          obtain ⟨rfl, rfl⟩ : 0 = lo ∧ 0 = hi := Prod.mk.inj (Option.some.inj hran)
          obtain rfl : ph = 0 := by omega
          refine op_run rfl rfl (v := .pointer (some ⟨w1.heap.size, 0, none⟩)) (w' := w1.alloc (.cells Z5 26)) ?_ ⟨w1.heap.size, rfl, RecAt.new w1 _ _, (show Below wo.heap.size wo w1 from hJ).size⟩ ((Below.refl _ _).alloc (Nat.le_refl _) _)
          simp [execOp, Act.eval, go_sem, ub0, ub1, ub2, Z5, Z2]
        · intro hne lo hi ph hran hp1 hp2 a w1 hJ hsz hs      -- 17: slot 11
          obtain ⟨rfl, rfl⟩ : 0 = lo ∧ 0 = hi := Prod.mk.inj (Option.some.inj hran)
          obtain rfl : ph = 0 := by omega
          refine op_run rfl rfl (v := .pointer (some ⟨w1.heap.size, 0, none⟩)) (w' := w1.alloc (.cells Z2 28)) ?_ ⟨w1.heap.size, rfl, RecAt.new w1 _ _, (show Below wo.heap.size wo w1 from hJ).size⟩ ((Below.refl _ _).alloc (Nat.le_refl _) _)
          simp [execOp, Act.eval, go_sem, ub0, ub1, ub2, Z5, Z2]
        · intro hne lo hi ph hran hp1 hp2 a w1 hJ hsz hs      -- 18: slot None
          exact absurd (by decide) hne
        · intro hne lo hi ph hran hp1 hp2 a w1 hJ hsz hs      -- 19: slot None
          exact absurd (by decide) hne
        · intro hne lo hi ph hran hp1 hp2 a w1 hJ hsz hs      -- 20: slot 12
          obtain ⟨rfl, rfl⟩ : 0 = lo ∧ 2 = hi := Prod.mk.inj (Option.some.inj hran)
          rcases (by omega : ph = 0 ∨ ph = 1 ∨ ph = 2) with rfl | rfl | rfl
          · obtain ⟨h0, _⟩ := hs
            have h0 : a.tmps.getD 40 undef = .bool nx := h0
            refine op_run rfl rfl (v := .bool nx) (w' := w1) ?_ rfl (Below.refl _ _)
            simp [execOp, Act.eval, h0, go_sem]
          · obtain ⟨h0, _⟩ := hs
            have h0 : a.tmps.getD 40 undef = .bool nx := h0
            refine op_run rfl rfl (v := .bool nx) (w' := w1) ?_ rfl (Below.refl _ _)
            simp [execOp, Act.eval, h0, go_sem]
          · obtain ⟨h0, _⟩ := hs
            have h0 : a.tmps.getD 40 undef = .bool nx := h0
            refine op_run rfl rfl (v := .bool nx) (w' := w1) ?_ rfl (Below.refl _ _)
            simp [execOp, Act.eval, h0, go_sem]
        · intro hne lo hi ph hran hp1 hp2 a w1 hJ hsz hs      -- 21: slot 13
          obtain ⟨rfl, rfl⟩ : 0 = lo ∧ 2 = hi := Prod.mk.inj (Option.some.inj hran)
          rcases (by omega : ph = 0 ∨ ph = 1 ∨ ph = 2) with rfl | rfl | rfl
          · obtain ⟨h0, _⟩ := hs
            have h0 : a.tmps.getD 41 undef = .bool ok := h0
            refine op_run rfl rfl (v := .bool ok) (w' := w1) ?_ rfl (Below.refl _ _)
            simp [execOp, Act.eval, h0, go_sem]
          · obtain ⟨h0, _⟩ := hs
            have h0 : a.tmps.getD 41 undef = .bool ok := h0
            refine op_run rfl rfl (v := .bool ok) (w' := w1) ?_ rfl (Below.refl _ _)
            simp [execOp, Act.eval, h0, go_sem]
          · obtain ⟨h0, _⟩ := hs
            have h0 : a.tmps.getD 41 undef = .bool ok := h0
            refine op_run rfl rfl (v := .bool ok) (w' := w1) ?_ rfl (Below.refl _ _)
            simp [execOp, Act.eval, h0, go_sem]
      · show ∀ ph, ph < 2 → _
        iterate 2 (refine fls ?_ ?_)
        · exact fl0
        · intro i hi a w1 hJ hsz hs      -- heavy 0: op 18 slot None
          obtain rfl : 18 = i := Option.some.inj hi
          obtain ⟨h0, h1, _⟩ := hs
          have m0 : (zfV wo Z5).p w1 (a.tmps.getD 10 undef) := h0
          have h1 : a.tmps.getD 38 undef = .agg #[.int .i64 F.set, .int .i64 F.u0, .int .i64 F.u1, .int .i64 F.u2, .int .i64 F.u3] := h1
          have g1 : a.tmps[38]?.getD undef = .agg #[.int .i64 F.set, .int .i64 F.u0, .int .i64 F.u1, .int .i64 F.u2, .int .i64 F.u3] := (Array.getD_eq_getD_getElem? ..).symm.trans h1
          obtain ⟨PX, hvx, hX, hXs⟩ := (show ∃ g, a.tmps.getD 10 undef = .pointer (some ⟨g, 0, none⟩) ∧ RecAt w1 g Z5 26 ∧ wo.heap.size ≤ g from m0)
          refine hv_recW rfl rfl (x := PX) (p := .tmp 10) (v := .tmp 38) (cs := Z5) (vs := flC F) rfl hvx h1 hX rfl (by kernel_rfl) (by kernel_rfl) (fun w' => trivial) ?_
          intro w' r1 r2 r3 r4
          have hb : Below wo.heap.size wo w' := (show Below wo.heap.size wo w1 from hJ).grown r4 (show Below wo.heap.size wo w1 from hJ).size (fun q e => by cases e; exact hXs)
          exact ⟨hb, CalmW.all ⟨.inr fun _ _ h => h, .inr fun _ _ h => h, .inr fun _ _ h => h, .inr fun _ _ h => h, .inr fun _ _ h => h, .inr fun _ _ h => h, .inr fun _ _ h => h, .inr fun _ _ h => h, .inr fun _ _ h => h, .inr fun _ _ h => h, .inr fun _ _ h => h, .inr fun _ _ h => h, .inr fun _ _ h => h, .inr fun _ _ h => h, .inr fun _ _ h => h, .inr fun _ _ h => h, .inr fun v hh _ => ⟨PX, (hh _ _ rfl rfl).trans hvx, r1, hXs⟩, .inr fun v hh ⟨g, e1, e2, e3⟩ => ⟨g, e1, e2.keep r3 (rec_ne e2 hX (by decide)), e3⟩, .inl rfl, .inr fun _ _ h => h, .inr fun _ _ h => h, .inr fun _ _ h => h, trivial⟩⟩
        · intro i hi a w1 hJ hsz hs      -- heavy 1: op 19 slot None
          obtain rfl : 19 = i := Option.some.inj hi
          obtain ⟨h0, h1, _⟩ := hs
          have m0 : (zpV wo Z2).p w1 (a.tmps.getD 11 undef) := h0
          have h1 : a.tmps.getD 39 undef = .agg #[.int .i64 P.set, .int .i64 P.obj] := h1
          have g1 : a.tmps[39]?.getD undef = .agg #[.int .i64 P.set, .int .i64 P.obj] := (Array.getD_eq_getD_getElem? ..).symm.trans h1
          obtain ⟨PX, hvx, hX, hXs⟩ := (show ∃ g, a.tmps.getD 11 undef = .pointer (some ⟨g, 0, none⟩) ∧ RecAt w1 g Z2 28 ∧ wo.heap.size ≤ g from m0)
          refine hv_recW rfl rfl (x := PX) (p := .tmp 11) (v := .tmp 39) (cs := Z2) (vs := pcC P) rfl hvx h1 hX rfl (by kernel_rfl) (by kernel_rfl) (fun w' => trivial) ?_
          intro w' r1 r2 r3 r4
          have hb : Below wo.heap.size wo w' := (show Below wo.heap.size wo w1 from hJ).grown r4 (show Below wo.heap.size wo w1 from hJ).size (fun q e => by cases e; exact hXs)
          exact ⟨hb, CalmW.all ⟨.inr fun _ _ h => h, .inr fun _ _ h => h, .inr fun _ _ h => h, .inr fun _ _ h => h, .inr fun _ _ h => h, .inr fun _ _ h => h, .inr fun _ _ h => h, .inr fun _ _ h => h, .inr fun _ _ h => h, .inr fun _ _ h => h, .inr fun _ _ h => h, .inr fun _ _ h => h, .inr fun _ _ h => h, .inr fun _ _ h => h, .inr fun _ _ h => h, .inr fun _ _ h => h, .inr fun v hh ⟨g, e1, e2, e3⟩ => ⟨g, e1, e2.keep r3 (rec_ne e2 hX (by decide)), e3⟩, .inr fun v hh _ => ⟨PX, (hh _ _ rfl rfl).trans hvx, r1, hXs⟩, .inr fun _ _ h => h, .inl rfl, .inr fun _ _ h => h, .inr fun _ _ h => h, trivial⟩⟩
      intro f w1 hJ hv
      have e11 : (zfV wo (flC F)).p w1 (f 10) := hv 16 _ 10 rfl rfl
      have e12 : (zpV wo (pcC P)).p w1 (f 11) := hv 17 _ 11 rfl rfl
      have e13 : f 12 = .bool nx := hv 20 _ 12 rfl rfl
      have e14 : f 13 = .bool ok := hv 21 _ 13 rfl rfl
      clear hv
      try simp only [Exit.then]
      simp only [putAll, List.foldl_cons, List.foldl_nil, Option.getD_some, Act.put, List.setIfInBounds_toArray, List.set_cons_succ, List.set_cons_zero]
      obtain ⟨PX, e1, hX, hXs⟩ := e11
      obtain ⟨PY, e2, hY, hYs⟩ := e12
      rw [e1, e2, e13, e14]
      -- END A
      have hbo : Below wo.heap.size wo w1 := hJ
      have HX8n := Lib.hid (hXF.out.later hbo)
      have HX3n := Lib.hid (hXR.out.later hbo)
      have HOn := Lib.hid (HO.out.later hbo)
      have HXn := Lib.hid hX
      have HYn := Lib.hid hY
      have HNE : Hid (P8 ≠ PX ∧ P3 ≠ P8) := Lib.hid (by have := hXF.out.lt; have := HP8.out; have := HP3.out; omega)
      clear hXR hXF HO hX hY hYs hXs hJ e1 e2 e13 e14 HXX HPT HW1 HW2 HIX
      cases ok with
      | false =>
        have hno : ¬ PutOk c G (at' + 1 + (j : Nat)) x := fun h => by
          have h1 := HPE.out
          unfold putR at h1
          rw [if_pos h] at h1
          split at h1 <;> simp at h1
        have hb := HNO.out HQ.out (fillR_stop HFI.out HX.out hno)
        subst hb
        go_wp2_with fail
        go_ret
        exact ⟨_, rfl, GOwn.nil' HOn.out.below⟩
      | true =>
        have hpo : PutOk c G (at' + 1 + (j : Nat)) x := Classical.byContradiction fun h => by
          have h1 := HPE.out
          rw [putR_no h] at h1
          simp at h1
        obtain ⟨n1, _, n3⟩ := fillR_next HFI.out HX.out hpo
        rw [HPE.out] at n1 n3
        simp only at n1 n3
        have HFn := Lib.hid n1
        have HMn := Lib.hid n3
        obtain ⟨z0, z1⟩ := HYn.out.c2
        have hba : Below w1.heap.size w1 (w1.alloc (.cells (pcC P) 28)) := (Below.refl _ _).alloc (Nat.le_refl _) _
        have HUL : Hid ((placesR c noFl (at' + 1) (l.take j) ++ [P]).length = j + 1) := Lib.hid (by rw [List.length_append, HPL.out]; rfl)
        clear n1 n3
        go_upto_region 12 with (at_builtin; refine wp_gone pcOk rfl _ _ rfl rfl _ _ rfl w HOn.out P trivial rfl rfl (by rw [HPL.out]; omega) ?_; intro v12 w12 o12 g12 h12; obtain ⟨a12, c12, rfl, _⟩ := o12.row_n pcOk HUL.out; have HO12 := Lib.hid o12; have HG12 := Lib.hid g12; have HH12 := Lib.hid h12; clear o12 g12 h12)
        have hn8 := (HOn.out.later hba).ne (HX8n.out.later hba) (by decide)
        have hn3 := (HOn.out.later hba).ne (HX3n.out.later hba) (by decide)
        have hnX := (HOn.out.later hba).ne (HXn.out.later hba) (by decide)
        have HX8m := Lib.hid ((HX8n.out.later hba).grown HG12.out (fun e => hn8 e.symm))
        have HX3m := Lib.hid ((HX3n.out.later hba).grown HG12.out (fun e => hn3 e.symm))
        have HXm := Lib.hid ((HXn.out.later hba).grown HG12.out (fun e => hnX e.symm))
        have HN8 := Lib.hid (HO12.out.ne HX8m.out (by decide))
        obtain ⟨y0, y1, y2, y3, y4⟩ := HXm.out.e5
        clear hn8 hn3 hnX hba HG12 HH12 HX8n HX3n HOn HXn HYn z0 z1
        go_wp2_with (refine wpList_rec rfl rfl P8 (flC G) (flC F) rfl rfl HX8m.out rfl (by kernel_rfl) (by kernel_rfl) ?_; intro w8 r1 r2 r3 r4)
        go_roundw
        case rel => exact ⟨j + 1, F, a12, c12, by go_num, rfl, by omega, HFn, Lib.hid (HX3m.out.keep r3 (by have := HNE.out; omega)), Lib.hid r1, Lib.hid (by rw [HMn.out]; exact HO12.out.keptBy r4 (.inr HN8.out) (fun k e => by cases e; have := HP8.out; have := HP3.out; omega))⟩
        case measure => simp [intOf]; omega
    · have hjm' : j = m := by omega
      subst hjm'
      have hb := HYE.out HQ.out G (by have := HFI.out; rwa [List.take_of_length_le (Nat.le_of_eq HM.out)] at this)
      rw [← List.take_of_length_le (l := l) (Nat.le_of_eq HM.out)] at hb
      have HBB := Lib.hid hb
      clear hb
      go_wp2_with fail
      go_ret
      rw [HBB.out]
      exact ⟨_, rfl, HO.out⟩
theorem pc_eq_iff (t u : Pc) : (t.set == u.set && t.obj == u.obj) = decide (t = u) := by
  obtain ⟨a, b⟩ := t
  obtain ⟨a', b'⟩ := u
  simp only [Pc.mk.injEq, Bool.decide_and]
  rfl
theorem run_pc_in (w : World) (t u : Pc) : (Op.equalIn 10000 28 (.agg #[.int .i64 t.set, .int .i64 t.obj]) (.agg #[.int .i64 u.set, .int .i64 u.obj])).run Try.prog w = .ok (decide (t = u)) w := by
  have u3 := Try.underlying3
  have a3 := Try.isAgg3
  have z3 := Try.sizeOf3
  have hS : Try.prog.underlying 28 = some (.struct (Try.prog.fieldsOf 28)) := by kernel_rfl
  have hp : Try.prog.stoodInHeld 28 = false := by kernel_rfl
  rw [show (10000 : Nat) = 9999 + 1 from rfl, run_equalIn_agg w 9999 28 _ _ hS hp, ← pc_eq_iff]
  simp only [Program.fieldsOf, Try.underlying28]
  go_simp
  obtain ⟨a, b⟩ := t
  obtain ⟨e, f⟩ := u
  by_cases h1 : a = e <;> by_cases h2 : b = f <;> simp [h1, h2]
theorem pc_eql (w : World) (t u : Pc) : (binOp .eql 28 (.agg #[.int .i64 t.set, .int .i64 t.obj]) (.agg #[.int .i64 u.set, .int .i64 u.obj])).run Try.prog w = .ok (.bool (decide (t = u))) w := by
  rw [run_eql_struct, run_pc_in]; rfl
theorem pc_neq (w : World) (t u : Pc) : (binOp .neq 28 (.agg #[.int .i64 t.set, .int .i64 t.obj]) (.agg #[.int .i64 u.set, .int .i64 u.obj])).run Try.prog w = .ok (.bool (!decide (t = u))) w := by
  rw [run_neq_struct, run_pc_in]; rfl
theorem pc_guard (w : World) (op : BinOp) (x y : Operand) (xs ys : Array Value) : (eqGuard op 28 x y (.agg xs) (.agg ys)).run Try.prog w = .ok () w := run_eqGuard_agg w op _ x y xs ys (by kernel_rfl)
theorem quiet_neP {C : World → Prop} {o : Oper} {a : Act} {K : Act → Prop} (t u : Pc) {x y : Operand} {b : Bool} (ho : o.op = .binOp .neq 28 x y 28) (hx : a.eval x = .agg #[.int .i64 t.set, .int .i64 t.obj])
    (hy : a.eval y = .agg #[.int .i64 u.set, .int .i64 u.obj]) (hb : (!decide (t = u)) = b) (hk : K (a.put o.dst (.bool b))) : o.quiet Try.prog a C K :=
  ⟨.bool b, fun w _ => by unfold Oper.quietAt execOp; rw [ho]; subst hb; simp only [hx, hy, Sem.run_bind, pc_guard, pc_neq, Result.andThen_ok, Sem.run_pure]; exact ⟨rfl, rfl⟩, hk⟩
theorem quiet_eqP {C : World → Prop} {o : Oper} {a : Act} {K : Act → Prop} (t u : Pc) {x y : Operand} {b : Bool} (ho : o.op = .binOp .eql 28 x y 28) (hx : a.eval x = .agg #[.int .i64 t.set, .int .i64 t.obj])
    (hy : a.eval y = .agg #[.int .i64 u.set, .int .i64 u.obj]) (hb : (decide (t = u)) = b) (hk : K (a.put o.dst (.bool b))) : o.quiet Try.prog a C K :=
  ⟨.bool b, fun w _ => by unfold Oper.quietAt execOp; rw [ho]; subst hb; simp only [hx, hy, Sem.run_bind, pc_guard, pc_eql, Result.andThen_ok, Sem.run_pure]; exact ⟨rfl, rfl⟩, hk⟩
theorem samePl_no {a b : List Pc} {j : Nat} (h : a[j]? ≠ b[j]?) : decide (a = b) = false := by
  rw [decide_eq_false_iff_not]; intro e; rw [e] at h; exact h rfl
theorem samePl_yes {a b : List Pc} {n : Nat} (ha : a.length = n) (hb : b.length = n) (h : ∀ j, j < n → a[j]? = b[j]?) : decide (a = b) = true := by
  rw [decide_eq_true_eq]
  refine List.ext_getElem? fun i => ?_
  by_cases hi : i < n
  · exact h i hi
  · rw [List.getElem?_eq_none (by omega), List.getElem?_eq_none (by omega)]
set_option maxRecDepth 20000 in
set_option maxHeartbeats 3200000 in
theorem samepc_any (a1 a2 : Option Addr) (n m c1 c2 : Nat) (ts us : List Pc) (w : World) (h1 : GRow pcT w a1 c1 ts) (h2 : GRow pcT w a2 c2 us) (hn : ts.length = n) (hm : us.length = m) :
    Calls Try.prog 16 #[.slice a1 n c1, .slice a2 m c2] w fun e w' => e = .returned (.bool (decide (ts = us))) ∧ Below w.heap.size w w' := by
  have H1 := Lib.hid h1
  have H2 := Lib.hid h2
  have HN := Lib.hid hn
  have HM := Lib.hid hm
  have hc1 := h1.1
  have hc2 := h2.1
  rw [hn] at hc1
  rw [hm] at hc2
  have hcm1 : c1 ≤ 9223372036854775807 := by have := h1.2.1; unfold maxLen at this; omega
  have hcm2 : c2 ≤ 9223372036854775807 := by have := h2.2.1; unfold maxLen at this; omega
  clear h1 h2 hn hm
  by_cases hnm : n = m
  · subst hnm
    have hq : ((n : Int) != (n : Int)) = false := by simp
    go_enter Try.func16, Try.ntmps16
    go_wp2_with fail
    go_loopw [5] (fun i wr => ∃ j : Nat, i = .int .i64 j ∧ j ≤ n ∧ Below w.heap.size w wr ∧ Hid (∀ k, k < j → ts[k]? = us[k]?)) (fun i _ => n - (intOf i).toNat)
    case atStart => exact ⟨0, rfl, by omega, Below.refl _ _, Lib.hid (fun k h => by omega)⟩
    case round =>
      obtain ⟨j, rfl, hj, hb, HA⟩ := hrel
      have HB := Lib.hid hb
      clear hb
      by_cases hjn : (j : Int) < n
      · obtain ⟨t, ht⟩ : ∃ t, ts[j]? = some t := ⟨ts[j]'(by have := HN.out; omega), List.getElem?_eq_getElem _⟩
        obtain ⟨u, hu⟩ : ∃ u, us[j]? = some u := ⟨us[j]'(by have := HM.out; omega), List.getElem?_eq_getElem _⟩
        obtain ⟨b1, o1, rfl, p0, p1⟩ := (H1.out.later HB.out).c2 ht
        obtain ⟨b2, o2, rfl, q0, q1⟩ := (H2.out.later HB.out).c2 hu
        have HT := Lib.hid ht
        have HU := Lib.hid hu
        clear ht hu
        by_cases he : t = u
        · have hde : (!decide (t = u)) = false := by simpa using he
          have HA2 : Hid (∀ k, k < j + 1 → ts[k]? = us[k]?) := Lib.hid (fun k hk => by
            by_cases e : k = j
            · subst e; rw [HT.out, HU.out, he]
            · exact HA.out k (by omega))
          have HE := Lib.hid hde
          clear he hde
          go_upto_region 6 with fail
          refine wp_region_quiet_lit (by kernel_rfl) (by kernel_rfl) ?_
          repeat (go_big_quiet_step (fail))
          go_big_quiet_want
          refine quiet_neP t u rfl rfl rfl HE.out ?_
          go_big_quiet_on
          simp only [Act.put, List.setIfInBounds_toArray, List.set_cons_succ, List.set_cons_zero]
          refine wpQuiet_nil ?_
          intro _ hw'
          obtain ⟨nq, hw''⟩ := hw'
          subst hw''
          go_wp2_with fail
          go_roundw
          case rel => exact ⟨j + 1, by go_num, by omega, HB.out.trans ((below_drewN _ _).mono HB.out.size), HA2⟩
          case measure => simp [intOf]; omega
        · have hde : (!decide (t = u)) = true := by simpa using he
          have HF := Lib.hid (samePl_no (a := ts) (b := us) (j := j) (by rw [HT.out, HU.out]; simpa using he))
          have HE := Lib.hid hde
          clear he hde
          go_upto_region 6 with fail
          refine wp_region_quiet_lit (by kernel_rfl) (by kernel_rfl) ?_
          repeat (go_big_quiet_step (fail))
          go_big_quiet_want
          refine quiet_neP t u rfl rfl rfl HE.out ?_
          go_big_quiet_on
          simp only [Act.put, List.setIfInBounds_toArray, List.set_cons_succ, List.set_cons_zero]
          refine wpQuiet_nil ?_
          intro _ hw'
          obtain ⟨nq, hw''⟩ := hw'
          subst hw''
          go_wp2_with fail
          go_ret
          exact ⟨ret_bool HF.out.symm, HB.out.trans ((below_drewN _ _).mono HB.out.size)⟩
      · have : j = n := by omega
        subst this
        have HF := Lib.hid (samePl_yes HN.out HM.out HA.out)
        go_wp2_with fail
        go_ret
        exact ⟨ret_bool HF.out.symm, HB.out⟩
  · have hq : ((n : Int) != (m : Int)) = true := by simp; omega
    have HF : Hid (decide (ts = us) = false) := Lib.hid (by rw [decide_eq_false_iff_not]; intro e; rw [e, HM.out] at HN; exact hnm HN.out.symm)
    clear hnm
    go_enter Try.func16, Try.ntmps16
    go_wp2_with fail
    go_ret
    exact ⟨ret_bool HF.out.symm, Below.refl _ _⟩
end Go.Proofs.Ytblipabemghdbaa
