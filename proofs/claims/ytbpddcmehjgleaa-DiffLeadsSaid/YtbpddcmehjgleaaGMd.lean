/- Images: the document's own Same, Right. | Images: the document's own Right. | Images: events that aren't long, a few of them, states that aren't long: what the laws hand on. -/
import Derived.Test.YtbpddcmehjgleaaGMc
import Derived.Test.YtbpddcmehjgleaaSameG
import Derived.Test.YtbpddcmehjgleaaFree
namespace Go.Proofs.Ytbpddcmehjgleaa
open Go.RowKit Go.Proofs
set_option linter.unusedVariables false
set_option linter.unusedSimpArgs false
set_option linter.unnecessarySimpa false

theorem QRow.lim {α : Type} {sz : Nat} {tE tS : TypeId} {E : Rel α} {J : Nat → Prop} {w : World} {a : Option Addr} {n cap : Nat} {ts : List α} (h : QRow J sz tE tS E w (.slice a n cap) ts) : n ≤ cap ∧ cap ≤ 9223372036854775807 := by
  obtain ⟨_, h1, h2, _⟩ := h.cap
  exact ⟨h1, h2⟩
theorem Row.lim {w : World} {a : Option Addr} {cap n : Nat} {l : List UInt8} (h : Row w a cap l) (hn : l.length = n) : n ≤ cap ∧ cap ≤ 9223372036854775807 := by
  have h2 := h.2.1
  unfold maxLen at h2
  exact ⟨by have := h.1; omega, by omega⟩
theorem sx_eq_iff (s t : Sx) : decide (s = t) = (decide (s.data = t.data) && decide (s.snaps = t.snaps)) := by
  obtain ⟨a, b⟩ := s
  obtain ⟨c, d⟩ := t
  rw [Bool.eq_iff_iff]; simp
theorem od_ne_name {o p : Od} (h : o.name ≠ p.name) : o ≠ p := fun e => h (by rw [e])
theorem od_ne_data {o p : Od} (h : o.data ≠ p.data) : o ≠ p := fun e => h (by rw [e])
theorem od_eq {o p : Od} (h1 : o.name = p.name) (h2 : o.data = p.data) : o = p := by
  obtain ⟨a, b⟩ := o; obtain ⟨c, d⟩ := p; simp only at h1 h2; rw [h1, h2]
end Go.Proofs.Ytbpddcmehjgleaa
namespace Go.Proofs.Ytbpddcmehjgleaa
open Go.RowKit Go.Proofs
set_option linter.unusedVariables false
set_option linter.unusedSimpArgs false
set_option linter.unnecessarySimpa false

theorem calls_sameM {P : Program} {f : FuncId} {args : Array Value} {v : Value} {w : World} (h : Calls P f args w fun e w' => e = .returned v ∧ w = w') : Calls P f args w fun e w' => ∃ x, e = .returned x ∧ x = v ∧ Below w.heap.size w w' :=
  h.mono fun e w' hh => ⟨_, hh.1, rfl, by rw [← hh.2]; exact Below.refl _ _⟩
/-- A snapshot as it should be, at its place. -/
def odAt (l : List Od) (k : Nat) (o : Od) : Prop := nameOk o.name = true ∧ o.data.length ≤ 512 ∧ findO l o.name = (k : Int)
theorem stOk_iff {s : Sx} : StOk s ↔ (∀ k o, s.snaps[k]? = some o → odAt s.snaps k o) ∧ s.data.length ≤ 512 ∧ s.snaps.length ≤ 8 := by
  constructor
  · intro h
    refine ⟨fun k o ho => ⟨h.names o (List.mem_of_getElem? ho), h.sizes o (List.mem_of_getElem? ho), ?_⟩, h.size, h.many⟩
    exact findO_some ho rfl fun i hi p hp => h.apart i k p o hi hp ho
  · rintro ⟨h1, h2, h3⟩
    refine ⟨h2, h3, fun o ho => ?_, fun o ho => ?_, fun i j a b hij ha hb hn => ?_⟩
    · obtain ⟨i, hi⟩ := List.mem_iff_getElem?.1 ho; exact (h1 i o hi).1
    · obtain ⟨i, hi⟩ := List.mem_iff_getElem?.1 ho; exact (h1 i o hi).2.1
    · have e1 := (h1 i a ha).2.2
      have e2 := (h1 j b hb).2.2
      rw [hn, e2] at e1
      omega
def RightIs (w : World) (s : Sx) (e : Ending) (w' : World) : Prop := ∃ B, e = .returned (.bool B) ∧ (B = true ↔ StOk s) ∧ Below w.heap.size w w'
set_option maxRecDepth 20000 in
set_option maxHeartbeats 6400000 in
theorem rright14_any (d v : Value) (s : Sx) (J : Nat → Prop) (w : World) (h : StA J w d v s) :
    Calls Try.prog 36 #[.agg #[d, v]] w fun e w' => RightIs w s e w' := by
  obtain ⟨a1, c1, a2, c2, rfl, rfl, rd, rs⟩ := h.open
  have X2 := RecAt.new w #[.slice a1 s.data.length c1, .slice a2 s.snaps.length c2] 32
  have B2 : Below w.heap.size w (w.alloc (.cells #[.slice a1 s.data.length c1, .slice a2 s.snaps.length c2] 32)) := (Below.refl _ _).alloc (Nat.le_refl _) _
  obtain ⟨w1, hw1⟩ : ∃ W, w.alloc (.cells #[.slice a1 s.data.length c1, .slice a2 s.snaps.length c2] 32) = W := ⟨_, rfl⟩
  rw [hw1] at X2 B2
  obtain ⟨nd, hnd⟩ : ∃ z, s.data.length = z := ⟨_, rfl⟩
  obtain ⟨ns, hns⟩ : ∃ z, s.snaps.length = z := ⟨_, rfl⟩
  rw [hnd] at X2 hw1 ⊢
  rw [hns] at X2 hw1 rs ⊢
  have HX2 := Lib.hid X2
  have HB3 := Lib.hid B2
  have HRS := Lib.hid (rs.later od_rel B2)
  have HND := Lib.hid hnd
  have HNS := Lib.hid hns
  obtain ⟨hl1, hl2⟩ := rs.lim
  clear X2 B2 rd rs h hnd hns
  go_enter Try.func36, Try.ntmps36
  go_upto_region 1 with fail
  try rw [hw1]
  clear hw1
  obtain ⟨X, hX⟩ : ∃ X, w.heap.size = X := ⟨_, rfl⟩
  rw [hX] at HX2 ⊢
  have HXS := Lib.hid hX
  clear hX
  go_wp2_with fail
  go_loopw [3] (fun i wr => ∃ j : Nat, i = .int .i64 j ∧ j ≤ ns ∧ Below w1.heap.size w1 wr ∧ Hid (∀ k, k < j → ∀ o, s.snaps[k]? = some o → odAt s.snaps k o)) (fun i _ => ns - (intOf i).toNat)
  case atStart => exact ⟨0, rfl, by omega, Below.refl _ _, Lib.hid (fun k h => by omega)⟩
  case round =>
    obtain ⟨j, rfl, hj, hb, HA⟩ := hrel
    have HBR := Lib.hid hb
    clear hb
    obtain ⟨x0, x1⟩ := (HX2.out.later HBR.out).c2
    by_cases hjn : (j : Int) < ns
    · have hjn2 : j < ns := by omega
      have hjj : ¬ (j : Int) < 0 := by omega
      obtain ⟨e, he⟩ : ∃ e, s.snaps[j]? = some e := ⟨s.snaps[j]'(by have := HNS.out; omega), List.getElem?_eq_getElem _⟩
      obtain ⟨b1, f1, N1, e1, k1, rfl, p0, p1, hN1, hN2, -⟩ := (HRS.out.later od_rel HBR.out).o2 he
      have HNA := Lib.hid (fun W => rname_any N1 W hN2)
      rw [hN1] at HNA
      have HPP : Hid (∀ W, Below wr.heap.size wr W → W.cell? ⟨b1, f1 + j * 2, none⟩ = some (.string N1) ∧ W.cell? ⟨b1, f1 + j * 2 + 1, none⟩ = some (.slice e1 e.data.length k1)) := Lib.hid fun W hb => ⟨(hb.cell (World.block_lt_of_cell? _ _ p0)).trans p0, (hb.cell (World.block_lt_of_cell? _ _ p1)).trans p1⟩
      have HFD := Lib.hid (fun W (hb : Below wr.heap.size wr W) => rfind14_any (.slice a1 nd c1) (some ⟨b1, f1, none⟩) ns c2 s.snaps N1 J W rfl ((HRS.out.later od_rel HBR.out).later od_rel hb) hN2)
      rw [hN1] at HFD
      have HNO : Hid (¬ odAt s.snaps j e → (false = true ↔ StOk s)) := Lib.hid fun h => ⟨fun c => absurd c (by decide), fun c => absurd ((stOk_iff.1 c).1 j e he) h⟩
      have HMO : Hid (odAt s.snaps j e → ∀ k, k < j + 1 → ∀ o, s.snaps[k]? = some o → odAt s.snaps k o) := Lib.hid fun h k hk o ho => by
        by_cases c : k = j
        · subst c; rw [he] at ho; cases ho; exact h
        · exact HA.out k (by omega) o ho
      obtain ⟨L1, hL1⟩ : ∃ z, e.data.length = z := ⟨_, rfl⟩
      rw [hL1] at p1 HPP
      clear he hN1 hN2
      cases hna : nameOk e.name with
      | false =>
        have HNO := Lib.hid (HNO.out fun c => by rw [c.1] at hna; cases hna)
        rw [hna] at HNA
        clear hna hL1
        go_upto_region 4 with fail
        go_quiet ((go_at_call 54; exact Calls.quiet_of_same ((HNA.out _).mono fun e w' hh => ⟨hh.1, hh.2.symm⟩)))
        clear x0 x1 p0 p1
        go_wp2_with fail
        go_ret
        exact ⟨_, rfl, HNO.out, HB3.out.trans ((HBR.out.trans ((below_drewN _ _).mono HBR.out.size)).mono HB3.out.size)⟩
      | true =>
        rw [hna] at HNA
        by_cases hL : 512 < L1
        · have hL5 : decide ((L1 : Int) > 512) = true := decide_eq_true (by omega)
          have HNO := Lib.hid (HNO.out fun c => by have := c.2.1; omega)
          clear hna hL1
          go_upto_region 4 with fail
          go_quiet ((go_at_call 54; exact Calls.quiet_of_same ((HNA.out _).mono fun e w' hh => ⟨hh.1, hh.2.symm⟩)))
          clear x0 x1 p0 p1
          go_wp2_with fail
          go_ret
          exact ⟨_, rfl, HNO.out, HB3.out.trans ((HBR.out.trans ((below_drewN _ _).mono HBR.out.size)).mono HB3.out.size)⟩
        · have hL5 : ¬ 512 < L1 := hL
          have hL6 : (L1 : Int) ≤ 512 := by omega
          obtain ⟨F, hF⟩ : ∃ z, findO s.snaps e.name = z := ⟨_, rfl⟩
          rw [hF] at HFD
          by_cases hFF : F = (j : Int)
          · have HA2 := Lib.hid (HMO.out ⟨hna, by omega, by rw [hF, hFF]⟩)
            have hFj : (F != (j : Int)) = false := by simp [hFF]
            have hFj2 : F = (j : Int) := hFF
            clear hna hL1 hF
            go_upto_region 4 with fail
            · clear x0 x1 p0 p1
              -- REG R4
              refine wp_region_tab (L := [cV (.pointer (some ⟨X, 1, none⟩)), cV (.slice (some ⟨b1, f1, none⟩) ns c2), cV (.int .i64 j), cV (.pointer (some ⟨b1, f1 + j * 2, none⟩)), cV (.pointer (some ⟨b1, f1 + j * 2, none⟩)), cV (.string N1), cV (.bool true), cV (.bool false), cV (.bool false), cV (.pointer (some ⟨X, 1, none⟩)), cV (.slice (some ⟨b1, f1, none⟩) ns c2), cV (.int .i64 j), cV (.pointer (some ⟨b1, f1 + j * 2, none⟩)), cV (.pointer (some ⟨b1, f1 + j * 2 + 1, none⟩)), cV (.slice e1 L1 k1), cV (.int .i64 L1), cV (.bool false), cV (.bool false), cV (.bool false), cV (.agg #[.slice a1 nd c1, .slice (some ⟨b1, f1, none⟩) ns c2]), cV (.pointer (some ⟨X, 1, none⟩)), cV (.slice (some ⟨b1, f1, none⟩) ns c2), cV (.int .i64 j), cV (.pointer (some ⟨b1, f1 + j * 2, none⟩)), cV (.pointer (some ⟨b1, f1 + j * 2, none⟩)), cV (.string N1), cV (.int .i64 F), cV (.int .i64 j), cV (.bool false), cV (.bool false)]) [[(1, none)], [(11, some 0)], [(3, none)], [(12, some 1), (13, some 2)], [(14, some 3)], [(15, some 4)], [(16, some 5)], [(17, some 6)], [(18, some 7)], [(1, none), (19, some 8)], [(20, some 9), (19, some 8)], [(3, none), (19, some 8)], [(21, some 10), (22, some 11), (19, some 8)], [(23, some 12), (19, some 8)], [(24, some 13), (19, some 8)], [(25, some 14), (19, some 8)], [(26, some 15), (19, some 8)], [(19, some 8), (27, some 16)], [(28, some 17)], [(1, none), (29, some 18)], [(1, none), (29, some 18)], [(31, some 20), (29, some 18)], [(3, none), (29, some 18)], [(32, some 21), (33, some 22), (29, some 18)], [(34, some 23), (29, some 18)], [(35, some 24), (29, some 18)], [(30, some 19), (36, some 25), (29, some 18)], [(3, none), (29, some 18)], [(37, some 26), (38, some 27), (29, some 18)], [(29, some 18), (39, some 28)]] 30 51 (by kernel_rfl) rfl rfl (by kernel_rfl) (by kernel_rfl) ?_ ?_
              · show ∀ i, i < 30 → _
                iterate 30 (refine fls ?_ ?_)
                · exact fl0
                · intro a w1 hR hsz hs      -- 0: slot 11
                  obtain ⟨h0, _⟩ := hs
                  have h0 : a.tmps.getD 1 undef = .pointer (some ⟨X, 0, none⟩) := h0
                  refine op_run rfl rfl (v := .pointer (some ⟨X, 1, none⟩)) (w' := w1) ?_ rfl (Below.refl _ _)
                  simp [execOp, Act.eval, h0, go_sem]
                · intro a w1 hR hsz hs      -- 1: slot 12
                  obtain ⟨h0, _⟩ := hs
                  have h0 : a.tmps.getD 11 undef = .pointer (some ⟨X, 1, none⟩) := h0
                  obtain ⟨x0, x1⟩ := (HX2.out.later (HBR.out.trans (hR.mono HBR.out.size))).c2
                  refine op_run rfl rfl (v := .slice (some ⟨b1, f1, none⟩) ns c2) (w' := w1) ?_ rfl (Below.refl _ _)
                  simp [execOp, Act.eval, h0, x1, go_sem]
                · intro a w1 hR hsz hs      -- 2: slot 13
                  obtain ⟨h0, _⟩ := hs
                  have h0 : a.tmps.getD 3 undef = .int .i64 j := h0
                  refine op_run rfl rfl (v := .int .i64 j) (w' := w1) ?_ rfl (Below.refl _ _)
                  simp [execOp, Act.eval, h0, go_sem]
                · intro a w1 hR hsz hs      -- 3: slot 14
                  obtain ⟨h0, h1, _⟩ := hs
                  have h0 : a.tmps.getD 12 undef = .slice (some ⟨b1, f1, none⟩) ns c2 := h0
                  have h1 : a.tmps.getD 13 undef = .int .i64 j := h1
                  refine op_run rfl rfl (v := .pointer (some ⟨b1, f1 + j * 2, none⟩)) (w' := w1) ?_ rfl (Below.refl _ _)
                  simp [execOp, Act.eval, h0, h1, hjn2, hjj, go_sem]
                · intro a w1 hR hsz hs      -- 4: slot 15
                  obtain ⟨h0, _⟩ := hs
                  have h0 : a.tmps.getD 14 undef = .pointer (some ⟨b1, f1 + j * 2, none⟩) := h0
                  refine op_run rfl rfl (v := .pointer (some ⟨b1, f1 + j * 2, none⟩)) (w' := w1) ?_ rfl (Below.refl _ _)
                  simp [execOp, Act.eval, h0, go_sem]
                · intro a w1 hR hsz hs      -- 5: slot 16
                  obtain ⟨h0, _⟩ := hs
                  have h0 : a.tmps.getD 15 undef = .pointer (some ⟨b1, f1 + j * 2, none⟩) := h0
                  obtain ⟨p0, p1⟩ := HPP.out w1 hR
                  refine op_run rfl rfl (v := .string N1) (w' := w1) ?_ rfl (Below.refl _ _)
                  simp [execOp, Act.eval, h0, p0, go_sem]
                · intro a w1 hR hsz hs      -- 6: slot 17
                  obtain ⟨h0, _⟩ := hs
                  have h0 : a.tmps.getD 16 undef = .string N1 := h0
                  refine op_call rfl rfl (f := 54) (args := #[.string N1]) (by simp [execOp, Act.eval, resolve, h0, go_sem]) ?_
                  exact calls_sameM (HNA.out w1)
                · intro a w1 hR hsz hs      -- 7: slot 18
                  obtain ⟨h0, _⟩ := hs
                  have h0 : a.tmps.getD 17 undef = .bool true := h0
                  refine op_run rfl rfl (v := .bool false) (w' := w1) ?_ rfl (Below.refl _ _)
                  simp [execOp, Act.eval, h0, go_sem]
                · intro a w1 hR hsz hs      -- 8: slot 19
                  obtain ⟨h0, _⟩ := hs
                  have h0 : a.tmps.getD 18 undef = .bool false := h0
                  refine op_run rfl rfl (v := .bool false) (w' := w1) ?_ rfl (Below.refl _ _)
                  simp [execOp, Act.eval, h0, go_sem]
                · intro a w1 hR hsz hs      -- 9: slot 20
                  obtain ⟨h0, h1, _⟩ := hs
                  have h0 : a.tmps.getD 1 undef = .pointer (some ⟨X, 0, none⟩) := h0
                  have h1 : a.tmps.getD 19 undef = .bool false := h1
                  refine opg_run rfl rfl rfl (by rw [hsz]; decide) h1 (v := .pointer (some ⟨X, 1, none⟩)) (w' := w1) ?_ rfl (Below.refl _ _)
                  simp [execOp, Act.eval, h0, go_sem]
                · intro a w1 hR hsz hs      -- 10: slot 21
                  obtain ⟨h0, h1, _⟩ := hs
                  have h0 : a.tmps.getD 20 undef = .pointer (some ⟨X, 1, none⟩) := h0
                  have h1 : a.tmps.getD 19 undef = .bool false := h1
                  obtain ⟨x0, x1⟩ := (HX2.out.later (HBR.out.trans (hR.mono HBR.out.size))).c2
                  refine opg_run rfl rfl rfl (by rw [hsz]; decide) h1 (v := .slice (some ⟨b1, f1, none⟩) ns c2) (w' := w1) ?_ rfl (Below.refl _ _)
                  simp [execOp, Act.eval, h0, x1, go_sem]
                · intro a w1 hR hsz hs      -- 11: slot 22
                  obtain ⟨h0, h1, _⟩ := hs
                  have h0 : a.tmps.getD 3 undef = .int .i64 j := h0
                  have h1 : a.tmps.getD 19 undef = .bool false := h1
                  refine opg_run rfl rfl rfl (by rw [hsz]; decide) h1 (v := .int .i64 j) (w' := w1) ?_ rfl (Below.refl _ _)
                  simp [execOp, Act.eval, h0, go_sem]
                · intro a w1 hR hsz hs      -- 12: slot 23
                  obtain ⟨h0, h1, h2, _⟩ := hs
                  have h0 : a.tmps.getD 21 undef = .slice (some ⟨b1, f1, none⟩) ns c2 := h0
                  have h1 : a.tmps.getD 22 undef = .int .i64 j := h1
                  have h2 : a.tmps.getD 19 undef = .bool false := h2
                  refine opg_run rfl rfl rfl (by rw [hsz]; decide) h2 (v := .pointer (some ⟨b1, f1 + j * 2, none⟩)) (w' := w1) ?_ rfl (Below.refl _ _)
                  simp [execOp, Act.eval, h0, h1, hjn2, hjj, go_sem]
                · intro a w1 hR hsz hs      -- 13: slot 24
                  obtain ⟨h0, h1, _⟩ := hs
                  have h0 : a.tmps.getD 23 undef = .pointer (some ⟨b1, f1 + j * 2, none⟩) := h0
                  have h1 : a.tmps.getD 19 undef = .bool false := h1
                  refine opg_run rfl rfl rfl (by rw [hsz]; decide) h1 (v := .pointer (some ⟨b1, f1 + j * 2 + 1, none⟩)) (w' := w1) ?_ rfl (Below.refl _ _)
                  simp [execOp, Act.eval, h0, go_sem]
                · intro a w1 hR hsz hs      -- 14: slot 25
                  obtain ⟨h0, h1, _⟩ := hs
                  have h0 : a.tmps.getD 24 undef = .pointer (some ⟨b1, f1 + j * 2 + 1, none⟩) := h0
                  have h1 : a.tmps.getD 19 undef = .bool false := h1
                  obtain ⟨p0, p1⟩ := HPP.out w1 hR
                  refine opg_run rfl rfl rfl (by rw [hsz]; decide) h1 (v := .slice e1 L1 k1) (w' := w1) ?_ rfl (Below.refl _ _)
                  simp [execOp, Act.eval, h0, p1, go_sem]
                · intro a w1 hR hsz hs      -- 15: slot 26
                  obtain ⟨h0, h1, _⟩ := hs
                  have h0 : a.tmps.getD 25 undef = .slice e1 L1 k1 := h0
                  have h1 : a.tmps.getD 19 undef = .bool false := h1
                  refine opg_run rfl rfl rfl (by rw [hsz]; decide) h1 (v := .int .i64 L1) (w' := w1) ?_ rfl (Below.refl _ _)
                  simp [execOp, Act.eval, h0, go_sem]
                · intro a w1 hR hsz hs      -- 16: slot 27
                  obtain ⟨h0, h1, _⟩ := hs
                  have h0 : a.tmps.getD 26 undef = .int .i64 L1 := h0
                  have h1 : a.tmps.getD 19 undef = .bool false := h1
                  refine opg_run rfl rfl rfl (by rw [hsz]; decide) h1 (v := .bool false) (w' := w1) ?_ rfl (Below.refl _ _)
                  simp [execOp, Act.eval, h0, hL5, hL6, go_sem]
                · intro a w1 hR hsz hs      -- 17: slot 28
                  obtain ⟨h0, h1, _⟩ := hs
                  have h0 : a.tmps.getD 19 undef = .bool false := h0
                  have h1 : a.tmps.getD 27 undef = .bool false := h1
                  refine op_run rfl rfl (v := .bool false) (w' := w1) ?_ rfl (Below.refl _ _)
                  simp [execOp, Act.eval, h0, h1, go_sem]
                · intro a w1 hR hsz hs      -- 18: slot 29
                  obtain ⟨h0, _⟩ := hs
                  have h0 : a.tmps.getD 28 undef = .bool false := h0
                  refine op_run rfl rfl (v := .bool false) (w' := w1) ?_ rfl (Below.refl _ _)
                  simp [execOp, Act.eval, h0, go_sem]
                · intro a w1 hR hsz hs      -- 19: slot 30
                  obtain ⟨h0, h1, _⟩ := hs
                  have h0 : a.tmps.getD 1 undef = .pointer (some ⟨X, 0, none⟩) := h0
                  have h1 : a.tmps.getD 29 undef = .bool false := h1
                  obtain ⟨x0, x1⟩ := (HX2.out.later (HBR.out.trans (hR.mono HBR.out.size))).c2
                  refine opg_run rfl rfl rfl (by rw [hsz]; decide) h1 (v := .agg #[.slice a1 nd c1, .slice (some ⟨b1, f1, none⟩) ns c2]) (w' := w1) ?_ rfl (Below.refl _ _)
                  simp [execOp, Act.eval, h0, x0, x1, go_sem]
                · intro a w1 hR hsz hs      -- 20: slot 31
                  obtain ⟨h0, h1, _⟩ := hs
                  have h0 : a.tmps.getD 1 undef = .pointer (some ⟨X, 0, none⟩) := h0
                  have h1 : a.tmps.getD 29 undef = .bool false := h1
                  refine opg_run rfl rfl rfl (by rw [hsz]; decide) h1 (v := .pointer (some ⟨X, 1, none⟩)) (w' := w1) ?_ rfl (Below.refl _ _)
                  simp [execOp, Act.eval, h0, go_sem]
                · intro a w1 hR hsz hs      -- 21: slot 32
                  obtain ⟨h0, h1, _⟩ := hs
                  have h0 : a.tmps.getD 31 undef = .pointer (some ⟨X, 1, none⟩) := h0
                  have h1 : a.tmps.getD 29 undef = .bool false := h1
                  obtain ⟨x0, x1⟩ := (HX2.out.later (HBR.out.trans (hR.mono HBR.out.size))).c2
                  refine opg_run rfl rfl rfl (by rw [hsz]; decide) h1 (v := .slice (some ⟨b1, f1, none⟩) ns c2) (w' := w1) ?_ rfl (Below.refl _ _)
                  simp [execOp, Act.eval, h0, x1, go_sem]
                · intro a w1 hR hsz hs      -- 22: slot 33
                  obtain ⟨h0, h1, _⟩ := hs
                  have h0 : a.tmps.getD 3 undef = .int .i64 j := h0
                  have h1 : a.tmps.getD 29 undef = .bool false := h1
                  refine opg_run rfl rfl rfl (by rw [hsz]; decide) h1 (v := .int .i64 j) (w' := w1) ?_ rfl (Below.refl _ _)
                  simp [execOp, Act.eval, h0, go_sem]
                · intro a w1 hR hsz hs      -- 23: slot 34
                  obtain ⟨h0, h1, h2, _⟩ := hs
                  have h0 : a.tmps.getD 32 undef = .slice (some ⟨b1, f1, none⟩) ns c2 := h0
                  have h1 : a.tmps.getD 33 undef = .int .i64 j := h1
                  have h2 : a.tmps.getD 29 undef = .bool false := h2
                  refine opg_run rfl rfl rfl (by rw [hsz]; decide) h2 (v := .pointer (some ⟨b1, f1 + j * 2, none⟩)) (w' := w1) ?_ rfl (Below.refl _ _)
                  simp [execOp, Act.eval, h0, h1, hjn2, hjj, go_sem]
                · intro a w1 hR hsz hs      -- 24: slot 35
                  obtain ⟨h0, h1, _⟩ := hs
                  have h0 : a.tmps.getD 34 undef = .pointer (some ⟨b1, f1 + j * 2, none⟩) := h0
                  have h1 : a.tmps.getD 29 undef = .bool false := h1
                  refine opg_run rfl rfl rfl (by rw [hsz]; decide) h1 (v := .pointer (some ⟨b1, f1 + j * 2, none⟩)) (w' := w1) ?_ rfl (Below.refl _ _)
                  simp [execOp, Act.eval, h0, go_sem]
                · intro a w1 hR hsz hs      -- 25: slot 36
                  obtain ⟨h0, h1, _⟩ := hs
                  have h0 : a.tmps.getD 35 undef = .pointer (some ⟨b1, f1 + j * 2, none⟩) := h0
                  have h1 : a.tmps.getD 29 undef = .bool false := h1
                  obtain ⟨p0, p1⟩ := HPP.out w1 hR
                  refine opg_run rfl rfl rfl (by rw [hsz]; decide) h1 (v := .string N1) (w' := w1) ?_ rfl (Below.refl _ _)
                  simp [execOp, Act.eval, h0, p0, go_sem]
                · intro a w1 hR hsz hs      -- 26: slot 37
                  obtain ⟨h0, h1, h2, _⟩ := hs
                  have h0 : a.tmps.getD 30 undef = .agg #[.slice a1 nd c1, .slice (some ⟨b1, f1, none⟩) ns c2] := h0
                  have h1 : a.tmps.getD 36 undef = .string N1 := h1
                  have h2 : a.tmps.getD 29 undef = .bool false := h2
                  refine opg_call rfl rfl rfl (by rw [hsz]; decide) h2 (f := 51) (args := #[.agg #[.slice a1 nd c1, .slice (some ⟨b1, f1, none⟩) ns c2], .string N1]) (by simp [execOp, Act.eval, resolve, h0, h1, go_sem]) ?_
                  exact calls_c (HFD.out w1 hR)
                · intro a w1 hR hsz hs      -- 27: slot 38
                  obtain ⟨h0, h1, _⟩ := hs
                  have h0 : a.tmps.getD 3 undef = .int .i64 j := h0
                  have h1 : a.tmps.getD 29 undef = .bool false := h1
                  refine opg_run rfl rfl rfl (by rw [hsz]; decide) h1 (v := .int .i64 j) (w' := w1) ?_ rfl (Below.refl _ _)
                  simp [execOp, Act.eval, h0, go_sem]
                · intro a w1 hR hsz hs      -- 28: slot 39
                  obtain ⟨h0, h1, h2, _⟩ := hs
                  have h0 : a.tmps.getD 37 undef = .int .i64 F := h0
                  have h1 : a.tmps.getD 38 undef = .int .i64 j := h1
                  have h2 : a.tmps.getD 29 undef = .bool false := h2
                  refine opg_run rfl rfl rfl (by rw [hsz]; decide) h2 (v := .bool false) (w' := w1) ?_ rfl (Below.refl _ _)
                  simp [execOp, Act.eval, h0, h1, hFj, go_sem]
                · intro a w1 hR hsz hs      -- 29: slot 40
                  obtain ⟨h0, h1, _⟩ := hs
                  have h0 : a.tmps.getD 29 undef = .bool false := h0
                  have h1 : a.tmps.getD 39 undef = .bool false := h1
                  refine op_run rfl rfl (v := .bool false) (w' := w1) ?_ rfl (Below.refl _ _)
                  simp [execOp, Act.eval, h0, h1, go_sem]
              intro f w1 hR hv
              have e40 : f 40 = .bool false := hv 29 _ 40 rfl rfl
              clear hv
              try simp only [Exit.then]
              simp only [putAll, List.foldl_cons, List.foldl_nil, Option.getD_some, Act.put, List.setIfInBounds_toArray, List.set_cons_succ, List.set_cons_zero, e40]
              have HB9 := Lib.hid (HBR.out.trans (hR.mono HBR.out.size))
              clear hR e40
              go_wp2_with fail
              go_roundw
              case rel => exact ⟨j + 1, by go_num, by omega, HB9.out, HA2⟩
              case measure => simp [intOf]; omega
              -- END R4
          · have HNO := Lib.hid (HNO.out fun c => hFF (by rw [← hF]; exact c.2.2))
            have hFj : (F != (j : Int)) = true := by simp [hFF]
            clear hna hL1 hF
            go_upto_region 4 with fail
            · clear x0 x1 p0 p1
              -- REG R3
              refine wp_region_tab (L := [cV (.pointer (some ⟨X, 1, none⟩)), cV (.slice (some ⟨b1, f1, none⟩) ns c2), cV (.int .i64 j), cV (.pointer (some ⟨b1, f1 + j * 2, none⟩)), cV (.pointer (some ⟨b1, f1 + j * 2, none⟩)), cV (.string N1), cV (.bool true), cV (.bool false), cV (.bool false), cV (.pointer (some ⟨X, 1, none⟩)), cV (.slice (some ⟨b1, f1, none⟩) ns c2), cV (.int .i64 j), cV (.pointer (some ⟨b1, f1 + j * 2, none⟩)), cV (.pointer (some ⟨b1, f1 + j * 2 + 1, none⟩)), cV (.slice e1 L1 k1), cV (.int .i64 L1), cV (.bool false), cV (.bool false), cV (.bool false), cV (.agg #[.slice a1 nd c1, .slice (some ⟨b1, f1, none⟩) ns c2]), cV (.pointer (some ⟨X, 1, none⟩)), cV (.slice (some ⟨b1, f1, none⟩) ns c2), cV (.int .i64 j), cV (.pointer (some ⟨b1, f1 + j * 2, none⟩)), cV (.pointer (some ⟨b1, f1 + j * 2, none⟩)), cV (.string N1), cV (.int .i64 F), cV (.int .i64 j), cV (.bool true), cV (.bool true)]) [[(1, none)], [(11, some 0)], [(3, none)], [(12, some 1), (13, some 2)], [(14, some 3)], [(15, some 4)], [(16, some 5)], [(17, some 6)], [(18, some 7)], [(1, none), (19, some 8)], [(20, some 9), (19, some 8)], [(3, none), (19, some 8)], [(21, some 10), (22, some 11), (19, some 8)], [(23, some 12), (19, some 8)], [(24, some 13), (19, some 8)], [(25, some 14), (19, some 8)], [(26, some 15), (19, some 8)], [(19, some 8), (27, some 16)], [(28, some 17)], [(1, none), (29, some 18)], [(1, none), (29, some 18)], [(31, some 20), (29, some 18)], [(3, none), (29, some 18)], [(32, some 21), (33, some 22), (29, some 18)], [(34, some 23), (29, some 18)], [(35, some 24), (29, some 18)], [(30, some 19), (36, some 25), (29, some 18)], [(3, none), (29, some 18)], [(37, some 26), (38, some 27), (29, some 18)], [(29, some 18), (39, some 28)]] 30 51 (by kernel_rfl) rfl rfl (by kernel_rfl) (by kernel_rfl) ?_ ?_
              · show ∀ i, i < 30 → _
                iterate 30 (refine fls ?_ ?_)
                · exact fl0
                · intro a w1 hR hsz hs      -- 0: slot 11
                  obtain ⟨h0, _⟩ := hs
                  have h0 : a.tmps.getD 1 undef = .pointer (some ⟨X, 0, none⟩) := h0
                  refine op_run rfl rfl (v := .pointer (some ⟨X, 1, none⟩)) (w' := w1) ?_ rfl (Below.refl _ _)
                  simp [execOp, Act.eval, h0, go_sem]
                · intro a w1 hR hsz hs      -- 1: slot 12
                  obtain ⟨h0, _⟩ := hs
                  have h0 : a.tmps.getD 11 undef = .pointer (some ⟨X, 1, none⟩) := h0
                  obtain ⟨x0, x1⟩ := (HX2.out.later (HBR.out.trans (hR.mono HBR.out.size))).c2
                  refine op_run rfl rfl (v := .slice (some ⟨b1, f1, none⟩) ns c2) (w' := w1) ?_ rfl (Below.refl _ _)
                  simp [execOp, Act.eval, h0, x1, go_sem]
                · intro a w1 hR hsz hs      -- 2: slot 13
                  obtain ⟨h0, _⟩ := hs
                  have h0 : a.tmps.getD 3 undef = .int .i64 j := h0
                  refine op_run rfl rfl (v := .int .i64 j) (w' := w1) ?_ rfl (Below.refl _ _)
                  simp [execOp, Act.eval, h0, go_sem]
                · intro a w1 hR hsz hs      -- 3: slot 14
                  obtain ⟨h0, h1, _⟩ := hs
                  have h0 : a.tmps.getD 12 undef = .slice (some ⟨b1, f1, none⟩) ns c2 := h0
                  have h1 : a.tmps.getD 13 undef = .int .i64 j := h1
                  refine op_run rfl rfl (v := .pointer (some ⟨b1, f1 + j * 2, none⟩)) (w' := w1) ?_ rfl (Below.refl _ _)
                  simp [execOp, Act.eval, h0, h1, hjn2, hjj, go_sem]
                · intro a w1 hR hsz hs      -- 4: slot 15
                  obtain ⟨h0, _⟩ := hs
                  have h0 : a.tmps.getD 14 undef = .pointer (some ⟨b1, f1 + j * 2, none⟩) := h0
                  refine op_run rfl rfl (v := .pointer (some ⟨b1, f1 + j * 2, none⟩)) (w' := w1) ?_ rfl (Below.refl _ _)
                  simp [execOp, Act.eval, h0, go_sem]
                · intro a w1 hR hsz hs      -- 5: slot 16
                  obtain ⟨h0, _⟩ := hs
                  have h0 : a.tmps.getD 15 undef = .pointer (some ⟨b1, f1 + j * 2, none⟩) := h0
                  obtain ⟨p0, p1⟩ := HPP.out w1 hR
                  refine op_run rfl rfl (v := .string N1) (w' := w1) ?_ rfl (Below.refl _ _)
                  simp [execOp, Act.eval, h0, p0, go_sem]
                · intro a w1 hR hsz hs      -- 6: slot 17
                  obtain ⟨h0, _⟩ := hs
                  have h0 : a.tmps.getD 16 undef = .string N1 := h0
                  refine op_call rfl rfl (f := 54) (args := #[.string N1]) (by simp [execOp, Act.eval, resolve, h0, go_sem]) ?_
                  exact calls_sameM (HNA.out w1)
                · intro a w1 hR hsz hs      -- 7: slot 18
                  obtain ⟨h0, _⟩ := hs
                  have h0 : a.tmps.getD 17 undef = .bool true := h0
                  refine op_run rfl rfl (v := .bool false) (w' := w1) ?_ rfl (Below.refl _ _)
                  simp [execOp, Act.eval, h0, go_sem]
                · intro a w1 hR hsz hs      -- 8: slot 19
                  obtain ⟨h0, _⟩ := hs
                  have h0 : a.tmps.getD 18 undef = .bool false := h0
                  refine op_run rfl rfl (v := .bool false) (w' := w1) ?_ rfl (Below.refl _ _)
                  simp [execOp, Act.eval, h0, go_sem]
                · intro a w1 hR hsz hs      -- 9: slot 20
                  obtain ⟨h0, h1, _⟩ := hs
                  have h0 : a.tmps.getD 1 undef = .pointer (some ⟨X, 0, none⟩) := h0
                  have h1 : a.tmps.getD 19 undef = .bool false := h1
                  refine opg_run rfl rfl rfl (by rw [hsz]; decide) h1 (v := .pointer (some ⟨X, 1, none⟩)) (w' := w1) ?_ rfl (Below.refl _ _)
                  simp [execOp, Act.eval, h0, go_sem]
                · intro a w1 hR hsz hs      -- 10: slot 21
                  obtain ⟨h0, h1, _⟩ := hs
                  have h0 : a.tmps.getD 20 undef = .pointer (some ⟨X, 1, none⟩) := h0
                  have h1 : a.tmps.getD 19 undef = .bool false := h1
                  obtain ⟨x0, x1⟩ := (HX2.out.later (HBR.out.trans (hR.mono HBR.out.size))).c2
                  refine opg_run rfl rfl rfl (by rw [hsz]; decide) h1 (v := .slice (some ⟨b1, f1, none⟩) ns c2) (w' := w1) ?_ rfl (Below.refl _ _)
                  simp [execOp, Act.eval, h0, x1, go_sem]
                · intro a w1 hR hsz hs      -- 11: slot 22
                  obtain ⟨h0, h1, _⟩ := hs
                  have h0 : a.tmps.getD 3 undef = .int .i64 j := h0
                  have h1 : a.tmps.getD 19 undef = .bool false := h1
                  refine opg_run rfl rfl rfl (by rw [hsz]; decide) h1 (v := .int .i64 j) (w' := w1) ?_ rfl (Below.refl _ _)
                  simp [execOp, Act.eval, h0, go_sem]
                · intro a w1 hR hsz hs      -- 12: slot 23
                  obtain ⟨h0, h1, h2, _⟩ := hs
                  have h0 : a.tmps.getD 21 undef = .slice (some ⟨b1, f1, none⟩) ns c2 := h0
                  have h1 : a.tmps.getD 22 undef = .int .i64 j := h1
                  have h2 : a.tmps.getD 19 undef = .bool false := h2
                  refine opg_run rfl rfl rfl (by rw [hsz]; decide) h2 (v := .pointer (some ⟨b1, f1 + j * 2, none⟩)) (w' := w1) ?_ rfl (Below.refl _ _)
                  simp [execOp, Act.eval, h0, h1, hjn2, hjj, go_sem]
                · intro a w1 hR hsz hs      -- 13: slot 24
                  obtain ⟨h0, h1, _⟩ := hs
                  have h0 : a.tmps.getD 23 undef = .pointer (some ⟨b1, f1 + j * 2, none⟩) := h0
                  have h1 : a.tmps.getD 19 undef = .bool false := h1
                  refine opg_run rfl rfl rfl (by rw [hsz]; decide) h1 (v := .pointer (some ⟨b1, f1 + j * 2 + 1, none⟩)) (w' := w1) ?_ rfl (Below.refl _ _)
                  simp [execOp, Act.eval, h0, go_sem]
                · intro a w1 hR hsz hs      -- 14: slot 25
                  obtain ⟨h0, h1, _⟩ := hs
                  have h0 : a.tmps.getD 24 undef = .pointer (some ⟨b1, f1 + j * 2 + 1, none⟩) := h0
                  have h1 : a.tmps.getD 19 undef = .bool false := h1
                  obtain ⟨p0, p1⟩ := HPP.out w1 hR
                  refine opg_run rfl rfl rfl (by rw [hsz]; decide) h1 (v := .slice e1 L1 k1) (w' := w1) ?_ rfl (Below.refl _ _)
                  simp [execOp, Act.eval, h0, p1, go_sem]
                · intro a w1 hR hsz hs      -- 15: slot 26
                  obtain ⟨h0, h1, _⟩ := hs
                  have h0 : a.tmps.getD 25 undef = .slice e1 L1 k1 := h0
                  have h1 : a.tmps.getD 19 undef = .bool false := h1
                  refine opg_run rfl rfl rfl (by rw [hsz]; decide) h1 (v := .int .i64 L1) (w' := w1) ?_ rfl (Below.refl _ _)
                  simp [execOp, Act.eval, h0, go_sem]
                · intro a w1 hR hsz hs      -- 16: slot 27
                  obtain ⟨h0, h1, _⟩ := hs
                  have h0 : a.tmps.getD 26 undef = .int .i64 L1 := h0
                  have h1 : a.tmps.getD 19 undef = .bool false := h1
                  refine opg_run rfl rfl rfl (by rw [hsz]; decide) h1 (v := .bool false) (w' := w1) ?_ rfl (Below.refl _ _)
                  simp [execOp, Act.eval, h0, hL5, hL6, go_sem]
                · intro a w1 hR hsz hs      -- 17: slot 28
                  obtain ⟨h0, h1, _⟩ := hs
                  have h0 : a.tmps.getD 19 undef = .bool false := h0
                  have h1 : a.tmps.getD 27 undef = .bool false := h1
                  refine op_run rfl rfl (v := .bool false) (w' := w1) ?_ rfl (Below.refl _ _)
                  simp [execOp, Act.eval, h0, h1, go_sem]
                · intro a w1 hR hsz hs      -- 18: slot 29
                  obtain ⟨h0, _⟩ := hs
                  have h0 : a.tmps.getD 28 undef = .bool false := h0
                  refine op_run rfl rfl (v := .bool false) (w' := w1) ?_ rfl (Below.refl _ _)
                  simp [execOp, Act.eval, h0, go_sem]
                · intro a w1 hR hsz hs      -- 19: slot 30
                  obtain ⟨h0, h1, _⟩ := hs
                  have h0 : a.tmps.getD 1 undef = .pointer (some ⟨X, 0, none⟩) := h0
                  have h1 : a.tmps.getD 29 undef = .bool false := h1
                  obtain ⟨x0, x1⟩ := (HX2.out.later (HBR.out.trans (hR.mono HBR.out.size))).c2
                  refine opg_run rfl rfl rfl (by rw [hsz]; decide) h1 (v := .agg #[.slice a1 nd c1, .slice (some ⟨b1, f1, none⟩) ns c2]) (w' := w1) ?_ rfl (Below.refl _ _)
                  simp [execOp, Act.eval, h0, x0, x1, go_sem]
                · intro a w1 hR hsz hs      -- 20: slot 31
                  obtain ⟨h0, h1, _⟩ := hs
                  have h0 : a.tmps.getD 1 undef = .pointer (some ⟨X, 0, none⟩) := h0
                  have h1 : a.tmps.getD 29 undef = .bool false := h1
                  refine opg_run rfl rfl rfl (by rw [hsz]; decide) h1 (v := .pointer (some ⟨X, 1, none⟩)) (w' := w1) ?_ rfl (Below.refl _ _)
                  simp [execOp, Act.eval, h0, go_sem]
                · intro a w1 hR hsz hs      -- 21: slot 32
                  obtain ⟨h0, h1, _⟩ := hs
                  have h0 : a.tmps.getD 31 undef = .pointer (some ⟨X, 1, none⟩) := h0
                  have h1 : a.tmps.getD 29 undef = .bool false := h1
                  obtain ⟨x0, x1⟩ := (HX2.out.later (HBR.out.trans (hR.mono HBR.out.size))).c2
                  refine opg_run rfl rfl rfl (by rw [hsz]; decide) h1 (v := .slice (some ⟨b1, f1, none⟩) ns c2) (w' := w1) ?_ rfl (Below.refl _ _)
                  simp [execOp, Act.eval, h0, x1, go_sem]
                · intro a w1 hR hsz hs      -- 22: slot 33
                  obtain ⟨h0, h1, _⟩ := hs
                  have h0 : a.tmps.getD 3 undef = .int .i64 j := h0
                  have h1 : a.tmps.getD 29 undef = .bool false := h1
                  refine opg_run rfl rfl rfl (by rw [hsz]; decide) h1 (v := .int .i64 j) (w' := w1) ?_ rfl (Below.refl _ _)
                  simp [execOp, Act.eval, h0, go_sem]
                · intro a w1 hR hsz hs      -- 23: slot 34
                  obtain ⟨h0, h1, h2, _⟩ := hs
                  have h0 : a.tmps.getD 32 undef = .slice (some ⟨b1, f1, none⟩) ns c2 := h0
                  have h1 : a.tmps.getD 33 undef = .int .i64 j := h1
                  have h2 : a.tmps.getD 29 undef = .bool false := h2
                  refine opg_run rfl rfl rfl (by rw [hsz]; decide) h2 (v := .pointer (some ⟨b1, f1 + j * 2, none⟩)) (w' := w1) ?_ rfl (Below.refl _ _)
                  simp [execOp, Act.eval, h0, h1, hjn2, hjj, go_sem]
                · intro a w1 hR hsz hs      -- 24: slot 35
                  obtain ⟨h0, h1, _⟩ := hs
                  have h0 : a.tmps.getD 34 undef = .pointer (some ⟨b1, f1 + j * 2, none⟩) := h0
                  have h1 : a.tmps.getD 29 undef = .bool false := h1
                  refine opg_run rfl rfl rfl (by rw [hsz]; decide) h1 (v := .pointer (some ⟨b1, f1 + j * 2, none⟩)) (w' := w1) ?_ rfl (Below.refl _ _)
                  simp [execOp, Act.eval, h0, go_sem]
                · intro a w1 hR hsz hs      -- 25: slot 36
                  obtain ⟨h0, h1, _⟩ := hs
                  have h0 : a.tmps.getD 35 undef = .pointer (some ⟨b1, f1 + j * 2, none⟩) := h0
                  have h1 : a.tmps.getD 29 undef = .bool false := h1
                  obtain ⟨p0, p1⟩ := HPP.out w1 hR
                  refine opg_run rfl rfl rfl (by rw [hsz]; decide) h1 (v := .string N1) (w' := w1) ?_ rfl (Below.refl _ _)
                  simp [execOp, Act.eval, h0, p0, go_sem]
                · intro a w1 hR hsz hs      -- 26: slot 37
                  obtain ⟨h0, h1, h2, _⟩ := hs
                  have h0 : a.tmps.getD 30 undef = .agg #[.slice a1 nd c1, .slice (some ⟨b1, f1, none⟩) ns c2] := h0
                  have h1 : a.tmps.getD 36 undef = .string N1 := h1
                  have h2 : a.tmps.getD 29 undef = .bool false := h2
                  refine opg_call rfl rfl rfl (by rw [hsz]; decide) h2 (f := 51) (args := #[.agg #[.slice a1 nd c1, .slice (some ⟨b1, f1, none⟩) ns c2], .string N1]) (by simp [execOp, Act.eval, resolve, h0, h1, go_sem]) ?_
                  exact calls_c (HFD.out w1 hR)
                · intro a w1 hR hsz hs      -- 27: slot 38
                  obtain ⟨h0, h1, _⟩ := hs
                  have h0 : a.tmps.getD 3 undef = .int .i64 j := h0
                  have h1 : a.tmps.getD 29 undef = .bool false := h1
                  refine opg_run rfl rfl rfl (by rw [hsz]; decide) h1 (v := .int .i64 j) (w' := w1) ?_ rfl (Below.refl _ _)
                  simp [execOp, Act.eval, h0, go_sem]
                · intro a w1 hR hsz hs      -- 28: slot 39
                  obtain ⟨h0, h1, h2, _⟩ := hs
                  have h0 : a.tmps.getD 37 undef = .int .i64 F := h0
                  have h1 : a.tmps.getD 38 undef = .int .i64 j := h1
                  have h2 : a.tmps.getD 29 undef = .bool false := h2
                  refine opg_run rfl rfl rfl (by rw [hsz]; decide) h2 (v := .bool true) (w' := w1) ?_ rfl (Below.refl _ _)
                  simp [execOp, Act.eval, h0, h1, hFj, go_sem]
                · intro a w1 hR hsz hs      -- 29: slot 40
                  obtain ⟨h0, h1, _⟩ := hs
                  have h0 : a.tmps.getD 29 undef = .bool false := h0
                  have h1 : a.tmps.getD 39 undef = .bool true := h1
                  refine op_run rfl rfl (v := .bool true) (w' := w1) ?_ rfl (Below.refl _ _)
                  simp [execOp, Act.eval, h0, h1, go_sem]
              intro f w1 hR hv
              have e40 : f 40 = .bool true := hv 29 _ 40 rfl rfl
              clear hv
              try simp only [Exit.then]
              simp only [putAll, List.foldl_cons, List.foldl_nil, Option.getD_some, Act.put, List.setIfInBounds_toArray, List.set_cons_succ, List.set_cons_zero, e40]
              have HB9 := Lib.hid (HB3.out.trans ((HBR.out.trans (hR.mono HBR.out.size)).mono HB3.out.size))
              clear hR e40
              go_wp2_with fail
              go_ret
              exact ⟨_, rfl, HNO.out, HB9.out⟩
              -- END R3
    · have hjN : j = ns := by omega
      have HALL : Hid (∀ k o, s.snaps[k]? = some o → odAt s.snaps k o) := Lib.hid fun k o ho => HA.out k (by have := (List.getElem?_eq_some_iff.1 ho).1; rw [HNS.out] at this; omega) o ho
      clear hjN
      by_cases h5 : nd ≤ 512
      · have hd5 : decide ((nd : Int) ≤ 512) = true := decide_eq_true (by omega)
        by_cases h8 : ns ≤ 8
        · have hd8 : decide ((ns : Int) ≤ 8) = true := decide_eq_true (by omega)
          have HYES : Hid (StOk s) := Lib.hid (stOk_iff.2 ⟨HALL.out, by rw [HND.out]; exact h5, by rw [HNS.out]; exact h8⟩)
          go_wp2_with fail
          go_ret
          exact ⟨_, rfl, ⟨fun _ => HYES.out, fun _ => rfl⟩, HB3.out.trans (HBR.out.mono HB3.out.size)⟩
        · have hd8 : decide ((ns : Int) ≤ 8) = false := decide_eq_false (by omega)
          have HNO : Hid (false = true ↔ StOk s) := Lib.hid ⟨fun c => absurd c (by decide), fun c => absurd (stOk_iff.1 c).2.2 (by rw [HNS.out]; exact h8)⟩
          go_wp2_with fail
          go_ret
          exact ⟨_, rfl, HNO.out, HB3.out.trans (HBR.out.mono HB3.out.size)⟩
      · have hd5 : decide ((nd : Int) ≤ 512) = false := decide_eq_false (by omega)
        have HNO : Hid (false = true ↔ StOk s) := Lib.hid ⟨fun c => absurd c (by decide), fun c => absurd (stOk_iff.1 c).2.1 (by rw [HND.out]; exact h5)⟩
        go_wp2_with fail
        go_ret
        exact ⟨_, rfl, HNO.out, HB3.out.trans (HBR.out.mono HB3.out.size)⟩
end Go.Proofs.Ytbpddcmehjgleaa
namespace Go.Proofs.Ytbpddcmehjgleaa
open Go.RowKit Go.Proofs
set_option linter.unusedVariables false
set_option linter.unusedSimpArgs false
set_option linter.unnecessarySimpa false

def fewE (e : Ev) : Bool := decide (e.data.length ≤ 100) && decide (e.name.length ≤ 40)
def smallE (l : List Ev) (most : Int) : Bool := l.all fewE && decide ((l.length : Int) ≤ most)
theorem fewE_iff {e : Ev} : fewE e = true ↔ e.data.length ≤ 100 ∧ e.name.length ≤ 40 := by unfold fewE; simp
theorem smallE_iff {l : List Ev} {most : Int} : smallE l most = true ↔ (∀ e ∈ l, fewE e = true) ∧ (l.length : Int) ≤ most := by unfold smallE; simp
theorem smallE_no {l : List Ev} {most : Int} {i : Nat} {e : Ev} (h : l[i]? = some e) (hf : fewE e = false) : smallE l most = false := by
  have : l.all fewE = false := by rw [List.all_eq_false]; exact ⟨e, List.mem_of_getElem? h, by rw [hf]; simp⟩
  unfold smallE; rw [this]; rfl
theorem smallE_all {l : List Ev} {most : Int} (h : ∀ (i : Nat) e, l[i]? = some e → fewE e = true) : smallE l most = decide ((l.length : Int) ≤ most) := by
  have : l.all fewE = true := by rw [List.all_eq_true]; intro e he; obtain ⟨i, hi⟩ := List.mem_iff_getElem?.1 he; exact h i e hi
  unfold smallE; rw [this]; rfl
/-- An event's cells. -/
theorem QRow.e5 {J : Nat → Prop} {w : World} {a : Option Addr} {n cap : Nat} {l : List Ev} (h : QE J w (.slice a n cap) l) {i : Nat} {e : Ev} (he : l[i]? = some e) :
    ∃ b off S a2 c2, a = some ⟨b, off, .none⟩ ∧ w.cell? ⟨b, off + i * 5, .none⟩ = some (.int .i64 e.kind) ∧ w.cell? ⟨b, off + i * 5 + 1, .none⟩ = some (.int .i64 e.off) ∧ w.cell? ⟨b, off + i * 5 + 2, .none⟩ = some (.int .i64 e.len) ∧ w.cell? ⟨b, off + i * 5 + 3, .none⟩ = some (.slice a2 e.data.length c2) ∧ w.cell? ⟨b, off + i * 5 + 4, .none⟩ = some (.string S) ∧ S.data.toList = e.name ∧ S.size ≤ 9223372036854775807 ∧ Row w a2 c2 e.data := by
  obtain ⟨b, off, cs, ha, hl, ⟨v, S, rfl, h2, h3, h4⟩, hc⟩ := h.at he
  obtain ⟨a2, c2, rfl, hr⟩ := h4.row_n rfl
  exact ⟨b, off, S, a2, c2, ha, hc 0 _ rfl, hc 1 _ rfl, hc 2 _ rfl, hc 3 _ rfl, hc 4 _ rfl, h2, h3, hr⟩
set_option maxRecDepth 20000 in
set_option maxHeartbeats 3200000 in
theorem few14_any (k o m : Int) (a : Option Addr) (n c : Nat) (l : List UInt8) (T : ByteArray) (w : World) (hr : Row w a c l) (hn : l.length = n) (hT : T.size ≤ 9223372036854775807) :
    Calls Try.prog 26 #[.agg #[.int .i64 k, .int .i64 o, .int .i64 m, .slice a n c, .string T]] w fun e w' => e = .returned (.bool (fewE ⟨k, o, m, l, T.data.toList⟩)) ∧ Below w.heap.size w w' := by
  have X2 := RecAt.new w #[.int .i64 k, .int .i64 o, .int .i64 m, .slice a n c, .string T] 46
  have B2 : Below w.heap.size w (w.alloc (.cells #[.int .i64 k, .int .i64 o, .int .i64 m, .slice a n c, .string T] 46)) := (Below.refl _ _).alloc (Nat.le_refl _) _
  obtain ⟨w1, hw1⟩ : ∃ W, w.alloc (.cells #[.int .i64 k, .int .i64 o, .int .i64 m, .slice a n c, .string T] 46) = W := ⟨_, rfl⟩
  rw [hw1] at X2 B2
  have HX2 := Lib.hid X2
  have HB2 := Lib.hid B2
  have hsz : T.data.toList.length = T.size := Array.length_toList
  have HF : Hid (fewE ⟨k, o, m, l, T.data.toList⟩ = (decide (n ≤ 100) && decide (T.size ≤ 40))) := Lib.hid (by unfold fewE; simp only; rw [hn, hsz])
  obtain ⟨R, hR⟩ : ∃ R, fewE ⟨k, o, m, l, T.data.toList⟩ = R := ⟨_, rfl⟩
  rw [hR] at HF ⊢
  clear X2 B2 hsz hR
  go_enter Try.func26, Try.ntmps26
  go_upto_region 1 with fail
  try rw [hw1]
  clear hw1
  obtain ⟨X, hX⟩ : ∃ X, w.heap.size = X := ⟨_, rfl⟩
  rw [hX] at HX2 ⊢
  have HXS := Lib.hid hX
  clear hX
  obtain ⟨y0, y1, y2, y3, y4⟩ := HX2.out.c5
  by_cases h1 : n ≤ 100
  · have hd1 : decide ((n : Int) ≤ 100) = true := decide_eq_true (by omega)
    by_cases h2 : T.size ≤ 40
    · have hd2 : decide ((T.size : Int) ≤ 40) = true := decide_eq_true (by omega)
      have HF2 : Hid (R = true) := Lib.hid (by rw [HF.out, decide_eq_true h1, decide_eq_true h2]; rfl)
      go_wp2_with fail
      go_ret
      exact ⟨ret_bool HF2.out.symm, HB2.out⟩
    · have hd2 : decide ((T.size : Int) ≤ 40) = false := decide_eq_false (by omega)
      have HF2 : Hid (R = false) := Lib.hid (by rw [HF.out, decide_eq_true h1, decide_eq_false h2]; rfl)
      go_wp2_with fail
      go_ret
      exact ⟨ret_bool HF2.out.symm, HB2.out⟩
  · have hd1 : decide ((n : Int) ≤ 100) = false := decide_eq_false (by omega)
    have HF2 : Hid (R = false) := Lib.hid (by rw [HF.out, decide_eq_false h1]; rfl)
    go_wp2_with fail
    go_ret
    exact ⟨ret_bool HF2.out.symm, HB2.out⟩
set_option maxRecDepth 20000 in
set_option maxHeartbeats 3200000 in
theorem small14_any (a : Option Addr) (n cap : Nat) (l : List Ev) (most : Int) (J : Nat → Prop) (w : World) (h : QE J w (.slice a n cap) l) :
    Calls Try.prog 9 #[.slice a n cap, .int .i64 most] w fun e w' => e = .returned (.bool (smallE l most)) ∧ Below w.heap.size w w' := by
  obtain ⟨hn, -, -, -⟩ := h.cap
  obtain ⟨hl1, hl2⟩ := h.lim
  have HR := Lib.hid h
  have HN := Lib.hid hn
  obtain ⟨R, hR⟩ : ∃ R, smallE l most = R := ⟨_, rfl⟩
  rw [hR]
  have HRR := Lib.hid hR
  clear h hn hR
  go_enter Try.func9, Try.ntmps9
  go_wp2_with fail
  go_loopw [5] (fun i wr => ∃ j : Nat, i = .int .i64 j ∧ j ≤ n ∧ Below w.heap.size w wr ∧ Hid (∀ k, k < j → ∀ e, l[k]? = some e → fewE e = true)) (fun i _ => n - (intOf i).toNat)
  case atStart => exact ⟨0, rfl, by omega, Below.refl _ _, Lib.hid (fun k h => by omega)⟩
  case round =>
    obtain ⟨j, rfl, hj, hb, HA⟩ := hrel
    have HBR := Lib.hid hb
    clear hb
    by_cases hjn : (j : Int) < n
    · obtain ⟨e, he⟩ : ∃ e, l[j]? = some e := ⟨l[j]'(by have := HN.out; omega), List.getElem?_eq_getElem _⟩
      obtain ⟨b1, f1, S, a2, c2, rfl, p0, p1, p2, p3, p4, hS, hS2, hr⟩ := (HR.out.later ev_rel HBR.out).e5 he
      have HFW := Lib.hid (few14_any e.kind e.off e.len a2 e.data.length c2 e.data S wr hr rfl hS2)
      have hev : (⟨e.kind, e.off, e.len, e.data, S.data.toList⟩ : Ev) = e := by rw [hS]
      rw [hev] at HFW
      have HNO : Hid (fewE e = false → R = false) := Lib.hid fun h => by rw [← HRR.out]; exact smallE_no he h
      have HMO : Hid (fewE e = true → ∀ k, k < j + 1 → ∀ u, l[k]? = some u → fewE u = true) := Lib.hid fun h k hk u hu => by
        by_cases c : k = j
        · subst c; rw [he] at hu; cases hu; exact h
        · exact HA.out k (by omega) u hu
      obtain ⟨B, hB⟩ : ∃ B, fewE e = B := ⟨_, rfl⟩
      rw [hB] at HFW HNO HMO
      generalize e.data.length = L1 at *
      generalize e.kind = K1 at *
      generalize e.off = K2 at *
      generalize e.len = K3 at *
      clear he hev hB hS hr
      go_wp2_with fail
      refine HFW.out.mono ?_
      rintro e w4 ⟨rfl, b4⟩
      have HB4 := Lib.hid (HBR.out.trans (b4.mono HBR.out.size))
      clear b4 p0 p1 p2 p3 p4
      cases B with
      | false =>
        have HF := Lib.hid (HNO.out rfl)
        go_wp2_with fail
        go_ret
        exact ⟨ret_bool HF.out.symm, HB4.out⟩
      | true =>
        have HA2 := Lib.hid (HMO.out rfl)
        go_wp2_with fail
        go_roundw
        case rel => exact ⟨j + 1, by go_num, by omega, HB4.out, HA2⟩
        case measure => simp [intOf]; omega
    · have hjN : j = n := by omega
      have HF : Hid (R = decide ((n : Int) ≤ most)) := Lib.hid (by
        rw [← HRR.out, smallE_all (fun i e he => HA.out i (by have := (List.getElem?_eq_some_iff.1 he).1; rw [HN.out] at this; omega) e he), HN.out])
      clear hjN
      go_wp2_with fail
      go_ret
      exact ⟨ret_bool HF.out.symm, HBR.out⟩
end Go.Proofs.Ytbpddcmehjgleaa
