/- Images: the document's own Same, Right. -/
import Derived.Test.YtghglbaflmbeoaaMdB
import Derived.Test.YtghglbaflmbeoaaSameG
namespace Go.Proofs.Ytghglbaflmbeoaa
open Go.RowKit Go.Proofs
set_option linter.unusedVariables false
set_option linter.unusedSimpArgs false
set_option linter.unnecessarySimpa false

theorem QRow.lim {α : Type} {sz : Nat} {tE tS : TypeId} {E : Rel α} {J : Nat → Prop} {w : World} {a : Option Addr} {n cap : Nat} {ts : List α} (h : QRow J sz tE tS E w (.slice a n cap) ts) : n ≤ cap ∧ cap ≤ 9223372036854775807 := by
  obtain ⟨_, h1, h2, _⟩ := h.cap
  exact ⟨h1, h2⟩
theorem Row.lim {w : World} {a : Option Addr} {cap n : Nat} {l : List UInt8} (h : Row w a cap l) (hn : l.length = n) : n ≤ cap ∧ cap ≤ 9223372036854775807 := by
  have h2 := h.2.1
  unfold maxLen at h2
  exact ⟨by have := h.1; omega, by omega⟩
theorem sx_eq_iff (s t : Sx) : decide (s = t) = (decide (s.data = t.data) && decide (s.snaps = t.snaps)) := by
  obtain ⟨a, b⟩ := s
  obtain ⟨c, d⟩ := t
  rw [Bool.eq_iff_iff]; simp
theorem od_ne_name {o p : Od} (h : o.name ≠ p.name) : o ≠ p := fun e => h (by rw [e])
theorem od_ne_data {o p : Od} (h : o.data ≠ p.data) : o ≠ p := fun e => h (by rw [e])
theorem od_eq {o p : Od} (h1 : o.name = p.name) (h2 : o.data = p.data) : o = p := by
  obtain ⟨a, b⟩ := o; obtain ⟨c, d⟩ := p; simp only at h1 h2; rw [h1, h2]
set_option maxRecDepth 20000 in
set_option maxHeartbeats 6400000 in
theorem rsame14_any (d1 v1 d2 v2 : Value) (s t : Sx) (J1 J2 : Nat → Prop) (w : World) (h1 : StA J1 w d1 v1 s) (h2 : StA J2 w d2 v2 t) :
    Calls Try.prog 18 #[.agg #[d1, v1], .agg #[d2, v2]] w fun e w' => e = .returned (.bool (decide (s = t))) ∧ Below w.heap.size w w' := by
  obtain ⟨B, hB⟩ : ∃ B, decide (s = t) = B := ⟨_, rfl⟩
  rw [hB]
  have HB := Lib.hid hB
  clear hB
  obtain ⟨a1, c1, a2, c2, rfl, rfl, rd, rs⟩ := h1.open
  obtain ⟨a3, c3, a4, c4, rfl, rfl, td, ts⟩ := h2.open
  obtain ⟨X2, X3, B3⟩ := two_recsS w #[.slice a1 s.data.length c1, .slice a2 s.snaps.length c2] #[.slice a3 t.data.length c3, .slice a4 t.snaps.length c4] 28 28
  obtain ⟨w1, hw1⟩ : ∃ W, ((w.alloc (.cells #[.slice a1 s.data.length c1, .slice a2 s.snaps.length c2] 28)).alloc (.cells #[.slice a3 t.data.length c3, .slice a4 t.snaps.length c4] 28)) = W := ⟨_, rfl⟩
  rw [hw1] at X2 X3 B3
  obtain ⟨nd, hnd⟩ : ∃ z, s.data.length = z := ⟨_, rfl⟩
  obtain ⟨ns, hns⟩ : ∃ z, s.snaps.length = z := ⟨_, rfl⟩
  obtain ⟨md, hmd⟩ : ∃ z, t.data.length = z := ⟨_, rfl⟩
  obtain ⟨ms, hms⟩ : ∃ z, t.snaps.length = z := ⟨_, rfl⟩
  rw [hnd] at X2 hw1 ⊢
  rw [hns] at X2 hw1 rs ⊢
  rw [hmd] at X3 hw1 ⊢
  rw [hms] at X3 hw1 ts ⊢
  have HX2 := Lib.hid X2
  have HX3 := Lib.hid X3
  have HB3 := Lib.hid B3
  have HRS := Lib.hid (rs.later od_rel B3)
  have HTS := Lib.hid (ts.later od_rel B3)
  have q1 := conv_row_n (rd.later B3) hnd
  have q2 := conv_row_n (td.later B3) hmd
  have HNS := Lib.hid hns
  have HMS := Lib.hid hms
  have HBE : Hid (((⟨s.data.toArray⟩ : ByteArray) = ⟨t.data.toArray⟩) ↔ s.data = t.data) := Lib.hid bytes_eq
  obtain ⟨hl1, hl2⟩ := rs.lim
  obtain ⟨hl3, hl4⟩ := ts.lim
  generalize (⟨s.data.toArray⟩ : ByteArray) = S1 at *
  generalize (⟨t.data.toArray⟩ : ByteArray) = S2 at *
  clear X2 X3 B3 rd rs td ts h1 h2 hnd hns hmd hms
  go_enter Try.func18, Try.ntmps18
  go_upto_region 1 with fail
  try rw [hw1]
  clear hw1
  obtain ⟨X, hX⟩ : ∃ X, w.heap.size = X := ⟨_, rfl⟩
  rw [hX] at HX2 HX3 ⊢
  have HXS := Lib.hid hX
  clear hX
  obtain ⟨x0, x1⟩ := HX2.out.c2
  obtain ⟨y0, y1⟩ := HX3.out.c2
  by_cases hd : s.data = t.data
  · have hq : (S1.toList == S2.toList) = true := (sbeq_iff _ _).2 (HBE.out.2 hd)
    have hq2 : (S1.toList != S2.toList) = false := by rw [bne, hq]; rfl
    by_cases hnm : ns = ms
    · subst hnm
      have hqn : ((ns : Int) != (ns : Int)) = false := by simp
      have HYES : Hid (s.snaps = t.snaps → B = true) := Lib.hid fun h => by rw [← HB.out, sx_eq_iff, decide_eq_true hd, decide_eq_true h]; rfl
      have HNOO : Hid (s.snaps ≠ t.snaps → B = false) := Lib.hid fun h => by rw [← HB.out, sx_eq_iff, decide_eq_true hd, decide_eq_false h]; rfl
      clear hd
      go_wp2_with fail
      clear q1 q2 hq hq2 hqn x0 x1 y0 y1
      go_loopw [5] (fun i wr => ∃ j : Nat, i = .int .i64 j ∧ j ≤ ns ∧ Below w1.heap.size w1 wr ∧ Hid (∀ k, k < j → s.snaps[k]? = t.snaps[k]?)) (fun i _ => ns - (intOf i).toNat)
      case atStart => exact ⟨0, rfl, by omega, Below.refl _ _, Lib.hid (fun k h => by omega)⟩
      case round =>
        obtain ⟨j, rfl, hj, hb, HA⟩ := hrel
        have HBR := Lib.hid hb
        clear hb
        obtain ⟨x0, x1⟩ := (HX2.out.later HBR.out).c2
        obtain ⟨y0, y1⟩ := (HX3.out.later HBR.out).c2
        by_cases hjn : (j : Int) < ns
        · have hjn2 : j < ns := by omega
          obtain ⟨e, he⟩ : ∃ e, s.snaps[j]? = some e := ⟨s.snaps[j]'(by have := HNS.out; omega), List.getElem?_eq_getElem _⟩
          obtain ⟨u, hu⟩ : ∃ e, t.snaps[j]? = some e := ⟨t.snaps[j]'(by have := HMS.out; omega), List.getElem?_eq_getElem _⟩
          obtain ⟨b1, f1, N1, e1, k1, rfl, p0, p1, hN1, -, R1⟩ := (HRS.out.later od_rel HBR.out).o2 he
          obtain ⟨b2, f2, N2, e2, k2, rfl, r0, r1, hN2, -, R2⟩ := (HTS.out.later od_rel HBR.out).o2 hu
          have HC1 := fun nq => conv_row (R1.later (below_drewN wr nq))
          have HC2 := fun nq => conv_row (R2.later (below_drewN wr nq))
          have HNM := Lib.hid (str_iff hN1 hN2)
          have HDM : Hid (((⟨e.data.toArray⟩ : ByteArray) = ⟨u.data.toArray⟩) ↔ e.data = u.data) := Lib.hid bytes_eq
          have HNE : Hid (e ≠ u → B = false) := Lib.hid fun h => HNOO.out fun h2 => by rw [h2, hu] at he; exact h (Option.some.inj he).symm
          have HEQ : Hid (e = u → ∀ k, k < j + 1 → s.snaps[k]? = t.snaps[k]?) := Lib.hid fun h k hk => by
            by_cases c : k = j
            · subst c; rw [he, hu, h]
            · exact HA.out k (by omega)
          clear he hu R1 R2 hN1 hN2
          generalize (⟨e.data.toArray⟩ : ByteArray) = D1 at *
          generalize (⟨u.data.toArray⟩ : ByteArray) = D2 at *
          generalize e.data.length = L1 at *
          generalize u.data.length = L2 at *
          by_cases hnn : e.name = u.name
          · have hqa : (N1.toList == N2.toList) = true := (sbeq_iff _ _).2 (HNM.out.2 hnn)
            have hqb : (N1.toList != N2.toList) = false := by rw [bne, hqa]; rfl
            by_cases hdd : e.data = u.data
            · have hqc : (D1.toList == D2.toList) = true := (sbeq_iff _ _).2 (HDM.out.2 hdd)
              have hqd : (D1.toList != D2.toList) = false := by rw [bne, hqc]; rfl
              have HA2 := Lib.hid (HEQ.out (od_eq hnn hdd))
              clear hnn hdd
              go_upto_region 6 with fail
              go_quiet (fail)
              clear HC1 HC2 x0 x1 y0 y1 p0 p1 r0 r1
              go_wp2_with fail
              go_roundw
              case rel => exact ⟨j + 1, by go_num, by omega, HBR.out.trans ((below_drewN _ _).mono HBR.out.size), HA2⟩
              case measure => simp [intOf]; omega
            · have hqc : (D1.toList == D2.toList) = false := sbeq_no fun h => hdd (HDM.out.1 h)
              have hqd : (D1.toList != D2.toList) = true := by rw [bne, hqc]; rfl
              have HF := Lib.hid (HNE.out (od_ne_data hdd))
              clear hnn hdd
              go_upto_region 6 with fail
              go_quiet (fail)
              clear HC1 HC2 x0 x1 y0 y1 p0 p1 r0 r1
              go_wp2_with fail
              go_ret
              exact ⟨ret_bool HF.out.symm, HB3.out.trans ((HBR.out.trans ((below_drewN _ _).mono HBR.out.size)).mono HB3.out.size)⟩
          · have hqa : (N1.toList == N2.toList) = false := sbeq_no fun h => hnn (HNM.out.1 h)
            have hqb : (N1.toList != N2.toList) = true := by rw [bne, hqa]; rfl
            have HF := Lib.hid (HNE.out (od_ne_name hnn))
            clear hnn
            go_upto_region 6 with fail
            go_quiet (fail)
            clear HC1 HC2 x0 x1 y0 y1 p0 p1 r0 r1
            go_wp2_with fail
            go_ret
            exact ⟨ret_bool HF.out.symm, HB3.out.trans ((HBR.out.trans ((below_drewN _ _).mono HBR.out.size)).mono HB3.out.size)⟩
        · have hjN : j = ns := by omega
          have HF := Lib.hid (HYES.out (by
            have := sameG_yes HNS.out HMS.out (by rw [← hjN]; exact HA.out)
            exact of_decide_eq_true this))
          clear hjN
          go_wp2_with fail
          go_ret
          exact ⟨ret_bool HF.out.symm, HB3.out.trans (HBR.out.mono HB3.out.size)⟩
    · have hqn : ((ns : Int) != (ms : Int)) = true := by simp; omega
      have HF : Hid (B = false) := Lib.hid (by
        rw [← HB.out, sx_eq_iff, decide_eq_false (p := s.snaps = t.snaps) (fun h => hnm (by rw [← HNS.out, ← HMS.out, h]))]; simp)
      clear hd hnm
      go_wp2_with fail
      go_ret
      exact ⟨ret_bool HF.out.symm, HB3.out⟩
  · have hq : (S1.toList == S2.toList) = false := sbeq_no fun h => hd (HBE.out.1 h)
    have hq2 : (S1.toList != S2.toList) = true := by rw [bne, hq]; rfl
    have HF : Hid (B = false) := Lib.hid (by rw [← HB.out, sx_eq_iff, decide_eq_false hd]; rfl)
    clear hd
    go_wp2_with fail
    go_ret
    exact ⟨ret_bool HF.out.symm, HB3.out⟩
end Go.Proofs.Ytghglbaflmbeoaa
