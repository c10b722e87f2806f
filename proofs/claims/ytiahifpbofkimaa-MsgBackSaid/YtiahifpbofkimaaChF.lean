/- Chains: the document's own Right. -/
import Derived.Test.YtiahifpbofkimaaChB
import Derived.Test.YtiahifpbofkimaaGI
namespace Go.Proofs.Ytiahifpbofkimaa
open Go.RowKit Go.Proofs
set_option linter.unusedVariables false
set_option linter.unusedSimpArgs false

theorem rightC_not {ts : List Tg} {j : Nat} {t : Tg} (ht : ts[j]? = some t) (h : ¬ (t.Ok ∧ (∀ u, 0 < j → ts[j - 1]? = some u → u.at' ≤ t.at') ∧ ∀ (k : Nat) u, k < j → ts[k]? = some u → u.id ≠ t.id)) : rightC ts = false :=
  rightC_no fun hx => h (hx.2.2.2 j (List.getElem?_eq_some_iff.1 ht).1 t ht)
set_option maxRecDepth 100000 in
set_option maxHeartbeats 12800000 in
theorem chrright_any (ad : Option Addr) (n c : Nat) (ts : List Tg) (w : World) (hr : TRow w ad c ts) (hn : ts.length = n) :
    Calls Try.prog 61 #[.slice ad n c] w fun e w' => e = .returned (.bool (rightC ts)) ∧ Below w.heap.size w w' := by
  have HR := Lib.hid hr
  have HN := Lib.hid hn
  have hc1 := hr.1
  rw [hn] at hc1
  have hcm : c ≤ 9223372036854775807 := by have := hr.2.1; unfold maxLen at this; omega
  rcases (show n < 1 ∨ (1 ≤ n ∧ 32 < n) ∨ (1 ≤ n ∧ n ≤ 32) by omega) with h | h | h
  · have HF := Lib.hid (rightC_no (l := ts) (fun hx => by have := hx.1; omega))
    clear hr hn
    have hd : decide ((n : Int) < 1) = true := by simp; omega
    go_enter Try.func61, Try.ntmps61
    go_wp2_with fail
    go_ret
    exact ⟨ret_bool HF.out.symm, Below.refl _ _⟩
  · have HF := Lib.hid (rightC_no (l := ts) (fun hx => by have := hx.2.1; omega))
    clear hr hn
    have hd : decide ((n : Int) < 1) = false := by simp; omega
    have hd2 : decide (32 < (n : Int)) = true := by simp; omega
    go_enter Try.func61, Try.ntmps61
    go_wp2_with fail
    go_ret
    exact ⟨ret_bool HF.out.symm, Below.refl _ _⟩
  · obtain ⟨t0, ht0⟩ : ∃ t, ts[0]? = some t := ⟨ts[0]'(by omega), List.getElem?_eq_getElem _⟩
    obtain ⟨b0, o0, rfl, p0, p1, p2, p3⟩ := hr.at ht0
    have HT0 := Lib.hid ht0
    have hd : decide ((n : Int) < 1) = false := by simp; omega
    have hd2 : decide (32 < (n : Int)) = false := by simp; omega
    clear hr hn ht0
    rw [Nat.zero_mul, Nat.add_zero] at p0 p1 p2 p3
    by_cases hz : t0.at' = 0
    · have HZ := Lib.hid hz
      have hzb : (t0.at' == 0) = true := by simpa using hz
      have hzn : (t0.at' != 0) = false := by simpa using hz
      clear hz
      go_enter Try.func61, Try.ntmps61
      go_wp2_with fail
      clear p0 p1 p2 p3 hzb hzn hd hd2
      go_loopw [3, 4, 5] (fun i _ _ wr => ∃ j : Nat, i = .int .i64 j ∧ j ≤ n ∧ Below w.heap.size w wr ∧ Hid (∀ m, m < j → chokAt ts m)) (fun i _ _ _ => n - (intOf i).toNat)
      case atStart => exact ⟨0, rfl, by omega, Below.refl _ _, Lib.hid (fun m h => by omega)⟩
      case round =>
        obtain ⟨j, rfl, hj, hb, HA⟩ := hrel
        have HB := Lib.hid hb
        clear hb
        by_cases hjn : (j : Int) < n
        · obtain ⟨t, ht⟩ : ∃ t, ts[j]? = some t := ⟨ts[j]'(by have := HN.out; omega), List.getElem?_eq_getElem _⟩
          obtain ⟨b1, o1, e1, p0, p1, p2, p3⟩ := (HR.out.later HB.out).at ht
          cases e1
          have HT := Lib.hid ht
          have HTB := Lib.hid (HR.out.b ht)
          clear ht
          obtain ⟨ti, tw, th, ta⟩ := t
          have hba : Below wr.heap.size wr (wr.alloc (.cells #[.int .i64 ti, .int .i64 tw, .int .i64 th, .int .i64 ta] 85)) := (Below.refl _ _).alloc (Nat.le_refl _) _
          have HB2 := Lib.hid (HB.out.trans (hba.mono HB.out.size))
          have HX := Lib.hid (RecAt.new wr #[.int .i64 ti, .int .i64 tw, .int .i64 th, .int .i64 ta] 85)
          clear hba
          go_upto_region 7 with fail
          clear p0 p1 p2 p3
          generalize (wr.alloc (.cells #[.int .i64 ti, .int .i64 tw, .int .i64 th, .int .i64 ta] 85)) = w2 at *
          generalize wr.heap.size = p4 at *
          obtain ⟨x0, x1, x2, x3⟩ := HX.out.c4
          cases e1 : decide (ti < 1) with
          | true =>
            have HF := Lib.hid (rightC_not HT.out (fun hx => by have h1 := hx.1; unfold Tg.Ok at h1; simp only at h1; simp only [decide_eq_true_eq, decide_eq_false_iff_not, beq_iff_eq, beq_eq_false_iff_ne, ne_eq] at e1; omega))
            go_quiet (fail)
            go_wp2_with fail
            go_ret
            exact ⟨ret_bool HF.out.symm, HB2.out.trans ((below_drewN _ _).mono HB2.out.size)⟩
          | false =>
            cases e2 : decide (1073741824 < ti) with
            | true =>
              have HF := Lib.hid (rightC_not HT.out (fun hx => by have h1 := hx.1; unfold Tg.Ok at h1; simp only at h1; simp only [decide_eq_true_eq, decide_eq_false_iff_not, beq_iff_eq, beq_eq_false_iff_ne, ne_eq] at e1 e2; omega))
              go_quiet (fail)
              go_wp2_with fail
              go_ret
              exact ⟨ret_bool HF.out.symm, HB2.out.trans ((below_drewN _ _).mono HB2.out.size)⟩
            | false =>
              cases e3 : decide (tw < 0) with
              | true =>
                have HF := Lib.hid (rightC_not HT.out (fun hx => by have h1 := hx.1; unfold Tg.Ok at h1; simp only at h1; simp only [decide_eq_true_eq, decide_eq_false_iff_not, beq_iff_eq, beq_eq_false_iff_ne, ne_eq] at e1 e2 e3; omega))
                go_quiet (fail)
                go_wp2_with fail
                go_ret
                exact ⟨ret_bool HF.out.symm, HB2.out.trans ((below_drewN _ _).mono HB2.out.size)⟩
              | false =>
                cases e4 : decide (2 < tw) with
                | true =>
                  have HF := Lib.hid (rightC_not HT.out (fun hx => by have h1 := hx.1; unfold Tg.Ok at h1; simp only at h1; simp only [decide_eq_true_eq, decide_eq_false_iff_not, beq_iff_eq, beq_eq_false_iff_ne, ne_eq] at e1 e2 e3 e4; omega))
                  go_quiet (fail)
                  go_wp2_with fail
                  go_ret
                  exact ⟨ret_bool HF.out.symm, HB2.out.trans ((below_drewN _ _).mono HB2.out.size)⟩
                | false =>
                  cases e5 : decide (th < 0) with
                  | true =>
                    have HF := Lib.hid (rightC_not HT.out (fun hx => by have h1 := hx.1; unfold Tg.Ok at h1; simp only at h1; simp only [decide_eq_true_eq, decide_eq_false_iff_not, beq_iff_eq, beq_eq_false_iff_ne, ne_eq] at e1 e2 e3 e4 e5; omega))
                    go_quiet (fail)
                    go_wp2_with fail
                    go_ret
                    exact ⟨ret_bool HF.out.symm, HB2.out.trans ((below_drewN _ _).mono HB2.out.size)⟩
                  | false =>
                    cases e6 : decide (2 < th) with
                    | true =>
                      have HF := Lib.hid (rightC_not HT.out (fun hx => by have h1 := hx.1; unfold Tg.Ok at h1; simp only at h1; simp only [decide_eq_true_eq, decide_eq_false_iff_not, beq_iff_eq, beq_eq_false_iff_ne, ne_eq] at e1 e2 e3 e4 e5 e6; omega))
                      go_quiet (fail)
                      go_wp2_with fail
                      go_ret
                      exact ⟨ret_bool HF.out.symm, HB2.out.trans ((below_drewN _ _).mono HB2.out.size)⟩
                    | false =>
                      cases e7 : (tw == 0) with
                      | true =>
                        cases e8 : decide (0 < th) with
                        | true =>
                          cases e9 : decide (1099511627776 < ta) with
                          | true =>
                            have HF := Lib.hid (rightC_not HT.out (fun hx => by have h1 := hx.1; unfold Tg.Ok at h1; simp only at h1; simp only [decide_eq_true_eq, decide_eq_false_iff_not, beq_iff_eq, beq_eq_false_iff_ne, ne_eq] at e1 e2 e3 e4 e5 e6 e7 e8 e9; omega))
                            go_quiet (fail)
                            go_wp2_with fail
                            go_ret
                            exact ⟨ret_bool HF.out.symm, HB2.out.trans ((below_drewN _ _).mono HB2.out.size)⟩
                          | false =>
                            have HOK : Hid ((⟨ti, tw, th, ta⟩ : Tg).Ok) := Lib.hid (by unfold Tg.Ok; simp only; simp only [decide_eq_true_eq, decide_eq_false_iff_not, beq_iff_eq, beq_eq_false_iff_ne, ne_eq] at e1 e2 e3 e4 e5 e6 e7 e8 e9; omega)
                            cases j with
                            | zero =>
                              have HLE : Hid (∀ u, 0 < 0 → ts[0 - 1]? = some u → u.at' ≤ (⟨ti, tw, th, ta⟩ : Tg).at') := Lib.hid (fun u h => absurd h (by omega))
                              go_quiet (fail)
                              have HD : Hid (Below w2.heap.size w2 (w2.drewN nq)) := Lib.hid (below_drewN w2 nq)
                              have HB3 := Lib.hid (HB2.out.trans (HD.out.mono HB2.out.size))
                              have HX3 := Lib.hid (HX.out.later HD.out)
                              clear e1 e2 e3 e4 e5 e6 e7 e8 e9 x0 x1 x2 x3
                              generalize w2.drewN nq = w3 at *
                              go_wp2_with fail
                              go_loopw [5] (fun v wr => ∃ m : Nat, v = .int .i64 m ∧ m ≤ 0 ∧ Below w3.heap.size w3 wr ∧ Hid (∀ (k : Nat) u, k < m → ts[k]? = some u → u.id ≠ ti)) (fun v _ => 0 - (intOf v).toNat)
                              case atStart => exact ⟨0, rfl, by omega, Below.refl _ _, Lib.hid (fun k u h => by omega)⟩
                              case round =>
                                obtain ⟨m, rfl, hm, hb4, HI⟩ := hrel
                                have HB4 := Lib.hid hb4
                                clear hb4
                                obtain rfl : m = 0 := by omega
                                have HA2 : Hid (∀ k, k < 0 + 1 → chokAt ts k) := Lib.hid (fun k hk => by
                                  by_cases e : k = 0
                                  · subst e
                                    intro v hv
                                    rw [HT.out] at hv
                                    cases hv
                                    exact ⟨HOK.out, HLE.out, fun k u hk hu => HI.out k u hk hu⟩
                                  · exact HA.out k (by omega))
                                go_wp2_with fail
                                go_roundw
                                case rel => exact ⟨0 + 1, by go_num, by omega, HB3.out.trans (HB4.out.mono HB3.out.size), HA2⟩
                                case measure => simp [intOf] <;> omega
                            | succ i =>
                              obtain ⟨v, hv⟩ : ∃ v, ts[i]? = some v := ⟨ts[i]'(by have := HN.out; omega), List.getElem?_eq_getElem _⟩
                              obtain ⟨b3, o3, e3', q0, q1, q2, q3⟩ := (HR.out.later HB2.out).at hv
                              cases e3'
                              have HV := Lib.hid hv
                              clear hv q0 q1 q2
                              have k0 : IntKind.i64.wrap (((i + 1 : Nat) : Int) - 1) = (i : Int) := by rw [IntKind.wrap_i64]; omega
                              have k1 : IntKind.i64.wrap (i : Int) = (i : Int) := by rw [IntKind.wrap_i64]; omega
                              cases e10 : decide (ta < v.at') with
                              | true =>
                                have HF := Lib.hid (rightC_not HT.out (fun hx => by have h1 := hx.2.1 v (by omega) HV.out; simp only [decide_eq_true_eq] at e10; simp only at h1; omega))
                                go_quiet (fail)
                                go_wp2_with fail
                                go_ret
                                exact ⟨ret_bool HF.out.symm, HB2.out.trans ((below_drewN _ _).mono HB2.out.size)⟩
                              | false =>
                                have HLE : Hid (∀ u, 0 < i + 1 → ts[i + 1 - 1]? = some u → u.at' ≤ (⟨ti, tw, th, ta⟩ : Tg).at') := Lib.hid (fun u h hu => by rw [show i + 1 - 1 = i by omega, HV.out] at hu; cases hu; simp only [decide_eq_false_iff_not] at e10; simp only; omega)
                                go_quiet (fail)
                                have HD : Hid (Below w2.heap.size w2 (w2.drewN nq)) := Lib.hid (below_drewN w2 nq)
                                have HB3 := Lib.hid (HB2.out.trans (HD.out.mono HB2.out.size))
                                have HX3 := Lib.hid (HX.out.later HD.out)
                                clear e1 e2 e3 e4 e5 e6 e7 e8 e9 e10 x0 x1 x2 x3 q3 k0 k1
                                generalize w2.drewN nq = w3 at *
                                go_wp2_with fail
                                go_loopw [5] (fun v wr => ∃ m : Nat, v = .int .i64 m ∧ m ≤ i + 1 ∧ Below w3.heap.size w3 wr ∧ Hid (∀ (k : Nat) u, k < m → ts[k]? = some u → u.id ≠ ti)) (fun v _ => i + 1 - (intOf v).toNat)
                                case atStart => exact ⟨0, rfl, by omega, Below.refl _ _, Lib.hid (fun k u h => by omega)⟩
                                case round =>
                                  obtain ⟨m, rfl, hm, hb4, HI⟩ := hrel
                                  have HB4 := Lib.hid hb4
                                  clear hb4
                                  by_cases hmj : (m : Int) < ((i + 1) : Nat)
                                  · obtain ⟨u, hu⟩ : ∃ u, ts[m]? = some u := ⟨ts[m]'(by have := HN.out; omega), List.getElem?_eq_getElem _⟩
                                    obtain ⟨b2, o2, e2, q0, q1, q2, q3⟩ := ((HR.out.later HB3.out).later (HB4.out.mono (Nat.le_refl _))).at hu
                                    cases e2
                                    obtain ⟨y0, y1, y2, y3⟩ := (HX3.out.later HB4.out).c4
                                    have HU := Lib.hid hu
                                    clear hu
                                    by_cases hq : u.id = ti
                                    · have HF := Lib.hid (rightC_not HT.out (fun hx => hx.2.2 m u (by omega) HU.out hq))
                                      have hqd : (u.id == ti) = true := by simpa using hq
                                      clear hq
                                      go_upto_region 12 with fail
                                      go_quiet (fail)
                                      go_wp2_with fail
                                      go_ret
                                      exact ⟨ret_bool HF.out.symm, (HB3.out.trans (HB4.out.mono HB3.out.size)).trans ((below_drewN _ _).mono (HB3.out.trans (HB4.out.mono HB3.out.size)).size)⟩
                                    · have hqd : (u.id == ti) = false := by simpa using hq
                                      have HI2 : Hid (∀ (k : Nat) v, k < m + 1 → ts[k]? = some v → v.id ≠ ti) := Lib.hid (fun k v hk hv => by
                                        by_cases e : k = m
                                        · subst e; rw [HU.out] at hv; cases hv; exact hq
                                        · exact HI.out k v (by omega) hv)
                                      clear hq
                                      go_upto_region 12 with fail
                                      go_quiet (fail)
                                      go_wp2_with fail
                                      go_roundw
                                      case rel => exact ⟨m + 1, by go_num, by omega, HB4.out.trans ((below_drewN _ _).mono HB4.out.size), HI2⟩
                                      case measure => simp [intOf] <;> omega
                                  · obtain rfl : m = (i + 1) := by omega
                                    have HA2 : Hid (∀ k, k < (i + 1) + 1 → chokAt ts k) := Lib.hid (fun k hk => by
                                      by_cases e : k = (i + 1)
                                      · subst e
                                        intro v hv
                                        rw [HT.out] at hv
                                        cases hv
                                        exact ⟨HOK.out, HLE.out, fun k u hk hu => HI.out k u hk hu⟩
                                      · exact HA.out k (by omega))
                                    go_wp2_with fail
                                    go_roundw
                                    case rel => exact ⟨(i + 1) + 1, by go_num, by omega, HB3.out.trans (HB4.out.mono HB3.out.size), HA2⟩
                                    case measure => simp [intOf] <;> omega
                        | false =>
                          have HF := Lib.hid (rightC_not HT.out (fun hx => by have h1 := hx.1; unfold Tg.Ok at h1; simp only at h1; simp only [decide_eq_true_eq, decide_eq_false_iff_not, beq_iff_eq, beq_eq_false_iff_ne, ne_eq] at e1 e2 e3 e4 e5 e6 e7 e8; omega))
                          go_quiet (fail)
                          go_wp2_with fail
                          go_ret
                          exact ⟨ret_bool HF.out.symm, HB2.out.trans ((below_drewN _ _).mono HB2.out.size)⟩
                      | false =>
                        cases e8 : decide (0 < th) with
                        | true =>
                          have HF := Lib.hid (rightC_not HT.out (fun hx => by have h1 := hx.1; unfold Tg.Ok at h1; simp only at h1; simp only [decide_eq_true_eq, decide_eq_false_iff_not, beq_iff_eq, beq_eq_false_iff_ne, ne_eq] at e1 e2 e3 e4 e5 e6 e7 e8; omega))
                          go_quiet (fail)
                          go_wp2_with fail
                          go_ret
                          exact ⟨ret_bool HF.out.symm, HB2.out.trans ((below_drewN _ _).mono HB2.out.size)⟩
                        | false =>
                          cases e9 : decide (1099511627776 < ta) with
                          | true =>
                            have HF := Lib.hid (rightC_not HT.out (fun hx => by have h1 := hx.1; unfold Tg.Ok at h1; simp only at h1; simp only [decide_eq_true_eq, decide_eq_false_iff_not, beq_iff_eq, beq_eq_false_iff_ne, ne_eq] at e1 e2 e3 e4 e5 e6 e7 e8 e9; omega))
                            go_quiet (fail)
                            go_wp2_with fail
                            go_ret
                            exact ⟨ret_bool HF.out.symm, HB2.out.trans ((below_drewN _ _).mono HB2.out.size)⟩
                          | false =>
                            have HOK : Hid ((⟨ti, tw, th, ta⟩ : Tg).Ok) := Lib.hid (by unfold Tg.Ok; simp only; simp only [decide_eq_true_eq, decide_eq_false_iff_not, beq_iff_eq, beq_eq_false_iff_ne, ne_eq] at e1 e2 e3 e4 e5 e6 e7 e8 e9; omega)
                            cases j with
                            | zero =>
                              have HLE : Hid (∀ u, 0 < 0 → ts[0 - 1]? = some u → u.at' ≤ (⟨ti, tw, th, ta⟩ : Tg).at') := Lib.hid (fun u h => absurd h (by omega))
                              go_quiet (fail)
                              have HD : Hid (Below w2.heap.size w2 (w2.drewN nq)) := Lib.hid (below_drewN w2 nq)
                              have HB3 := Lib.hid (HB2.out.trans (HD.out.mono HB2.out.size))
                              have HX3 := Lib.hid (HX.out.later HD.out)
                              clear e1 e2 e3 e4 e5 e6 e7 e8 e9 x0 x1 x2 x3
                              generalize w2.drewN nq = w3 at *
                              go_wp2_with fail
                              go_loopw [5] (fun v wr => ∃ m : Nat, v = .int .i64 m ∧ m ≤ 0 ∧ Below w3.heap.size w3 wr ∧ Hid (∀ (k : Nat) u, k < m → ts[k]? = some u → u.id ≠ ti)) (fun v _ => 0 - (intOf v).toNat)
                              case atStart => exact ⟨0, rfl, by omega, Below.refl _ _, Lib.hid (fun k u h => by omega)⟩
                              case round =>
                                obtain ⟨m, rfl, hm, hb4, HI⟩ := hrel
                                have HB4 := Lib.hid hb4
                                clear hb4
                                obtain rfl : m = 0 := by omega
                                have HA2 : Hid (∀ k, k < 0 + 1 → chokAt ts k) := Lib.hid (fun k hk => by
                                  by_cases e : k = 0
                                  · subst e
                                    intro v hv
                                    rw [HT.out] at hv
                                    cases hv
                                    exact ⟨HOK.out, HLE.out, fun k u hk hu => HI.out k u hk hu⟩
                                  · exact HA.out k (by omega))
                                go_wp2_with fail
                                go_roundw
                                case rel => exact ⟨0 + 1, by go_num, by omega, HB3.out.trans (HB4.out.mono HB3.out.size), HA2⟩
                                case measure => simp [intOf] <;> omega
                            | succ i =>
                              obtain ⟨v, hv⟩ : ∃ v, ts[i]? = some v := ⟨ts[i]'(by have := HN.out; omega), List.getElem?_eq_getElem _⟩
                              obtain ⟨b3, o3, e3', q0, q1, q2, q3⟩ := (HR.out.later HB2.out).at hv
                              cases e3'
                              have HV := Lib.hid hv
                              clear hv q0 q1 q2
                              have k0 : IntKind.i64.wrap (((i + 1 : Nat) : Int) - 1) = (i : Int) := by rw [IntKind.wrap_i64]; omega
                              have k1 : IntKind.i64.wrap (i : Int) = (i : Int) := by rw [IntKind.wrap_i64]; omega
                              cases e10 : decide (ta < v.at') with
                              | true =>
                                have HF := Lib.hid (rightC_not HT.out (fun hx => by have h1 := hx.2.1 v (by omega) HV.out; simp only [decide_eq_true_eq] at e10; simp only at h1; omega))
                                go_quiet (fail)
                                go_wp2_with fail
                                go_ret
                                exact ⟨ret_bool HF.out.symm, HB2.out.trans ((below_drewN _ _).mono HB2.out.size)⟩
                              | false =>
                                have HLE : Hid (∀ u, 0 < i + 1 → ts[i + 1 - 1]? = some u → u.at' ≤ (⟨ti, tw, th, ta⟩ : Tg).at') := Lib.hid (fun u h hu => by rw [show i + 1 - 1 = i by omega, HV.out] at hu; cases hu; simp only [decide_eq_false_iff_not] at e10; simp only; omega)
                                go_quiet (fail)
                                have HD : Hid (Below w2.heap.size w2 (w2.drewN nq)) := Lib.hid (below_drewN w2 nq)
                                have HB3 := Lib.hid (HB2.out.trans (HD.out.mono HB2.out.size))
                                have HX3 := Lib.hid (HX.out.later HD.out)
                                clear e1 e2 e3 e4 e5 e6 e7 e8 e9 e10 x0 x1 x2 x3 q3 k0 k1
                                generalize w2.drewN nq = w3 at *
                                go_wp2_with fail
                                go_loopw [5] (fun v wr => ∃ m : Nat, v = .int .i64 m ∧ m ≤ i + 1 ∧ Below w3.heap.size w3 wr ∧ Hid (∀ (k : Nat) u, k < m → ts[k]? = some u → u.id ≠ ti)) (fun v _ => i + 1 - (intOf v).toNat)
                                case atStart => exact ⟨0, rfl, by omega, Below.refl _ _, Lib.hid (fun k u h => by omega)⟩
                                case round =>
                                  obtain ⟨m, rfl, hm, hb4, HI⟩ := hrel
                                  have HB4 := Lib.hid hb4
                                  clear hb4
                                  by_cases hmj : (m : Int) < ((i + 1) : Nat)
                                  · obtain ⟨u, hu⟩ : ∃ u, ts[m]? = some u := ⟨ts[m]'(by have := HN.out; omega), List.getElem?_eq_getElem _⟩
                                    obtain ⟨b2, o2, e2, q0, q1, q2, q3⟩ := ((HR.out.later HB3.out).later (HB4.out.mono (Nat.le_refl _))).at hu
                                    cases e2
                                    obtain ⟨y0, y1, y2, y3⟩ := (HX3.out.later HB4.out).c4
                                    have HU := Lib.hid hu
                                    clear hu
                                    by_cases hq : u.id = ti
                                    · have HF := Lib.hid (rightC_not HT.out (fun hx => hx.2.2 m u (by omega) HU.out hq))
                                      have hqd : (u.id == ti) = true := by simpa using hq
                                      clear hq
                                      go_upto_region 12 with fail
                                      go_quiet (fail)
                                      go_wp2_with fail
                                      go_ret
                                      exact ⟨ret_bool HF.out.symm, (HB3.out.trans (HB4.out.mono HB3.out.size)).trans ((below_drewN _ _).mono (HB3.out.trans (HB4.out.mono HB3.out.size)).size)⟩
                                    · have hqd : (u.id == ti) = false := by simpa using hq
                                      have HI2 : Hid (∀ (k : Nat) v, k < m + 1 → ts[k]? = some v → v.id ≠ ti) := Lib.hid (fun k v hk hv => by
                                        by_cases e : k = m
                                        · subst e; rw [HU.out] at hv; cases hv; exact hq
                                        · exact HI.out k v (by omega) hv)
                                      clear hq
                                      go_upto_region 12 with fail
                                      go_quiet (fail)
                                      go_wp2_with fail
                                      go_roundw
                                      case rel => exact ⟨m + 1, by go_num, by omega, HB4.out.trans ((below_drewN _ _).mono HB4.out.size), HI2⟩
                                      case measure => simp [intOf] <;> omega
                                  · obtain rfl : m = (i + 1) := by omega
                                    have HA2 : Hid (∀ k, k < (i + 1) + 1 → chokAt ts k) := Lib.hid (fun k hk => by
                                      by_cases e : k = (i + 1)
                                      · subst e
                                        intro v hv
                                        rw [HT.out] at hv
                                        cases hv
                                        exact ⟨HOK.out, HLE.out, fun k u hk hu => HI.out k u hk hu⟩
                                      · exact HA.out k (by omega))
                                    go_wp2_with fail
                                    go_roundw
                                    case rel => exact ⟨(i + 1) + 1, by go_num, by omega, HB3.out.trans (HB4.out.mono HB3.out.size), HA2⟩
                                    case measure => simp [intOf] <;> omega
        · obtain rfl : j = n := by omega
          have HY := Lib.hid (rightC_iff.2 ⟨by have := HN.out; omega, by have := HN.out; omega, fun t ht => by rw [HT0.out] at ht; cases ht; exact HZ.out, fun m hm => HA.out m (by have := HN.out; omega)⟩)
          go_wp2_with fail
          go_ret
          exact ⟨ret_bool HY.out.symm, HB.out⟩
    · have hzb : (t0.at' == 0) = false := by simpa using hz
      have hzn : (t0.at' != 0) = true := by simpa using hz
      have HF := Lib.hid (rightC_no (l := ts) (fun hx => hz (hx.2.2.1 t0 HT0.out)))
      clear hz
      go_enter Try.func61, Try.ntmps61
      go_wp2_with fail
      go_ret
      exact ⟨ret_bool HF.out.symm, Below.refl _ _⟩
end Go.Proofs.Ytiahifpbofkimaa
