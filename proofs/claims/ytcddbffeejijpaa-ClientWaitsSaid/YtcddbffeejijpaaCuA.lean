/- Clients: which lists may be: the program's Right, and the document's. -/
import Derived.Test.YtcddbffeejijpaaCu
import Derived.Deep.RegionWith
import Derived.Deep.DeepCutAuto
namespace Go.Proofs.Ytcddbffeejijpaa
open Go.RowKit Go.Proofs
set_option linter.unusedVariables false
set_option linter.unusedSimpArgs false
set_option linter.unnecessarySimpa false

/-- The ID ahead of place j. -/
def lastU (l : List Cu) : Nat → Int
  | 0 => 0
  | j + 1 => match l[j]? with | some u => u.id | none => 0
theorem lastU_succ {l : List Cu} {j : Nat} {t : Cu} (h : l[j]? = some t) : lastU l (j + 1) = t.id := by show (match l[j]? with | some u => u.id | none => 0) = t.id; rw [h]
theorem lastU_zero (l : List Cu) : lastU l 0 = 0 := rfl
theorem okU_iff {l : List Cu} {j : Nat} {t : Cu} (ht : l[j]? = some t) : okU l j ↔ lastU l j < t.id ∧ t.Ok := by
  cases j with
  | zero =>
    rw [lastU_zero]
    unfold okU
    constructor
    · intro h
      have := (h t ht).1
      exact ⟨by unfold Cu.Ok IdOk at this; omega, this⟩
    · intro h u hu
      rw [ht] at hu; cases hu
      exact ⟨h.2, fun v h0 => absurd h0 (by omega)⟩
  | succ j =>
    have hj := (List.getElem?_eq_some_iff.1 ht).1
    have hu : l[j]? = some l[j] := List.getElem?_eq_getElem (by omega)
    rw [lastU_succ hu]
    unfold okU
    constructor
    · intro h
      obtain ⟨h1, h2⟩ := h t ht
      exact ⟨h2 _ (by omega) (by simpa using hu), h1⟩
    · intro h v hv
      rw [ht] at hv; cases hv
      refine ⟨h.2, fun u h0 hu2 => ?_⟩
      rw [Nat.add_sub_cancel, hu] at hu2; cases hu2
      exact h.1
theorem rightU_bad {l : List Cu} {j : Nat} {t : Cu} (ht : l[j]? = some t) (h : ¬ (lastU l j < t.id ∧ t.Ok)) : rightU l = false :=
  rightU_no fun hx => h ((okU_iff ht).1 (hx.2 j (List.getElem?_eq_some_iff.1 ht).1))
theorem rightU_long {l : List Cu} {n : Nat} (hn : l.length = n) (h : 4 < n) : rightU l = false := rightU_no fun hx => by have := hx.1; omega
theorem rightU_all {l : List Cu} {n : Nat} (hn : l.length = n) (h : n ≤ 4) (ha : ∀ m, m < n → okU l m) : rightU l = true := rightU_iff.2 ⟨by omega, fun i hi => ha i (by omega)⟩
theorem okU_more {l : List Cu} {j : Nat} {t : Cu} (ht : l[j]? = some t) (ha : ∀ m, m < j → okU l m) (h : lastU l j < t.id ∧ t.Ok) : ∀ m, m < j + 1 → okU l m := fun m hm => by
  by_cases e : m = j
  · subst e; exact (okU_iff ht).2 h
  · exact ha m (by omega)

set_option maxRecDepth 20000 in
set_option maxHeartbeats 3200000 in
theorem uright_any (ad : Option Addr) (n c : Nat) (ts : List Cu) (w : World) (hr : CRow w ad c ts) (hn : ts.length = n) :
    Calls Try.prog 21 #[.slice ad n c] w fun e w' => e = .returned (.bool (rightU ts)) ∧ Below w.heap.size w w' := by
  have HR := Lib.hid hr
  have HN := Lib.hid hn
  have hc1 := hr.1
  rw [hn] at hc1
  have hcm : c ≤ 9223372036854775807 := by have := hr.2.1; unfold maxLen at this; omega
  by_cases h : 4 < n
  · have HF := Lib.hid (rightU_long hn h)
    clear hr hn
    have hd : decide (4 < (n : Int)) = true := by simp; omega
    go_enter Try.func21, Try.ntmps21
    go_wp2_with fail
    go_ret
    exact ⟨ret_bool HF.out.symm, Below.refl _ _⟩
  · have hd : decide (4 < (n : Int)) = false := by simp; omega
    clear hr hn
    go_enter Try.func21, Try.ntmps21
    go_wp2_with fail
    go_loopw [3, 5, 11] (fun L _ i wr => ∃ j : Nat, i = .int .i64 j ∧ L = .int .i64 (lastU ts j) ∧ j ≤ n ∧ Below w.heap.size w wr ∧ Hid (∀ m, m < j → okU ts m)) (fun _ _ i _ => n - (intOf i).toNat)
    case atStart => exact ⟨0, rfl, rfl, by omega, Below.refl _ _, Lib.hid (fun m h => by omega)⟩
    case round =>
      obtain ⟨j, rfl, rfl, hj, hb, HA⟩ := hrel
      have HB := Lib.hid hb
      clear hb
      by_cases hjn : (j : Int) < n
      · obtain ⟨t, ht⟩ : ∃ t, ts[j]? = some t := ⟨ts[j]'(by have := HN.out; omega), List.getElem?_eq_getElem _⟩
        obtain ⟨b0, o0, rfl, p0, p1, p2⟩ := (HR.out.later HB.out).c3 ht
        have HT := Lib.hid ht
        have HL := Lib.hid (lastU_succ ht)
        clear ht
        obtain ⟨ti, tp, tf⟩ := t
        have hba : Below wr.heap.size wr (wr.alloc (.cells #[.int .i64 ti, .int .i64 tp, .bool tf] 39)) := (Below.refl _ _).alloc (Nat.le_refl _) _
        have HB2 := Lib.hid (HB.out.trans (hba.mono HB.out.size))
        have HX := Lib.hid (RecAt.new wr #[.int .i64 ti, .int .i64 tp, .bool tf] 39)
        clear hba
        obtain ⟨L, hL⟩ : ∃ L, lastU ts j = L := ⟨_, rfl⟩
        have HLL := Lib.hid hL
        rw [hL]
        clear hL
        go_upto_region 7 with fail
        clear p0 p1 p2
        generalize (wr.alloc (.cells #[.int .i64 ti, .int .i64 tp, .bool tf] 39)) = w2 at *
        generalize wr.heap.size = p4 at *
        obtain ⟨x0, x1, x2⟩ := HX.out.c3
        cases e1 : decide (ti ≤ L) with
        | true =>
          have HF := Lib.hid (rightU_bad HT.out (fun hx => by have h1 := hx.1; rw [HLL.out] at h1; simp only at h1; simp only [decide_eq_true_eq] at e1; omega))
          go_wp2_with fail
          go_ret
          exact ⟨ret_bool HF.out.symm, HB2.out⟩
        | false =>
          cases e2 : (decide (IdOk ti) && decide (PosOk tp)) with
          | false =>
            have HF := Lib.hid (rightU_bad HT.out (fun hx => by have h1 := hx.2; unfold Cu.Ok at h1; simp only at h1; rw [← Bool.decide_and] at e2; simp only [decide_eq_false_iff_not] at e2; exact e2 h1))
            go_wp2_with (go_at_call 34; refine (within_any ti tp w2).mono ?_; rw [e2]; rintro e w3 ⟨rfl, rfl⟩)
            go_ret
            exact ⟨ret_bool HF.out.symm, HB2.out⟩
          | true =>
            have HM := Lib.hid (okU_more HT.out HA.out (by rw [HLL.out]; unfold Cu.Ok; simp only [decide_eq_false_iff_not] at e1; simp only [Bool.and_eq_true, decide_eq_true_eq] at e2; exact ⟨by simp only; omega, e2⟩))
            go_wp2_with (go_at_call 34; refine (within_any ti tp w2).mono ?_; rw [e2]; rintro e w3 ⟨rfl, rfl⟩)
            go_roundw
            case rel => exact ⟨j + 1, by go_num, by rw [HL.out], by omega, HB2.out, HM⟩
            case measure => simp [intOf]; omega
      · have : j = n := by omega
        subst this
        have HF := Lib.hid (rightU_all HN.out (by omega) HA.out)
        go_wp2_with fail
        go_ret
        exact ⟨ret_bool HF.out.symm, HB.out⟩

set_option maxRecDepth 100000 in
set_option maxHeartbeats 6400000 in
theorem urright_any (ad : Option Addr) (n c : Nat) (ts : List Cu) (w : World) (hr : CRow w ad c ts) (hn : ts.length = n) :
    Calls Try.prog 22 #[.slice ad n c] w fun e w' => e = .returned (.bool (rightU ts)) ∧ Below w.heap.size w w' := by
  have HR := Lib.hid hr
  have HN := Lib.hid hn
  have hc1 := hr.1
  rw [hn] at hc1
  have hcm : c ≤ 9223372036854775807 := by have := hr.2.1; unfold maxLen at this; omega
  by_cases h : 4 < n
  · have HF := Lib.hid (rightU_long hn h)
    clear hr hn
    have hd : decide (4 < (n : Int)) = true := by simp; omega
    go_enter Try.func22, Try.ntmps22
    go_wp2_with fail
    go_ret
    exact ⟨ret_bool HF.out.symm, Below.refl _ _⟩
  · have hd : decide (4 < (n : Int)) = false := by simp; omega
    clear hr hn
    go_enter Try.func22, Try.ntmps22
    go_wp2_with fail
    go_loopw [3] (fun i wr => ∃ j : Nat, i = .int .i64 j ∧ j ≤ n ∧ Below w.heap.size w wr ∧ Hid (∀ m, m < j → okU ts m)) (fun i _ => n - (intOf i).toNat)
    case atStart => exact ⟨0, rfl, by omega, Below.refl _ _, Lib.hid (fun m h => by omega)⟩
    case round =>
      obtain ⟨j, rfl, hj, hb, HA⟩ := hrel
      have HB := Lib.hid hb
      clear hb
      by_cases hjn : (j : Int) < n
      · obtain ⟨t, ht⟩ : ∃ t, ts[j]? = some t := ⟨ts[j]'(by have := HN.out; omega), List.getElem?_eq_getElem _⟩
        obtain ⟨b0, o0, rfl, p0, p1, p2⟩ := (HR.out.later HB.out).c3 ht
        have HT := Lib.hid ht
        clear ht
        obtain ⟨ti, tp, tf⟩ := t
        simp only at p0 p1 p2
        have HLL : Hid (lastU ts j = lastU ts j) := Lib.hid rfl
        go_upto_region 6 with fail
        cases e1 : decide (ti < 1) with
        | true =>
          have HF := Lib.hid (rightU_bad HT.out (fun hx => by obtain ⟨h1, h2⟩ := hx; unfold Cu.Ok IdOk PosOk at h2; simp only at h1 h2; simp only [decide_eq_true_eq, decide_eq_false_iff_not] at e1; omega))
          go_quiet (fail)
          go_wp2_with fail
          go_ret
          exact ⟨ret_bool HF.out.symm, HB.out.trans ((below_drewN _ _).mono HB.out.size)⟩
        | false =>
          cases e2 : decide (1073741824 < ti) with
          | true =>
            have HF := Lib.hid (rightU_bad HT.out (fun hx => by obtain ⟨h1, h2⟩ := hx; unfold Cu.Ok IdOk PosOk at h2; simp only at h1 h2; simp only [decide_eq_true_eq, decide_eq_false_iff_not] at e1 e2; omega))
            go_quiet (fail)
            go_wp2_with fail
            go_ret
            exact ⟨ret_bool HF.out.symm, HB.out.trans ((below_drewN _ _).mono HB.out.size)⟩
          | false =>
            cases e3 : decide (tp < 0) with
            | true =>
              have HF := Lib.hid (rightU_bad HT.out (fun hx => by obtain ⟨h1, h2⟩ := hx; unfold Cu.Ok IdOk PosOk at h2; simp only at h1 h2; simp only [decide_eq_true_eq, decide_eq_false_iff_not] at e1 e2 e3; omega))
              go_quiet (fail)
              go_wp2_with fail
              go_ret
              exact ⟨ret_bool HF.out.symm, HB.out.trans ((below_drewN _ _).mono HB.out.size)⟩
            | false =>
              cases e4 : decide (1099511627776 < tp) with
              | true =>
                have HF := Lib.hid (rightU_bad HT.out (fun hx => by obtain ⟨h1, h2⟩ := hx; unfold Cu.Ok IdOk PosOk at h2; simp only at h1 h2; simp only [decide_eq_true_eq, decide_eq_false_iff_not] at e1 e2 e3 e4; omega))
                go_quiet (fail)
                go_wp2_with fail
                go_ret
                exact ⟨ret_bool HF.out.symm, HB.out.trans ((below_drewN _ _).mono HB.out.size)⟩
              | false =>
                cases e0 : decide (0 < j) with
                | false =>
                  have H0 : Hid (j = 0) := Lib.hid (by simp only [decide_eq_false_iff_not] at e0; omega)
                  have HM := Lib.hid (okU_more HT.out HA.out (by unfold Cu.Ok IdOk PosOk; simp only [decide_eq_true_eq, decide_eq_false_iff_not] at e1 e2 e3 e4; simp only; rw [H0.out, lastU_zero]; omega))
                  go_quiet (fail)
                  go_wp2_with fail
                  go_roundw
                  case rel => exact ⟨j + 1, by go_num, by omega, HB.out.trans ((below_drewN _ _).mono HB.out.size), HM⟩
                  case measure => simp [intOf]; omega
                | true =>
                  obtain ⟨i, hi⟩ : ∃ i, j = i + 1 := ⟨j - 1, by simp only [decide_eq_true_eq] at e0; omega⟩
                  have HI := Lib.hid hi
                  have hk : IntKind.i64.wrap ((j : Int) - 1) = (i : Nat) := by rw [IntKind.wrap_i64]; omega
                  have hk2 : (j : Int) - 1 = (i : Nat) := by omega
                  have hin : i < n := by omega
                  clear hi
                  obtain ⟨u, hu⟩ : ∃ u, ts[i]? = some u := ⟨ts[i]'(by have := HN.out; omega), List.getElem?_eq_getElem _⟩
                  obtain ⟨b1, o1, e9, q0, q1, q2⟩ := (HR.out.later HB.out).c3 hu
                  cases e9
                  have HU := Lib.hid (lastU_succ hu)
                  clear hu q1 q2
                  obtain ⟨ui, up, uf⟩ := u
                  simp only at q0 HU
                  cases e5 : decide (ti ≤ ui) with
                  | true =>
                    have HF := Lib.hid (rightU_bad HT.out (fun hx => by obtain ⟨h1, h2⟩ := hx; unfold Cu.Ok IdOk PosOk at h2; simp only at h1 h2; rw [HI.out, HU.out] at h1; simp only [decide_eq_true_eq, decide_eq_false_iff_not] at e1 e2 e3 e4 e5; omega))
                    go_quiet (fail)
                    go_wp2_with fail
                    go_ret
                    exact ⟨ret_bool HF.out.symm, HB.out.trans ((below_drewN _ _).mono HB.out.size)⟩
                  | false =>
                    have HM := Lib.hid (okU_more HT.out HA.out (by unfold Cu.Ok IdOk PosOk; simp only [decide_eq_true_eq, decide_eq_false_iff_not] at e1 e2 e3 e4 e5; simp only; rw [HI.out, HU.out]; omega))
                    go_quiet (fail)
                    go_wp2_with fail
                    go_roundw
                    case rel => exact ⟨j + 1, by go_num, by omega, HB.out.trans ((below_drewN _ _).mono HB.out.size), HM⟩
                    case measure => simp [intOf]; omega
      · have : j = n := by omega
        subst this
        have HF := Lib.hid (rightU_all HN.out (by omega) HA.out)
        go_wp2_with fail
        go_ret
        exact ⟨ret_bool HF.out.symm, HB.out⟩
end Go.Proofs.Ytcddbffeejijpaa
