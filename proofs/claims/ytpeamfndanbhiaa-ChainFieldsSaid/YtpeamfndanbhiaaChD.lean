/- Chains: the same, the document's own answers of how two lie; the next number, the tag of an entry, a chain cut off. -/
import Derived.Test.YtpeamfndanbhiaaChC
namespace Go.Proofs.Ytpeamfndanbhiaa
open Go.RowKit Go.Proofs
set_option linter.unusedVariables false
set_option linter.unusedSimpArgs false

theorem eq_of_get {ts us : List Tg} {n : Nat} (hn : ts.length = n) (hm : us.length = n) (h : ∀ k, k < n → ts[k]? = us[k]?) : ts = us := by
  refine List.ext_getElem? fun i => ?_
  by_cases hi : i < n
  · exact h i hi
  · rw [List.getElem?_eq_none (by omega), List.getElem?_eq_none (by omega)]
/-- '==' of two tags, in a region that only reads: its answer is whatever. -/
theorem ne_of_get {ts us : List Tg} {j : Nat} {t u : Tg} (h1 : ts[j]? = some t) (h2 : us[j]? = some u) (h : t ≠ u) : decide (ts = us) = false := by
  rw [decide_eq_false_iff_not]
  intro e
  rw [e, h2] at h1
  cases h1
  exact h rfl

set_option maxRecDepth 20000 in
set_option maxHeartbeats 3200000 in
theorem same_any (a1 a2 : Option Addr) (n m c1 c2 : Nat) (ts us : List Tg) (w : World) (h1 : TRow w a1 c1 ts) (h2 : TRow w a2 c2 us) (hn : ts.length = n) (hm : us.length = m) :
    Calls Try.prog 15 #[.slice a1 n c1, .slice a2 m c2] w fun e w' => e = .returned (.bool (decide (ts = us))) ∧ Below w.heap.size w w' := by
  have H1 := Lib.hid h1
  have H2 := Lib.hid h2
  have HN := Lib.hid hn
  have HM := Lib.hid hm
  have hc1 := h1.1
  have hc2 := h2.1
  rw [hn] at hc1
  rw [hm] at hc2
  have hcm1 : c1 ≤ 9223372036854775807 := by have := h1.2.1; unfold maxLen at this; omega
  have hcm2 : c2 ≤ 9223372036854775807 := by have := h2.2.1; unfold maxLen at this; omega
  clear h1 h2 hn hm
  by_cases hnm : n = m
  · subst hnm
    go_enter Try.func15, Try.ntmps15
    go_wp2_with fail
    go_loopw [5] (fun i wr => ∃ j : Nat, i = .int .i64 j ∧ j ≤ n ∧ Below w.heap.size w wr ∧ Hid (∀ k, k < j → ts[k]? = us[k]?)) (fun i _ => n - (intOf i).toNat)
    case atStart => exact ⟨0, rfl, by omega, Below.refl _ _, Lib.hid (fun k h => by omega)⟩
    case round =>
      obtain ⟨j, rfl, hj, hb, HA⟩ := hrel
      have HB := Lib.hid hb
      clear hb
      by_cases hjn : (j : Int) < n
      · obtain ⟨t, ht⟩ : ∃ t, ts[j]? = some t := ⟨ts[j]'(by have := HN.out; omega), List.getElem?_eq_getElem _⟩
        obtain ⟨u, hu⟩ : ∃ u, us[j]? = some u := ⟨us[j]'(by have := HM.out; omega), List.getElem?_eq_getElem _⟩
        obtain ⟨b1, o1, rfl, p0, p1, p2, p3⟩ := (H1.out.later HB.out).at ht
        obtain ⟨b2, o2, rfl, q0, q1, q2, q3⟩ := (H2.out.later HB.out).at hu
        have HT := Lib.hid ht
        have HU := Lib.hid hu
        clear ht hu
        by_cases he : t = u
        · have HE : Hid ((!decide (t = u)) = false) := Lib.hid (by simpa using he)
          have HA2 : Hid (∀ k, k < j + 1 → ts[k]? = us[k]?) := Lib.hid (fun k hk => by
            by_cases e : k = j
            · subst e; rw [HT.out, HU.out, he]
            · exact HA.out k (by omega))
          clear he
          go_upto_region 6 with fail
          refine wp_region_quiet_lit (by kernel_rfl) (by kernel_rfl) ?_
          repeat (go_big_quiet_step (fail))
          go_big_quiet_want
          refine quiet_neT t u rfl rfl rfl HE.out ?_
          go_big_quiet_on
          simp only [Act.put, List.setIfInBounds_toArray, List.set_cons_succ, List.set_cons_zero]
          refine wpQuiet_nil ?_
          intro _ hw'
          obtain ⟨nq, hw''⟩ := hw'
          subst hw''
          go_wp2_with fail
          go_roundw
          case rel => exact ⟨j + 1, by go_num, by omega, HB.out.trans ((below_drewN _ _).mono HB.out.size), HA2⟩
          case measure => simp [intOf]; omega
        · have HE : Hid ((!decide (t = u)) = true) := Lib.hid (by simpa using he)
          have HF := Lib.hid (ne_of_get HT.out HU.out he)
          clear he
          go_upto_region 6 with fail
          refine wp_region_quiet_lit (by kernel_rfl) (by kernel_rfl) ?_
          repeat (go_big_quiet_step (fail))
          go_big_quiet_want
          refine quiet_neT t u rfl rfl rfl HE.out ?_
          go_big_quiet_on
          simp only [Act.put, List.setIfInBounds_toArray, List.set_cons_succ, List.set_cons_zero]
          refine wpQuiet_nil ?_
          intro _ hw'
          obtain ⟨nq, hw''⟩ := hw'
          subst hw''
          go_wp2_with fail
          go_ret
          exact ⟨ret_bool HF.out.symm, HB.out.trans ((below_drewN _ _).mono HB.out.size)⟩
      · have : j = n := by omega
        subst this
        have HF : Hid (decide (ts = us) = true) := Lib.hid (by simpa using eq_of_get HN.out HM.out HA.out)
        go_wp2_with fail
        go_ret
        exact ⟨ret_bool HF.out.symm, HB.out⟩
  · have HF : Hid (decide (ts = us) = false) := Lib.hid (by rw [decide_eq_false_iff_not]; intro e; rw [e, HM.out] at HN; exact hnm HN.out.symm)
    have hq : ((n : Int) == (m : Int)) = false := by simp; omega
    have hq2 : ((n : Int) != (m : Int)) = true := by simp; omega
    go_enter Try.func15, Try.ntmps15
    go_wp2_with fail
    go_ret
    exact ⟨ret_bool HF.out.symm, Below.refl _ _⟩

set_option maxRecDepth 20000 in
set_option maxHeartbeats 3200000 in
theorem slEqual_any (a1 a2 : Option Addr) (n m c1 c2 : Nat) (ts us : List Tg) (w : World) (h1 : TRow w a1 c1 ts) (h2 : TRow w a2 c2 us) (hn : ts.length = n) (hm : us.length = m) :
    Calls Try.prog 43 #[.slice a1 n c1, .slice a2 m c2] w fun e w' => e = .returned (.bool (decide (ts = us))) ∧ Below w.heap.size w w' := by
  have H1 := Lib.hid h1
  have H2 := Lib.hid h2
  have HN := Lib.hid hn
  have HM := Lib.hid hm
  have hc1 := h1.1
  have hc2 := h2.1
  rw [hn] at hc1
  rw [hm] at hc2
  have hcm1 : c1 ≤ 9223372036854775807 := by have := h1.2.1; unfold maxLen at this; omega
  have hcm2 : c2 ≤ 9223372036854775807 := by have := h2.2.1; unfold maxLen at this; omega
  clear h1 h2 hn hm
  by_cases hnm : n = m
  · subst hnm
    go_enter Try.func43, Try.ntmps43
    go_wp2_with fail
    go_loopw [5, 13] (fun _ i wr => ∃ j : Nat, i = .int .i64 j ∧ j ≤ n ∧ Below w.heap.size w wr ∧ Hid (∀ k, k < j → ts[k]? = us[k]?)) (fun _ i _ => n - (intOf i).toNat)
    case atStart => exact ⟨0, rfl, by omega, Below.refl _ _, Lib.hid (fun k h => by omega)⟩
    case round =>
      obtain ⟨j, rfl, hj, hb, HA⟩ := hrel
      have HB := Lib.hid hb
      clear hb
      by_cases hjn : (j : Int) < n
      · obtain ⟨t, ht⟩ : ∃ t, ts[j]? = some t := ⟨ts[j]'(by have := HN.out; omega), List.getElem?_eq_getElem _⟩
        obtain ⟨u, hu⟩ : ∃ u, us[j]? = some u := ⟨us[j]'(by have := HM.out; omega), List.getElem?_eq_getElem _⟩
        obtain ⟨b1, o1, rfl, p0, p1, p2, p3⟩ := (H1.out.later HB.out).at ht
        obtain ⟨b2, o2, rfl, q0, q1, q2, q3⟩ := (H2.out.later HB.out).at hu
        have HT := Lib.hid ht
        have HU := Lib.hid hu
        clear ht hu
        by_cases he : t = u
        · have HE : Hid ((!decide (t = u)) = false) := Lib.hid (by simpa using he)
          have HA2 : Hid (∀ k, k < j + 1 → ts[k]? = us[k]?) := Lib.hid (fun k hk => by
            by_cases e : k = j
            · subst e; rw [HT.out, HU.out, he]
            · exact HA.out k (by omega))
          clear he
          go_upto_region 6 with fail
          refine wp_region_quiet_lit (by kernel_rfl) (by kernel_rfl) ?_
          repeat (go_big_quiet_step (fail))
          go_big_quiet_want
          refine quiet_neT t u rfl rfl rfl HE.out ?_
          go_big_quiet_on
          simp only [Act.put, List.setIfInBounds_toArray, List.set_cons_succ, List.set_cons_zero]
          refine wpQuiet_nil ?_
          intro _ hw'
          obtain ⟨nq, hw''⟩ := hw'
          subst hw''
          go_wp2_with fail
          go_roundw
          case rel => exact ⟨j + 1, by go_num, by omega, HB.out.trans ((below_drewN _ _).mono HB.out.size), HA2⟩
          case measure => simp [intOf]; omega
        · have HE : Hid ((!decide (t = u)) = true) := Lib.hid (by simpa using he)
          have HF := Lib.hid (ne_of_get HT.out HU.out he)
          clear he
          go_upto_region 6 with fail
          refine wp_region_quiet_lit (by kernel_rfl) (by kernel_rfl) ?_
          repeat (go_big_quiet_step (fail))
          go_big_quiet_want
          refine quiet_neT t u rfl rfl rfl HE.out ?_
          go_big_quiet_on
          simp only [Act.put, List.setIfInBounds_toArray, List.set_cons_succ, List.set_cons_zero]
          refine wpQuiet_nil ?_
          intro _ hw'
          obtain ⟨nq, hw''⟩ := hw'
          subst hw''
          go_wp2_with fail
          go_ret
          exact ⟨ret_bool HF.out.symm, HB.out.trans ((below_drewN _ _).mono HB.out.size)⟩
      · have : j = n := by omega
        subst this
        have HF : Hid (decide (ts = us) = true) := Lib.hid (by simpa using eq_of_get HN.out HM.out HA.out)
        go_wp2_with fail
        go_ret
        exact ⟨ret_bool HF.out.symm, HB.out⟩
  · have HF : Hid (decide (ts = us) = false) := Lib.hid (by rw [decide_eq_false_iff_not]; intro e; rw [e, HM.out] at HN; exact hnm HN.out.symm)
    have hq : ((n : Int) == (m : Int)) = false := by simp; omega
    have hq2 : ((n : Int) != (m : Int)) = true := by simp; omega
    go_enter Try.func43, Try.ntmps43
    go_wp2_with fail
    go_ret
    exact ⟨ret_bool HF.out.symm, Below.refl _ _⟩
set_option maxHeartbeats 800000 in
theorem psame_any (a1 a2 : Option Addr) (n m c1 c2 : Nat) (ts us : List Tg) (w : World) (h1 : TRow w a1 c1 ts) (h2 : TRow w a2 c2 us) (hn : ts.length = n) (hm : us.length = m) :
    Calls Try.prog 30 #[.slice a1 n c1, .slice a2 m c2] w fun e w' => e = .returned (.bool (decide (ts = us))) ∧ Below w.heap.size w w' := by
  have HK := Lib.hid (slEqual_any a1 a2 n m c1 c2 ts us w h1 h2 hn hm)
  clear h1 h2 hn hm
  go_enter Try.func30, Try.ntmps30
  go_wp2_with fail
  refine HK.out.mono ?_
  rintro e w1 ⟨rfl, hb⟩
  go_wp2_with fail
  go_ret
  exact ⟨rfl, hb⟩

/-! ### the document's Begins, Compare, Fork -/
/-- 's[:hi]' of tags that are there. -/
theorem run_slR {w W : World} {a : Option Addr} {m cap hi : Nat} {us : List Tg} (h : TRow w a cap us) (hm : us.length = m) (h2 : hi ≤ m) :
    (Instr.slice 22 (.slice a m cap) none (some (.int .i64 hi)) none).run Try.prog W = .ok (.slice a hi cap) W := by
  have hc := h.1
  have h3 : hi ≤ cap := by omega
  cases a with
  | none =>
    have := h.2.2.1 rfl
    obtain rfl : hi = 0 := by omega
    subst this
    simp [Instr.slice, Instr.sliceBounds, Instr.sliceBound, asIntOf, run_underlying Try.underlying22, Result.andThen]
  | some x =>
    by_cases h0 : cap = 0
    · obtain rfl : hi = 0 := by omega
      subst h0
      simp [Instr.slice, Instr.sliceBounds, Instr.sliceBound, asIntOf, run_underlying Try.underlying22, Result.andThen]
    · have e0 : x.add 0 = x := by unfold Addr.add; obtain ⟨b, o, s⟩ := x; cases s <;> simp_all
      simp [Instr.slice, Instr.sliceBounds, Instr.sliceBound, asIntOf, run_underlying Try.underlying22, Result.andThen, h3]
      simp [show ¬ cap = 0 by omega, e0]
set_option maxHeartbeats 1600000 in
theorem rbegins_any (a1 a2 : Option Addr) (n m c1 c2 : Nat) (ts us : List Tg) (x y : Int) (w : World) (h1 : TRow w a1 c1 ts) (h2 : TRow w a2 c2 us) (hn : ts.length = n) (hm : us.length = m) :
    Calls Try.prog 25 #[.slice a1 n c1, .int .i64 x, .slice a2 m c2, .int .i64 y] w fun e w' => e = .returned (.bool (beginsC ts x us y)) ∧ Below w.heap.size w w' := by
  have HB : Hid (beginsC ts x us y = (decide (ts = us.take n) && decide (x ≤ atOr us n y))) := Lib.hid (by
    unfold beginsC headOf; rw [hn]; congr 1; exact decide_eq_decide.2 eq_comm)
  by_cases hnm : n ≤ m
  · have hd : decide (m < n) = false := by simpa using hnm
    have HS := fun W => run_slR (W := W) h2 hm hnm
    have HK := Lib.hid (same_any a1 a2 n n c1 c2 ts (us.take n) w h1 (h2.take n) hn (by rw [List.length_take]; omega))
    have H2 := Lib.hid h2
    have HM := Lib.hid hm
    have hc2 := h2.1
    rw [hm] at hc2
    have hcm2 : c2 ≤ 9223372036854775807 := by have := h2.2.1; unfold maxLen at this; omega
    clear h1 h2 hn hm
    cases hs : decide (ts = us.take n) with
    | true =>
      rw [hs] at HB HK
      clear hs
      by_cases hlt : n < m
      · have hd2 : decide (n < m) = true := by simpa using hlt
        obtain ⟨t, ht⟩ : ∃ t, us[n]? = some t := ⟨us[n]'(by have := HM.out; omega), List.getElem?_eq_getElem _⟩
        obtain ⟨T, hT⟩ : ∃ T, t.at' = T := ⟨_, rfl⟩
        have HA : Hid (atOr us n y = T) := Lib.hid (by unfold atOr; rw [ht]; exact hT)
        have HT := Lib.hid ht
        clear ht
        go_enter Try.func25, Try.ntmps25
        go_wp2_with fail
        refine HK.out.mono ?_
        rintro e w1 ⟨rfl, hb⟩
        obtain ⟨b1, o1, rfl, p0, p1, p2, p3⟩ := (H2.out.later hb).at HT.out
        have HW := Lib.hid hb
        rw [hT] at p3
        clear hb hT p0 p1 p2
        go_wp2_with fail
        go_ret
        exact ⟨ret_bool (by rw [HB.out, HA.out]; simp), HW.out⟩
      · have hd2 : decide (n < m) = false := by simpa using hlt
        have HA : Hid (atOr us n y = y) := Lib.hid (by unfold atOr; rw [List.getElem?_eq_none (by have := HM.out; omega)])
        go_enter Try.func25, Try.ntmps25
        go_wp2_with fail
        refine HK.out.mono ?_
        rintro e w1 ⟨rfl, hb⟩
        go_wp2_with fail
        go_ret
        exact ⟨ret_bool (by rw [HB.out, HA.out]; simp), hb⟩
    | false =>
      rw [hs] at HB HK
      clear hs
      go_enter Try.func25, Try.ntmps25
      go_wp2_with fail
      refine HK.out.mono ?_
      rintro e w1 ⟨rfl, hb⟩
      go_wp2_with fail
      go_ret
      exact ⟨ret_bool (by rw [HB.out]; simp), hb⟩
  · have hd : decide (m < n) = true := by simpa using hnm
    have hf : decide (ts = us.take n) = false := by
      rw [decide_eq_false_iff_not]; intro e; have := congrArg List.length e; rw [List.length_take] at this; omega
    rw [hf] at HB
    clear h1 h2 hn hm hf
    go_enter Try.func25, Try.ntmps25
    go_wp2_with fail
    go_ret
    exact ⟨ret_bool (by rw [HB.out]; simp), Below.refl _ _⟩
set_option maxHeartbeats 1600000 in
theorem rcompare_any (a1 a2 : Option Addr) (n m c1 c2 : Nat) (ts us : List Tg) (x y : Int) (w : World) (h1 : TRow w a1 c1 ts) (h2 : TRow w a2 c2 us) (hn : ts.length = n) (hm : us.length = m) :
    Calls Try.prog 27 #[.slice a1 n c1, .int .i64 x, .slice a2 m c2, .int .i64 y] w fun e w' => e = .returned (.int .i64 (compareC ts x us y)) ∧ Below w.heap.size w w' := by
  have HK1 := Lib.hid (rbegins_any a1 a2 n m c1 c2 ts us x y w h1 h2 hn hm)
  have HK2 := Lib.hid (fun W (h : Below w.heap.size w W) => rbegins_any a2 a1 m n c2 c1 us ts y x W (h2.later h) (h1.later h) hm hn)
  have HC : Hid (compareC ts x us y = if beginsC ts x us y then (if beginsC us y ts x then 0 else -1) else (if beginsC us y ts x then 1 else 2)) := Lib.hid rfl
  clear h1 h2 hm hn
  cases hp : beginsC ts x us y <;> cases hq : beginsC us y ts x
  all_goals
    rw [hp] at HK1 HC
    rw [hq] at HK2 HC
    clear hp hq
    go_enter Try.func27, Try.ntmps27
    go_wp2_with fail
    refine HK1.out.mono ?_
    rintro e w1 ⟨rfl, hb⟩
    have HW := Lib.hid hb
    clear hb
    go_wp2_with fail
    refine (HK2.out w1 HW.out).mono ?_
    rintro e w2 ⟨rfl, hb2⟩
    go_wp2_with fail
    go_ret
    exact ⟨by rw [HC.out]; rfl, HW.out.trans (hb2.mono HW.out.size)⟩
end Go.Proofs.Ytpeamfndanbhiaa
