/- Records of an image: are two marks, two rows of marks, two records alike? -/
import Derived.Test.YtfjplhjlmilcfaaHdB
import Derived.Laws.StructEq
namespace Go.Proofs.Ytfjplhjlmilcfaa
open Go.RowKit Go.Proofs
set_option linter.unusedVariables false
set_option linter.unusedSimpArgs false
set_option linter.unnecessarySimpa false

theorem mk_eq_iff (t u : Mk) : (t.id == u.id && (t.name.toList == u.name.toList && (t.size == u.size && t.gone == u.gone))) = decide (t = u) := by
  obtain ⟨a, b, c, d⟩ := t
  obtain ⟨e, f, g, h⟩ := u
  simp only [Mk.mk.injEq]
  have hs : (b.toList == f.toList) = decide (b = f) := by
    by_cases h2 : b = f
    · rw [(sbeq_iff _ _).2 h2]; simp [h2]
    · rw [sbeq_no h2]; simp [h2]
  rw [hs]
  by_cases h1 : a = e <;> by_cases h2 : b = f <;> by_cases h3 : c = g <;> by_cases h4 : d = h <;> simp [h1, h2, h3, h4]
theorem run_mk_in (w : World) (t u : Mk) : (Op.equalIn 10000 39 (mkA t) (mkA u)).run Try.prog w = .ok (decide (t = u)) w := by
  have u3 := Try.underlying3
  have a3 := Try.isAgg3
  have z3 := Try.sizeOf3
  have u4 := Try.underlying4
  have a4 := Try.isAgg4
  have z4 := Try.sizeOf4
  have u5 := Try.underlying9
  have a5 := Try.isAgg9
  have z5 := Try.sizeOf9
  have hS : Try.prog.underlying 39 = some (.struct (Try.prog.fieldsOf 39)) := by kernel_rfl
  have hp : Try.prog.stoodInHeld 39 = false := by kernel_rfl
  rw [show (10000 : Nat) = 9999 + 1 from rfl, run_equalIn_agg w 9999 39 _ _ hS hp, ← mk_eq_iff]
  simp only [Program.fieldsOf, Try.underlying39]
  go_simp
  obtain ⟨a, b, c, d⟩ := t
  obtain ⟨e, f, g, h⟩ := u
  by_cases h1 : a = e <;> by_cases h2 : b.toList = f.toList <;> by_cases h3 : c = g <;> cases d <;> cases h <;> simp [h1, h2, h3]
theorem mk_eql (w : World) (t u : Mk) : (binOp .eql 39 (mkA t) (mkA u)).run Try.prog w = .ok (.bool (decide (t = u))) w := by
  rw [run_eql_struct, run_mk_in]; rfl
theorem mk_neq (w : World) (t u : Mk) : (binOp .neq 39 (mkA t) (mkA u)).run Try.prog w = .ok (.bool (!decide (t = u))) w := by
  rw [run_neq_struct, run_mk_in]; rfl
theorem mk_guard (w : World) (op : BinOp) (x y : Operand) (xs ys : Array Value) : (eqGuard op 39 x y (.agg xs) (.agg ys)).run Try.prog w = .ok () w := run_eqGuard_agg w op _ x y xs ys (by kernel_rfl)
theorem quiet_neM {C : World → Prop} {o : Oper} {a : Act} {K : Act → Prop} (t u : Mk) {x y : Operand} {b : Bool} (ho : o.op = .binOp .neq 39 x y 39) (hx : a.eval x = mkA t)
    (hy : a.eval y = mkA u) (hb : (!decide (t = u)) = b) (hk : K (a.put o.dst (.bool b))) : o.quiet Try.prog a C K :=
  ⟨.bool b, fun w _ => by unfold Oper.quietAt execOp; rw [ho]; subst hb; simp only [hx, hy, Sem.run_bind, mk_guard, mk_neq, Result.andThen_ok, Sem.run_pure]; exact ⟨rfl, rfl⟩, hk⟩
theorem quiet_eqM {C : World → Prop} {o : Oper} {a : Act} {K : Act → Prop} (t u : Mk) {x y : Operand} {b : Bool} (ho : o.op = .binOp .eql 39 x y 39) (hx : a.eval x = mkA t)
    (hy : a.eval y = mkA u) (hb : (decide (t = u)) = b) (hk : K (a.put o.dst (.bool b))) : o.quiet Try.prog a C K :=
  ⟨.bool b, fun w _ => by unfold Oper.quietAt execOp; rw [ho]; subst hb; simp only [hx, hy, Sem.run_bind, mk_guard, mk_eql, Result.andThen_ok, Sem.run_pure]; exact ⟨rfl, rfl⟩, hk⟩
theorem sameM_no {a b : List Mk} {j : Nat} (h : a[j]? ≠ b[j]?) : decide (a = b) = false := by
  rw [decide_eq_false_iff_not]; intro e; rw [e] at h; exact h rfl
theorem sameM_yes {a b : List Mk} {n : Nat} (ha : a.length = n) (hb : b.length = n) (h : ∀ j, j < n → a[j]? = b[j]?) : decide (a = b) = true := by
  rw [decide_eq_true_eq]
  refine List.ext_getElem? fun i => ?_
  by_cases hi : i < n
  · exact h i hi
  · rw [List.getElem?_eq_none (by omega), List.getElem?_eq_none (by omega)]
theorem lay_eql (w : World) (a b c e f g : Int) : (binOp .eql 23 (.agg #[.int .i64 a, .int .i64 b, .int .i64 c]) (.agg #[.int .i64 e, .int .i64 f, .int .i64 g])).run Try.prog w = .ok (.bool (a == e && (b == f && c == g))) w := by
  have u3 := Try.underlying3
  have a3 := Try.isAgg3
  have z3 := Try.sizeOf3
  have hS : Try.prog.underlying 23 = some (.struct (Try.prog.fieldsOf 23)) := by kernel_rfl
  have hp : Try.prog.stoodInHeld 23 = false := by kernel_rfl
  rw [run_eql_struct]
  rw [show (Op.equalIn 10000 23 (.agg #[.int .i64 a, .int .i64 b, .int .i64 c]) (.agg #[.int .i64 e, .int .i64 f, .int .i64 g])).run Try.prog w = .ok (a == e && (b == f && c == g)) w from by
    rw [show (10000 : Nat) = 9999 + 1 from rfl, run_equalIn_agg w 9999 23 _ _ hS hp]
    simp only [Program.fieldsOf, Try.underlying23]
    go_simp
    by_cases h1 : a = e <;> by_cases h2 : b = f <;> by_cases h3 : c = g <;> simp [h1, h2, h3]]
  rfl
theorem lay_guard (w : World) (op : BinOp) (x y : Operand) (xs ys : Array Value) : (eqGuard op 23 x y (.agg xs) (.agg ys)).run Try.prog w = .ok () w := run_eqGuard_agg w op _ x y xs ys (by kernel_rfl)
set_option maxRecDepth 20000 in
set_option maxHeartbeats 3200000 in
theorem msame_any (a1 a2 : Option Addr) (n m c1 c2 : Nat) (ts us : List Mk) (w : World) (h1 : MRow w a1 c1 ts) (h2 : MRow w a2 c2 us) (hn : ts.length = n) (hm : us.length = m) :
    Calls Try.prog 21 #[.slice a1 n c1, .slice a2 m c2] w fun e w' => e = .returned (.bool (decide (ts = us))) ∧ Below w.heap.size w w' := by
  have H1 := Lib.hid h1
  have H2 := Lib.hid h2
  have HN := Lib.hid hn
  have HM := Lib.hid hm
  have hc1 := h1.1
  have hc2 := h2.1
  rw [hn] at hc1
  rw [hm] at hc2
  have hcm1 : c1 ≤ 9223372036854775807 := by have := h1.2.1; unfold maxLen at this; omega
  have hcm2 : c2 ≤ 9223372036854775807 := by have := h2.2.1; unfold maxLen at this; omega
  clear h1 h2 hn hm
  by_cases hnm : n = m
  · subst hnm
    have hq : ((n : Int) != (n : Int)) = false := by simp
    go_enter Try.func21, Try.ntmps21
    go_wp2_with fail
    go_loopw [5] (fun i wr => ∃ j : Nat, i = .int .i64 j ∧ j ≤ n ∧ Below w.heap.size w wr ∧ Hid (∀ k, k < j → ts[k]? = us[k]?)) (fun i _ => n - (intOf i).toNat)
    case atStart => exact ⟨0, rfl, by omega, Below.refl _ _, Lib.hid (fun k h => by omega)⟩
    case round =>
      obtain ⟨j, rfl, hj, hb, HA⟩ := hrel
      have HB := Lib.hid hb
      clear hb
      by_cases hjn : (j : Int) < n
      · obtain ⟨t, ht⟩ : ∃ t, ts[j]? = some t := ⟨ts[j]'(by have := HN.out; omega), List.getElem?_eq_getElem _⟩
        obtain ⟨u, hu⟩ : ∃ u, us[j]? = some u := ⟨us[j]'(by have := HM.out; omega), List.getElem?_eq_getElem _⟩
        obtain ⟨b1, o1, rfl, p0, p1, p2, p3⟩ := (H1.out.later HB.out).c4 ht
        obtain ⟨b2, o2, rfl, q0, q1, q2, q3⟩ := (H2.out.later HB.out).c4 hu
        have HT := Lib.hid ht
        have HU := Lib.hid hu
        clear ht hu
        by_cases he : t = u
        · have hde : (!decide (t = u)) = false := by simpa using he
          have HA2 : Hid (∀ k, k < j + 1 → ts[k]? = us[k]?) := Lib.hid (fun k hk => by
            by_cases e : k = j
            · subst e; rw [HT.out, HU.out, he]
            · exact HA.out k (by omega))
          have HE := Lib.hid hde
          clear he hde
          go_upto_region 6 with fail
          refine wp_region_quiet_lit (by kernel_rfl) (by kernel_rfl) ?_
          repeat (go_big_quiet_step (fail))
          go_big_quiet_want
          refine quiet_neM t u rfl rfl rfl HE.out ?_
          go_big_quiet_on
          simp only [Act.put, List.setIfInBounds_toArray, List.set_cons_succ, List.set_cons_zero]
          refine wpQuiet_nil ?_
          intro _ hw'
          obtain ⟨nq, hw''⟩ := hw'
          subst hw''
          go_wp2_with fail
          go_roundw
          case rel => exact ⟨j + 1, by go_num, by omega, HB.out.trans ((below_drewN _ _).mono HB.out.size), HA2⟩
          case measure => simp [intOf]; omega
        · have hde : (!decide (t = u)) = true := by simpa using he
          have HF := Lib.hid (sameM_no (a := ts) (b := us) (j := j) (by rw [HT.out, HU.out]; simpa using he))
          have HE := Lib.hid hde
          clear he hde
          go_upto_region 6 with fail
          refine wp_region_quiet_lit (by kernel_rfl) (by kernel_rfl) ?_
          repeat (go_big_quiet_step (fail))
          go_big_quiet_want
          refine quiet_neM t u rfl rfl rfl HE.out ?_
          go_big_quiet_on
          simp only [Act.put, List.setIfInBounds_toArray, List.set_cons_succ, List.set_cons_zero]
          refine wpQuiet_nil ?_
          intro _ hw'
          obtain ⟨nq, hw''⟩ := hw'
          subst hw''
          go_wp2_with fail
          go_ret
          exact ⟨ret_bool HF.out.symm, HB.out.trans ((below_drewN _ _).mono HB.out.size)⟩
      · have : j = n := by omega
        subst this
        have HF := Lib.hid (sameM_yes HN.out HM.out HA.out)
        go_wp2_with fail
        go_ret
        exact ⟨ret_bool HF.out.symm, HB.out⟩
  · have hq : ((n : Int) != (m : Int)) = true := by simp; omega
    have HF : Hid (decide (ts = us) = false) := Lib.hid (by rw [decide_eq_false_iff_not]; intro e; rw [e, HM.out] at HN; exact hnm HN.out.symm)
    clear hnm
    go_enter Try.func21, Try.ntmps21
    go_wp2_with fail
    go_ret
    exact ⟨ret_bool HF.out.symm, Below.refl _ _⟩
set_option maxRecDepth 20000 in
set_option maxHeartbeats 3200000 in
theorem mEqual_any (a1 a2 : Option Addr) (n m c1 c2 : Nat) (ts us : List Mk) (w : World) (h1 : MRow w a1 c1 ts) (h2 : MRow w a2 c2 us) (hn : ts.length = n) (hm : us.length = m) :
    Calls Try.prog 47 #[.slice a1 n c1, .slice a2 m c2] w fun e w' => e = .returned (.bool (decide (ts = us))) ∧ Below w.heap.size w w' := by
  have H1 := Lib.hid h1
  have H2 := Lib.hid h2
  have HN := Lib.hid hn
  have HM := Lib.hid hm
  have hc1 := h1.1
  have hc2 := h2.1
  rw [hn] at hc1
  rw [hm] at hc2
  have hcm1 : c1 ≤ 9223372036854775807 := by have := h1.2.1; unfold maxLen at this; omega
  have hcm2 : c2 ≤ 9223372036854775807 := by have := h2.2.1; unfold maxLen at this; omega
  clear h1 h2 hn hm
  by_cases hnm : n = m
  · subst hnm
    have hq : ((n : Int) != (n : Int)) = false := by simp
    go_enter Try.func47, Try.ntmps47
    go_wp2_with fail
    go_loopw [5, 13] (fun _ i wr => ∃ j : Nat, i = .int .i64 j ∧ j ≤ n ∧ Below w.heap.size w wr ∧ Hid (∀ k, k < j → ts[k]? = us[k]?)) (fun _ i _ => n - (intOf i).toNat)
    case atStart => exact ⟨0, rfl, by omega, Below.refl _ _, Lib.hid (fun k h => by omega)⟩
    case round =>
      obtain ⟨j, rfl, hj, hb, HA⟩ := hrel
      have HB := Lib.hid hb
      clear hb
      by_cases hjn : (j : Int) < n
      · obtain ⟨t, ht⟩ : ∃ t, ts[j]? = some t := ⟨ts[j]'(by have := HN.out; omega), List.getElem?_eq_getElem _⟩
        obtain ⟨u, hu⟩ : ∃ u, us[j]? = some u := ⟨us[j]'(by have := HM.out; omega), List.getElem?_eq_getElem _⟩
        obtain ⟨b1, o1, rfl, p0, p1, p2, p3⟩ := (H1.out.later HB.out).c4 ht
        obtain ⟨b2, o2, rfl, q0, q1, q2, q3⟩ := (H2.out.later HB.out).c4 hu
        have HT := Lib.hid ht
        have HU := Lib.hid hu
        clear ht hu
        by_cases he : t = u
        · have HE : Hid ((!decide (t = u)) = false) := Lib.hid (by simpa using he)
          have HA2 : Hid (∀ k, k < j + 1 → ts[k]? = us[k]?) := Lib.hid (fun k hk => by
            by_cases e : k = j
            · subst e; rw [HT.out, HU.out, he]
            · exact HA.out k (by omega))
          clear he
          go_upto_region 6 with fail
          refine wp_region_quiet_lit (by kernel_rfl) (by kernel_rfl) ?_
          repeat (go_big_quiet_step (fail))
          go_big_quiet_want
          refine quiet_neM t u rfl rfl rfl HE.out ?_
          go_big_quiet_on
          simp only [Act.put, List.setIfInBounds_toArray, List.set_cons_succ, List.set_cons_zero]
          refine wpQuiet_nil ?_
          intro _ hw'
          obtain ⟨nq, hw''⟩ := hw'
          subst hw''
          go_wp2_with fail
          go_roundw
          case rel => exact ⟨j + 1, by go_num, by omega, HB.out.trans ((below_drewN _ _).mono HB.out.size), HA2⟩
          case measure => simp [intOf]; omega
        · have HE : Hid ((!decide (t = u)) = true) := Lib.hid (by simpa using he)
          have HF := Lib.hid (sameM_no (a := ts) (b := us) (j := j) (by rw [HT.out, HU.out]; simpa using he))
          clear he
          go_upto_region 6 with fail
          refine wp_region_quiet_lit (by kernel_rfl) (by kernel_rfl) ?_
          repeat (go_big_quiet_step (fail))
          go_big_quiet_want
          refine quiet_neM t u rfl rfl rfl HE.out ?_
          go_big_quiet_on
          simp only [Act.put, List.setIfInBounds_toArray, List.set_cons_succ, List.set_cons_zero]
          refine wpQuiet_nil ?_
          intro _ hw'
          obtain ⟨nq, hw''⟩ := hw'
          subst hw''
          go_wp2_with fail
          go_ret
          exact ⟨ret_bool HF.out.symm, HB.out.trans ((below_drewN _ _).mono HB.out.size)⟩
      · have : j = n := by omega
        subst this
        have HF := Lib.hid (sameM_yes HN.out HM.out HA.out)
        go_wp2_with fail
        go_ret
        exact ⟨ret_bool HF.out.symm, HB.out⟩
  · have hq : ((n : Int) != (m : Int)) = true := by simp; omega
    have HF : Hid (decide (ts = us) = false) := Lib.hid (by rw [decide_eq_false_iff_not]; intro e; rw [e, HM.out] at HN; exact hnm HN.out.symm)
    clear hnm
    go_enter Try.func47, Try.ntmps47
    go_wp2_with fail
    go_ret
    exact ⟨ret_bool HF.out.symm, Below.refl _ _⟩
end Go.Proofs.Ytfjplhjlmilcfaa
