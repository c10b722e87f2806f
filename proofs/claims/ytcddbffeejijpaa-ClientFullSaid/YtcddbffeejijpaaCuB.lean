/- Clients: are two lists alike; who is among them; the slowest: the program's and the document's own. -/
import Derived.Test.YtcddbffeejijpaaCuA
import Derived.Lib.MinMax
namespace Go.Proofs.Ytcddbffeejijpaa
open Go.RowKit Go.Proofs
set_option linter.unusedVariables false
set_option linter.unusedSimpArgs false
set_option linter.unnecessarySimpa false

/-! ### are two clients the same? -/
theorem cu_eq_iff (t u : Cu) : (t.id == u.id && (t.pos == u.pos && t.off == u.off)) = decide (t = u) := by
  obtain ⟨a, b, c⟩ := t
  obtain ⟨e, f, g⟩ := u
  simp only [Cu.mk.injEq]
  by_cases h1 : a = e <;> by_cases h2 : b = f <;> by_cases h3 : c = g <;> simp [h1, h2, h3]
theorem run_cu_in (w : World) (t u : Cu) : (Op.equalIn 10000 39 (.agg #[.int .i64 t.id, .int .i64 t.pos, .bool t.off]) (.agg #[.int .i64 u.id, .int .i64 u.pos, .bool u.off])).run Try.prog w = .ok (decide (t = u)) w := by
  have u3 := Try.underlying3
  have a3 := Try.isAgg3
  have z3 := Try.sizeOf3
  have u4 := Try.underlying4
  have a4 := Try.isAgg4
  have z4 := Try.sizeOf4
  have hS : Try.prog.underlying 39 = some (.struct (Try.prog.fieldsOf 39)) := by kernel_rfl
  have hp : Try.prog.stoodInHeld 39 = false := by kernel_rfl
  rw [show (10000 : Nat) = 9999 + 1 from rfl, run_equalIn_agg w 9999 39 _ _ hS hp, ← cu_eq_iff]
  simp only [Program.fieldsOf, Try.underlying39]
  go_simp
  obtain ⟨a, b, c⟩ := t
  obtain ⟨e, f, g⟩ := u
  by_cases h1 : a = e <;> by_cases h2 : b = f <;> cases c <;> cases g <;> simp [h1, h2]
theorem cu_eql (w : World) (t u : Cu) : (binOp .eql 39 (.agg #[.int .i64 t.id, .int .i64 t.pos, .bool t.off]) (.agg #[.int .i64 u.id, .int .i64 u.pos, .bool u.off])).run Try.prog w = .ok (.bool (decide (t = u))) w := by
  rw [run_eql_struct, run_cu_in]; rfl
theorem cu_neq (w : World) (t u : Cu) : (binOp .neq 39 (.agg #[.int .i64 t.id, .int .i64 t.pos, .bool t.off]) (.agg #[.int .i64 u.id, .int .i64 u.pos, .bool u.off])).run Try.prog w = .ok (.bool (!decide (t = u))) w := by
  rw [run_neq_struct, run_cu_in]; rfl
theorem cu_guard (w : World) (op : BinOp) (x y : Operand) (xs ys : Array Value) : (eqGuard op 39 x y (.agg xs) (.agg ys)).run Try.prog w = .ok () w := run_eqGuard_agg w op _ x y xs ys (by kernel_rfl)
theorem quiet_neU {C : World → Prop} {o : Oper} {a : Act} {K : Act → Prop} (t u : Cu) {x y : Operand} {b : Bool} (ho : o.op = .binOp .neq 39 x y 39) (hx : a.eval x = .agg #[.int .i64 t.id, .int .i64 t.pos, .bool t.off])
    (hy : a.eval y = .agg #[.int .i64 u.id, .int .i64 u.pos, .bool u.off]) (hb : (!decide (t = u)) = b) (hk : K (a.put o.dst (.bool b))) : o.quiet Try.prog a C K :=
  ⟨.bool b, fun w _ => by unfold Oper.quietAt execOp; rw [ho]; subst hb; simp only [hx, hy, Sem.run_bind, cu_guard, cu_neq, Result.andThen_ok, Sem.run_pure]; exact ⟨rfl, rfl⟩, hk⟩
theorem quiet_eqU {C : World → Prop} {o : Oper} {a : Act} {K : Act → Prop} (t u : Cu) {x y : Operand} {b : Bool} (ho : o.op = .binOp .eql 39 x y 39) (hx : a.eval x = .agg #[.int .i64 t.id, .int .i64 t.pos, .bool t.off])
    (hy : a.eval y = .agg #[.int .i64 u.id, .int .i64 u.pos, .bool u.off]) (hb : (decide (t = u)) = b) (hk : K (a.put o.dst (.bool b))) : o.quiet Try.prog a C K :=
  ⟨.bool b, fun w _ => by unfold Oper.quietAt execOp; rw [ho]; subst hb; simp only [hx, hy, Sem.run_bind, cu_guard, cu_eql, Result.andThen_ok, Sem.run_pure]; exact ⟨rfl, rfl⟩, hk⟩
theorem sameU_no {a b : List Cu} {j : Nat} (h : a[j]? ≠ b[j]?) : decide (a = b) = false := by
  rw [decide_eq_false_iff_not]; intro e; rw [e] at h; exact h rfl
theorem sameU_yes {a b : List Cu} {n : Nat} (ha : a.length = n) (hb : b.length = n) (h : ∀ j, j < n → a[j]? = b[j]?) : decide (a = b) = true := by
  rw [decide_eq_true_eq]
  refine List.ext_getElem? fun i => ?_
  by_cases hi : i < n
  · exact h i hi
  · rw [List.getElem?_eq_none (by omega), List.getElem?_eq_none (by omega)]
set_option maxRecDepth 20000 in
set_option maxHeartbeats 3200000 in
theorem usame_any (a1 a2 : Option Addr) (n m c1 c2 : Nat) (ts us : List Cu) (w : World) (h1 : CRow w a1 c1 ts) (h2 : CRow w a2 c2 us) (hn : ts.length = n) (hm : us.length = m) :
    Calls Try.prog 16 #[.slice a1 n c1, .slice a2 m c2] w fun e w' => e = .returned (.bool (decide (ts = us))) ∧ Below w.heap.size w w' := by
  have H1 := Lib.hid h1
  have H2 := Lib.hid h2
  have HN := Lib.hid hn
  have HM := Lib.hid hm
  have hc1 := h1.1
  have hc2 := h2.1
  rw [hn] at hc1
  rw [hm] at hc2
  have hcm1 : c1 ≤ 9223372036854775807 := by have := h1.2.1; unfold maxLen at this; omega
  have hcm2 : c2 ≤ 9223372036854775807 := by have := h2.2.1; unfold maxLen at this; omega
  clear h1 h2 hn hm
  by_cases hnm : n = m
  · subst hnm
    have hq : ((n : Int) != (n : Int)) = false := by simp
    go_enter Try.func16, Try.ntmps16
    go_wp2_with fail
    go_loopw [5] (fun i wr => ∃ j : Nat, i = .int .i64 j ∧ j ≤ n ∧ Below w.heap.size w wr ∧ Hid (∀ k, k < j → ts[k]? = us[k]?)) (fun i _ => n - (intOf i).toNat)
    case atStart => exact ⟨0, rfl, by omega, Below.refl _ _, Lib.hid (fun k h => by omega)⟩
    case round =>
      obtain ⟨j, rfl, hj, hb, HA⟩ := hrel
      have HB := Lib.hid hb
      clear hb
      by_cases hjn : (j : Int) < n
      · obtain ⟨t, ht⟩ : ∃ t, ts[j]? = some t := ⟨ts[j]'(by have := HN.out; omega), List.getElem?_eq_getElem _⟩
        obtain ⟨u, hu⟩ : ∃ u, us[j]? = some u := ⟨us[j]'(by have := HM.out; omega), List.getElem?_eq_getElem _⟩
        obtain ⟨b1, o1, rfl, p0, p1, p2⟩ := (H1.out.later HB.out).c3 ht
        obtain ⟨b2, o2, rfl, q0, q1, q2⟩ := (H2.out.later HB.out).c3 hu
        have HT := Lib.hid ht
        have HU := Lib.hid hu
        clear ht hu
        by_cases he : t = u
        · have hde : (!decide (t = u)) = false := by simpa using he
          have HA2 : Hid (∀ k, k < j + 1 → ts[k]? = us[k]?) := Lib.hid (fun k hk => by
            by_cases e : k = j
            · subst e; rw [HT.out, HU.out, he]
            · exact HA.out k (by omega))
          have HE := Lib.hid hde
          clear he hde
          go_upto_region 6 with fail
          refine wp_region_quiet_lit (by kernel_rfl) (by kernel_rfl) ?_
          repeat (go_big_quiet_step (fail))
          go_big_quiet_want
          refine quiet_neU t u rfl rfl rfl HE.out ?_
          go_big_quiet_on
          simp only [Act.put, List.setIfInBounds_toArray, List.set_cons_succ, List.set_cons_zero]
          refine wpQuiet_nil ?_
          intro _ hw'
          obtain ⟨nq, hw''⟩ := hw'
          subst hw''
          go_wp2_with fail
          go_roundw
          case rel => exact ⟨j + 1, by go_num, by omega, HB.out.trans ((below_drewN _ _).mono HB.out.size), HA2⟩
          case measure => simp [intOf]; omega
        · have hde : (!decide (t = u)) = true := by simpa using he
          have HF := Lib.hid (sameU_no (a := ts) (b := us) (j := j) (by rw [HT.out, HU.out]; simpa using he))
          have HE := Lib.hid hde
          clear he hde
          go_upto_region 6 with fail
          refine wp_region_quiet_lit (by kernel_rfl) (by kernel_rfl) ?_
          repeat (go_big_quiet_step (fail))
          go_big_quiet_want
          refine quiet_neU t u rfl rfl rfl HE.out ?_
          go_big_quiet_on
          simp only [Act.put, List.setIfInBounds_toArray, List.set_cons_succ, List.set_cons_zero]
          refine wpQuiet_nil ?_
          intro _ hw'
          obtain ⟨nq, hw''⟩ := hw'
          subst hw''
          go_wp2_with fail
          go_ret
          exact ⟨ret_bool HF.out.symm, HB.out.trans ((below_drewN _ _).mono HB.out.size)⟩
      · have : j = n := by omega
        subst this
        have HF := Lib.hid (sameU_yes HN.out HM.out HA.out)
        go_wp2_with fail
        go_ret
        exact ⟨ret_bool HF.out.symm, HB.out⟩
  · have hq : ((n : Int) != (m : Int)) = true := by simp; omega
    have HF : Hid (decide (ts = us) = false) := Lib.hid (by rw [decide_eq_false_iff_not]; intro e; rw [e, HM.out] at HN; exact hnm HN.out.symm)
    clear hnm
    go_enter Try.func16, Try.ntmps16
    go_wp2_with fail
    go_ret
    exact ⟨ret_bool HF.out.symm, Below.refl _ _⟩

/-! ### who is among them -/
theorem placeU_here {ts : List Cu} {k : Int} {j : Nat} {t : Cu} (ht : ts[j]? = some t) (hk : t.id = k) (ha : ∀ m u, m < j → ts[m]? = some u → u.id ≠ k) : placeU ts k = some j := placeU_is ht hk ha
theorem placeU_gone {ts : List Cu} {k : Int} {n : Nat} (hn : ts.length = n) (ha : ∀ m u, m < n → ts[m]? = some u → u.id ≠ k) : placeU ts k = none := placeU_none.2 fun t ht => by
  obtain ⟨i, hi⟩ := List.mem_iff_getElem?.1 ht
  exact ha i t (by have := (List.getElem?_eq_some_iff.1 hi).1; omega) hi
theorem findU_here {ts : List Cu} {k : Int} {j : Nat} {t : Cu} (ht : ts[j]? = some t) (h : placeU ts k = some j) : findU ts k = (t, true) := by unfold findU; rw [h]; simp only [ht]
theorem findU_gone {ts : List Cu} {k : Int} (h : placeU ts k = none) : findU ts k = (⟨0, 0, false⟩, false) := by unfold findU; rw [h]
theorem ne_more {ts : List Cu} {k : Int} {j : Nat} {t : Cu} (ht : ts[j]? = some t) (hk : t.id ≠ k) (ha : ∀ m u, m < j → ts[m]? = some u → u.id ≠ k) : ∀ m u, m < j + 1 → ts[m]? = some u → u.id ≠ k := fun m u hm hu => by
  by_cases e : m = j
  · subst e; rw [ht] at hu; cases hu; exact hk
  · exact ha m u (by omega) hu
def UFound (t : Cu) (b : Bool) (w : World) (e : Ending) (w' : World) : Prop := e = .returned (.tuple #[.agg #[.int .i64 t.id, .int .i64 t.pos, .bool t.off], .bool b]) ∧ Below w.heap.size w w'
set_option maxRecDepth 20000 in
set_option maxHeartbeats 3200000 in
theorem ufind_any (ad : Option Addr) (n c : Nat) (ts : List Cu) (k : Int) (w : World) (hr : CRow w ad c ts) (hn : ts.length = n) :
    Calls Try.prog 19 #[.slice ad n c, .int .i64 k] w fun e w' => UFound (findU ts k).1 (findU ts k).2 w e w' := by
  have HR := Lib.hid hr
  have HN := Lib.hid hn
  have hc1 := hr.1
  rw [hn] at hc1
  have hcm : c ≤ 9223372036854775807 := by have := hr.2.1; unfold maxLen at this; omega
  have hba : Below w.heap.size w (w.alloc (.cells #[.int .i64 0, .int .i64 0, .bool false] 39)) := (Below.refl _ _).alloc (Nat.le_refl _) _
  have HB0 := Lib.hid hba
  have HX0 := Lib.hid (RecAt.new w #[.int .i64 0, .int .i64 0, .bool false] 39)
  clear hr hn hba
  go_enter Try.func19, Try.ntmps19
  go_upto_region 1 with fail
  generalize (w.alloc (.cells #[.int .i64 0, .int .i64 0, .bool false] 39)) = w1 at *
  obtain ⟨P, hP⟩ : ∃ P, w.heap.size = P := ⟨_, rfl⟩
  have HP := Lib.hid hP
  rw [hP]
  rw [hP] at HX0
  clear hP
  go_wp2_with fail
  go_loopw [7, 10] (fun _ i wr => ∃ j : Nat, i = .int .i64 j ∧ j ≤ n ∧ Hid (Below w.heap.size w wr) ∧ Hid (RecAt wr P #[.int .i64 0, .int .i64 0, .bool false] 39) ∧ Hid (∀ m u, m < j → ts[m]? = some u → u.id ≠ k)) (fun _ i _ => n - (intOf i).toNat)
  case atStart => exact ⟨0, rfl, by omega, HB0, HX0, Lib.hid (fun m u h => by omega)⟩
  case round =>
    obtain ⟨j, rfl, hj, HB, HX, HA⟩ := hrel
    by_cases hjn : (j : Int) < n
    · obtain ⟨t, ht⟩ : ∃ t, ts[j]? = some t := ⟨ts[j]'(by have := HN.out; omega), List.getElem?_eq_getElem _⟩
      obtain ⟨b0, o0, rfl, p0, p1, p2⟩ := (HR.out.later HB.out).c3 ht
      have HT := Lib.hid ht
      clear ht
      obtain ⟨ti, tp, tf⟩ := t
      have hbb : Below wr.heap.size wr (wr.alloc (.cells #[.int .i64 ti, .int .i64 tp, .bool tf] 39)) := (Below.refl _ _).alloc (Nat.le_refl _) _
      have HB2 := Lib.hid (HB.out.trans (hbb.mono HB.out.size))
      have HX2 := Lib.hid (HX.out.later hbb)
      have HY := Lib.hid (RecAt.new wr #[.int .i64 ti, .int .i64 tp, .bool tf] 39)
      clear hbb
      go_upto_region 4 with fail
      clear p0 p1 p2
      generalize (wr.alloc (.cells #[.int .i64 ti, .int .i64 tp, .bool tf] 39)) = w2 at *
      generalize wr.heap.size = p4 at *
      obtain ⟨x0, x1, x2⟩ := HY.out.c3
      by_cases hk : ti = k
      · have HF := Lib.hid (findU_here HT.out (placeU_here HT.out hk HA.out))
        have hd : (ti == k) = true := by simpa using hk
        clear hk
        go_wp2_with (refine wpList_rec rfl rfl P #[.int .i64 0, .int .i64 0, .bool false] #[.int .i64 ti, .int .i64 tp, .bool tf] rfl rfl HX2.out rfl (by kernel_rfl) (by kernel_rfl) ?_; intro w3 r1 r2 r3 r4)
        refine bodyPost_ret (results_ct rfl rfl r1 Try.underlying39 rfl (by kernel_rfl)) rfl ?_
        rw [HF.out]
        exact ⟨rfl, HB2.out.grown r4 HB2.out.size (fun q e => by cases e; exact Nat.le_of_eq HP.out)⟩
      · have HA2 := Lib.hid (ne_more HT.out hk HA.out)
        have hd : (ti == k) = false := by simpa using hk
        clear hk
        go_wp2_with fail
        go_roundw
        case rel => exact ⟨j + 1, by go_num, by omega, HB2, HX2, HA2⟩
        case measure => simp [intOf]; omega
    · have : j = n := by omega
      subst this
      have HF := Lib.hid (findU_gone (placeU_gone HN.out HA.out))
      go_wp2_with (refine wpList_rec rfl rfl P #[.int .i64 0, .int .i64 0, .bool false] #[.int .i64 0, .int .i64 0, .bool false] rfl rfl HX.out rfl (by kernel_rfl) (by kernel_rfl) ?_; intro w3 r1 r2 r3 r4)
      refine bodyPost_ret (results_ct rfl rfl r1 Try.underlying39 rfl (by kernel_rfl)) rfl ?_
      rw [HF.out]
      exact ⟨rfl, HB.out.grown r4 HB.out.size (fun q e => by cases e; exact Nat.le_of_eq HP.out)⟩
/-- The document's number of a place. -/
def numU (o : Option Nat) : Int := match o with | some i => (i : Nat) | none => -1
set_option maxRecDepth 20000 in
set_option maxHeartbeats 3200000 in
theorem urfind_any (ad : Option Addr) (n c : Nat) (ts : List Cu) (k : Int) (w : World) (hr : CRow w ad c ts) (hn : ts.length = n) :
    Calls Try.prog 20 #[.slice ad n c, .int .i64 k] w fun e w' => e = .returned (.int .i64 (numU (placeU ts k))) ∧ w = w' := by
  have HR := Lib.hid hr
  have HN := Lib.hid hn
  have hc1 := hr.1
  rw [hn] at hc1
  have hcm : c ≤ 9223372036854775807 := by have := hr.2.1; unfold maxLen at this; omega
  clear hr hn
  go_enter Try.func20, Try.ntmps20
  go_wp2_with fail
  go_loop [5] (fun i => ∃ j : Nat, i = .int .i64 j ∧ j ≤ n ∧ Hid (∀ m u, m < j → ts[m]? = some u → u.id ≠ k)) (fun i => n - (intOf i).toNat)
  case atStart => exact ⟨0, rfl, by omega, Lib.hid (fun m u h => by omega)⟩
  case round =>
    obtain ⟨j, rfl, hj, HA⟩ := hrel
    by_cases hjn : (j : Int) < n
    · obtain ⟨t, ht⟩ : ∃ t, ts[j]? = some t := ⟨ts[j]'(by have := HN.out; omega), List.getElem?_eq_getElem _⟩
      obtain ⟨b0, o0, rfl, p0, p1, p2⟩ := HR.out.c3 ht
      have HT := Lib.hid ht
      clear ht
      obtain ⟨ti, tp, tf⟩ := t
      simp only at p0
      by_cases hk : ti = k
      · have HF := Lib.hid (placeU_here HT.out hk HA.out)
        have hd : (ti == k) = true := by simpa using hk
        clear hk
        go_wp2_with fail
        go_ret
        exact ⟨ret_int (by rw [HF.out]; rfl), rfl⟩
      · have HA2 := Lib.hid (ne_more HT.out hk HA.out)
        have hd : (ti == k) = false := by simpa using hk
        clear hk
        go_wp2_with fail
        go_round
        case rel => exact ⟨j + 1, by go_num, by omega, HA2⟩
        case measure => simp [intOf]; omega
    · have : j = n := by omega
      subst this
      have HF := Lib.hid (placeU_gone HN.out HA.out)
      go_wp2_with fail
      go_ret
      exact ⟨ret_int (by rw [HF.out]; rfl), rfl⟩

/-! ### the slowest -/
def stepS (m : Int × Bool) (t : Cu) : Int × Bool := if !t.off && (!m.2 || decide (t.pos < m.1)) then (t.pos, true) else m
theorem slowU_take {ts : List Cu} {j : Nat} {t : Cu} (ht : ts[j]? = some t) : slowU (ts.take (j + 1)) = stepS (slowU (ts.take j)) t := by
  obtain ⟨h, rfl⟩ := List.getElem?_eq_some_iff.1 ht
  unfold slowU
  rw [List.take_succ_eq_append_getElem h, List.foldl_append]
  rfl
set_option maxRecDepth 20000 in
set_option maxHeartbeats 3200000 in
theorem uslow_any (ad : Option Addr) (n c : Nat) (ts : List Cu) (w : World) (hr : CRow w ad c ts) (hn : ts.length = n) :
    Calls Try.prog 17 #[.slice ad n c] w fun e w' => e = .returned (.tuple #[.int .i64 (slowU ts).1, .bool (slowU ts).2]) ∧ Below w.heap.size w w' := by
  have HR := Lib.hid hr
  have HN := Lib.hid hn
  have hc1 := hr.1
  rw [hn] at hc1
  have hcm : c ≤ 9223372036854775807 := by have := hr.2.1; unfold maxLen at this; omega
  clear hr hn
  go_enter Try.func17, Try.ntmps17
  go_wp2_with fail
  go_loopw [4, 5, 7, 10] (fun L S _ i wr => ∃ (j : Nat) (l : Int) (s : Bool), L = .int .i64 l ∧ S = .bool s ∧ i = .int .i64 j ∧ j ≤ n ∧ Hid (Below w.heap.size w wr) ∧ Hid (slowU (ts.take j) = (l, s))) (fun _ _ _ i _ => n - (intOf i).toNat)
  case atStart => exact ⟨0, 0, false, rfl, rfl, rfl, by omega, Lib.hid (Below.refl _ _), Lib.hid rfl⟩
  case round =>
    obtain ⟨j, l, s, rfl, rfl, rfl, hj, HB, HS⟩ := hrel
    by_cases hjn : (j : Int) < n
    · obtain ⟨t, ht⟩ : ∃ t, ts[j]? = some t := ⟨ts[j]'(by have := HN.out; omega), List.getElem?_eq_getElem _⟩
      obtain ⟨b0, o0, rfl, p0, p1, p2⟩ := (HR.out.later HB.out).c3 ht
      have HT := slowU_take ht
      rw [HS.out] at HT
      have HT := Lib.hid HT
      clear ht
      obtain ⟨ti, tp, tf⟩ := t
      have hbb : Below wr.heap.size wr (wr.alloc (.cells #[.int .i64 ti, .int .i64 tp, .bool tf] 39)) := (Below.refl _ _).alloc (Nat.le_refl _) _
      have HB2 := Lib.hid (HB.out.trans (hbb.mono HB.out.size))
      have HY := Lib.hid (RecAt.new wr #[.int .i64 ti, .int .i64 tp, .bool tf] 39)
      clear hbb
      go_upto_region 5 with fail
      clear p0 p1 p2
      generalize (wr.alloc (.cells #[.int .i64 ti, .int .i64 tp, .bool tf] 39)) = w2 at *
      generalize wr.heap.size = p4 at *
      obtain ⟨x0, x1, x2⟩ := HY.out.c3
      cases tf with
      | true =>
        have HS2 : Hid (slowU (ts.take (j + 1)) = (l, s)) := Lib.hid (by rw [HT.out]; rfl)
        go_wp2_with fail
        go_roundw
        case rel => exact ⟨j + 1, l, s, rfl, rfl, by go_num, by omega, HB2, HS2⟩
        case measure => simp [intOf]; omega
      | false =>
        cases s with
        | false =>
          have HS2 : Hid (slowU (ts.take (j + 1)) = (tp, true)) := Lib.hid (by rw [HT.out]; rfl)
          go_wp2_with fail
          go_roundw
          case rel => exact ⟨j + 1, tp, true, rfl, rfl, by go_num, by omega, HB2, HS2⟩
          case measure => simp [intOf]; omega
        | true =>
          cases hlt : decide (tp < l) with
          | true =>
            have HS2 : Hid (slowU (ts.take (j + 1)) = (tp, true)) := Lib.hid (by rw [HT.out]; unfold stepS; simp only; rw [hlt]; rfl)
            go_wp2_with fail
            go_roundw
            case rel => exact ⟨j + 1, tp, true, rfl, rfl, by go_num, by omega, HB2, HS2⟩
            case measure => simp [intOf]; omega
          | false =>
            have HS2 : Hid (slowU (ts.take (j + 1)) = (l, true)) := Lib.hid (by rw [HT.out]; unfold stepS; simp only; rw [hlt]; rfl)
            go_wp2_with fail
            go_roundw
            case rel => exact ⟨j + 1, l, true, rfl, rfl, by go_num, by omega, HB2, HS2⟩
            case measure => simp [intOf]; omega
    · have : j = n := by omega
      subst this
      have HS2 := HS
      rw [List.take_of_length_le (Nat.le_of_eq HN.out)] at HS2
      go_wp2_with fail
      go_ret2
      exact ⟨by rw [HS2.out]; rfl, HB.out⟩
set_option maxRecDepth 20000 in
set_option maxHeartbeats 3200000 in
theorem urslow_any (ad : Option Addr) (n c : Nat) (ts : List Cu) (w : World) (hr : CRow w ad c ts) (hn : ts.length = n) :
    Calls Try.prog 18 #[.slice ad n c] w fun e w' => e = .returned (.tuple #[.int .i64 (slowU ts).1, .bool (slowU ts).2]) ∧ w = w' := by
  have HR := Lib.hid hr
  have HN := Lib.hid hn
  have hc1 := hr.1
  rw [hn] at hc1
  have hcm : c ≤ 9223372036854775807 := by have := hr.2.1; unfold maxLen at this; omega
  clear hr hn
  go_enter Try.func18, Try.ntmps18
  go_wp2_with fail
  go_loop [4, 5, 6] (fun L S i => ∃ (j : Nat) (l : Int) (s : Bool), L = .int .i64 l ∧ S = .bool s ∧ i = .int .i64 j ∧ j ≤ n ∧ Hid (slowU (ts.take j) = (l, s))) (fun _ _ i => n - (intOf i).toNat)
  case atStart => exact ⟨0, 0, false, rfl, rfl, rfl, by omega, Lib.hid rfl⟩
  case round =>
    obtain ⟨j, l, s, rfl, rfl, rfl, hj, HS⟩ := hrel
    by_cases hjn : (j : Int) < n
    · obtain ⟨t, ht⟩ : ∃ t, ts[j]? = some t := ⟨ts[j]'(by have := HN.out; omega), List.getElem?_eq_getElem _⟩
      obtain ⟨b0, o0, rfl, p0, p1, p2⟩ := HR.out.c3 ht
      have HT := slowU_take ht
      rw [HS.out] at HT
      have HT := Lib.hid HT
      clear ht
      obtain ⟨ti, tp, tf⟩ := t
      simp only at p0 p1 p2
      cases tf with
      | true =>
        have HS2 : Hid (slowU (ts.take (j + 1)) = (l, s)) := Lib.hid (by rw [HT.out]; rfl)
        go_wp2_with fail
        go_round
        case rel => exact ⟨j + 1, l, s, rfl, rfl, by go_num, by omega, HS2⟩
        case measure => simp [intOf]; omega
      | false =>
        cases s with
        | false =>
          have HS2 : Hid (slowU (ts.take (j + 1)) = (tp, true)) := Lib.hid (by rw [HT.out]; rfl)
          go_wp2_with fail
          go_round
          case rel => exact ⟨j + 1, tp, true, rfl, rfl, by go_num, by omega, HS2⟩
          case measure => simp [intOf]; omega
        | true =>
          cases hlt : decide (tp < l) with
          | true =>
            have HS2 : Hid (slowU (ts.take (j + 1)) = (tp, true)) := Lib.hid (by rw [HT.out]; unfold stepS; simp only; rw [hlt]; rfl)
            go_wp2_with fail
            go_round
            case rel => exact ⟨j + 1, tp, true, rfl, rfl, by go_num, by omega, HS2⟩
            case measure => simp [intOf]; omega
          | false =>
            have HS2 : Hid (slowU (ts.take (j + 1)) = (l, true)) := Lib.hid (by rw [HT.out]; unfold stepS; simp only; rw [hlt]; rfl)
            go_wp2_with fail
            go_round
            case rel => exact ⟨j + 1, l, true, rfl, rfl, by go_num, by omega, HS2⟩
            case measure => simp [intOf]; omega
    · have : j = n := by omega
      subst this
      have HS2 := HS
      rw [List.take_of_length_le (Nat.le_of_eq HN.out)] at HS2
      go_wp2_with fail
      go_ret2
      exact ⟨by rw [HS2.out]; rfl, rfl⟩
end Go.Proofs.Ytcddbffeejijpaa
