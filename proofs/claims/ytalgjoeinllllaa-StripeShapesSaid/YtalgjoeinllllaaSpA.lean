/- Stripes: rows of pieces that are alike; the document's own Objects, Bytes, Map. -/
import Derived.Test.YtalgjoeinllllaaSp
namespace Go.Proofs.Ytalgjoeinllllaa
open Go.RowKit Go.Proofs
set_option linter.unusedVariables false
set_option linter.unusedSimpArgs false
set_option linter.unnecessarySimpa false

/-! ### rows of pieces -/
abbrev xtL (x : Xt) : List Value := [.int .i64 (x.obj : Nat), .int .i64 (x.off : Nat), .int .i64 (x.len : Nat), .int .i64 (x.at' : Nat)]
abbrev xtC (x : Xt) : Array Value := #[.int .i64 (x.obj : Nat), .int .i64 (x.off : Nat), .int .i64 (x.len : Nat), .int .i64 (x.at' : Nat)]
abbrev xtT : RT Xt := ⟨xtL, 4, fun _ => True, 36, 28⟩
theorem info_xt : (Try.prog.info? 36).map (fun i => (i.zero, i.size, i.bytes)) = some (some (.agg #[.int .i64 0, .int .i64 0, .int .i64 0, .int .i64 0]), 4, 32) := by kernel_rfl
theorem xtOk : (xtT).Ok := RT.Ok.of (fun t => rfl) (fun t u h => by
    simp only [List.mem_cons, List.not_mem_nil, or_false] at h
    rcases h with rfl | rfl | rfl | rfl <;> rfl) (by decide) Try.underlying28 info_xt rfl (by decide) rfl
theorem GRow.x4 {w : World} {a : Option Addr} {cap : Nat} {ts : List Xt} (h : GRow xtT w a cap ts) {i : Nat} {t : Xt} (he : ts[i]? = some t) :
    ∃ b off, a = some ⟨b, off, none⟩ ∧ w.cell? ⟨b, off + i * 4, none⟩ = some (.int .i64 (t.obj : Nat)) ∧ w.cell? ⟨b, off + i * 4 + 1, none⟩ = some (.int .i64 (t.off : Nat)) ∧ w.cell? ⟨b, off + i * 4 + 2, none⟩ = some (.int .i64 (t.len : Nat)) ∧ w.cell? ⟨b, off + i * 4 + 3, none⟩ = some (.int .i64 (t.at' : Nat)) := by
  obtain ⟨b, off, rfl, h2⟩ := h.at he
  exact ⟨b, off, rfl, h2 0 _ rfl, h2 1 _ rfl, h2 2 _ rfl, h2 3 _ rfl⟩
theorem xt_eq_iff (t u : Xt) : (((t.obj : Int) == (u.obj : Int)) && (((t.off : Int) == (u.off : Int)) && (((t.len : Int) == (u.len : Int)) && ((t.at' : Int) == (u.at' : Int))))) = decide (t = u) := by
  obtain ⟨a, b, c, d⟩ := t
  obtain ⟨a', b', c', d'⟩ := u
  rw [Bool.eq_iff_iff]
  simp only [Bool.and_eq_true, beq_iff_eq, decide_eq_true_eq, Xt.mk.injEq, Int.ofNat_inj]
theorem run_xt_in (w : World) (t u : Xt) : (Op.equalIn 10000 36 (.agg (xtC t)) (.agg (xtC u))).run Try.prog w = .ok (decide (t = u)) w := by
  have u3 := Try.underlying3
  have a3 := Try.isAgg3
  have z3 := Try.sizeOf3
  have hS : Try.prog.underlying 36 = some (.struct (Try.prog.fieldsOf 36)) := by kernel_rfl
  have hp : Try.prog.stoodInHeld 36 = false := by kernel_rfl
  rw [show (10000 : Nat) = 9999 + 1 from rfl, run_equalIn_agg w 9999 36 _ _ hS hp, ← xt_eq_iff]
  simp only [Program.fieldsOf, Try.underlying36]
  go_simp
  obtain ⟨a, b, c, d⟩ := t
  obtain ⟨e, f, g, h⟩ := u
  by_cases h1 : (a : Int) = (e : Int) <;> by_cases h2 : (b : Int) = (f : Int) <;> by_cases h3 : (c : Int) = (g : Int) <;> by_cases h4 : (d : Int) = (h : Int) <;> simp [h1, h2, h3, h4]
theorem xt_neq (w : World) (t u : Xt) : (binOp .neq 36 (.agg (xtC t)) (.agg (xtC u))).run Try.prog w = .ok (.bool (!decide (t = u))) w := by
  rw [run_neq_struct, run_xt_in]; rfl
theorem xt_eql (w : World) (t u : Xt) : (binOp .eql 36 (.agg (xtC t)) (.agg (xtC u))).run Try.prog w = .ok (.bool (decide (t = u))) w := by
  rw [run_eql_struct, run_xt_in]; rfl
theorem xt_guard (w : World) (op : BinOp) (x y : Operand) (xs ys : Array Value) : (eqGuard op 36 x y (.agg xs) (.agg ys)).run Try.prog w = .ok () w := run_eqGuard_agg w op _ x y xs ys (by kernel_rfl)
theorem quiet_neX {C : World → Prop} {o : Oper} {a : Act} {K : Act → Prop} (t u : Xt) {x y : Operand} {b : Bool} (ho : o.op = .binOp .neq 36 x y 36) (hx : a.eval x = .agg (xtC t))
    (hy : a.eval y = .agg (xtC u)) (hb : (!decide (t = u)) = b) (hk : K (a.put o.dst (.bool b))) : o.quiet Try.prog a C K :=
  ⟨.bool b, fun w _ => by unfold Oper.quietAt execOp; rw [ho]; subst hb; simp only [hx, hy, Sem.run_bind, xt_guard, xt_neq, Result.andThen_ok, Sem.run_pure]; exact ⟨rfl, rfl⟩, hk⟩
theorem sameXt_no {a b : List Xt} {j : Nat} (h : a[j]? ≠ b[j]?) : decide (a = b) = false := by
  rw [decide_eq_false_iff_not]; intro e; rw [e] at h; exact h rfl
theorem sameXt_yes {a b : List Xt} {n : Nat} (ha : a.length = n) (hb : b.length = n) (h : ∀ j, j < n → a[j]? = b[j]?) : decide (a = b) = true := by
  rw [decide_eq_true_eq]
  refine List.ext_getElem? fun i => ?_
  by_cases hi : i < n
  · exact h i hi
  · rw [List.getElem?_eq_none (by omega), List.getElem?_eq_none (by omega)]
set_option maxRecDepth 20000 in
set_option maxHeartbeats 3200000 in
theorem samext_any (a1 a2 : Option Addr) (n m c1 c2 : Nat) (ts us : List Xt) (w : World) (h1 : GRow xtT w a1 c1 ts) (h2 : GRow xtT w a2 c2 us) (hn : ts.length = n) (hm : us.length = m) :
    Calls Try.prog 12 #[.slice a1 n c1, .slice a2 m c2] w fun e w' => e = .returned (.bool (decide (ts = us))) ∧ Below w.heap.size w w' := by
  have H1 := Lib.hid h1
  have H2 := Lib.hid h2
  have HN := Lib.hid hn
  have HM := Lib.hid hm
  have hc1 := h1.1
  have hc2 := h2.1
  rw [hn] at hc1
  rw [hm] at hc2
  have hcm1 : c1 ≤ 9223372036854775807 := by have := h1.2.1; unfold maxLen at this; omega
  have hcm2 : c2 ≤ 9223372036854775807 := by have := h2.2.1; unfold maxLen at this; omega
  clear h1 h2 hn hm
  by_cases hnm : n = m
  · subst hnm
    have hq : ((n : Int) != (n : Int)) = false := by simp
    go_enter Try.func12, Try.ntmps12
    go_wp2_with fail
    go_loopw [5] (fun i wr => ∃ j : Nat, i = .int .i64 j ∧ j ≤ n ∧ Below w.heap.size w wr ∧ Hid (∀ k, k < j → ts[k]? = us[k]?)) (fun i _ => n - (intOf i).toNat)
    case atStart => exact ⟨0, rfl, by omega, Below.refl _ _, Lib.hid (fun k h => by omega)⟩
    case round =>
      obtain ⟨j, rfl, hj, hb, HA⟩ := hrel
      have HB := Lib.hid hb
      clear hb
      by_cases hjn : (j : Int) < n
      · obtain ⟨t, ht⟩ : ∃ t, ts[j]? = some t := ⟨ts[j]'(by have := HN.out; omega), List.getElem?_eq_getElem _⟩
        obtain ⟨u, hu⟩ : ∃ u, us[j]? = some u := ⟨us[j]'(by have := HM.out; omega), List.getElem?_eq_getElem _⟩
        obtain ⟨b1, o1, rfl, p0, p1, p2, p3⟩ := (H1.out.later HB.out).x4 ht
        obtain ⟨b2, o2, rfl, q0, q1, q2, q3⟩ := (H2.out.later HB.out).x4 hu
        have HT := Lib.hid ht
        have HU := Lib.hid hu
        clear ht hu
        by_cases he : t = u
        · have hde : (!decide (t = u)) = false := by simpa using he
          have HA2 : Hid (∀ k, k < j + 1 → ts[k]? = us[k]?) := Lib.hid (fun k hk => by
            by_cases e : k = j
            · subst e; rw [HT.out, HU.out, he]
            · exact HA.out k (by omega))
          have HE := Lib.hid hde
          clear he hde
          go_upto_region 6 with fail
          refine wp_region_quiet_lit (by kernel_rfl) (by kernel_rfl) ?_
          repeat (go_big_quiet_step (fail))
          go_big_quiet_want
          refine quiet_neX t u rfl rfl rfl HE.out ?_
          go_big_quiet_on
          simp only [Act.put, List.setIfInBounds_toArray, List.set_cons_succ, List.set_cons_zero]
          refine wpQuiet_nil ?_
          intro _ hw'
          obtain ⟨nq, hw''⟩ := hw'
          subst hw''
          go_wp2_with fail
          go_roundw
          case rel => exact ⟨j + 1, by go_num, by omega, HB.out.trans ((below_drewN _ _).mono HB.out.size), HA2⟩
          case measure => simp [intOf]; omega
        · have hde : (!decide (t = u)) = true := by simpa using he
          have HF := Lib.hid (sameXt_no (a := ts) (b := us) (j := j) (by rw [HT.out, HU.out]; simpa using he))
          have HE := Lib.hid hde
          clear he hde
          go_upto_region 6 with fail
          refine wp_region_quiet_lit (by kernel_rfl) (by kernel_rfl) ?_
          repeat (go_big_quiet_step (fail))
          go_big_quiet_want
          refine quiet_neX t u rfl rfl rfl HE.out ?_
          go_big_quiet_on
          simp only [Act.put, List.setIfInBounds_toArray, List.set_cons_succ, List.set_cons_zero]
          refine wpQuiet_nil ?_
          intro _ hw'
          obtain ⟨nq, hw''⟩ := hw'
          subst hw''
          go_wp2_with fail
          go_ret
          exact ⟨ret_bool HF.out.symm, HB.out.trans ((below_drewN _ _).mono HB.out.size)⟩
      · have : j = n := by omega
        subst this
        have HF := Lib.hid (sameXt_yes HN.out HM.out HA.out)
        go_wp2_with fail
        go_ret
        exact ⟨ret_bool HF.out.symm, HB.out⟩
  · have hq : ((n : Int) != (m : Int)) = true := by simp; omega
    have HF : Hid (decide (ts = us) = false) := Lib.hid (by rw [decide_eq_false_iff_not]; intro e; rw [e, HM.out] at HN; exact hnm HN.out.symm)
    clear hnm
    go_enter Try.func12, Try.ntmps12
    go_wp2_with fail
    go_ret
    exact ⟨ret_bool HF.out.symm, Below.refl _ _⟩
end Go.Proofs.Ytalgjoeinllllaa
