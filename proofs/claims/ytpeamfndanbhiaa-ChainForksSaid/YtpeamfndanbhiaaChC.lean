/- Chains: how two lie to each other; the program's and the document's own. -/
import Derived.Test.YtpeamfndanbhiaaChA
import Derived.Test.YtpeamfndanbhiaaChLaw
import Derived.BigQuiet
import Derived.Lib.MinMax
import Derived.Deep.DeepCutAuto
namespace Go.Proofs.Ytpeamfndanbhiaa
open Go.RowKit Go.Proofs
set_option linter.unusedVariables false
set_option linter.unusedSimpArgs false

theorem alike_is {a b : List Tg} {j : Nat} (h : ∀ m, m < j → a[m]? = b[m]?) (ha : j ≤ a.length) (hb : j ≤ b.length) (hs : j = a.length ∨ j = b.length ∨ a[j]? ≠ b[j]?) : alike a b = j := by
  have hle := alike_le a b
  have hle2 := alike_le' a b
  rcases Nat.lt_trichotomy (alike a b) j with h1 | h1 | h1
  · exact absurd (h _ h1) (alike_stop a b (by omega) (by omega))
  · exact h1
  · rcases hs with hs | hs | hs
    · omega
    · omega
    · exact absurd (alike_get a b h1) hs

/-- '==' and '!=' of two tags, in a region that only reads. -/
theorem quiet_eqT {C : World → Prop} {o : Oper} {a : Act} {K : Act → Prop} (t u : Tg) {x y : Operand} {b : Bool} (ho : o.op = .binOp .eql 43 x y 43) (hx : a.eval x = .agg #[.int .i64 t.id, .int .i64 t.owner, .int .i64 t.heir, .int .i64 t.at'])
    (hy : a.eval y = .agg #[.int .i64 u.id, .int .i64 u.owner, .int .i64 u.heir, .int .i64 u.at']) (hb : decide (t = u) = b) (hk : K (a.put o.dst (.bool b))) : o.quiet Try.prog a C K :=
  ⟨.bool b, fun w _ => by unfold Oper.quietAt execOp; rw [ho]; subst hb; simp only [hx, hy, Sem.run_bind, tag_guard, tag_eql, Result.andThen_ok, Sem.run_pure]; exact ⟨rfl, rfl⟩, hk⟩
theorem quiet_neT {C : World → Prop} {o : Oper} {a : Act} {K : Act → Prop} (t u : Tg) {x y : Operand} {b : Bool} (ho : o.op = .binOp .neq 43 x y 43) (hx : a.eval x = .agg #[.int .i64 t.id, .int .i64 t.owner, .int .i64 t.heir, .int .i64 t.at'])
    (hy : a.eval y = .agg #[.int .i64 u.id, .int .i64 u.owner, .int .i64 u.heir, .int .i64 u.at']) (hb : (!decide (t = u)) = b) (hk : K (a.put o.dst (.bool b))) : o.quiet Try.prog a C K :=
  ⟨.bool b, fun w _ => by unfold Oper.quietAt execOp; rw [ho]; subst hb; simp only [hx, hy, Sem.run_bind, tag_guard, tag_neq, Result.andThen_ok, Sem.run_pure]; exact ⟨rfl, rfl⟩, hk⟩
theorem run_min4 (w : World) (ts : Array TypeId) (t : TypeId) (x y z u : Int) : (Builtin.min_ ts t #[.int .i64 x, .int .i64 y, .int .i64 z, .int .i64 u]).run Try.prog w = .ok (.int .i64 (min (min (min x y) z) u)) w := by
  have e : ∀ a b : Int, (if b < a then b else a) = min a b := fun a b => by rw [Int.min_def]; split <;> split <;> omega
  simp [Builtin.min_, Builtin.min2, e]

set_option maxRecDepth 20000 in
set_option maxHeartbeats 3200000 in
theorem alike_any (a1 a2 : Option Addr) (n m c1 c2 : Nat) (ts us : List Tg) (w : World) (h1 : TRow w a1 c1 ts) (h2 : TRow w a2 c2 us) (hn : ts.length = n) (hm : us.length = m) :
    Calls Try.prog 41 #[.slice a1 n c1, .slice a2 m c2] w fun e w' => e = .returned (.int .i64 (alike ts us : Nat)) ∧ Below w.heap.size w w' := by
  have H1 := Lib.hid h1
  have H2 := Lib.hid h2
  have HN := Lib.hid hn
  have HM := Lib.hid hm
  have hc1 := h1.1
  have hc2 := h2.1
  rw [hn] at hc1
  rw [hm] at hc2
  have hcm1 : c1 ≤ 9223372036854775807 := by have := h1.2.1; unfold maxLen at this; omega
  have hcm2 : c2 ≤ 9223372036854775807 := by have := h2.2.1; unfold maxLen at this; omega
  clear h1 h2 hn hm
  go_enter Try.func41, Try.ntmps41
  go_wp2_with fail
  go_loopw [5] (fun i wr => ∃ j : Nat, i = .int .i64 j ∧ j ≤ n ∧ j ≤ m ∧ Below w.heap.size w wr ∧ Hid (∀ k, k < j → ts[k]? = us[k]?)) (fun i _ => n - (intOf i).toNat)
  case atStart => exact ⟨0, rfl, by omega, by omega, Below.refl _ _, Lib.hid (fun k h => by omega)⟩
  case round =>
    obtain ⟨j, rfl, hj, hj2, hb, HA⟩ := hrel
    have HB := Lib.hid hb
    clear hb
    by_cases hjn : j < n
    · have hd1 : decide (j < n) = true := by simpa using hjn
      by_cases hjm : j < m
      · have hd2 : decide (j < m) = true := by simpa using hjm
        obtain ⟨t, ht⟩ : ∃ t, ts[j]? = some t := ⟨ts[j]'(by have := HN.out; omega), List.getElem?_eq_getElem _⟩
        obtain ⟨u, hu⟩ : ∃ u, us[j]? = some u := ⟨us[j]'(by have := HM.out; omega), List.getElem?_eq_getElem _⟩
        obtain ⟨b1, o1, rfl, p0, p1, p2, p3⟩ := (H1.out.later HB.out).at ht
        obtain ⟨b2, o2, rfl, q0, q1, q2, q3⟩ := (H2.out.later HB.out).at hu
        have HT := Lib.hid ht
        have HU := Lib.hid hu
        clear ht hu
        by_cases he : t = u
        · have hde : decide (t = u) = true := by simpa using he
          have HA2 : Hid (∀ k, k < j + 1 → ts[k]? = us[k]?) := Lib.hid (fun k hk => by
            by_cases e : k = j
            · subst e; rw [HT.out, HU.out, he]
            · exact HA.out k (by omega))
          have HE := Lib.hid hde
          clear he hde
          go_upto_region 2 with fail
          refine wp_region_quiet_lit (by kernel_rfl) (by kernel_rfl) ?_
          repeat (go_big_quiet_step (fail))
          go_big_quiet_want
          refine quiet_eqT t u rfl rfl rfl HE.out ?_
          go_big_quiet_on
          simp only [Act.put, List.setIfInBounds_toArray, List.set_cons_succ, List.set_cons_zero]
          repeat (go_big_quiet_step (fail))
          refine wpQuiet_nil ?_
          intro _ hw'
          obtain ⟨nq, hw''⟩ := hw'
          subst hw''
          go_wp2_with fail
          go_roundw
          case rel => exact ⟨j + 1, by go_num, by omega, by omega, HB.out.trans ((below_drewN _ _).mono HB.out.size), HA2⟩
          case measure => simp [intOf]; omega
        · have hde : decide (t = u) = false := by simpa using he
          have HF := Lib.hid (alike_is HA.out (by have := HN.out; omega) (by have := HM.out; omega) (.inr (.inr (by rw [HT.out, HU.out]; simpa using he))))
          have HE := Lib.hid hde
          clear he hde
          go_upto_region 2 with fail
          refine wp_region_quiet_lit (by kernel_rfl) (by kernel_rfl) ?_
          repeat (go_big_quiet_step (fail))
          go_big_quiet_want
          refine quiet_eqT t u rfl rfl rfl HE.out ?_
          go_big_quiet_on
          simp only [Act.put, List.setIfInBounds_toArray, List.set_cons_succ, List.set_cons_zero]
          repeat (go_big_quiet_step (fail))
          refine wpQuiet_nil ?_
          intro _ hw'
          obtain ⟨nq, hw''⟩ := hw'
          subst hw''
          go_wp2_with fail
          go_ret
          exact ⟨ret_int (by rw [HF.out]), HB.out.trans ((below_drewN _ _).mono HB.out.size)⟩
      · have hd2 : decide (j < m) = false := by simpa using hjm
        have HF := Lib.hid (alike_is HA.out (by have := HN.out; omega) (by have := HM.out; omega) (.inr (.inl (by have := HM.out; omega))))
        go_upto_region 2 with fail
        go_quiet (fail)
        go_wp2_with fail
        go_ret
        exact ⟨ret_int (by rw [HF.out]), HB.out.trans ((below_drewN _ _).mono HB.out.size)⟩
    · have hd1 : decide (j < n) = false := by simpa using hjn
      have HF := Lib.hid (alike_is HA.out (by have := HN.out; omega) (by have := HM.out; omega) (.inl (by have := HN.out; omega)))
      go_upto_region 2 with fail
      go_quiet (fail)
      go_wp2_with fail
      go_ret
      exact ⟨ret_int (by rw [HF.out]), HB.out.trans ((below_drewN _ _).mono HB.out.size)⟩

set_option maxHeartbeats 800000 in
theorem behind_any (a1 : Option Addr) (n c1 k : Nat) (ts : List Tg) (E : Int) (w : World) (h1 : TRow w a1 c1 ts) (hn : ts.length = n) :
    Calls Try.prog 42 #[.slice a1 n c1, .int .i64 k, .int .i64 E] w fun e w' => e = .returned (.int .i64 (atOr ts k E)) ∧ w = w' := by
  by_cases hk : k < n
  · obtain ⟨t, ht⟩ : ∃ t, ts[k]? = some t := ⟨ts[k]'(by omega), List.getElem?_eq_getElem _⟩
    obtain ⟨b1, o1, rfl, p0, p1, p2, p3⟩ := h1.at ht
    have HF : Hid (atOr ts k E = t.at') := Lib.hid (by unfold atOr; rw [ht])
    clear h1 hn ht
    go_enter Try.func42, Try.ntmps42
    go_wp2_with fail
    go_ret
    exact ⟨ret_int HF.out.symm, rfl⟩
  · have HF : Hid (atOr ts k E = E) := Lib.hid (by unfold atOr; rw [List.getElem?_eq_none (by omega)])
    clear h1 hn
    go_enter Try.func42, Try.ntmps42
    go_wp2_with fail
    go_ret
    exact ⟨ret_int HF.out.symm, rfl⟩

theorem begins_alike (a b : List Tg) (ae be : Int) : beginsC a ae b be = (decide (alike a b = a.length) && decide (ae ≤ atOr b a.length be)) := by
  unfold beginsC
  congr 1
  cases h : headOf a b with
  | true => rw [alike_head h]; simp
  | false =>
    symm
    rw [decide_eq_false_iff_not]
    intro e
    have hl := alike_le a b
    have : headOf a b = true := headOf_iff.2 (List.ext_getElem? fun i => by
      rw [List.getElem?_take]
      split
      · exact (alike_get a b (by omega)).symm
      · rw [List.getElem?_eq_none (by omega)])
    rw [h] at this; cases this
set_option maxHeartbeats 1600000 in
theorem begins_any (a1 a2 : Option Addr) (n m c1 c2 : Nat) (ts us : List Tg) (x y : Int) (w : World) (h1 : TRow w a1 c1 ts) (h2 : TRow w a2 c2 us) (hn : ts.length = n) (hm : us.length = m) :
    Calls Try.prog 24 #[.slice a1 n c1, .int .i64 x, .slice a2 m c2, .int .i64 y] w fun e w' => e = .returned (.bool (beginsC ts x us y)) ∧ Below w.heap.size w w' := by
  have HK := Lib.hid (alike_any a1 a2 n m c1 c2 ts us w h1 h2 hn hm)
  have H2 := Lib.hid h2
  have HM := Lib.hid hm
  have HB := Lib.hid (begins_alike ts us x y)
  rw [hn] at HB
  clear h1 h2 hm hn
  obtain ⟨A, hA⟩ : ∃ A, alike ts us = A := ⟨_, rfl⟩
  rw [hA] at HK HB
  clear hA
  by_cases hAn : A = n
  · subst hAn
    have ht : decide (A = A) = true := by simp
    rw [ht] at HB
    clear ht
    go_enter Try.func24, Try.ntmps24
    go_wp2_with (first | (go_at_call 41; refine HK.out.mono ?_; rintro e w1 ⟨rfl, hb⟩; have HW := Lib.hid hb; clear hb) | (go_at_call 42; refine (behind_any a2 m c2 A us y w1 (H2.out.later HW.out) HM.out).mono ?_; rintro e w2 ⟨rfl, rfl⟩))
    go_ret
    exact ⟨ret_bool (by rw [HB.out]; simp), HW.out⟩
  · have hf : decide (A = n) = false := by simpa using hAn
    have hq : ((A : Int) == (n : Int)) = false := by simp; omega
    rw [hf] at HB
    clear hf
    go_enter Try.func24, Try.ntmps24
    go_wp2_with (first | (go_at_call 41; refine HK.out.mono ?_; rintro e w1 ⟨rfl, hb⟩; have HW := Lib.hid hb; clear hb))
    go_ret
    exact ⟨ret_bool (by rw [HB.out]; simp), HW.out⟩
set_option maxHeartbeats 1600000 in
theorem compare_any (a1 a2 : Option Addr) (n m c1 c2 : Nat) (ts us : List Tg) (x y : Int) (w : World) (h1 : TRow w a1 c1 ts) (h2 : TRow w a2 c2 us) (hn : ts.length = n) (hm : us.length = m) :
    Calls Try.prog 26 #[.slice a1 n c1, .int .i64 x, .slice a2 m c2, .int .i64 y] w fun e w' => e = .returned (.int .i64 (compareC ts x us y)) ∧ Below w.heap.size w w' := by
  have HK1 := Lib.hid (begins_any a1 a2 n m c1 c2 ts us x y w h1 h2 hn hm)
  have HK2 := Lib.hid (fun W (h : Below w.heap.size w W) => begins_any a2 a1 m n c2 c1 us ts y x W (h2.later h) (h1.later h) hm hn)
  have HC : Hid (compareC ts x us y = if beginsC ts x us y then (if beginsC us y ts x then 0 else -1) else (if beginsC us y ts x then 1 else 2)) := Lib.hid rfl
  clear h1 h2 hm hn
  cases hp : beginsC ts x us y <;> cases hq : beginsC us y ts x
  all_goals
    rw [hp] at HK1 HC
    rw [hq] at HK2 HC
    clear hp hq
    go_enter Try.func26, Try.ntmps26
    go_wp2_with fail
    refine HK1.out.mono ?_
    rintro e w1 ⟨rfl, hb⟩
    have HW := Lib.hid hb
    clear hb
    go_wp2_with fail
    refine (HK2.out w1 HW.out).mono ?_
    rintro e w2 ⟨rfl, hb2⟩
    go_wp2_with fail
    go_ret
    exact ⟨by rw [HC.out]; rfl, HW.out.trans (hb2.mono HW.out.size)⟩
theorem fork_alike (a b : List Tg) (ae be : Int) : forkC a ae b be = max 0 (min (min (min ae be) (atOr a (alike a b) ae)) (atOr b (alike a b) be)) := by
  unfold forkC minAt atOr
  cases a[alike a b]? <;> cases b[alike a b]? <;> simp only <;> omega
set_option maxHeartbeats 1600000 in
theorem fork_any (a1 a2 : Option Addr) (n m c1 c2 : Nat) (ts us : List Tg) (x y : Int) (w : World) (h1 : TRow w a1 c1 ts) (h2 : TRow w a2 c2 us) (hn : ts.length = n) (hm : us.length = m) :
    Calls Try.prog 28 #[.slice a1 n c1, .int .i64 x, .slice a2 m c2, .int .i64 y] w fun e w' => e = .returned (.int .i64 (forkC ts x us y)) ∧ Below w.heap.size w w' := by
  have HK := Lib.hid (alike_any a1 a2 n m c1 c2 ts us w h1 h2 hn hm)
  have H1 := Lib.hid h1
  have HN := Lib.hid hn
  have H2 := Lib.hid h2
  have HM := Lib.hid hm
  have HB := Lib.hid (fork_alike ts us x y)
  clear h1 h2 hm hn
  obtain ⟨A, hA⟩ : ∃ A, alike ts us = A := ⟨_, rfl⟩
  rw [hA] at HK HB
  clear hA
  go_enter Try.func28, Try.ntmps28
  go_wp2_with fail
  refine HK.out.mono ?_
  rintro e w1 ⟨rfl, hb⟩
  have HW := Lib.hid hb
  clear hb
  go_wp2_with fail
  refine (behind_any a1 n c1 A ts x w1 (H1.out.later HW.out) HN.out).mono ?_
  rintro e w2 ⟨rfl, rfl⟩
  obtain ⟨X, hX⟩ : ∃ X, atOr ts A x = X := ⟨_, rfl⟩
  rw [hX] at HB ⊢
  clear hX
  go_wp2_with fail
  refine (behind_any a2 m c2 A us y w1 (H2.out.later HW.out) HM.out).mono ?_
  rintro e w2 ⟨rfl, rfl⟩
  obtain ⟨Y, hY⟩ : ∃ Y, atOr us A y = Y := ⟨_, rfl⟩
  rw [hY] at HB ⊢
  clear hY
  have hmin := fun W ts t => run_min4 W ts t x y X Y
  go_wp2_with fail
  go_ret
  exact ⟨ret_int (by rw [HB.out]; omega), HW.out⟩
end Go.Proofs.Ytpeamfndanbhiaa
