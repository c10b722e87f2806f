/- Chains: how two lie to each other; the program's and the document's own. | Chains: the same, the document's own answers of how two lie; the next number, the tag of an entry, a chain cut off. | Chains: the document's Fork; the next number; a chain cut off; the document's tag of an entry. -/
import Derived.Test.YtiahifpbofkimaaGH
import Derived.Test.YtiahifpbofkimaaGA
import Derived.BigQuiet
import Derived.Lib.MinMax
import Derived.Deep.DeepCutAuto
namespace Go.Proofs.Ytiahifpbofkimaa
open Go.RowKit Go.Proofs
set_option linter.unusedVariables false
set_option linter.unusedSimpArgs false

theorem alike_is {a b : List Tg} {j : Nat} (h : ∀ m, m < j → a[m]? = b[m]?) (ha : j ≤ a.length) (hb : j ≤ b.length) (hs : j = a.length ∨ j = b.length ∨ a[j]? ≠ b[j]?) : alike a b = j := by
  have hle := alike_le a b
  have hle2 := alike_le' a b
  rcases Nat.lt_trichotomy (alike a b) j with h1 | h1 | h1
  · exact absurd (h _ h1) (alike_stop a b (by omega) (by omega))
  · exact h1
  · rcases hs with hs | hs | hs
    · omega
    · omega
    · exact absurd (alike_get a b h1) hs

/-- '==' and '!=' of two tags, in a region that only reads. -/
theorem quiet_eqT {C : World → Prop} {o : Oper} {a : Act} {K : Act → Prop} (t u : Tg) {x y : Operand} {b : Bool} (ho : o.op = .binOp .eql 85 x y 85) (hx : a.eval x = .agg #[.int .i64 t.id, .int .i64 t.owner, .int .i64 t.heir, .int .i64 t.at'])
    (hy : a.eval y = .agg #[.int .i64 u.id, .int .i64 u.owner, .int .i64 u.heir, .int .i64 u.at']) (hb : decide (t = u) = b) (hk : K (a.put o.dst (.bool b))) : o.quiet Try.prog a C K :=
  ⟨.bool b, fun w _ => by unfold Oper.quietAt execOp; rw [ho]; subst hb; simp only [hx, hy, Sem.run_bind, tag_guard, tag_eql, Result.andThen_ok, Sem.run_pure]; exact ⟨rfl, rfl⟩, hk⟩
theorem quiet_neT {C : World → Prop} {o : Oper} {a : Act} {K : Act → Prop} (t u : Tg) {x y : Operand} {b : Bool} (ho : o.op = .binOp .neq 85 x y 85) (hx : a.eval x = .agg #[.int .i64 t.id, .int .i64 t.owner, .int .i64 t.heir, .int .i64 t.at'])
    (hy : a.eval y = .agg #[.int .i64 u.id, .int .i64 u.owner, .int .i64 u.heir, .int .i64 u.at']) (hb : (!decide (t = u)) = b) (hk : K (a.put o.dst (.bool b))) : o.quiet Try.prog a C K :=
  ⟨.bool b, fun w _ => by unfold Oper.quietAt execOp; rw [ho]; subst hb; simp only [hx, hy, Sem.run_bind, tag_guard, tag_neq, Result.andThen_ok, Sem.run_pure]; exact ⟨rfl, rfl⟩, hk⟩
theorem run_min4 (w : World) (ts : Array TypeId) (t : TypeId) (x y z u : Int) : (Builtin.min_ ts t #[.int .i64 x, .int .i64 y, .int .i64 z, .int .i64 u]).run Try.prog w = .ok (.int .i64 (min (min (min x y) z) u)) w := by
  have e : ∀ a b : Int, (if b < a then b else a) = min a b := fun a b => by rw [Int.min_def]; split <;> split <;> omega
  simp [Builtin.min_, Builtin.min2, e]

theorem begins_alike (a b : List Tg) (ae be : Int) : beginsC a ae b be = (decide (alike a b = a.length) && decide (ae ≤ atOr b a.length be)) := by
  unfold beginsC
  congr 1
  cases h : headOf a b with
  | true => rw [alike_head h]; simp
  | false =>
    symm
    rw [decide_eq_false_iff_not]
    intro e
    have hl := alike_le a b
    have : headOf a b = true := headOf_iff.2 (List.ext_getElem? fun i => by
      rw [List.getElem?_take]
      split
      · exact (alike_get a b (by omega)).symm
      · rw [List.getElem?_eq_none (by omega)])
    rw [h] at this; cases this
theorem fork_alike (a b : List Tg) (ae be : Int) : forkC a ae b be = max 0 (min (min (min ae be) (atOr a (alike a b) ae)) (atOr b (alike a b) be)) := by
  unfold forkC minAt atOr
  cases a[alike a b]? <;> cases b[alike a b]? <;> simp only <;> omega
theorem k_B : kTg.B := by unfold Tg.B I64 kTg; decide
end Go.Proofs.Ytiahifpbofkimaa
namespace Go.Proofs.Ytiahifpbofkimaa
open Go.RowKit Go.Proofs
set_option linter.unusedVariables false
set_option linter.unusedSimpArgs false

theorem eq_of_get {ts us : List Tg} {n : Nat} (hn : ts.length = n) (hm : us.length = n) (h : ∀ k, k < n → ts[k]? = us[k]?) : ts = us := by
  refine List.ext_getElem? fun i => ?_
  by_cases hi : i < n
  · exact h i hi
  · rw [List.getElem?_eq_none (by omega), List.getElem?_eq_none (by omega)]
/-- '==' of two tags, in a region that only reads: its answer is whatever. -/
theorem ne_of_get {ts us : List Tg} {j : Nat} {t u : Tg} (h1 : ts[j]? = some t) (h2 : us[j]? = some u) (h : t ≠ u) : decide (ts = us) = false := by
  rw [decide_eq_false_iff_not]
  intro e
  rw [e, h2] at h1
  cases h1
  exact h rfl

set_option maxRecDepth 20000 in
set_option maxHeartbeats 3200000 in
theorem chsame_any (a1 a2 : Option Addr) (n m c1 c2 : Nat) (ts us : List Tg) (w : World) (h1 : TRow w a1 c1 ts) (h2 : TRow w a2 c2 us) (hn : ts.length = n) (hm : us.length = m) :
    Calls Try.prog 36 #[.slice a1 n c1, .slice a2 m c2] w fun e w' => e = .returned (.bool (decide (ts = us))) ∧ Below w.heap.size w w' := by
  have H1 := Lib.hid h1
  have H2 := Lib.hid h2
  have HN := Lib.hid hn
  have HM := Lib.hid hm
  have hc1 := h1.1
  have hc2 := h2.1
  rw [hn] at hc1
  rw [hm] at hc2
  have hcm1 : c1 ≤ 9223372036854775807 := by have := h1.2.1; unfold maxLen at this; omega
  have hcm2 : c2 ≤ 9223372036854775807 := by have := h2.2.1; unfold maxLen at this; omega
  clear h1 h2 hn hm
  by_cases hnm : n = m
  · subst hnm
    go_enter Try.func36, Try.ntmps36
    go_wp2_with fail
    go_loopw [5] (fun i wr => ∃ j : Nat, i = .int .i64 j ∧ j ≤ n ∧ Below w.heap.size w wr ∧ Hid (∀ k, k < j → ts[k]? = us[k]?)) (fun i _ => n - (intOf i).toNat)
    case atStart => exact ⟨0, rfl, by omega, Below.refl _ _, Lib.hid (fun k h => by omega)⟩
    case round =>
      obtain ⟨j, rfl, hj, hb, HA⟩ := hrel
      have HB := Lib.hid hb
      clear hb
      by_cases hjn : (j : Int) < n
      · obtain ⟨t, ht⟩ : ∃ t, ts[j]? = some t := ⟨ts[j]'(by have := HN.out; omega), List.getElem?_eq_getElem _⟩
        obtain ⟨u, hu⟩ : ∃ u, us[j]? = some u := ⟨us[j]'(by have := HM.out; omega), List.getElem?_eq_getElem _⟩
        obtain ⟨b1, o1, rfl, p0, p1, p2, p3⟩ := (H1.out.later HB.out).at ht
        obtain ⟨b2, o2, rfl, q0, q1, q2, q3⟩ := (H2.out.later HB.out).at hu
        have HT := Lib.hid ht
        have HU := Lib.hid hu
        clear ht hu
        by_cases he : t = u
        · have HE : Hid ((!decide (t = u)) = false) := Lib.hid (by simpa using he)
          have HA2 : Hid (∀ k, k < j + 1 → ts[k]? = us[k]?) := Lib.hid (fun k hk => by
            by_cases e : k = j
            · subst e; rw [HT.out, HU.out, he]
            · exact HA.out k (by omega))
          clear he
          go_upto_region 6 with fail
          refine wp_region_quiet_lit (by kernel_rfl) (by kernel_rfl) ?_
          repeat (go_big_quiet_step (fail))
          go_big_quiet_want
          refine quiet_neT t u rfl rfl rfl HE.out ?_
          go_big_quiet_on
          simp only [Act.put, List.setIfInBounds_toArray, List.set_cons_succ, List.set_cons_zero]
          refine wpQuiet_nil ?_
          intro _ hw'
          obtain ⟨nq, hw''⟩ := hw'
          subst hw''
          go_wp2_with fail
          go_roundw
          case rel => exact ⟨j + 1, by go_num, by omega, HB.out.trans ((below_drewN _ _).mono HB.out.size), HA2⟩
          case measure => simp [intOf]; omega
        · have HE : Hid ((!decide (t = u)) = true) := Lib.hid (by simpa using he)
          have HF := Lib.hid (ne_of_get HT.out HU.out he)
          clear he
          go_upto_region 6 with fail
          refine wp_region_quiet_lit (by kernel_rfl) (by kernel_rfl) ?_
          repeat (go_big_quiet_step (fail))
          go_big_quiet_want
          refine quiet_neT t u rfl rfl rfl HE.out ?_
          go_big_quiet_on
          simp only [Act.put, List.setIfInBounds_toArray, List.set_cons_succ, List.set_cons_zero]
          refine wpQuiet_nil ?_
          intro _ hw'
          obtain ⟨nq, hw''⟩ := hw'
          subst hw''
          go_wp2_with fail
          go_ret
          exact ⟨ret_bool HF.out.symm, HB.out.trans ((below_drewN _ _).mono HB.out.size)⟩
      · have : j = n := by omega
        subst this
        have HF : Hid (decide (ts = us) = true) := Lib.hid (by simpa using eq_of_get HN.out HM.out HA.out)
        go_wp2_with fail
        go_ret
        exact ⟨ret_bool HF.out.symm, HB.out⟩
  · have HF : Hid (decide (ts = us) = false) := Lib.hid (by rw [decide_eq_false_iff_not]; intro e; rw [e, HM.out] at HN; exact hnm HN.out.symm)
    have hq : ((n : Int) == (m : Int)) = false := by simp; omega
    have hq2 : ((n : Int) != (m : Int)) = true := by simp; omega
    go_enter Try.func36, Try.ntmps36
    go_wp2_with fail
    go_ret
    exact ⟨ret_bool HF.out.symm, Below.refl _ _⟩

set_option maxRecDepth 20000 in
set_option maxHeartbeats 3200000 in
theorem slEqual_any (a1 a2 : Option Addr) (n m c1 c2 : Nat) (ts us : List Tg) (w : World) (h1 : TRow w a1 c1 ts) (h2 : TRow w a2 c2 us) (hn : ts.length = n) (hm : us.length = m) :
    Calls Try.prog 83 #[.slice a1 n c1, .slice a2 m c2] w fun e w' => e = .returned (.bool (decide (ts = us))) ∧ Below w.heap.size w w' := by
  have H1 := Lib.hid h1
  have H2 := Lib.hid h2
  have HN := Lib.hid hn
  have HM := Lib.hid hm
  have hc1 := h1.1
  have hc2 := h2.1
  rw [hn] at hc1
  rw [hm] at hc2
  have hcm1 : c1 ≤ 9223372036854775807 := by have := h1.2.1; unfold maxLen at this; omega
  have hcm2 : c2 ≤ 9223372036854775807 := by have := h2.2.1; unfold maxLen at this; omega
  clear h1 h2 hn hm
  by_cases hnm : n = m
  · subst hnm
    go_enter Try.func83, Try.ntmps83
    go_wp2_with fail
    go_loopw [5, 13] (fun _ i wr => ∃ j : Nat, i = .int .i64 j ∧ j ≤ n ∧ Below w.heap.size w wr ∧ Hid (∀ k, k < j → ts[k]? = us[k]?)) (fun _ i _ => n - (intOf i).toNat)
    case atStart => exact ⟨0, rfl, by omega, Below.refl _ _, Lib.hid (fun k h => by omega)⟩
    case round =>
      obtain ⟨j, rfl, hj, hb, HA⟩ := hrel
      have HB := Lib.hid hb
      clear hb
      by_cases hjn : (j : Int) < n
      · obtain ⟨t, ht⟩ : ∃ t, ts[j]? = some t := ⟨ts[j]'(by have := HN.out; omega), List.getElem?_eq_getElem _⟩
        obtain ⟨u, hu⟩ : ∃ u, us[j]? = some u := ⟨us[j]'(by have := HM.out; omega), List.getElem?_eq_getElem _⟩
        obtain ⟨b1, o1, rfl, p0, p1, p2, p3⟩ := (H1.out.later HB.out).at ht
        obtain ⟨b2, o2, rfl, q0, q1, q2, q3⟩ := (H2.out.later HB.out).at hu
        have HT := Lib.hid ht
        have HU := Lib.hid hu
        clear ht hu
        by_cases he : t = u
        · have HE : Hid ((!decide (t = u)) = false) := Lib.hid (by simpa using he)
          have HA2 : Hid (∀ k, k < j + 1 → ts[k]? = us[k]?) := Lib.hid (fun k hk => by
            by_cases e : k = j
            · subst e; rw [HT.out, HU.out, he]
            · exact HA.out k (by omega))
          clear he
          go_upto_region 6 with fail
          refine wp_region_quiet_lit (by kernel_rfl) (by kernel_rfl) ?_
          repeat (go_big_quiet_step (fail))
          go_big_quiet_want
          refine quiet_neT t u rfl rfl rfl HE.out ?_
          go_big_quiet_on
          simp only [Act.put, List.setIfInBounds_toArray, List.set_cons_succ, List.set_cons_zero]
          refine wpQuiet_nil ?_
          intro _ hw'
          obtain ⟨nq, hw''⟩ := hw'
          subst hw''
          go_wp2_with fail
          go_roundw
          case rel => exact ⟨j + 1, by go_num, by omega, HB.out.trans ((below_drewN _ _).mono HB.out.size), HA2⟩
          case measure => simp [intOf]; omega
        · have HE : Hid ((!decide (t = u)) = true) := Lib.hid (by simpa using he)
          have HF := Lib.hid (ne_of_get HT.out HU.out he)
          clear he
          go_upto_region 6 with fail
          refine wp_region_quiet_lit (by kernel_rfl) (by kernel_rfl) ?_
          repeat (go_big_quiet_step (fail))
          go_big_quiet_want
          refine quiet_neT t u rfl rfl rfl HE.out ?_
          go_big_quiet_on
          simp only [Act.put, List.setIfInBounds_toArray, List.set_cons_succ, List.set_cons_zero]
          refine wpQuiet_nil ?_
          intro _ hw'
          obtain ⟨nq, hw''⟩ := hw'
          subst hw''
          go_wp2_with fail
          go_ret
          exact ⟨ret_bool HF.out.symm, HB.out.trans ((below_drewN _ _).mono HB.out.size)⟩
      · have : j = n := by omega
        subst this
        have HF : Hid (decide (ts = us) = true) := Lib.hid (by simpa using eq_of_get HN.out HM.out HA.out)
        go_wp2_with fail
        go_ret
        exact ⟨ret_bool HF.out.symm, HB.out⟩
  · have HF : Hid (decide (ts = us) = false) := Lib.hid (by rw [decide_eq_false_iff_not]; intro e; rw [e, HM.out] at HN; exact hnm HN.out.symm)
    have hq : ((n : Int) == (m : Int)) = false := by simp; omega
    have hq2 : ((n : Int) != (m : Int)) = true := by simp; omega
    go_enter Try.func83, Try.ntmps83
    go_wp2_with fail
    go_ret
    exact ⟨ret_bool HF.out.symm, Below.refl _ _⟩
set_option maxHeartbeats 800000 in
theorem psame_any (a1 a2 : Option Addr) (n m c1 c2 : Nat) (ts us : List Tg) (w : World) (h1 : TRow w a1 c1 ts) (h2 : TRow w a2 c2 us) (hn : ts.length = n) (hm : us.length = m) :
    Calls Try.prog 48 #[.slice a1 n c1, .slice a2 m c2] w fun e w' => e = .returned (.bool (decide (ts = us))) ∧ Below w.heap.size w w' := by
  have HK := Lib.hid (slEqual_any a1 a2 n m c1 c2 ts us w h1 h2 hn hm)
  clear h1 h2 hn hm
  go_enter Try.func48, Try.ntmps48
  go_wp2_with fail
  refine HK.out.mono ?_
  rintro e w1 ⟨rfl, hb⟩
  go_wp2_with fail
  go_ret
  exact ⟨rfl, hb⟩

/-! ### the document's Begins, Compare, Fork -/
/-- 's[:hi]' of tags that are there. -/
theorem run_slR {w W : World} {a : Option Addr} {m cap hi : Nat} {us : List Tg} (h : TRow w a cap us) (hm : us.length = m) (h2 : hi ≤ m) :
    (Instr.slice 22 (.slice a m cap) none (some (.int .i64 hi)) none).run Try.prog W = .ok (.slice a hi cap) W := by
  have hc := h.1
  have h3 : hi ≤ cap := by omega
  cases a with
  | none =>
    have := h.2.2.1 rfl
    obtain rfl : hi = 0 := by omega
    subst this
    simp [Instr.slice, Instr.sliceBounds, Instr.sliceBound, asIntOf, run_underlying Try.underlying22, Result.andThen]
  | some x =>
    by_cases h0 : cap = 0
    · obtain rfl : hi = 0 := by omega
      subst h0
      simp [Instr.slice, Instr.sliceBounds, Instr.sliceBound, asIntOf, run_underlying Try.underlying22, Result.andThen]
    · have e0 : x.add 0 = x := by unfold Addr.add; obtain ⟨b, o, s⟩ := x; cases s <;> simp_all
      simp [Instr.slice, Instr.sliceBounds, Instr.sliceBound, asIntOf, run_underlying Try.underlying22, Result.andThen, h3]
      simp [show ¬ cap = 0 by omega, e0]
end Go.Proofs.Ytiahifpbofkimaa
namespace Go.Proofs.Ytiahifpbofkimaa
open Go.RowKit Go.Proofs
set_option linter.unusedVariables false
set_option linter.unusedSimpArgs false

/-! ### the next number -/
def mostC (ts : List Tg) (j : Nat) : Int := nextMost (ts.take j)
theorem most_zero (ts : List Tg) : mostC ts 0 = 0 := by unfold mostC nextMost; simp
theorem most_succ {ts : List Tg} {j : Nat} {t : Tg} (ht : ts[j]? = some t) : mostC ts (j + 1) = max (mostC ts j) t.id := by
  obtain ⟨h, rfl⟩ := List.getElem?_eq_some_iff.1 ht
  unfold mostC nextMost
  rw [List.take_succ_eq_append_getElem h, List.foldl_append]
  rfl
theorem most_all {ts : List Tg} {n : Nat} (h : ts.length = n) : mostC ts n = nextMost ts := by unfold mostC; rw [← h, List.take_length]
theorem next_over {ts : List Tg} (h : 1073741824 < nextMost ts) (s : Int) : nextC ts s = 0 := by
  unfold nextC
  rw [if_pos]
  rw [List.any_eq_true]
  refine Classical.byContradiction fun hx => ?_
  have := foldl_top ts 0 1073741824 (by omega) fun t ht => by
    refine Classical.byContradiction fun h2 => hx ⟨t, ht, by simp; omega⟩
  unfold nextMost at h
  omega
theorem next_under {ts : List Tg} (h : nextMost ts ≤ 1073741824) (s : Int) : nextC ts s = if decide ((nextMost ts + 1) % 2 = 1) = decide (s = 1) then nextMost ts + 1 else nextMost ts + 1 + 1 :=
  next_few (fun t ht => by have := (foldl_max ts 0).2 t ht; unfold nextMost at h; omega) s
theorem most_pos (ts : List Tg) : 0 ≤ nextMost ts := (foldl_max ts 0).1
set_option maxHeartbeats 1600000 in
theorem chrnext_any (a : Option Addr) (n c : Nat) (ts : List Tg) (s : Int) (w : World) (h : TRow w a c ts) (hn : ts.length = n) :
    Calls Try.prog 84 #[.slice a n c, .int .i64 s] w fun e w' => e = .returned (.int .i64 (nextC ts s)) ∧ w = w' := by
  have HR := Lib.hid h
  have HN := Lib.hid hn
  have hc1 := h.1
  rw [hn] at hc1
  have hcm1 : c ≤ 9223372036854775807 := by have := h.2.1; unfold maxLen at this; omega
  clear h hn
  go_enter Try.func84, Try.ntmps84
  go_wp2_with fail
  go_loop [5, 6] (fun h i => ∃ (j : Nat) (q : Int), i = .int .i64 j ∧ h = .int .i64 q ∧ j ≤ n ∧ q ≤ 1073741824 ∧ Hid (mostC ts j = q)) (fun _ i => n - (intOf i).toNat)
  case atStart => exact ⟨0, 0, rfl, rfl, by omega, by omega, Lib.hid (most_zero ts)⟩
  case round =>
    obtain ⟨j, q, rfl, rfl, hj, hq, HQ⟩ := hrel
    by_cases hjn : (j : Int) < n
    · obtain ⟨t, ht⟩ : ∃ t, ts[j]? = some t := ⟨ts[j]'(by have := HN.out; omega), List.getElem?_eq_getElem _⟩
      obtain ⟨b1, o1, rfl, p0, p1, p2, p3⟩ := HR.out.at ht
      have HQ2 : Hid (mostC ts (j + 1) = max q t.id) := Lib.hid (by rw [most_succ ht, HQ.out])
      have HM := Lib.hid (List.mem_of_getElem? ht)
      clear ht
      by_cases ho : 1073741824 < t.id
      · have HF := Lib.hid (next_over (ts := ts) (by have : t.id ≤ nextMost ts := (foldl_max ts 0).2 t HM.out; omega) s)
        go_wp2_with fail
        go_ret
        exact ⟨ret_int HF.out.symm, rfl⟩
      · go_wp2_with fail
        go_round
        case rel => exact ⟨j + 1, _, by go_num, rfl, by omega, by omega, HQ2⟩
        case measure => simp [intOf]; omega
    · have : j = n := by omega
      subst this
      have HQ2 : Hid (nextMost ts = q) := Lib.hid (by rw [← HQ.out, most_all HN.out])
      have hq0 : 0 ≤ q := by have := most_pos ts; rw [HQ2.out] at this; exact this
      have HF := Lib.hid (next_under (ts := ts) (by rw [HQ2.out]; omega) s)
      rw [HQ2.out] at HF
      have hm : (q + 1) % 2 = 0 ∨ (q + 1) % 2 = 1 := by omega
      by_cases hs : s = 1
      · subst hs
        rcases hm with hm | hm
        · have HX : Hid (nextC ts 1 = q + 1 + 1) := Lib.hid (by rw [HF.out, hm]; rfl)
          go_wp2_with fail
          go_ret
          exact ⟨ret_int HX.out.symm, rfl⟩
        · have HX : Hid (nextC ts 1 = q + 1) := Lib.hid (by rw [HF.out, hm]; rfl)
          go_wp2_with fail
          go_ret
          exact ⟨ret_int HX.out.symm, rfl⟩
      · have hsd : (s == 1) = false := by simpa using hs
        rcases hm with hm | hm
        · have HX : Hid (nextC ts s = q + 1) := Lib.hid (by rw [HF.out, hm, if_pos (by simp [hs])])
          clear hs
          go_wp2_with fail
          go_ret
          exact ⟨ret_int HX.out.symm, rfl⟩
        · have HX : Hid (nextC ts s = q + 1 + 1) := Lib.hid (by rw [HF.out, hm, if_neg (by simp [hs])])
          clear hs
          go_wp2_with fail
          go_ret
          exact ⟨ret_int HX.out.symm, rfl⟩
/-! ### the tag of an entry; a chain cut off -/
theorem of_snoc {ts : List Tg} {j : Nat} {t : Tg} (ht : ts[j]? = some t) (s : Int) : ofC (ts.take (j + 1)) s = if t.at' < s then t.id else ofC (ts.take j) s := by
  obtain ⟨h, rfl⟩ := List.getElem?_eq_some_iff.1 ht
  unfold ofC
  rw [List.take_succ_eq_append_getElem h, List.foldl_append]
  rfl
theorem cut_is {ts : List Tg} {s : Int} {j : Nat} (h : ∀ k t, k < j → ts[k]? = some t → t.at' ≤ s) (hj : j ≤ ts.length) (hs : ∀ t, ts[j]? = some t → ¬ t.at' ≤ s) : cutC ts s = ts.take j := by
  induction j generalizing ts with
  | zero =>
    cases ts with
    | nil => rfl
    | cons t ts =>
      unfold cutC
      rw [List.takeWhile_cons, if_neg (by have := hs t rfl; simpa using this)]
      rfl
  | succ j ih =>
    cases ts with
    | nil => simp at hj
    | cons t ts =>
      have h0 := h 0 t (by omega) rfl
      unfold cutC
      rw [List.takeWhile_cons, if_pos (by simpa using h0), List.take_succ_cons]
      congr 1
      exact ih (fun k u hk hu => h (k + 1) u (by omega) (by simpa using hu)) (by simp at hj; omega) (fun u hu => hs u (by simpa using hu))
theorem wp_tags_nil (w : World) : TOwn w w (.slice .none 0 0) [] := TOwn.nil w
end Go.Proofs.Ytiahifpbofkimaa
