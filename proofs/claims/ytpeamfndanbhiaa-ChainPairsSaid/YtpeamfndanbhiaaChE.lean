/- Chains: the document's Fork; the next number; a chain cut off; the document's tag of an entry. -/
import Derived.Test.YtpeamfndanbhiaaChD
namespace Go.Proofs.Ytpeamfndanbhiaa
open Go.RowKit Go.Proofs
set_option linter.unusedVariables false
set_option linter.unusedSimpArgs false

set_option maxRecDepth 20000 in
set_option maxHeartbeats 3200000 in
theorem rfork_any (a1 a2 : Option Addr) (n m c1 c2 : Nat) (ts us : List Tg) (x y : Int) (w : World) (h1 : TRow w a1 c1 ts) (h2 : TRow w a2 c2 us) (hn : ts.length = n) (hm : us.length = m) :
    Calls Try.prog 29 #[.slice a1 n c1, .int .i64 x, .slice a2 m c2, .int .i64 y] w fun e w' => e = .returned (.int .i64 (forkC ts x us y)) ∧ Below w.heap.size w w' := by
  have H1 := Lib.hid h1
  have H2 := Lib.hid h2
  have HN := Lib.hid hn
  have HM := Lib.hid hm
  have hc1 := h1.1
  have hc2 := h2.1
  rw [hn] at hc1
  rw [hm] at hc2
  have hcm1 : c1 ≤ 9223372036854775807 := by have := h1.2.1; unfold maxLen at this; omega
  have hcm2 : c2 ≤ 9223372036854775807 := by have := h2.2.1; unfold maxLen at this; omega
  clear h1 h2 hn hm
  go_enter Try.func29, Try.ntmps29
  go_wp2_with fail
  go_loopw [9] (fun i wr => ∃ j : Nat, i = .int .i64 j ∧ j ≤ n ∧ j ≤ m ∧ Below w.heap.size w wr ∧ Hid (∀ k, k < j → ts[k]? = us[k]?)) (fun i _ => n - (intOf i).toNat)
  case atStart => exact ⟨0, rfl, by omega, by omega, Below.refl _ _, Lib.hid (fun k h => by omega)⟩
  case round =>
    obtain ⟨j, rfl, hj, hj2, hb, HA⟩ := hrel
    have HB := Lib.hid hb
    clear hb
    by_cases hjn : j < n
    · have hd1 : decide (j < n) = true := by simpa using hjn
      obtain ⟨t, ht⟩ : ∃ t, ts[j]? = some t := ⟨ts[j]'(by have := HN.out; omega), List.getElem?_eq_getElem _⟩
      obtain ⟨b1, o1, rfl, p0, p1, p2, p3⟩ := (H1.out.later HB.out).at ht
      have HT := Lib.hid ht
      clear ht
      by_cases hjm : j < m
      · have hd2 : decide (j < m) = true := by simpa using hjm
        obtain ⟨u, hu⟩ : ∃ u, us[j]? = some u := ⟨us[j]'(by have := HM.out; omega), List.getElem?_eq_getElem _⟩
        obtain ⟨b2, o2, rfl, q0, q1, q2, q3⟩ := (H2.out.later HB.out).at hu
        have HU := Lib.hid hu
        clear hu
        by_cases he : t = u
        · have HE : Hid (decide (t = u) = true) := Lib.hid (by simpa using he)
          have HA2 : Hid (∀ k, k < j + 1 → ts[k]? = us[k]?) := Lib.hid (fun k hk => by
            by_cases e : k = j
            · subst e; rw [HT.out, HU.out, he]
            · exact HA.out k (by omega))
          clear he
          go_upto_region 2 with fail
          refine wp_region_quiet_lit (by kernel_rfl) (by kernel_rfl) ?_
          repeat (go_big_quiet_step (fail))
          go_big_quiet_want
          refine quiet_eqT t u rfl rfl rfl HE.out ?_
          go_big_quiet_on
          simp only [Act.put, List.setIfInBounds_toArray, List.set_cons_succ, List.set_cons_zero]
          repeat (go_big_quiet_step (fail))
          refine wpQuiet_nil ?_
          intro _ hw'
          obtain ⟨nq, hw''⟩ := hw'
          subst hw''
          go_wp2_with fail
          go_roundw
          case rel => exact ⟨j + 1, by go_num, by omega, by omega, HB.out.trans ((below_drewN _ _).mono HB.out.size), HA2⟩
          case measure => simp [intOf]; omega
        · have HF := Lib.hid (alike_is HA.out (by have := HN.out; omega) (by have := HM.out; omega) (.inr (.inr (by rw [HT.out, HU.out]; simpa using he))))
          have HE : Hid (decide (t = u) = false) := Lib.hid (by simpa using he)
          have HX : Hid (forkC ts x us y = max (min (min (min x y) t.at') u.at') 0) := Lib.hid (by unfold forkC minAt; rw [HF.out, HT.out, HU.out])
          clear he
          go_upto_region 2 with fail
          refine wp_region_quiet_lit (by kernel_rfl) (by kernel_rfl) ?_
          repeat (go_big_quiet_step (fail))
          go_big_quiet_want
          refine quiet_eqT t u rfl rfl rfl HE.out ?_
          go_big_quiet_on
          simp only [Act.put, List.setIfInBounds_toArray, List.set_cons_succ, List.set_cons_zero]
          repeat (go_big_quiet_step (fail))
          refine wpQuiet_nil ?_
          intro _ hw'
          obtain ⟨nq, hw''⟩ := hw'
          subst hw''
          go_wp2_with fail
          go_ret
          exact ⟨ret_int (by have := HX.out; omega), HB.out.trans ((below_drewN _ _).mono HB.out.size)⟩
      · have hd2 : decide (j < m) = false := by simpa using hjm
        have HF := Lib.hid (alike_is HA.out (by have := HN.out; omega) (by have := HM.out; omega) (.inr (.inl (by have := HM.out; omega))))
        have HX : Hid (forkC ts x us y = max (min (min x y) t.at') 0) := Lib.hid (by unfold forkC minAt; rw [HF.out, HT.out, List.getElem?_eq_none (show us.length ≤ j by have := HM.out; omega)])
        go_upto_region 2 with fail
        go_quiet (fail)
        go_wp2_with fail
        go_ret
        exact ⟨ret_int (by have := HX.out; omega), HB.out.trans ((below_drewN _ _).mono HB.out.size)⟩
    · have hd1 : decide (j < n) = false := by simpa using hjn
      have HF := Lib.hid (alike_is HA.out (by have := HN.out; omega) (by have := HM.out; omega) (.inl (by have := HN.out; omega)))
      by_cases hjm : j < m
      · have hd2 : decide (j < m) = true := by simpa using hjm
        obtain ⟨u, hu⟩ : ∃ u, us[j]? = some u := ⟨us[j]'(by have := HM.out; omega), List.getElem?_eq_getElem _⟩
        obtain ⟨b2, o2, rfl, q0, q1, q2, q3⟩ := (H2.out.later HB.out).at hu
        have HU := Lib.hid hu
        clear hu
        have HX : Hid (forkC ts x us y = max (min (min x y) u.at') 0) := Lib.hid (by unfold forkC minAt; rw [HF.out, HU.out, List.getElem?_eq_none (show ts.length ≤ j by have := HN.out; omega)])
        go_upto_region 2 with fail
        go_quiet (fail)
        go_wp2_with fail
        go_ret
        exact ⟨ret_int (by have := HX.out; omega), HB.out.trans ((below_drewN _ _).mono HB.out.size)⟩
      · have hd2 : decide (j < m) = false := by simpa using hjm
        have HX : Hid (forkC ts x us y = max (min x y) 0) := Lib.hid (by unfold forkC minAt; rw [HF.out, List.getElem?_eq_none (show ts.length ≤ j by have := HN.out; omega), List.getElem?_eq_none (show us.length ≤ j by have := HM.out; omega)])
        go_upto_region 2 with fail
        go_quiet (fail)
        go_wp2_with fail
        go_ret
        exact ⟨ret_int (by have := HX.out; omega), HB.out.trans ((below_drewN _ _).mono HB.out.size)⟩

/-! ### the next number -/
def mostC (ts : List Tg) (j : Nat) : Int := nextMost (ts.take j)
theorem most_zero (ts : List Tg) : mostC ts 0 = 0 := by unfold mostC nextMost; simp
theorem most_succ {ts : List Tg} {j : Nat} {t : Tg} (ht : ts[j]? = some t) : mostC ts (j + 1) = max (mostC ts j) t.id := by
  obtain ⟨h, rfl⟩ := List.getElem?_eq_some_iff.1 ht
  unfold mostC nextMost
  rw [List.take_succ_eq_append_getElem h, List.foldl_append]
  rfl
theorem most_all {ts : List Tg} {n : Nat} (h : ts.length = n) : mostC ts n = nextMost ts := by unfold mostC; rw [← h, List.take_length]
theorem next_over {ts : List Tg} (h : 1073741824 < nextMost ts) (s : Int) : nextC ts s = 0 := by
  unfold nextC
  rw [if_pos]
  rw [List.any_eq_true]
  refine Classical.byContradiction fun hx => ?_
  have := foldl_top ts 0 1073741824 (by omega) fun t ht => by
    refine Classical.byContradiction fun h2 => hx ⟨t, ht, by simp; omega⟩
  unfold nextMost at h
  omega
theorem next_under {ts : List Tg} (h : nextMost ts ≤ 1073741824) (s : Int) : nextC ts s = if decide ((nextMost ts + 1) % 2 = 1) = decide (s = 1) then nextMost ts + 1 else nextMost ts + 1 + 1 :=
  next_few (fun t ht => by have := (foldl_max ts 0).2 t ht; unfold nextMost at h; omega) s
theorem most_pos (ts : List Tg) : 0 ≤ nextMost ts := (foldl_max ts 0).1
set_option maxHeartbeats 1600000 in
theorem next_any (a : Option Addr) (n c : Nat) (ts : List Tg) (s : Int) (w : World) (h : TRow w a c ts) (hn : ts.length = n) :
    Calls Try.prog 18 #[.slice a n c, .int .i64 s] w fun e w' => e = .returned (.int .i64 (nextC ts s)) ∧ Below w.heap.size w w' := by
  have HR := Lib.hid h
  have HN := Lib.hid hn
  have hc1 := h.1
  rw [hn] at hc1
  have hcm1 : c ≤ 9223372036854775807 := by have := h.2.1; unfold maxLen at this; omega
  clear h hn
  go_enter Try.func18, Try.ntmps18
  go_wp2_with fail
  go_loopw [5, 7, 11] (fun h _ i wr => ∃ (j : Nat) (q : Int), i = .int .i64 j ∧ h = .int .i64 q ∧ j ≤ n ∧ Below w.heap.size w wr ∧ Hid (mostC ts j = q)) (fun _ _ i _ => n - (intOf i).toNat)
  case atStart => exact ⟨0, 0, rfl, rfl, by omega, Below.refl _ _, Lib.hid (most_zero ts)⟩
  case round =>
    obtain ⟨j, q, rfl, rfl, hj, hb, HQ⟩ := hrel
    have HB := Lib.hid hb
    clear hb
    by_cases hjn : (j : Int) < n
    · obtain ⟨t, ht⟩ : ∃ t, ts[j]? = some t := ⟨ts[j]'(by have := HN.out; omega), List.getElem?_eq_getElem _⟩
      obtain ⟨b1, o1, rfl, p0, p1, p2, p3⟩ := (HR.out.later HB.out).at ht
      have HQ2 : Hid (mostC ts (j + 1) = max q t.id) := Lib.hid (by rw [most_succ ht, HQ.out])
      clear ht
      have HW : Hid (Below w.heap.size w (wr.alloc (.cells #[.int .i64 t.id, .int .i64 t.owner, .int .i64 t.heir, .int .i64 t.at'] 43))) := Lib.hid (HB.out.trans (((Below.refl _ _).alloc (Nat.le_refl _) _).mono HB.out.size))
      go_wp2_with fail
      go_roundw
      case rel => exact ⟨j + 1, _, by go_num, rfl, by omega, HW.out, HQ2⟩
      case measure => simp [intOf]; omega
    · have : j = n := by omega
      subst this
      have HQ2 : Hid (nextMost ts = q) := Lib.hid (by rw [← HQ.out, most_all HN.out])
      have hq0 : 0 ≤ q := by have := most_pos ts; rw [HQ2.out] at this; exact this
      by_cases hq : 1073741824 < q
      · have HF := Lib.hid (next_over (by rw [HQ2.out]; exact hq) s)
        go_wp2_with fail
        go_ret
        exact ⟨ret_int HF.out.symm, HB.out⟩
      · have HF := Lib.hid (next_under (ts := ts) (by rw [HQ2.out]; omega) s)
        rw [HQ2.out] at HF
        have hm : (q + 1) % 2 = 0 ∨ (q + 1) % 2 = 1 := by omega
        by_cases hs : s = 1
        · subst hs
          rcases hm with hm | hm
          · have HX : Hid (nextC ts 1 = q + 1 + 1) := Lib.hid (by rw [HF.out, hm]; rfl)
            go_wp2_with fail
            go_ret
            exact ⟨ret_int HX.out.symm, HB.out⟩
          · have HX : Hid (nextC ts 1 = q + 1) := Lib.hid (by rw [HF.out, hm]; rfl)
            go_wp2_with fail
            go_ret
            exact ⟨ret_int HX.out.symm, HB.out⟩
        · have hsd : (s == 1) = false := by simpa using hs
          rcases hm with hm | hm
          · have HX : Hid (nextC ts s = q + 1) := Lib.hid (by rw [HF.out, hm, if_pos (by simp [hs])])
            clear hs
            go_wp2_with fail
            go_ret
            exact ⟨ret_int HX.out.symm, HB.out⟩
          · have HX : Hid (nextC ts s = q + 1 + 1) := Lib.hid (by rw [HF.out, hm, if_neg (by simp [hs])])
            clear hs
            go_wp2_with fail
            go_ret
            exact ⟨ret_int HX.out.symm, HB.out⟩
set_option maxHeartbeats 1600000 in
theorem rnext_any (a : Option Addr) (n c : Nat) (ts : List Tg) (s : Int) (w : World) (h : TRow w a c ts) (hn : ts.length = n) :
    Calls Try.prog 19 #[.slice a n c, .int .i64 s] w fun e w' => e = .returned (.int .i64 (nextC ts s)) ∧ w = w' := by
  have HR := Lib.hid h
  have HN := Lib.hid hn
  have hc1 := h.1
  rw [hn] at hc1
  have hcm1 : c ≤ 9223372036854775807 := by have := h.2.1; unfold maxLen at this; omega
  clear h hn
  go_enter Try.func19, Try.ntmps19
  go_wp2_with fail
  go_loop [5, 6] (fun h i => ∃ (j : Nat) (q : Int), i = .int .i64 j ∧ h = .int .i64 q ∧ j ≤ n ∧ q ≤ 1073741824 ∧ Hid (mostC ts j = q)) (fun _ i => n - (intOf i).toNat)
  case atStart => exact ⟨0, 0, rfl, rfl, by omega, by omega, Lib.hid (most_zero ts)⟩
  case round =>
    obtain ⟨j, q, rfl, rfl, hj, hq, HQ⟩ := hrel
    by_cases hjn : (j : Int) < n
    · obtain ⟨t, ht⟩ : ∃ t, ts[j]? = some t := ⟨ts[j]'(by have := HN.out; omega), List.getElem?_eq_getElem _⟩
      obtain ⟨b1, o1, rfl, p0, p1, p2, p3⟩ := HR.out.at ht
      have HQ2 : Hid (mostC ts (j + 1) = max q t.id) := Lib.hid (by rw [most_succ ht, HQ.out])
      have HM := Lib.hid (List.mem_of_getElem? ht)
      clear ht
      by_cases ho : 1073741824 < t.id
      · have HF := Lib.hid (next_over (ts := ts) (by have : t.id ≤ nextMost ts := (foldl_max ts 0).2 t HM.out; omega) s)
        go_wp2_with fail
        go_ret
        exact ⟨ret_int HF.out.symm, rfl⟩
      · go_wp2_with fail
        go_round
        case rel => exact ⟨j + 1, _, by go_num, rfl, by omega, by omega, HQ2⟩
        case measure => simp [intOf]; omega
    · have : j = n := by omega
      subst this
      have HQ2 : Hid (nextMost ts = q) := Lib.hid (by rw [← HQ.out, most_all HN.out])
      have hq0 : 0 ≤ q := by have := most_pos ts; rw [HQ2.out] at this; exact this
      have HF := Lib.hid (next_under (ts := ts) (by rw [HQ2.out]; omega) s)
      rw [HQ2.out] at HF
      have hm : (q + 1) % 2 = 0 ∨ (q + 1) % 2 = 1 := by omega
      by_cases hs : s = 1
      · subst hs
        rcases hm with hm | hm
        · have HX : Hid (nextC ts 1 = q + 1 + 1) := Lib.hid (by rw [HF.out, hm]; rfl)
          go_wp2_with fail
          go_ret
          exact ⟨ret_int HX.out.symm, rfl⟩
        · have HX : Hid (nextC ts 1 = q + 1) := Lib.hid (by rw [HF.out, hm]; rfl)
          go_wp2_with fail
          go_ret
          exact ⟨ret_int HX.out.symm, rfl⟩
      · have hsd : (s == 1) = false := by simpa using hs
        rcases hm with hm | hm
        · have HX : Hid (nextC ts s = q + 1) := Lib.hid (by rw [HF.out, hm, if_pos (by simp [hs])])
          clear hs
          go_wp2_with fail
          go_ret
          exact ⟨ret_int HX.out.symm, rfl⟩
        · have HX : Hid (nextC ts s = q + 1 + 1) := Lib.hid (by rw [HF.out, hm, if_neg (by simp [hs])])
          clear hs
          go_wp2_with fail
          go_ret
          exact ⟨ret_int HX.out.symm, rfl⟩
/-! ### the tag of an entry; a chain cut off -/
theorem of_snoc {ts : List Tg} {j : Nat} {t : Tg} (ht : ts[j]? = some t) (s : Int) : ofC (ts.take (j + 1)) s = if t.at' < s then t.id else ofC (ts.take j) s := by
  obtain ⟨h, rfl⟩ := List.getElem?_eq_some_iff.1 ht
  unfold ofC
  rw [List.take_succ_eq_append_getElem h, List.foldl_append]
  rfl
set_option maxHeartbeats 1600000 in
theorem rof_any (a : Option Addr) (n c : Nat) (ts : List Tg) (s : Int) (w : World) (h : TRow w a c ts) (hn : ts.length = n) :
    Calls Try.prog 21 #[.slice a n c, .int .i64 s] w fun e w' => e = .returned (.int .i64 (ofC ts s)) ∧ w = w' := by
  have HR := Lib.hid h
  have HN := Lib.hid hn
  have hc1 := h.1
  rw [hn] at hc1
  have hcm1 : c ≤ 9223372036854775807 := by have := h.2.1; unfold maxLen at this; omega
  clear h hn
  go_enter Try.func21, Try.ntmps21
  go_wp2_with fail
  go_loop [5, 6] (fun h i => ∃ (j : Nat) (q : Int), i = .int .i64 j ∧ h = .int .i64 q ∧ j ≤ n ∧ Hid (ofC (ts.take j) s = q)) (fun _ i => n - (intOf i).toNat)
  case atStart => exact ⟨0, 0, rfl, rfl, by omega, Lib.hid rfl⟩
  case round =>
    obtain ⟨j, q, rfl, rfl, hj, HQ⟩ := hrel
    by_cases hjn : (j : Int) < n
    · obtain ⟨t, ht⟩ : ∃ t, ts[j]? = some t := ⟨ts[j]'(by have := HN.out; omega), List.getElem?_eq_getElem _⟩
      obtain ⟨b1, o1, rfl, p0, p1, p2, p3⟩ := HR.out.at ht
      by_cases hlt : t.at' < s
      · have HQ2 : Hid (ofC (ts.take (j + 1)) s = t.id) := Lib.hid (by rw [of_snoc ht, if_pos hlt])
        clear ht
        go_wp2_with fail
        go_round
        case rel => exact ⟨j + 1, _, by go_num, rfl, by omega, HQ2⟩
        case measure => simp [intOf]; omega
      · have HQ2 : Hid (ofC (ts.take (j + 1)) s = q) := Lib.hid (by rw [of_snoc ht, if_neg hlt, HQ.out])
        clear ht
        go_wp2_with fail
        go_round
        case rel => exact ⟨j + 1, _, by go_num, rfl, by omega, HQ2⟩
        case measure => simp [intOf]; omega
    · have : j = n := by omega
      subst this
      have HF : Hid (ofC ts s = q) := Lib.hid (by rw [← HQ.out, ← HN.out, List.take_length])
      go_wp2_with fail
      go_ret
      exact ⟨ret_int HF.out.symm, rfl⟩
theorem cut_is {ts : List Tg} {s : Int} {j : Nat} (h : ∀ k t, k < j → ts[k]? = some t → t.at' ≤ s) (hj : j ≤ ts.length) (hs : ∀ t, ts[j]? = some t → ¬ t.at' ≤ s) : cutC ts s = ts.take j := by
  induction j generalizing ts with
  | zero =>
    cases ts with
    | nil => rfl
    | cons t ts =>
      unfold cutC
      rw [List.takeWhile_cons, if_neg (by have := hs t rfl; simpa using this)]
      rfl
  | succ j ih =>
    cases ts with
    | nil => simp at hj
    | cons t ts =>
      have h0 := h 0 t (by omega) rfl
      unfold cutC
      rw [List.takeWhile_cons, if_pos (by simpa using h0), List.take_succ_cons]
      congr 1
      exact ih (fun k u hk hu => h (k + 1) u (by omega) (by simpa using hu)) (by simp at hj; omega) (fun u hu => hs u (by simpa using hu))
theorem wp_tags_nil (w : World) : TOwn w w (.slice .none 0 0) [] := TOwn.nil w
set_option maxRecDepth 20000 in
set_option maxHeartbeats 1600000 in
theorem cut_any (a : Option Addr) (n c : Nat) (ts : List Tg) (s : Int) (w : World) (h : TRow w a c ts) (hn : ts.length = n) (hn2 : n ≤ 1000000) :
    Calls Try.prog 22 #[.slice a n c, .int .i64 s] w fun e w' => ∃ v, e = .returned v ∧ TOwn w w' v (cutC ts s) := by
  have HR := Lib.hid h
  have HN := Lib.hid hn
  have hc1 := h.1
  rw [hn] at hc1
  have hcm1 : c ≤ 9223372036854775807 := by have := h.2.1; unfold maxLen at this; omega
  clear h hn
  go_enter Try.func22, Try.ntmps22
  go_wp2_with fail
  go_loop [5] (fun i => ∃ j : Nat, i = .int .i64 j ∧ j ≤ n ∧ Hid (∀ k t, k < j → ts[k]? = some t → t.at' ≤ s)) (fun i => n - (intOf i).toNat)
  case atStart => exact ⟨0, rfl, by omega, Lib.hid (fun k t h => by omega)⟩
  case round =>
    obtain ⟨j, rfl, hj, HQ⟩ := hrel
    by_cases hjn : j < n
    · have hd : decide (j < n) = true := by simpa using hjn
      obtain ⟨t, ht⟩ : ∃ t, ts[j]? = some t := ⟨ts[j]'(by have := HN.out; omega), List.getElem?_eq_getElem _⟩
      obtain ⟨b1, o1, rfl, p0, p1, p2, p3⟩ := HR.out.at ht
      have HT := Lib.hid ht
      clear ht
      by_cases hlt : t.at' ≤ s
      · have hd2 : decide (t.at' ≤ s) = true := by simpa using hlt
        have HQ2 : Hid (∀ k t, k < j + 1 → ts[k]? = some t → t.at' ≤ s) := Lib.hid (fun k u hk hu => by
          by_cases e : k = j
          · subst e; rw [HT.out] at hu; cases hu; exact hlt
          · exact HQ.out k u (by omega) hu)
        clear hlt
        go_wp2_with fail
        go_round
        case rel => exact ⟨j + 1, by go_num, by omega, HQ2⟩
        case measure => simp [intOf]; omega
      · have hd2 : decide (t.at' ≤ s) = false := by simpa using hlt
        have HF : Hid (cutC ts s = ts.take j) := Lib.hid (cut_is HQ.out (by have := HN.out; omega) (fun u hu => by rw [HT.out] at hu; cases hu; exact hlt))
        have HS := fun W => run_slR (W := W) HR.out HN.out (Nat.le_of_lt hjn)
        have HR2 := Lib.hid (HR.out.take j)
        have HL : Hid ((ts.take j).length = j) := Lib.hid (by rw [List.length_take]; have := HN.out; omega)
        clear hlt
        go_wp2_with (at_builtin; refine wp_tags rfl _ _ rfl _ _ rfl w (TOwn.nil w) _ _ _ _ HR2.out HL.out rfl (by rw [HL.out]; simp; omega) ?_; intro v2 w2 o2)
        go_ret
        exact ⟨_, rfl, by rw [HF.out]; exact o2⟩
    · have hd : decide (j < n) = false := by simpa using hjn
      have : j = n := by omega
      subst this
      have HF : Hid (cutC ts s = ts.take j) := Lib.hid (cut_is HQ.out (by have := HN.out; omega) (fun u hu => by rw [List.getElem?_eq_none (by have := HN.out; omega)] at hu; cases hu))
      have HS := fun W => run_slR (W := W) HR.out HN.out (Nat.le_refl j)
      have HR2 := Lib.hid (HR.out.take j)
      have HL : Hid ((ts.take j).length = j) := Lib.hid (by rw [List.length_take]; have := HN.out; omega)
      go_wp2_with (at_builtin; refine wp_tags rfl _ _ rfl _ _ rfl w (TOwn.nil w) _ _ _ _ HR2.out HL.out rfl (by rw [HL.out]; simp; omega) ?_; intro v2 w2 o2)
      go_ret
      exact ⟨_, rfl, by rw [HF.out]; exact o2⟩
set_option maxRecDepth 20000 in
set_option maxHeartbeats 1600000 in
theorem rcut_any (a : Option Addr) (n c : Nat) (ts : List Tg) (s : Int) (w : World) (h : TRow w a c ts) (hn : ts.length = n) (hn2 : n ≤ 100000) :
    Calls Try.prog 23 #[.slice a n c, .int .i64 s] w fun e w' => ∃ v, e = .returned v ∧ TOwn w w' v (cutC ts s) := by
  have HR := Lib.hid h
  have HN := Lib.hid hn
  have hc1 := h.1
  rw [hn] at hc1
  have hcm1 : c ≤ 9223372036854775807 := by have := h.2.1; unfold maxLen at this; omega
  clear h hn
  go_enter Try.func23, Try.ntmps23
  go_wp2_with fail
  go_loopw [5, 6] (fun v i wr => ∃ j : Nat, i = .int .i64 j ∧ j ≤ n ∧ TOwn w wr v (ts.take j) ∧ Hid (∀ k t, k < j → ts[k]? = some t → t.at' ≤ s)) (fun _ i _ => n - (intOf i).toNat)
  case atStart => exact ⟨0, rfl, by omega, TOwn.nil w, Lib.hid (fun k t h => by omega)⟩
  case round =>
    obtain ⟨j, rfl, hj, ho, HQ⟩ := hrel
    by_cases hjn : j < n
    · have hd : decide (j < n) = true := by simpa using hjn
      obtain ⟨t, ht⟩ : ∃ t, ts[j]? = some t := ⟨ts[j]'(by have := HN.out; omega), List.getElem?_eq_getElem _⟩
      obtain ⟨b1, o1, rfl, p0, p1, p2, p3⟩ := (HR.out.later ho.below).at ht
      have HT := Lib.hid ht
      have HB := Lib.hid (HR.out.b ht)
      have hlen : (ts.take j).length = j := by rw [List.length_take]; have := HN.out; omega
      have HL := Lib.hid hlen
      clear ht hlen
      by_cases hlt : t.at' ≤ s
      · have hd2 : decide (t.at' ≤ s) = true := by simpa using hlt
        have HQ2 : Hid (∀ k t, k < j + 1 → ts[k]? = some t → t.at' ≤ s) := Lib.hid (fun k u hk hu => by
          by_cases e : k = j
          · subst e; rw [HT.out] at hu; cases hu; exact hlt
          · exact HQ.out k u (by omega) hu)
        have HK : Hid (ts.take j ++ [t] = ts.take (j + 1)) := Lib.hid (by
          obtain ⟨h, rfl⟩ := List.getElem?_eq_some_iff.1 HT.out
          rw [List.take_succ_eq_append_getElem h])
        have HO := Lib.hid ho
        clear hlt ho
        go_wp2_with (at_builtin; refine wp_tag rfl _ _ rfl _ _ rfl w HO.out t HB.out rfl (by rw [HL.out]; omega) ?_; intro v2 w2 o2 hg)
        go_roundw
        case rel => exact ⟨j + 1, by go_num, by omega, by rw [← HK.out]; exact o2, HQ2⟩
        case measure => simp [intOf]; omega
      · have hd2 : decide (t.at' ≤ s) = false := by simpa using hlt
        have HF : Hid (cutC ts s = ts.take j) := Lib.hid (cut_is HQ.out (by have := HN.out; omega) (fun u hu => by rw [HT.out] at hu; cases hu; exact hlt))
        have HO := Lib.hid ho
        clear hlt ho
        go_wp2_with fail
        go_ret
        exact ⟨_, rfl, by rw [HF.out]; exact HO.out⟩
    · have hd : decide (j < n) = false := by simpa using hjn
      have : j = n := by omega
      subst this
      have HF : Hid (cutC ts s = ts.take j) := Lib.hid (cut_is HQ.out (by have := HN.out; omega) (fun u hu => by rw [List.getElem?_eq_none (by have := HN.out; omega)] at hu; cases hu))
      have HO := Lib.hid ho
      clear ho
      go_wp2_with fail
      go_ret
      exact ⟨_, rfl, by rw [HF.out]; exact HO.out⟩
end Go.Proofs.Ytpeamfndanbhiaa

