/- Clients: the program's calls: Add, Drop, Commit, Turn. -/
import Derived.Test.YtcddbffeejijpaaCuB
import Derived.Deep.RegionHeld3
namespace Go.Proofs.Ytcddbffeejijpaa
open Go.RowKit Go.Proofs
set_option linter.unusedVariables false
set_option linter.unusedSimpArgs false
set_option linter.unnecessarySimpa false

/-- What a call answers: a list of its own, and why not. -/
def UAct (r : List Cu × Int) (w : World) (e : Ending) (w' : World) : Prop := ∃ v, e = .returned (.tuple #[v, .int .i64 r.2]) ∧ COwn w w' v r.1
theorem uact_no {w w' : World} {k : Int} (hb : Below w.heap.size w w') : UAct ([], k) w (.returned (.tuple #[.slice none 0 0, .int .i64 k])) w' := ⟨_, rfl, GOwn.nil' hb⟩
/-- What 'pick' answers. -/
def UPick (ts : List Cu) (k p : Int) (w : World) (e : Ending) (w' : World) : Prop :=
  (((rightU ts && (decide (IdOk k) && decide (PosOk p))) = false ∧ e = .returned (.tuple #[.slice none 0 0, .int .i64 0, .int .i64 1])) ∧ Below w.heap.size w w') ∨
  (((rightU ts && (decide (IdOk k) && decide (PosOk p))) = true ∧ placeU ts k = none ∧ e = .returned (.tuple #[.slice none 0 0, .int .i64 0, .int .i64 4])) ∧ Below w.heap.size w w') ∨
  ((rightU ts && (decide (IdOk k) && decide (PosOk p))) = true ∧ ∃ (i : Nat) (v : Value), placeU ts k = some i ∧ e = .returned (.tuple #[v, .int .i64 i, .int .i64 0]) ∧ COwn w w' v ts)
set_option maxRecDepth 20000 in
set_option maxHeartbeats 3200000 in
theorem upick_any (ad : Option Addr) (n c : Nat) (ts : List Cu) (k p : Int) (w : World) (hr : CRow w ad c ts) (hn : ts.length = n) :
    Calls Try.prog 35 #[.slice ad n c, .int .i64 k, .int .i64 p] w (UPick ts k p w) := by
  have HK := Lib.hid (uright_any ad n c ts w hr hn)
  have HR := Lib.hid hr
  have HN := Lib.hid hn
  have hc1 := hr.1
  rw [hn] at hc1
  have hcm : c ≤ 9223372036854775807 := by have := hr.2.1; unfold maxLen at this; omega
  clear hr hn
  cases hx : rightU ts with
  | false =>
    rw [hx] at HK
    have HX : Hid ((rightU ts && (decide (IdOk k) && decide (PosOk p))) = false) := Lib.hid (by rw [hx]; rfl)
    clear hx
    go_enter Try.func35, Try.ntmps35
    go_wp2_with (go_at_call 21; refine HK.out.mono ?_; rintro e w1 ⟨rfl, hb1⟩)
    go_ret3
    exact .inl ⟨⟨HX.out, rfl⟩, hb1⟩
  | true =>
    rw [hx] at HK
    have HRI := Lib.hid (rightU_iff.1 hx)
    cases hy : (decide (IdOk k) && decide (PosOk p)) with
    | false =>
      have HX : Hid ((rightU ts && (decide (IdOk k) && decide (PosOk p))) = false) := Lib.hid (by rw [hx, hy]; rfl)
      have HW := Lib.hid (fun W => within_any k p W)
      rw [hy] at HW
      clear hx hy
      go_enter Try.func35, Try.ntmps35
      go_wp2_with (first | (go_at_call 21; refine HK.out.mono ?_; rintro e w1 ⟨rfl, hb1⟩) | (go_at_call 34; refine (HW.out _).mono ?_; rintro e w2 ⟨rfl, rfl⟩))
      go_ret3
      exact .inl ⟨⟨HX.out, rfl⟩, hb1⟩
    | true =>
      have HX : Hid ((rightU ts && (decide (IdOk k) && decide (PosOk p))) = true) := Lib.hid (by rw [hx, hy]; rfl)
      have HW := Lib.hid (fun W => within_any k p W)
      rw [hy] at HW
      clear hx hy
      have hn4 : n ≤ 4 := by have := HRI.out.1; have := HN.out; omega
      go_enter Try.func35, Try.ntmps35
      go_wp2_with (first | (go_at_call 21; refine HK.out.mono ?_; rintro e w1 ⟨rfl, hb1⟩) | (go_at_call 34; refine (HW.out _).mono ?_; rintro e w2 ⟨rfl, rfl⟩))
      have HB1 := Lib.hid hb1
      clear hb1
      go_loopw [9, 10, 22] (fun _ _ i wr => ∃ j : Nat, i = .int .i64 j ∧ j ≤ n ∧ Hid (Below w.heap.size w wr) ∧ Hid (∀ m u, m < j → ts[m]? = some u → u.id ≠ k)) (fun _ _ i _ => n - (intOf i).toNat)
      case atStart => exact ⟨0, rfl, by omega, HB1, Lib.hid (fun m u h => by omega)⟩
      case round =>
        obtain ⟨j, rfl, hj, HB, HA⟩ := hrel
        by_cases hjn : (j : Int) < n
        · obtain ⟨t, ht⟩ : ∃ t, ts[j]? = some t := ⟨ts[j]'(by have := HN.out; omega), List.getElem?_eq_getElem _⟩
          obtain ⟨b0, o0, rfl, p0, p1, p2⟩ := (HR.out.later HB.out).c3 ht
          have HT := Lib.hid ht
          clear ht
          obtain ⟨ti, tp, tf⟩ := t
          have hbb : Below wr.heap.size wr (wr.alloc (.cells #[.int .i64 ti, .int .i64 tp, .bool tf] 39)) := (Below.refl _ _).alloc (Nat.le_refl _) _
          have HB2 := Lib.hid (HB.out.trans (hbb.mono HB.out.size))
          have HY := Lib.hid (RecAt.new wr #[.int .i64 ti, .int .i64 tp, .bool tf] 39)
          clear hbb
          go_upto_region 6 with fail
          clear p0 p1 p2
          generalize (wr.alloc (.cells #[.int .i64 ti, .int .i64 tp, .bool tf] 39)) = w2 at *
          generalize wr.heap.size = p4 at *
          obtain ⟨x0, x1, x2⟩ := HY.out.c3
          by_cases hk : ti = k
          · have HF := Lib.hid (placeU_here HT.out hk HA.out)
            have hd : (ti == k) = true := by simpa using hk
            clear hk
            have HRR := Lib.hid (fun W (h : Below w2.heap.size w2 W) => (HR.out.later HB2.out).later h)
            go_wp2_with (first
              | (refine wp_gmake cuOk rfl _ _ rfl rfl w HB2.out .i64 .i64 (n : Nat) n rfl rfl rfl (by omega) ?_; intro w3 o3 hb3; have HO3 := Lib.hid o3; have HB3 := Lib.hid hb3; clear o3 hb3)
              | (at_builtin; refine wp_gapp cuOk rfl _ _ rfl rfl _ _ rfl w HO3.out _ _ _ ts (HRR.out _ HB3.out) HN.out rfl (by have := HN.out; simp; omega) ?_; intro v4 w4 o4 g4 h4; have HO4 := Lib.hid o4; clear o4 g4 h4))
            go_ret3
            exact .inr (.inr ⟨HX.out, j, _, HF.out, rfl, HO4.out⟩)
          · have HA2 := Lib.hid (ne_more HT.out hk HA.out)
            have hd : (ti == k) = false := by simpa using hk
            clear hk
            go_wp2_with fail
            go_roundw
            case rel => exact ⟨j + 1, by go_num, by omega, HB2, HA2⟩
            case measure => simp [intOf]; omega
        · have : j = n := by omega
          subst this
          have HF := Lib.hid (placeU_gone HN.out HA.out)
          go_wp2_with fail
          go_ret3
          exact .inr (.inl ⟨⟨HX.out, HF.out, rfl⟩, HB.out⟩)

theorem posOk_zero : decide (PosOk 0) = true := by decide
theorem actU_arg {ts : List Cu} {what : Nat} {k p : Int} {b : Bool} (h : (rightU ts && inU what k p) = false) : actU ts what k p b = ([], 1) := by unfold actU; rw [if_neg (by rw [h]; simp)]
theorem actU_in {ts : List Cu} {what : Nat} {k p : Int} {b : Bool} (h : (rightU ts && inU what k p) = true) : actU ts what k p b = actW ts what k p b := by unfold actU; rw [if_pos h]
theorem inU_one (k p : Int) : inU 1 k p = (decide (IdOk k) && decide (PosOk 0)) := by rw [posOk_zero]; unfold inU; simp
theorem inU_three (k p : Int) : inU 3 k p = (decide (IdOk k) && decide (PosOk 0)) := by rw [posOk_zero]; unfold inU; simp
theorem inU_two (k p : Int) : inU 2 k p = (decide (IdOk k) && decide (PosOk p)) := by unfold inU; simp
theorem inU_zero (k p : Int) : inU 0 k p = (decide (IdOk k) && decide (PosOk p)) := by unfold inU; simp
theorem actU_is {ts : List Cu} {what : Nat} {k p : Int} {b : Bool} {R : List Cu × Int} (hR : actU ts what k p b = R) : (rightU ts && inU what k p) = true → actW ts what k p b = R := fun h => by rw [← hR, actU_in h]
set_option maxRecDepth 20000 in
set_option maxHeartbeats 3200000 in
theorem udrop_any (ad : Option Addr) (n c : Nat) (ts : List Cu) (k p : Int) (b : Bool) (w : World) (hr : CRow w ad c ts) (hn : ts.length = n) :
    Calls Try.prog 26 #[.slice ad n c, .int .i64 k] w (UAct (actU ts 1 k p b) w) := by
  have HK := Lib.hid (upick_any ad n c ts k 0 w hr hn)
  have HN := Lib.hid hn
  obtain ⟨R, hR⟩ : ∃ R, actU ts 1 k p b = R := ⟨_, rfl⟩
  rw [hR]
  have HR := Lib.hid hR
  clear hr hn hR
  go_enter Try.func26, Try.ntmps26
  go_wp2_with fail
  refine HK.out.mono ?_
  rintro e w1 (⟨⟨hx, rfl⟩, hb1⟩ | ⟨⟨hx, hp, rfl⟩, hb1⟩ | ⟨hx, i, v, hp, rfl, o1⟩)
  all_goals rw [← inU_one k p] at hx
  · have HF := Lib.hid ((actU_arg (b := b) hx).symm.trans HR.out)
    have HB1 := Lib.hid hb1
    clear hb1 hx HK
    go_wp2_with fail
    go_ret2
    rw [← HF.out]
    exact uact_no HB1.out
  · have HF := Lib.hid (actU_is HR.out hx)
    unfold actW at HF
    simp only [hp] at HF
    have HB1 := Lib.hid hb1
    clear hb1 hx hp HK
    go_wp2_with fail
    go_ret2
    rw [← HF.out]
    exact uact_no HB1.out
  · have HF := Lib.hid (actU_is HR.out hx)
    unfold actW at HF
    simp only [hp] at HF
    have hi := placeU_lt hp
    rw [HN.out] at hi
    obtain ⟨g, cap, rfl, hcap, hcm, hg1, hg2⟩ := o1.at HN.out (by omega)
    have HT := Lib.hid (GOwn.take cuOk o1 HN.out (show i ≤ n by omega))
    obtain ⟨a1, c1, e1, r1⟩ := o1.row_n cuOk HN.out
    cases e1
    have HD := Lib.hid (GRow.drop (lo := i + 1) r1 (by have := HN.out; omega))
    have hcm2 : cap ≤ 9223372036854775807 := by unfold maxLen at hcm; omega
    have hn4 : n ≤ 4 := by
      simp only [Bool.and_eq_true] at hx
      have := (rightU_iff.1 hx.1).1
      have := HN.out; omega
    have HLE : Hid ((ts.drop (i + 1)).length = n - (i + 1)) := Lib.hid (by rw [List.length_drop, HN.out])
    have HLS : Hid ((ts.take i).length + (ts.drop (i + 1)).length ≤ 1000000) := Lib.hid (by
      rw [List.length_take, List.length_drop, HN.out]; omega)
    have hs1 : ∀ W, (Instr.slice 22 (.slice (some ⟨g, 0, none⟩) n cap) none (some (.int .i64 i)) none).run Try.prog W = .ok (.slice (some ⟨g, 0, none⟩) i cap) W := fun W => run_slG cuOk rfl (fun e => (by cases e)) hcap (by omega)
    have hs2 : ∀ W, (Instr.slice 22 (.slice (some ⟨g, 0, none⟩) n cap) (some (.int .i64 (i + 1 : Nat))) none none).run Try.prog W = .ok (.slice (cutA 3 (some ⟨g, 0, none⟩) (i + 1) cap) (n - (i + 1)) (cap - (i + 1))) W := fun W => run_slG_end cuOk rfl hcap (by omega)
    obtain ⟨I, hI⟩ : ∃ I, i + 1 = I := ⟨_, rfl⟩
    have hadd : IntKind.i64.wrap ((i : Int) + 1) = (I : Nat) := by rw [IntKind.wrap_i64]; omega
    have hadd2 : (i : Int) + 1 = (I : Nat) := by omega
    have hadd3 : IntKind.i64.wrap (I : Int) = (I : Nat) := by rw [IntKind.wrap_i64]; omega
    rw [hI] at HF HD HLE HLS hs2
    generalize (cutA 3 (some ⟨g, 0, none⟩) I cap) = A at *
    generalize n - I = M at *
    generalize cap - I = D at *
    clear hx hp o1 r1 HK hI
    go_upto_region 4 with fail
    go_region_held3 (fun _ => True) (exact trivial) ((refine step_gapp cuOk (by rfl) _ _ (by rfl) rfl _ _ (by rfl) w (HT.out.later (below_drewN _ _)) _ _ _ _ (HD.out.later (below_drewN _ _)) HLE.out (by rfl) HLS.out ?_; intro v4 w4 o4 g4 h4))
    have HO4 := Lib.hid o4
    clear o4 g4 h4
    go_wp2_with fail
    go_ret2
    rw [← HF.out]
    exact ⟨_, rfl, HO4.out⟩
set_option maxRecDepth 20000 in
set_option maxHeartbeats 3200000 in
theorem ucommit_any (ad : Option Addr) (n c : Nat) (ts : List Cu) (k p : Int) (b : Bool) (w : World) (hr : CRow w ad c ts) (hn : ts.length = n) (hp : W64 p) :
    Calls Try.prog 23 #[.slice ad n c, .int .i64 k, .int .i64 p] w (UAct (actU ts 2 k p b) w) := by
  have HK := Lib.hid (upick_any ad n c ts k p w hr hn)
  have HN := Lib.hid hn
  have HPW := Lib.hid hp
  clear hp
  obtain ⟨R, hR⟩ : ∃ R, actU ts 2 k p b = R := ⟨_, rfl⟩
  rw [hR]
  have HR := Lib.hid hR
  clear hr hn hR
  go_enter Try.func23, Try.ntmps23
  go_wp2_with fail
  refine HK.out.mono ?_
  rintro e w1 (⟨⟨hx, rfl⟩, hb1⟩ | ⟨⟨hx, hp, rfl⟩, hb1⟩ | ⟨hx, i, v, hp, rfl, o1⟩)
  all_goals rw [← inU_two k p] at hx
  · have HF := Lib.hid ((actU_arg (b := b) hx).symm.trans HR.out)
    have HB1 := Lib.hid hb1
    clear hb1 hx HK
    go_wp2_with fail
    go_ret2
    rw [← HF.out]
    exact uact_no HB1.out
  · have HF := Lib.hid (actU_is HR.out hx)
    unfold actW at HF
    simp only [hp] at HF
    have HB1 := Lib.hid hb1
    clear hb1 hx hp HK
    go_wp2_with fail
    go_ret2
    rw [← HF.out]
    exact uact_no HB1.out
  · have HF := Lib.hid (actU_is HR.out hx)
    unfold actW at HF
    simp only [hp] at HF
    have hi := placeU_lt hp
    obtain ⟨t, ht, _⟩ := placeU_some hp
    simp only [ht] at HF
    rw [HN.out] at hi
    obtain ⟨g, cap, rfl, hcap, hcm, hg1, hg2⟩ := o1.at HN.out (by omega)
    have HO := Lib.hid o1
    have HT := Lib.hid ht
    have HTB := Lib.hid (o1.2.2 t (List.mem_of_getElem? ht))
    obtain ⟨a1, c1, e1, r1⟩ := o1.row_n cuOk HN.out
    cases e1
    obtain ⟨b1, q1, e2, p0, p1, p2⟩ := r1.c3 ht
    cases e2
    have f1 := fun j => HO.out.frozenAt HN.out j
    have hcm2 : cap ≤ 9223372036854775807 := by unfold maxLen at hcm; omega
    have HOW := Lib.hid (GOwn.stored cuOk HO.out HN.out HT.out (k := 1) (t' := t.moved p) (v := .int .i64 (max t.pos p)) (by decide) rfl (by have h1 : t.B := HTB.out; have h2 := HPW.out; show Cu.B (t.moved p); unfold Cu.B W64 at h1; unfold W64 at h2; unfold Cu.B W64 Cu.moved; simp only; omega))
    simp only [Nat.zero_add] at p0 p1 p2
    clear hx hp o1 r1 HK ht p0
    go_wp2_with fail
    go_ret2
    rw [← HF.out]
    exact ⟨_, rfl, HOW.out⟩
set_option maxRecDepth 20000 in
set_option maxHeartbeats 3200000 in
theorem uturn_any (ad : Option Addr) (n c : Nat) (ts : List Cu) (k p : Int) (b : Bool) (w : World) (hr : CRow w ad c ts) (hn : ts.length = n) :
    Calls Try.prog 24 #[.slice ad n c, .int .i64 k, .bool b] w (UAct (actU ts 3 k p b) w) := by
  have HK := Lib.hid (upick_any ad n c ts k 0 w hr hn)
  have HN := Lib.hid hn
  obtain ⟨R, hR⟩ : ∃ R, actU ts 3 k p b = R := ⟨_, rfl⟩
  rw [hR]
  have HR := Lib.hid hR
  clear hr hn hR
  go_enter Try.func24, Try.ntmps24
  go_wp2_with fail
  refine HK.out.mono ?_
  rintro e w1 (⟨⟨hx, rfl⟩, hb1⟩ | ⟨⟨hx, hp, rfl⟩, hb1⟩ | ⟨hx, i, v, hp, rfl, o1⟩)
  all_goals rw [← inU_three k p] at hx
  · have HF := Lib.hid ((actU_arg (b := b) hx).symm.trans HR.out)
    have HB1 := Lib.hid hb1
    clear hb1 hx HK
    go_wp2_with fail
    go_ret2
    rw [← HF.out]
    exact uact_no HB1.out
  · have HF := Lib.hid (actU_is HR.out hx)
    unfold actW at HF
    simp only [hp] at HF
    have HB1 := Lib.hid hb1
    clear hb1 hx hp HK
    go_wp2_with fail
    go_ret2
    rw [← HF.out]
    exact uact_no HB1.out
  · have HF := Lib.hid (actU_is HR.out hx)
    unfold actW at HF
    simp only [hp] at HF
    have hi := placeU_lt hp
    obtain ⟨t, ht, _⟩ := placeU_some hp
    simp only [ht] at HF
    rw [HN.out] at hi
    obtain ⟨g, cap, rfl, hcap, hcm, hg1, hg2⟩ := o1.at HN.out (by omega)
    have HO := Lib.hid o1
    have HT := Lib.hid ht
    have HTB := Lib.hid (o1.2.2 t (List.mem_of_getElem? ht))
    obtain ⟨a1, c1, e1, r1⟩ := o1.row_n cuOk HN.out
    cases e1
    obtain ⟨b1, q1, e2, p0, p1, p2⟩ := r1.c3 ht
    cases e2
    have f1 := fun j => HO.out.frozenAt HN.out j
    have hcm2 : cap ≤ 9223372036854775807 := by unfold maxLen at hcm; omega
    have HOW := Lib.hid (GOwn.stored cuOk HO.out HN.out HT.out (k := 2) (t' := t.turned b) (v := .bool b) (by decide) rfl HTB.out)
    simp only [Nat.zero_add] at p0 p1 p2
    clear hx hp o1 r1 HK ht p0
    go_wp2_with fail
    go_ret2
    rw [← HF.out]
    exact ⟨_, rfl, HOW.out⟩
set_option maxRecDepth 20000 in
set_option maxHeartbeats 6400000 in
theorem uadd_any (ad : Option Addr) (n c : Nat) (ts : List Cu) (k p : Int) (b : Bool) (w : World) (hr : CRow w ad c ts) (hn : ts.length = n) (hk : W64 k) (hp : W64 p) :
    Calls Try.prog 25 #[.slice ad n c, .int .i64 k, .int .i64 p] w (UAct (actU ts 0 k p b) w) := by
  have HK := Lib.hid (uright_any ad n c ts w hr hn)
  have HRW := Lib.hid hr
  have HN := Lib.hid hn
  have HKP : Hid (Cu.B ⟨k, p, false⟩) := Lib.hid ⟨hk, hp⟩
  have hc1 := hr.1
  rw [hn] at hc1
  have hcm : c ≤ 9223372036854775807 := by have := hr.2.1; unfold maxLen at this; omega
  have HNC := Lib.hid hr.2.2.1
  obtain ⟨R, hR⟩ : ∃ R, actU ts 0 k p b = R := ⟨_, rfl⟩
  rw [hR]
  have HR := Lib.hid hR
  clear hr hn hR hk hp
  cases hx : rightU ts with
  | false =>
    rw [hx] at HK
    have HF := Lib.hid ((actU_arg (ts := ts) (what := 0) (k := k) (p := p) (b := b) (by rw [hx]; rfl)).symm.trans HR.out)
    clear hx
    go_enter Try.func25, Try.ntmps25
    go_wp2_with (go_at_call 21; refine HK.out.mono ?_; rintro e w1 ⟨rfl, hb1⟩)
    go_ret2
    rw [← HF.out]
    exact uact_no hb1
  | true =>
    rw [hx] at HK
    have HRI := Lib.hid (rightU_iff.1 hx)
    cases hy : (decide (IdOk k) && decide (PosOk p)) with
    | false =>
      have HF := Lib.hid ((actU_arg (ts := ts) (what := 0) (k := k) (p := p) (b := b) (by rw [hx, inU_zero, hy]; rfl)).symm.trans HR.out)
      have HW := Lib.hid (fun W => within_any k p W)
      rw [hy] at HW
      clear hx hy
      go_enter Try.func25, Try.ntmps25
      go_wp2_with (first | (go_at_call 21; refine HK.out.mono ?_; rintro e w1 ⟨rfl, hb1⟩) | (go_at_call 34; refine (HW.out _).mono ?_; rintro e w2 ⟨rfl, rfl⟩))
      go_ret2
      rw [← HF.out]
      exact uact_no hb1
    | true =>
      have HF := Lib.hid (actU_is HR.out (by rw [hx, inU_zero, hy]; rfl))
      unfold actW at HF
      have HW := Lib.hid (fun W => within_any k p W)
      rw [hy] at HW
      clear hx hy
      have hn4 : n ≤ 4 := by have := HRI.out.1; have := HN.out; omega
      have HUF := Lib.hid (fun W (h : Below w.heap.size w W) => ufind_any ad n c ts k W (HRW.out.later h) HN.out)
      go_enter Try.func25, Try.ntmps25
      go_upto_region 3 with (first | (go_at_call 21; refine HK.out.mono ?_; rintro e w1 ⟨rfl, hb1⟩) | (go_at_call 34; refine (HW.out _).mono ?_; rintro e w2 ⟨rfl, rfl⟩))
      have HB1 := Lib.hid hb1
      clear hb1
      cases hpl : placeU ts k with
      | some i =>
        simp only [hpl] at HF
        obtain ⟨t, ht, _⟩ := placeU_some hpl
        have HFU := Lib.hid (findU_here ht hpl)
        clear hpl ht
        go_wp2_with (go_at_call 19; refine (HUF.out _ HB1.out).mono ?_; rw [HFU.out]; rintro e w3 ⟨rfl, hb3⟩; have HB3 := Lib.hid (HB1.out.trans (hb3.mono HB1.out.size)); clear hb3)
        go_ret2
        rw [← HF.out]
        exact uact_no (HB3.out.alloc HB3.out.size _)
      | none =>
        simp only [hpl] at HF
        have HFU := Lib.hid (findU_gone hpl)
        clear hpl
        rw [HN.out] at HF
        have HUF2 := Lib.hid (HUF.out w1 HB1.out)
        rw [HFU.out] at HUF2
        go_upto_region 4 with (go_at_call 19; refine HUF2.out.mono ?_; rintro e w3 ⟨rfl, hb3⟩; have HB3 := Lib.hid (HB1.out.trans (hb3.mono HB1.out.size)); clear hb3)
        have HB4 : Hid (Below w.heap.size w (w3.alloc (.cells #[.int .i64 0, .int .i64 0, .bool false] 39))) := Lib.hid (HB3.out.alloc HB3.out.size _)
        generalize (w3.alloc (.cells #[.int .i64 0, .int .i64 0, .bool false] 39)) = w4 at *
        generalize w3.heap.size = p4 at *
        clear HB3 HB1 HUF HUF2 HK HW
        by_cases h4 : n = 4
        · rw [if_pos h4] at HF
          have hd : ((n : Int) == 4) = true := by simp; omega
          clear h4
          go_wp2_with fail
          go_ret2
          rw [← HF.out]
          exact uact_no HB4.out
        · rw [if_neg h4] at HF
          have hd : ((n : Int) == 4) = false := by simp; omega
          clear h4
          go_wp2_with fail
          go_loop [10] (fun i => ∃ j : Nat, i = .int .i64 j ∧ j ≤ n ∧ Hid (∀ m t, m < j → ts[m]? = some t → t.id < k)) (fun i => n - (intOf i).toNat)
          case atStart => exact ⟨0, rfl, by omega, Lib.hid (fun m t h => by omega)⟩
          case round =>
            obtain ⟨j, rfl, hj, HA⟩ := hrel
            have fin : ∀ (HJ : Hid (belowU ts k = j)), True := fun _ => trivial
            by_cases hjn : (j : Int) < n
            · obtain ⟨t, ht⟩ : ∃ t, ts[j]? = some t := ⟨ts[j]'(by have := HN.out; omega), List.getElem?_eq_getElem _⟩
              obtain ⟨b0, o0, rfl, p0, p1, p2⟩ := (HRW.out.later HB4.out).c3 ht
              have HT := Lib.hid ht
              clear ht
              obtain ⟨ti, tp, tf⟩ := t
              simp only at p0
              cases hlt : decide (ti < k) with
              | true =>
                have HA2 : Hid (∀ m t, m < j + 1 → ts[m]? = some t → t.id < k) := Lib.hid (fun m u hm hu => by
                  by_cases e : m = j
                  · subst e; rw [HT.out] at hu; cases hu; simpa using hlt
                  · exact HA.out m u (by omega) hu)
                go_wp2_with fail
                go_round
                case rel => exact ⟨j + 1, by go_num, by omega, HA2⟩
                case measure => simp [intOf]; omega
              | false =>
                have HJ := Lib.hid (belowU_is (l := ts) (k := k) (j := j) HA.out (by have := HN.out; omega) (.inr ⟨_, HT.out, by simpa using hlt⟩))
                have hs1 : ∀ W, (Instr.slice 22 (.slice (some ⟨b0, o0, none⟩) n c) none (some (.int .i64 j)) none).run Try.prog W = .ok (.slice (some ⟨b0, o0, none⟩) j c) W := fun W => run_slG cuOk rfl HNC.out hc1 (by omega)
                have hs2 : ∀ W, (Instr.slice 22 (.slice (some ⟨b0, o0, none⟩) n c) (some (.int .i64 j)) none none).run Try.prog W = .ok (.slice (cutA 3 (some ⟨b0, o0, none⟩) j c) (n - j) (c - j)) W := fun W => run_slG_end cuOk rfl hc1 (by omega)
                have HR4 := Lib.hid (HRW.out.later HB4.out)
                have HTK := Lib.hid (HR4.out.take j)
                have HTD := Lib.hid (GRow.drop (lo := j) HRW.out (by have := HN.out; omega))
                have HTN : Hid ((ts.take j).length = j) := Lib.hid (by rw [List.length_take, HN.out]; omega)
                have HTE : Hid ((ts.drop j).length = n - j) := Lib.hid (by rw [List.length_drop, HN.out])
                have HT1 : Hid (([] : List Cu).length + (ts.take j).length ≤ 1000000) := Lib.hid (by rw [HTN.out]; simp; omega)
                have HT2 : Hid (([] ++ ts.take j).length + 1 ≤ 1000000) := Lib.hid (by rw [List.nil_append, HTN.out]; omega)
                have HT3 : Hid ((([] ++ ts.take j) ++ [(⟨k, p, false⟩ : Cu)]).length + (ts.drop j).length ≤ 1000000) := Lib.hid (by rw [List.length_append, List.nil_append, HTN.out, HTE.out]; simp; omega)
                have HFF : Hid ((([] ++ ts.take j) ++ [(⟨k, p, false⟩ : Cu)] ++ ts.drop j, 0) = R) := Lib.hid (by rw [← HF.out]; unfold addU; rw [HJ.out, List.nil_append])
                obtain ⟨A2, hA2⟩ : ∃ A, cutA 3 (some ⟨b0, o0, none⟩) j c = A := ⟨_, rfl⟩
                rw [hA2] at hs2
                have HTDW : Hid (CRow w A2 (c - j) (ts.drop j)) := Lib.hid (by rw [← hA2]; exact HTD.out)
                generalize n - j = M at *
                generalize c - j = D at *
                obtain ⟨N1, hN1⟩ : ∃ N1, n + 1 = N1 := ⟨_, rfl⟩
                have hadd : (n : Int) + 1 = (N1 : Nat) := by omega
                have hadd2 : IntKind.i64.wrap (N1 : Int) = (N1 : Nat) := by rw [IntKind.wrap_i64]; omega
                have hN5 : N1 ≤ 5 := by omega
                clear hA2 HTD hN1 HFU HF HR
                go_upto_region 11 with fail
                clear p0 p1 p2 hlt hjn
                obtain ⟨w5, hmk, o5, hb5⟩ := run_gmake cuOk w4.drew (S := 22) rfl w (HB4.out.trans ((below_drewN w4 1).mono HB4.out.size)) .i64 .i64 N1 (by omega)
                have HO5 := Lib.hid o5
                have HR5 := Lib.hid ((HTK.out.later (below_drewN w4 1)).later hb5)
                clear o5 hb5
                go_region_held3 (fun _ => True) (exact trivial) ((refine step_gapp cuOk (by rfl) _ _ (by rfl) rfl _ _ (by rfl) w HO5.out _ _ _ _ HR5.out HTN.out (by rfl) HT1.out ?_; intro v6 w6 o6 g6 h6))
                have HO6 := Lib.hid o6
                clear o6 g6 h6
                go_wp2_with (first
                  | (at_builtin; refine wp_gone cuOk rfl _ _ rfl rfl _ _ rfl w HO6.out ⟨k, p, false⟩ HKP.out rfl rfl HT2.out ?_; intro v7 w7 o7 g7 h7; have HO7 := Lib.hid o7; clear o7 g7 h7)
                  | (at_builtin; refine wp_gapp cuOk rfl _ _ rfl rfl _ _ rfl w HO7.out _ _ _ _ (HTDW.out.later HO7.out.below) HTE.out rfl HT3.out ?_; intro v8 w8 o8 g8 h8; have HO8 := Lib.hid o8; clear o8 g8 h8))
                go_ret2
                rw [← HFF.out]
                exact ⟨_, rfl, HO8.out⟩
            · have : j = n := by omega
              have HJN := Lib.hid this
              clear this
              have HJ := Lib.hid (belowU_is (l := ts) (k := k) (j := j) HA.out (by have := HN.out; omega) (.inl (by rw [HJN.out]; exact HN.out.symm)))
              have hs1 : ∀ W, (Instr.slice 22 (.slice (ad) n c) none (some (.int .i64 j)) none).run Try.prog W = .ok (.slice (ad) j c) W := fun W => run_slG cuOk rfl HNC.out hc1 (by omega)
              have hs2 : ∀ W, (Instr.slice 22 (.slice (ad) n c) (some (.int .i64 j)) none none).run Try.prog W = .ok (.slice (cutA 3 (ad) j c) (n - j) (c - j)) W := fun W => run_slG_end cuOk rfl hc1 (by omega)
              have HR4 := Lib.hid (HRW.out.later HB4.out)
              have HTK := Lib.hid (HR4.out.take j)
              have HTD := Lib.hid (GRow.drop (lo := j) HRW.out (by have := HN.out; omega))
              have HTN : Hid ((ts.take j).length = j) := Lib.hid (by rw [List.length_take, HN.out]; omega)
              have HTE : Hid ((ts.drop j).length = n - j) := Lib.hid (by rw [List.length_drop, HN.out])
              have HT1 : Hid (([] : List Cu).length + (ts.take j).length ≤ 1000000) := Lib.hid (by rw [HTN.out]; simp; omega)
              have HT2 : Hid (([] ++ ts.take j).length + 1 ≤ 1000000) := Lib.hid (by rw [List.nil_append, HTN.out]; omega)
              have HT3 : Hid ((([] ++ ts.take j) ++ [(⟨k, p, false⟩ : Cu)]).length + (ts.drop j).length ≤ 1000000) := Lib.hid (by rw [List.length_append, List.nil_append, HTN.out, HTE.out]; simp; omega)
              have HFF : Hid ((([] ++ ts.take j) ++ [(⟨k, p, false⟩ : Cu)] ++ ts.drop j, 0) = R) := Lib.hid (by rw [← HF.out]; unfold addU; rw [HJ.out, List.nil_append])
              obtain ⟨A2, hA2⟩ : ∃ A, cutA 3 (ad) j c = A := ⟨_, rfl⟩
              rw [hA2] at hs2
              have HTDW : Hid (CRow w A2 (c - j) (ts.drop j)) := Lib.hid (by rw [← hA2]; exact HTD.out)
              generalize n - j = M at *
              generalize c - j = D at *
              obtain ⟨N1, hN1⟩ : ∃ N1, n + 1 = N1 := ⟨_, rfl⟩
              have hadd : (n : Int) + 1 = (N1 : Nat) := by omega
              have hadd2 : IntKind.i64.wrap (N1 : Int) = (N1 : Nat) := by rw [IntKind.wrap_i64]; omega
              have hN5 : N1 ≤ 5 := by omega
              clear hA2 HTD hN1 HFU HF HR
              go_upto_region 11 with fail
              clear hjn
              obtain ⟨w5, hmk, o5, hb5⟩ := run_gmake cuOk w4.drew (S := 22) rfl w (HB4.out.trans ((below_drewN w4 1).mono HB4.out.size)) .i64 .i64 N1 (by omega)
              have HO5 := Lib.hid o5
              have HR5 := Lib.hid ((HTK.out.later (below_drewN w4 1)).later hb5)
              clear o5 hb5
              go_region_held3 (fun _ => True) (exact trivial) ((refine step_gapp cuOk (by rfl) _ _ (by rfl) rfl _ _ (by rfl) w HO5.out _ _ _ _ HR5.out HTN.out (by rfl) HT1.out ?_; intro v6 w6 o6 g6 h6))
              have HO6 := Lib.hid o6
              clear o6 g6 h6
              go_wp2_with (first
                | (at_builtin; refine wp_gone cuOk rfl _ _ rfl rfl _ _ rfl w HO6.out ⟨k, p, false⟩ HKP.out rfl rfl HT2.out ?_; intro v7 w7 o7 g7 h7; have HO7 := Lib.hid o7; clear o7 g7 h7)
                | (at_builtin; refine wp_gapp cuOk rfl _ _ rfl rfl _ _ rfl w HO7.out _ _ _ _ (HTDW.out.later HO7.out.below) HTE.out rfl HT3.out ?_; intro v8 w8 o8 g8 h8; have HO8 := Lib.hid o8; clear o8 g8 h8))
              go_ret2
              rw [← HFF.out]
              exact ⟨_, rfl, HO8.out⟩
end Go.Proofs.Ytcddbffeejijpaa
