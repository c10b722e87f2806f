/- Messages: what a kind names; may one be? The program's. Printed by gen_msd.py. -/
import Derived.Test.YtiahifpbofkimaaGM
import Derived.BigRegion
namespace Go.Proofs.Ytiahifpbofkimaa
open Go.RowKit Go.Proofs
set_option linter.unusedVariables false
set_option linter.unusedSimpArgs false
set_option linter.unnecessarySimpa false

def NamedP (m : Ms) (w : World) (e : Ending) (w' : World) : Prop := ∃ q, e = .returned (msV (namedM m) q) ∧ MsRows w' (namedM m) q ∧ Below w.heap.size w w'
theorem three_recsM (w : World) (cs ds es : Array Value) (t u v : TypeId) : RecAt (((w.alloc (.cells cs t)).alloc (.cells ds u)).alloc (.cells es v)) w.heap.size cs t ∧ RecAt (((w.alloc (.cells cs t)).alloc (.cells ds u)).alloc (.cells es v)) (w.heap.size + 1) ds u ∧ RecAt (((w.alloc (.cells cs t)).alloc (.cells ds u)).alloc (.cells es v)) (w.heap.size + 2) es v ∧ Below w.heap.size w (((w.alloc (.cells cs t)).alloc (.cells ds u)).alloc (.cells es v)) := by
  obtain ⟨h1, h2, h3⟩ := two_recsM w cs ds t u
  have h4 := RecAt.new ((w.alloc (.cells cs t)).alloc (.cells ds u)) es v
  rw [show ((w.alloc (.cells cs t)).alloc (.cells ds u)).heap.size = w.heap.size + 2 by simp] at h4
  have h5 : Below ((w.alloc (.cells cs t)).alloc (.cells ds u)).heap.size ((w.alloc (.cells cs t)).alloc (.cells ds u)) (((w.alloc (.cells cs t)).alloc (.cells ds u)).alloc (.cells es v)) := (Below.refl _ _).alloc (Nat.le_refl _) _
  exact ⟨h1.later h5, h2.later h5, h4, h3.trans (h5.mono h3.size)⟩
theorem named_x {m : Ms} (h1 : m.kind ≠ 1) (h2 : m.kind ≠ 2) (h4 : m.kind ≠ 4) (h5 : m.kind ≠ 5) (h6 : m.kind ≠ 6) (h9 : m.kind ≠ 9) : namedM m = ⟨m.kind, m.nonce, 0, 0, 0, 0, [], [], [], []⟩ := by
  unfold namedM; rw [if_neg h1, if_neg h2, if_neg h4, if_neg h5, if_neg h6, if_neg h9]

set_option maxRecDepth 20000 in
set_option maxHeartbeats 6400000 in
theorem named_1 (m : Ms) (p : MsAt) (w : World) (h : MsRows w m p) (hk : m.kind = 1) : Calls Try.prog 40 #[msV m p] w (NamedP m w) := by
  obtain ⟨P, hP⟩ : ∃ P, NamedP m w = P := ⟨_, rfl⟩
  rw [hP]
  have HP := Lib.hid hP
  have HH := Lib.hid h
  clear hP h
  obtain ⟨k, n, o, f, s, u, C, E, T, D⟩ := m
  obtain ⟨ac, nc, cc, ae, ne, ce, am, nm, cm, ad, nd, cd⟩ := p
  simp only at hk ⊢
  subst hk
  go_enter Try.func40, Try.ntmps40
  go_upto_region 4 with fail
  go_region
  all_goals
    go_wp2_with fail
    obtain ⟨-, r2, -, hb⟩ := three_recsM w #[.int .i64 1, .int .i64 n, .int .i64 o, .int .i64 f, .int .i64 s, .int .i64 u, .slice ac nc cc, .slice ae ne ce, .slice am nm cm, .slice ad nd cd] #[.int .i64 1, .int .i64 n, .int .i64 o, .int .i64 f, .int .i64 0, .int .i64 0, .slice none 0 0, .slice none 0 0, .slice none 0 0, .slice none 0 0] #[.int .i64 1, .int .i64 n, .int .i64 o, .int .i64 f, .int .i64 0, .int .i64 0, .slice none 0 0, .slice none 0 0, .slice none 0 0, .slice none 0 0] 27 27 27
    have r2 := r2.later (Below.refl _ _).drew
    have hb := hb.trans ((Below.refl _ _).drew.mono hb.size)
    refine bodyPost_ret (results_c rfl rfl r2 Try.underlying27 rfl (by kernel_rfl)) rfl ?_
    rw [← HP.out]
    exact ⟨⟨none, 0, 0, none, 0, 0, none, 0, 0, none, 0, 0⟩, rfl, ⟨TRow.nil _, ERow.nil _, GRow.nil _ _, Row.empty _ _ _ (Nat.zero_le _) (fun _ => rfl), rfl, rfl, rfl, rfl⟩, hb⟩
set_option maxRecDepth 20000 in
set_option maxHeartbeats 6400000 in
theorem named_2 (m : Ms) (p : MsAt) (w : World) (h : MsRows w m p) (hk : m.kind = 2) : Calls Try.prog 40 #[msV m p] w (NamedP m w) := by
  obtain ⟨P, hP⟩ : ∃ P, NamedP m w = P := ⟨_, rfl⟩
  rw [hP]
  have HP := Lib.hid hP
  have HH := Lib.hid h
  clear hP h
  obtain ⟨k, n, o, f, s, u, C, E, T, D⟩ := m
  obtain ⟨ac, nc, cc, ae, ne, ce, am, nm, cm, ad, nd, cd⟩ := p
  simp only at hk ⊢
  subst hk
  go_enter Try.func40, Try.ntmps40
  go_upto_region 6 with fail
  go_region
  all_goals
    go_wp2_with fail
    obtain ⟨-, r2, -, hb⟩ := three_recsM w #[.int .i64 2, .int .i64 n, .int .i64 o, .int .i64 f, .int .i64 s, .int .i64 u, .slice ac nc cc, .slice ae ne ce, .slice am nm cm, .slice ad nd cd] #[.int .i64 2, .int .i64 n, .int .i64 o, .int .i64 f, .int .i64 0, .int .i64 0, .slice ac nc cc, .slice ae ne ce, .slice none 0 0, .slice none 0 0] #[.int .i64 2, .int .i64 n, .int .i64 o, .int .i64 f, .int .i64 0, .int .i64 0, .slice ac nc cc, .slice ae ne ce, .slice none 0 0, .slice none 0 0] 27 27 27
    have r2 := r2.later (Below.refl _ _).drew
    have hb := hb.trans ((Below.refl _ _).drew.mono hb.size)
    refine bodyPost_ret (results_c rfl rfl r2 Try.underlying27 rfl (by kernel_rfl)) rfl ?_
    rw [← HP.out]
    exact ⟨⟨ac, nc, cc, ae, ne, ce, none, 0, 0, none, 0, 0⟩, rfl, ⟨HH.out.c.later hb, HH.out.e.later hb, GRow.nil _ _, Row.empty _ _ _ (Nat.zero_le _) (fun _ => rfl), HH.out.hc, HH.out.he, rfl, rfl⟩, hb⟩
set_option maxRecDepth 20000 in
set_option maxHeartbeats 6400000 in
theorem named_4 (m : Ms) (p : MsAt) (w : World) (h : MsRows w m p) (hk : m.kind = 4) : Calls Try.prog 40 #[msV m p] w (NamedP m w) := by
  obtain ⟨P, hP⟩ : ∃ P, NamedP m w = P := ⟨_, rfl⟩
  rw [hP]
  have HP := Lib.hid hP
  have HH := Lib.hid h
  clear hP h
  obtain ⟨k, n, o, f, s, u, C, E, T, D⟩ := m
  obtain ⟨ac, nc, cc, ae, ne, ce, am, nm, cm, ad, nd, cd⟩ := p
  simp only at hk ⊢
  subst hk
  go_enter Try.func40, Try.ntmps40
  go_upto_region 8 with fail
  go_region
  all_goals
    go_wp2_with fail
    obtain ⟨-, r2, -, hb⟩ := three_recsM w #[.int .i64 4, .int .i64 n, .int .i64 o, .int .i64 f, .int .i64 s, .int .i64 u, .slice ac nc cc, .slice ae ne ce, .slice am nm cm, .slice ad nd cd] #[.int .i64 4, .int .i64 n, .int .i64 o, .int .i64 0, .int .i64 0, .int .i64 0, .slice ac nc cc, .slice none 0 0, .slice am nm cm, .slice none 0 0] #[.int .i64 4, .int .i64 n, .int .i64 o, .int .i64 0, .int .i64 0, .int .i64 0, .slice ac nc cc, .slice none 0 0, .slice am nm cm, .slice none 0 0] 27 27 27
    have r2 := r2.later (Below.refl _ _).drew
    have hb := hb.trans ((Below.refl _ _).drew.mono hb.size)
    refine bodyPost_ret (results_c rfl rfl r2 Try.underlying27 rfl (by kernel_rfl)) rfl ?_
    rw [← HP.out]
    exact ⟨⟨ac, nc, cc, none, 0, 0, am, nm, cm, none, 0, 0⟩, rfl, ⟨HH.out.c.later hb, ERow.nil _, HH.out.t.later hb, Row.empty _ _ _ (Nat.zero_le _) (fun _ => rfl), HH.out.hc, rfl, HH.out.ht, rfl⟩, hb⟩
set_option maxRecDepth 20000 in
set_option maxHeartbeats 6400000 in
theorem named_5 (m : Ms) (p : MsAt) (w : World) (h : MsRows w m p) (hk : m.kind = 5) : Calls Try.prog 40 #[msV m p] w (NamedP m w) := by
  obtain ⟨P, hP⟩ : ∃ P, NamedP m w = P := ⟨_, rfl⟩
  rw [hP]
  have HP := Lib.hid hP
  have HH := Lib.hid h
  clear hP h
  obtain ⟨k, n, o, f, s, u, C, E, T, D⟩ := m
  obtain ⟨ac, nc, cc, ae, ne, ce, am, nm, cm, ad, nd, cd⟩ := p
  simp only at hk ⊢
  subst hk
  go_enter Try.func40, Try.ntmps40
  go_upto_region 10 with fail
  go_region
  all_goals
    go_wp2_with fail
    obtain ⟨-, r2, -, hb⟩ := three_recsM w #[.int .i64 5, .int .i64 n, .int .i64 o, .int .i64 f, .int .i64 s, .int .i64 u, .slice ac nc cc, .slice ae ne ce, .slice am nm cm, .slice ad nd cd] #[.int .i64 5, .int .i64 n, .int .i64 0, .int .i64 0, .int .i64 s, .int .i64 u, .slice none 0 0, .slice none 0 0, .slice none 0 0, .slice none 0 0] #[.int .i64 5, .int .i64 n, .int .i64 0, .int .i64 0, .int .i64 s, .int .i64 u, .slice none 0 0, .slice none 0 0, .slice none 0 0, .slice none 0 0] 27 27 27
    have r2 := r2.later (Below.refl _ _).drew
    have hb := hb.trans ((Below.refl _ _).drew.mono hb.size)
    refine bodyPost_ret (results_c rfl rfl r2 Try.underlying27 rfl (by kernel_rfl)) rfl ?_
    rw [← HP.out]
    exact ⟨⟨none, 0, 0, none, 0, 0, none, 0, 0, none, 0, 0⟩, rfl, ⟨TRow.nil _, ERow.nil _, GRow.nil _ _, Row.empty _ _ _ (Nat.zero_le _) (fun _ => rfl), rfl, rfl, rfl, rfl⟩, hb⟩
set_option maxRecDepth 20000 in
set_option maxHeartbeats 6400000 in
theorem named_6 (m : Ms) (p : MsAt) (w : World) (h : MsRows w m p) (hk : m.kind = 6) : Calls Try.prog 40 #[msV m p] w (NamedP m w) := by
  obtain ⟨P, hP⟩ : ∃ P, NamedP m w = P := ⟨_, rfl⟩
  rw [hP]
  have HP := Lib.hid hP
  have HH := Lib.hid h
  clear hP h
  obtain ⟨k, n, o, f, s, u, C, E, T, D⟩ := m
  obtain ⟨ac, nc, cc, ae, ne, ce, am, nm, cm, ad, nd, cd⟩ := p
  simp only at hk ⊢
  subst hk
  go_enter Try.func40, Try.ntmps40
  go_upto_region 12 with fail
  go_region
  all_goals
    go_wp2_with fail
    obtain ⟨-, r2, -, hb⟩ := three_recsM w #[.int .i64 6, .int .i64 n, .int .i64 o, .int .i64 f, .int .i64 s, .int .i64 u, .slice ac nc cc, .slice ae ne ce, .slice am nm cm, .slice ad nd cd] #[.int .i64 6, .int .i64 n, .int .i64 0, .int .i64 0, .int .i64 s, .int .i64 u, .slice none 0 0, .slice none 0 0, .slice none 0 0, .slice ad nd cd] #[.int .i64 6, .int .i64 n, .int .i64 0, .int .i64 0, .int .i64 s, .int .i64 u, .slice none 0 0, .slice none 0 0, .slice none 0 0, .slice ad nd cd] 27 27 27
    have r2 := r2.later (Below.refl _ _).drew
    have hb := hb.trans ((Below.refl _ _).drew.mono hb.size)
    refine bodyPost_ret (results_c rfl rfl r2 Try.underlying27 rfl (by kernel_rfl)) rfl ?_
    rw [← HP.out]
    exact ⟨⟨none, 0, 0, none, 0, 0, none, 0, 0, ad, nd, cd⟩, rfl, ⟨TRow.nil _, ERow.nil _, GRow.nil _ _, HH.out.d.later hb, rfl, rfl, rfl, HH.out.hd⟩, hb⟩
set_option maxRecDepth 20000 in
set_option maxHeartbeats 6400000 in
theorem named_9 (m : Ms) (p : MsAt) (w : World) (h : MsRows w m p) (hk : m.kind = 9) : Calls Try.prog 40 #[msV m p] w (NamedP m w) := by
  obtain ⟨P, hP⟩ : ∃ P, NamedP m w = P := ⟨_, rfl⟩
  rw [hP]
  have HP := Lib.hid hP
  have HH := Lib.hid h
  clear hP h
  obtain ⟨k, n, o, f, s, u, C, E, T, D⟩ := m
  obtain ⟨ac, nc, cc, ae, ne, ce, am, nm, cm, ad, nd, cd⟩ := p
  simp only at hk ⊢
  subst hk
  go_enter Try.func40, Try.ntmps40
  all_goals
    go_wp2_with fail
    obtain ⟨-, r2, -, hb⟩ := three_recsM w #[.int .i64 9, .int .i64 n, .int .i64 o, .int .i64 f, .int .i64 s, .int .i64 u, .slice ac nc cc, .slice ae ne ce, .slice am nm cm, .slice ad nd cd] #[.int .i64 9, .int .i64 n, .int .i64 0, .int .i64 0, .int .i64 0, .int .i64 u, .slice none 0 0, .slice none 0 0, .slice none 0 0, .slice none 0 0] #[.int .i64 9, .int .i64 n, .int .i64 0, .int .i64 0, .int .i64 0, .int .i64 u, .slice none 0 0, .slice none 0 0, .slice none 0 0, .slice none 0 0] 27 27 27
    refine bodyPost_ret (results_c rfl rfl r2 Try.underlying27 rfl (by kernel_rfl)) rfl ?_
    rw [← HP.out]
    exact ⟨⟨none, 0, 0, none, 0, 0, none, 0, 0, none, 0, 0⟩, rfl, ⟨TRow.nil _, ERow.nil _, GRow.nil _ _, Row.empty _ _ _ (Nat.zero_le _) (fun _ => rfl), rfl, rfl, rfl, rfl⟩, hb⟩
set_option maxRecDepth 20000 in
set_option maxHeartbeats 6400000 in
theorem named_o (m : Ms) (p : MsAt) (w : World) (h : MsRows w m p) (h1 : m.kind ≠ 1) (h2 : m.kind ≠ 2) (h4 : m.kind ≠ 4) (h5 : m.kind ≠ 5) (h6 : m.kind ≠ 6) (h9 : m.kind ≠ 9) : Calls Try.prog 40 #[msV m p] w (NamedP m w) := by
  have HX := Lib.hid (named_x h1 h2 h4 h5 h6 h9)
  obtain ⟨P, hP⟩ : ∃ P, NamedP m w = P := ⟨_, rfl⟩
  rw [hP]
  have HP := Lib.hid hP
  have HH := Lib.hid h
  clear hP h
  obtain ⟨k, n, o, f, s, u, C, E, T, D⟩ := m
  obtain ⟨ac, nc, cc, ae, ne, ce, am, nm, cm, ad, nd, cd⟩ := p
  simp only at h1 h2 h4 h5 h6 h9 ⊢
  have t1 : (k == 1) = false := by simpa using h1
  have t2 : (k == 2) = false := by simpa using h2
  have t4 : (k == 4) = false := by simpa using h4
  have t5 : (k == 5) = false := by simpa using h5
  have t6 : (k == 6) = false := by simpa using h6
  have t9 : (k == 9) = false := by simpa using h9
  clear h1 h2 h4 h5 h6 h9
  go_enter Try.func40, Try.ntmps40
  all_goals
    go_wp2_with fail
    obtain ⟨-, r2, -, hb⟩ := three_recsM w #[.int .i64 k, .int .i64 n, .int .i64 o, .int .i64 f, .int .i64 s, .int .i64 u, .slice ac nc cc, .slice ae ne ce, .slice am nm cm, .slice ad nd cd] #[.int .i64 k, .int .i64 n, .int .i64 0, .int .i64 0, .int .i64 0, .int .i64 0, .slice none 0 0, .slice none 0 0, .slice none 0 0, .slice none 0 0] #[.int .i64 k, .int .i64 n, .int .i64 0, .int .i64 0, .int .i64 0, .int .i64 0, .slice none 0 0, .slice none 0 0, .slice none 0 0, .slice none 0 0] 27 27 27
    refine bodyPost_ret (results_c rfl rfl r2 Try.underlying27 rfl (by kernel_rfl)) rfl ?_
    rw [← HP.out]
    unfold NamedP
    rw [HX.out]
    exact ⟨⟨none, 0, 0, none, 0, 0, none, 0, 0, none, 0, 0⟩, rfl, ⟨TRow.nil _, ERow.nil _, GRow.nil _ _, Row.empty _ _ _ (Nat.zero_le _) (fun _ => rfl), rfl, rfl, rfl, rfl⟩, hb⟩
theorem named_any (m : Ms) (p : MsAt) (w : World) (h : MsRows w m p) : Calls Try.prog 40 #[msV m p] w (NamedP m w) := by
  by_cases h1 : m.kind = 1
  · exact named_1 m p w h h1
  by_cases h2 : m.kind = 2
  · exact named_2 m p w h h2
  by_cases h4 : m.kind = 4
  · exact named_4 m p w h h4
  by_cases h5 : m.kind = 5
  · exact named_5 m p w h h5
  by_cases h6 : m.kind = 6
  · exact named_6 m p w h h6
  by_cases h9 : m.kind = 9
  · exact named_9 m p w h h9
  exact named_o m p w h h1 h2 h4 h5 h6 h9

/-! ### numbers -/
/-- What the program asks of numbers once the kind is known. -/
def numsB (m : Ms) : Bool := decide (1 ≤ m.nonce ∧ m.nonce ≤ 1099511627776) && (decide (0 ≤ m.pos ∧ m.pos ≤ 1099511627776) && (decide (0 ≤ m.fin ∧ m.fin ≤ 1099511627776) && (decide (0 ≤ m.stage ∧ m.stage ≤ 16) && decide ((if m.kind = 9 then 1 else 0) ≤ m.num ∧ m.num ≤ (if m.kind = 9 then 13 else 512)))))
set_option maxRecDepth 20000 in
set_option maxHeartbeats 6400000 in
theorem rightNums_nine (m : Ms) (p : MsAt) (w : World) (hk : m.kind = 9) : Calls Try.prog 41 #[msV m p] w fun e w' => e = .returned (.bool (numsB m)) ∧ Below w.heap.size w w' := by
  have HE : Hid (numsB m = (decide (1 ≤ m.nonce ∧ m.nonce ≤ 1099511627776) && (decide (0 ≤ m.pos ∧ m.pos ≤ 1099511627776) && (decide (0 ≤ m.fin ∧ m.fin ≤ 1099511627776) && (decide (0 ≤ m.stage ∧ m.stage ≤ 16) && decide (1 ≤ m.num ∧ m.num ≤ 13)))))) := Lib.hid (by unfold numsB; simp only [hk, if_true, if_false])
  rw [HE.out]
  obtain ⟨k, n, o, f, s, u, C, E, T, D⟩ := m
  obtain ⟨ac, nc, cc, ae, ne, ce, am, nm, cm, ad, nd, cd⟩ := p
  clear HE
  simp only at hk ⊢
  subst hk
  have HB := Lib.hid ((Below.refl w.heap.size w).alloc (Nat.le_refl _) (.cells #[.int .i64 9, .int .i64 n, .int .i64 o, .int .i64 f, .int .i64 s, .int .i64 u, .slice ac nc cc, .slice ae ne ce, .slice am nm cm, .slice ad nd cd] 27))
  go_enter Try.func41, Try.ntmps41
  go_upto_region 4 with fail
  cases k1 : decide (1 ≤ n ∧ n ≤ 1099511627776) with
  | false =>
    go_wp2_with (go_at_call 39; refine (mbetween_any _ _ _ _).mono ?_; (first | rw [k1]); rintro e w2 ⟨rfl, rfl⟩)
    go_ret
    exact ⟨ret_bool (by simp only [k1, Bool.true_and, Bool.false_and]), HB.out⟩
  | true =>
  cases k2 : decide (0 ≤ o ∧ o ≤ 1099511627776) with
  | false =>
    go_wp2_with (go_at_call 39; refine (mbetween_any _ _ _ _).mono ?_; (first | rw [k1] | rw [k2]); rintro e w2 ⟨rfl, rfl⟩)
    go_ret
    exact ⟨ret_bool (by simp only [k1, k2, Bool.true_and, Bool.false_and]), HB.out⟩
  | true =>
  cases k3 : decide (0 ≤ f ∧ f ≤ 1099511627776) with
  | false =>
    go_wp2_with (go_at_call 39; refine (mbetween_any _ _ _ _).mono ?_; (first | rw [k1] | rw [k2] | rw [k3]); rintro e w2 ⟨rfl, rfl⟩)
    go_ret
    exact ⟨ret_bool (by simp only [k1, k2, k3, Bool.true_and, Bool.false_and]), HB.out⟩
  | true =>
  cases k4 : decide (0 ≤ s ∧ s ≤ 16) with
  | false =>
    go_wp2_with (go_at_call 39; refine (mbetween_any _ _ _ _).mono ?_; (first | rw [k1] | rw [k2] | rw [k3] | rw [k4]); rintro e w2 ⟨rfl, rfl⟩)
    go_ret
    exact ⟨ret_bool (by simp only [k1, k2, k3, k4, Bool.true_and, Bool.false_and]), HB.out⟩
  | true =>
  obtain ⟨B5, k5⟩ : ∃ B, decide (1 ≤ u ∧ u ≤ 13) = B := ⟨_, rfl⟩
  go_wp2_with (go_at_call 39; refine (mbetween_any _ _ _ _).mono ?_; (first | rw [k1] | rw [k2] | rw [k3] | rw [k4] | rw [k5]); rintro e w2 ⟨rfl, rfl⟩)
  go_ret
  exact ⟨ret_bool (by simp only [k1, k2, k3, k4, Bool.true_and, k5]), HB.out⟩
set_option maxRecDepth 20000 in
set_option maxHeartbeats 6400000 in
theorem rightNums_other (m : Ms) (p : MsAt) (w : World) (hk : m.kind ≠ 9) : Calls Try.prog 41 #[msV m p] w fun e w' => e = .returned (.bool (numsB m)) ∧ Below w.heap.size w w' := by
  have HE : Hid (numsB m = (decide (1 ≤ m.nonce ∧ m.nonce ≤ 1099511627776) && (decide (0 ≤ m.pos ∧ m.pos ≤ 1099511627776) && (decide (0 ≤ m.fin ∧ m.fin ≤ 1099511627776) && (decide (0 ≤ m.stage ∧ m.stage ≤ 16) && decide (0 ≤ m.num ∧ m.num ≤ 512)))))) := Lib.hid (by unfold numsB; simp only [hk, if_true, if_false])
  rw [HE.out]
  obtain ⟨k, n, o, f, s, u, C, E, T, D⟩ := m
  obtain ⟨ac, nc, cc, ae, ne, ce, am, nm, cm, ad, nd, cd⟩ := p
  clear HE
  simp only at hk ⊢
  have t9 : (k == 9) = false := by simpa using hk
  clear hk
  have HB := Lib.hid ((Below.refl w.heap.size w).alloc (Nat.le_refl _) (.cells #[.int .i64 k, .int .i64 n, .int .i64 o, .int .i64 f, .int .i64 s, .int .i64 u, .slice ac nc cc, .slice ae ne ce, .slice am nm cm, .slice ad nd cd] 27))
  go_enter Try.func41, Try.ntmps41
  go_upto_region 4 with fail
  cases k1 : decide (1 ≤ n ∧ n ≤ 1099511627776) with
  | false =>
    go_wp2_with (go_at_call 39; refine (mbetween_any _ _ _ _).mono ?_; (first | rw [k1]); rintro e w2 ⟨rfl, rfl⟩)
    go_ret
    exact ⟨ret_bool (by simp only [k1, Bool.true_and, Bool.false_and]), HB.out⟩
  | true =>
  cases k2 : decide (0 ≤ o ∧ o ≤ 1099511627776) with
  | false =>
    go_wp2_with (go_at_call 39; refine (mbetween_any _ _ _ _).mono ?_; (first | rw [k1] | rw [k2]); rintro e w2 ⟨rfl, rfl⟩)
    go_ret
    exact ⟨ret_bool (by simp only [k1, k2, Bool.true_and, Bool.false_and]), HB.out⟩
  | true =>
  cases k3 : decide (0 ≤ f ∧ f ≤ 1099511627776) with
  | false =>
    go_wp2_with (go_at_call 39; refine (mbetween_any _ _ _ _).mono ?_; (first | rw [k1] | rw [k2] | rw [k3]); rintro e w2 ⟨rfl, rfl⟩)
    go_ret
    exact ⟨ret_bool (by simp only [k1, k2, k3, Bool.true_and, Bool.false_and]), HB.out⟩
  | true =>
  cases k4 : decide (0 ≤ s ∧ s ≤ 16) with
  | false =>
    go_wp2_with (go_at_call 39; refine (mbetween_any _ _ _ _).mono ?_; (first | rw [k1] | rw [k2] | rw [k3] | rw [k4]); rintro e w2 ⟨rfl, rfl⟩)
    go_ret
    exact ⟨ret_bool (by simp only [k1, k2, k3, k4, Bool.true_and, Bool.false_and]), HB.out⟩
  | true =>
  obtain ⟨B5, k5⟩ : ∃ B, decide (0 ≤ u ∧ u ≤ 512) = B := ⟨_, rfl⟩
  go_wp2_with (go_at_call 39; refine (mbetween_any _ _ _ _).mono ?_; (first | rw [k1] | rw [k2] | rw [k3] | rw [k4] | rw [k5]); rintro e w2 ⟨rfl, rfl⟩)
  go_ret
  exact ⟨ret_bool (by simp only [k1, k2, k3, k4, Bool.true_and, k5]), HB.out⟩
theorem rightNums_any (m : Ms) (p : MsAt) (w : World) : Calls Try.prog 41 #[msV m p] w fun e w' => e = .returned (.bool (numsB m)) ∧ Below w.heap.size w w' := by
  by_cases h : m.kind = 9
  · exact rightNums_nine m p w h
  · exact rightNums_other m p w h
end Go.Proofs.Ytiahifpbofkimaa
