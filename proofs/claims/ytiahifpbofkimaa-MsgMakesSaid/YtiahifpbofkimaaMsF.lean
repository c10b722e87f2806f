/- Messages: may one be? The program's. -/
import Derived.Test.YtiahifpbofkimaaMsD
import Derived.Test.YtiahifpbofkimaaMsB
import Derived.Deep.RegionWith
import Derived.Deep.DeepCutAuto
namespace Go.Proofs.Ytiahifpbofkimaa
open Go.RowKit Go.Proofs
set_option linter.unusedVariables false
set_option linter.unusedSimpArgs false
set_option linter.unnecessarySimpa false

theorem rightMs_kind {m : Ms} (h : ¬ (1 ≤ m.kind ∧ m.kind ≤ 9)) : rightMs m = false := rightMs_no fun k => h k.1.1
theorem rightMs_named {m : Ms} (h : decide (m = namedM m) = false) : rightMs m = false := rightMs_no fun k => by rw [decide_eq_true ((named_iff m).2 k.2.1)] at h; cases h
theorem numsB_iff {m : Ms} : numsB m = true ↔ (1 ≤ m.nonce ∧ m.nonce ≤ 1099511627776) ∧ (0 ≤ m.pos ∧ m.pos ≤ 1099511627776) ∧ (0 ≤ m.fin ∧ m.fin ≤ 1099511627776) ∧ (0 ≤ m.stage ∧ m.stage ≤ 16) ∧ ((if m.kind = 9 then 1 else 0) ≤ m.num ∧ m.num ≤ (if m.kind = 9 then 13 else 512)) := by
  unfold numsB; simp only [Bool.and_eq_true, decide_eq_true_eq]
theorem rightMs_nums {m : Ms} (h : numsB m = false) : rightMs m = false := rightMs_no fun k => by
  have : numsB m = true := numsB_iff.2 (by
    obtain ⟨⟨k0, k1, k2, k3, k4, k5⟩, _, _, _, _, k9⟩ := k
    refine ⟨k1, k2, k3, k4, ?_⟩
    by_cases h9 : m.kind = 9
    · rw [if_pos h9, if_pos h9]; exact k9 h9
    · rw [if_neg h9, if_neg h9]; exact k5)
  rw [this] at h; cases h
theorem rightMs_rest {m : Ms} (h0 : 1 ≤ m.kind ∧ m.kind ≤ 9) (h1 : decide (m = namedM m) = true) (h2 : numsB m = true) :
    rightMs m = if m.kind = 2 then (rightC m.chain && entsB m.pos m.ents) else if m.kind = 4 then (rightC m.chain && marksB m.marks) else decide (m.data.length ≤ 64) := by
  have hn := (named_iff m).1 (of_decide_eq_true h1)
  obtain ⟨k1, k2, k3, k4, k5⟩ := numsB_iff.1 h2
  have hN : NumsM m := ⟨h0, k1, k2, k3, k4, by split at k5 <;> omega⟩
  have h9 : m.kind = 9 → 1 ≤ m.num ∧ m.num ≤ 13 := fun h => by rw [if_pos h, if_pos h] at k5; exact k5
  rw [Bool.eq_iff_iff, rightMs_iff]
  split
  · rename_i hk
    rw [Bool.and_eq_true, rightC_iff, entsB_iff]
    exact ⟨fun h => h.2.2.1 hk, fun h => ⟨hN, hn, fun _ => h, fun e => by omega, fun e => by omega, h9⟩⟩
  · split
    · rename_i hk2 hk
      rw [Bool.and_eq_true, rightC_iff, marksB_iff]
      exact ⟨fun h => h.2.2.2.1 hk, fun h => ⟨hN, hn, fun e => by omega, fun _ => h, fun e => by omega, h9⟩⟩
    · rename_i hk2 hk4
      rw [decide_eq_true_eq]
      constructor
      · intro h
        by_cases h6 : m.kind = 6
        · exact h.2.2.2.2.1 h6
        · have : m.data = [] := Classical.byContradiction fun h3 => h6 (hn.2.2.2.2.2.2.2 h3)
          rw [this]; simp
      · exact fun h => ⟨hN, hn, fun e => absurd e hk2, fun e => absurd e hk4, fun _ => h, h9⟩
set_option maxRecDepth 20000 in
set_option maxHeartbeats 12800000 in
theorem msright_any (m : Ms) (p : MsAt) (w : World) (h : MsRows w m p) : Calls Try.prog 15 #[msV m p] w fun e w' => e = .returned (.bool (rightMs m)) ∧ Below w.heap.size w w' := by
  have HB0 := Lib.hid ((Below.refl w.heap.size w).alloc (Nat.le_refl _) (.cells (msC m p) 27))
  have HX0 := Lib.hid (RecAt.new w (msC m p) 27)
  have hx := HX0.out.c10
  have HH := Lib.hid (h.later HB0.out)
  obtain ⟨w1, hw1⟩ : ∃ W, w.alloc (.cells (msC m p) 27) = W := ⟨_, rfl⟩
  rw [hw1] at HB0 HX0 HH
  have HW : Hid (∀ W, Below w1.heap.size w1 W → Calls Try.prog 40 #[msV m p] W fun e w' => ∃ q, e = .returned (msV (namedM m) q) ∧ MsRows w' (namedM m) q ∧ Below w1.heap.size w1 w') :=
    Lib.hid (fun W hb => (named_any m p W (HH.out.later hb)).mono fun e w' ⟨q, a, b, c⟩ => ⟨q, a, b, hb.trans (c.mono hb.size)⟩)
  have HS : Hid (∀ W q, Below w1.heap.size w1 W → MsRows W (namedM m) q → Calls Try.prog 17 #[msV m p, msV (namedM m) q] W fun e w' => e = .returned (.bool (decide (m = namedM m))) ∧ Below w1.heap.size w1 w') :=
    Lib.hid (fun W q hb hq => (mssame_any m (namedM m) p q W (HH.out.later hb) hq).mono fun e w' ⟨a, c⟩ => ⟨a, hb.trans (c.mono hb.size)⟩)
  have HN : Hid (∀ W, Below w1.heap.size w1 W → Calls Try.prog 41 #[msV m p] W fun e w' => e = .returned (.bool (numsB m)) ∧ Below w1.heap.size w1 w') :=
    Lib.hid (fun W hb => (rightNums_any m p W).mono fun e w' ⟨a, c⟩ => ⟨a, hb.trans (c.mono hb.size)⟩)
  have HC : Hid (∀ W, Below w1.heap.size w1 W → Calls Try.prog 42 #[.slice p.ac p.nc p.cc] W fun e w' => e = .returned (.bool (rightC m.chain)) ∧ Below w1.heap.size w1 w') :=
    Lib.hid (fun W hb => (chright_any _ _ _ m.chain W (HH.out.c.later hb) HH.out.hc).mono fun e w' ⟨a, c⟩ => ⟨a, hb.trans (c.mono hb.size)⟩)
  have HE : Hid (0 ≤ m.pos → m.pos ≤ 1099511627776 → ∀ W, Below w1.heap.size w1 W → Calls Try.prog 43 #[.slice p.ae p.ne p.ce, .int .i64 m.pos] W fun e w' => e = .returned (.bool (entsB m.pos m.ents)) ∧ Below w1.heap.size w1 w') :=
    Lib.hid (fun h1 h2 W hb => (rightEntries_any _ _ _ m.ents m.pos W (HH.out.e.later hb) HH.out.he h1 h2).mono fun e w' ⟨a, c⟩ => ⟨a, hb.trans (c.mono hb.size)⟩)
  have HM : Hid (∀ W, Below w1.heap.size w1 W → Calls Try.prog 44 #[.slice p.am p.nm p.cm] W fun e w' => e = .returned (.bool (marksB m.marks)) ∧ Below w1.heap.size w1 w') :=
    Lib.hid (fun W hb => (rightMarks_any _ _ _ m.marks W (HH.out.t.later hb) HH.out.ht).mono fun e w' ⟨a, c⟩ => ⟨a, hb.trans (c.mono hb.size)⟩)
  have HK := Lib.hid (rightMs_kind (m := m))
  have HD := Lib.hid (rightMs_named (m := m))
  have HU := Lib.hid (rightMs_nums (m := m))
  have HR := Lib.hid (rightMs_rest (m := m))
  have HZ : Hid (numsB m = true → 0 ≤ m.pos ∧ m.pos ≤ 1099511627776) := Lib.hid (fun hz => (numsB_iff.1 hz).2.1)
  have hnd : p.nd ≤ 9223372036854775807 := by have h1 := HH.out.d.1; have h2 := HH.out.d.2.1; have h3 := HH.out.hd; unfold maxLen at h2; omega
  have HND := Lib.hid HH.out.hd
  obtain ⟨B, hB⟩ : ∃ B, rightMs m = B := ⟨_, rfl⟩
  rw [hB] at HK HD HU HR ⊢
  obtain ⟨P, hP⟩ : ∃ P, (fun e w' => e = Ending.returned (.bool B) ∧ Below w.heap.size w w') = P := ⟨_, rfl⟩
  rw [hP]
  have HP : Hid (∀ w', Below w1.heap.size w1 w' → P (.returned (.bool B)) w') := Lib.hid (fun w' hb => by rw [← hP]; exact ⟨rfl, HB0.out.trans (hb.mono HB0.out.size)⟩)
  obtain ⟨G, hG⟩ : ∃ G, namedM m = G := ⟨_, rfl⟩
  obtain ⟨NB, hNB⟩ : ∃ NB, numsB m = NB := ⟨_, rfl⟩
  obtain ⟨SB, hSB⟩ : ∃ SB, decide (m = namedM m) = SB := ⟨_, rfl⟩
  obtain ⟨CB, hCB⟩ : ∃ SB, rightC m.chain = SB := ⟨_, rfl⟩
  obtain ⟨EB, hEB⟩ : ∃ SB, entsB m.pos m.ents = SB := ⟨_, rfl⟩
  obtain ⟨MB, hMB⟩ : ∃ SB, marksB m.marks = SB := ⟨_, rfl⟩
  rw [hSB] at HD HR HS
  rw [hNB] at HU HR HN HZ
  rw [hCB] at HC HR
  rw [hEB] at HE HR
  rw [hMB] at HM HR
  rw [hG] at HW HS
  clear hB hNB hSB hG hCB hEB hMB hP h HH
  obtain ⟨k, n, o, f, s, u, C, E, T, D⟩ := m
  obtain ⟨ac, nc, cc, ae, ne, ce, am, nm, cm, ad, nd, cd⟩ := p
  simp only [msC] at HK HR HZ hw1 hx hnd HND
  rw [HND.out] at HR
  go_enter Try.func15, Try.ntmps15
  go_upto_region 1 with fail
  try rw [hw1]
  rw [hw1] at hx
  clear hw1
  obtain ⟨X, hX⟩ : ∃ X, w.heap.size = X := ⟨_, rfl⟩
  rw [hX]
  rw [hX] at HX0 hx
  clear hX
  obtain ⟨x0, x1, x2, x3, x4, x5, x6, x7, x8, x9⟩ := hx
  cases k0 : decide (1 ≤ k ∧ k ≤ 9) with
  | false =>
    have hBF := HK.out (of_decide_eq_false k0)
    subst hBF
    clear HK HD HU HR HZ HE HC HM HN HW HS HND hnd
    go_region_with (go_at_call 39; refine (mbetween_any _ _ _ _).mono ?_; rw [k0]; rintro e w2 ⟨rfl, rfl⟩)
    all_goals
      go_wp2_with fail
      try go_ret
      exact HP.out _ (by first | exact Below.refl _ _ | exact (Below.refl _ _).drew | exact below_drewN _ _)
  | true =>
  have HK0 := Lib.hid (of_decide_eq_true k0)
  cases SB with
  | false =>
    have hBF := HD.out rfl
    subst hBF
    clear HK HD HU HR HZ HE HC HM HN HK0 HND hnd
    go_region_with (first
      | (go_at_call 39; refine (mbetween_any _ _ _ _).mono ?_; rw [k0]; rintro e w2 ⟨rfl, rfl⟩)
      | (go_at_call 40; refine (HW.out _ (by first | exact Below.refl _ _ | exact (Below.refl _ _).drew | exact below_drewN _ _)).mono ?_; rintro e w2 ⟨q, rfl, q2, hb2⟩; have HX2 := HX0.out.later hb2; obtain ⟨y0, y1, y2, y3, y4, y5, y6, y7, y8, y9⟩ := HX2.c10)
      | (go_at_call 17; refine (HS.out _ q (by first | exact hb2 | exact hb2.trans ((Below.refl _ _).drew.mono hb2.size)) (by first | exact q2 | exact q2.later (Below.refl _ _).drew)).mono ?_; rintro e w3 ⟨rfl, hb3⟩))
    all_goals
      go_wp2_with fail
      try go_ret
      exact HP.out _ (by first | exact hb3 | exact hb3.trans ((Below.refl _ _).drew.mono hb3.size))
  | true =>
  cases NB with
  | false =>
    have hBF := HU.out rfl
    subst hBF
    clear HK HD HU HR HZ HE HC HM HK0 HND hnd
    go_region_with (first
      | (go_at_call 39; refine (mbetween_any _ _ _ _).mono ?_; rw [k0]; rintro e w2 ⟨rfl, rfl⟩)
      | (go_at_call 40; refine (HW.out _ (by first | exact Below.refl _ _ | exact (Below.refl _ _).drew | exact below_drewN _ _)).mono ?_; rintro e w2 ⟨q, rfl, q2, hb2⟩; have HX2 := HX0.out.later hb2; obtain ⟨y0, y1, y2, y3, y4, y5, y6, y7, y8, y9⟩ := HX2.c10)
      | (go_at_call 17; refine (HS.out _ q (by first | exact hb2 | exact hb2.trans ((Below.refl _ _).drew.mono hb2.size)) (by first | exact q2 | exact q2.later (Below.refl _ _).drew)).mono ?_; rintro e w3 ⟨rfl, hb3⟩; have HX3 := HX0.out.later hb3; obtain ⟨z0, z1, z2, z3, z4, z5, z6, z7, z8, z9⟩ := HX3.c10)
      | (go_at_call 41; refine (HN.out _ (by first | exact hb3 | exact hb3.trans ((Below.refl _ _).drew.mono hb3.size))).mono ?_; rintro e w4 ⟨rfl, hb4⟩))
    all_goals
      go_wp2_with fail
      try go_ret
      exact HP.out _ (by first | exact hb4 | exact hb4.trans ((Below.refl _ _).drew.mono hb4.size))
  | true =>
    have hBR := HR.out (of_decide_eq_true k0) rfl rfl
    have hzz := HZ.out rfl
    have HE1 := Lib.hid (HE.out hzz.1 hzz.2)
    clear HK HD HU HR HZ HE HK0
    go_region_with (first
      | (go_at_call 39; refine (mbetween_any _ _ _ _).mono ?_; rw [k0]; rintro e w2 ⟨rfl, rfl⟩)
      | (go_at_call 40; refine (HW.out _ (by first | exact Below.refl _ _ | exact (Below.refl _ _).drew | exact below_drewN _ _)).mono ?_; rintro e w2 ⟨q, rfl, q2, hb2⟩; have HX2 := HX0.out.later hb2; obtain ⟨y0, y1, y2, y3, y4, y5, y6, y7, y8, y9⟩ := HX2.c10)
      | (go_at_call 17; refine (HS.out _ q (by first | exact hb2 | exact hb2.trans ((Below.refl _ _).drew.mono hb2.size)) (by first | exact q2 | exact q2.later (Below.refl _ _).drew)).mono ?_; rintro e w3 ⟨rfl, hb3⟩; have HX3 := HX0.out.later hb3; obtain ⟨z0, z1, z2, z3, z4, z5, z6, z7, z8, z9⟩ := HX3.c10)
      | (go_at_call 41; refine (HN.out _ (by first | exact hb3 | exact hb3.trans ((Below.refl _ _).drew.mono hb3.size))).mono ?_; rintro e w4 ⟨rfl, hb4⟩; have HX4 := HX0.out.later hb4; clear x0 x1 x2 x3 x4 x5 x6 x7 x8 x9 y0 y1 y2 y3 y4 y5 y6 y7 y8 y9 z0 z1 z2 z3 z4 z5 z6 z7 z8 z9; obtain ⟨x0, x1, x2, x3, x4, x5, x6, x7, x8, x9⟩ := HX4.c10))
    all_goals
      clear HW HS HN
      by_cases h2 : k = 2
      · subst h2
        rw [if_pos rfl] at hBR
        cases CB with
        | false =>
          have HPF : Hid (∀ w', Below w1.heap.size w1 w' → P (.returned (.bool false)) w') := Lib.hid (by rw [hBR] at HP; exact HP.out)
          clear HE1 HM HP
          go_wp2_with (go_at_call 42; refine (HC.out _ (by first | exact hb4 | exact hb4.trans ((Below.refl _ _).drew.mono hb4.size))).mono ?_; rintro e w5 ⟨rfl, hb5⟩)
          try go_ret
          exact HPF.out _ (by first | exact hb5 | exact hb5.trans ((Below.refl _ _).drew.mono hb5.size))
        | true =>
          have HPF : Hid (∀ w', Below w1.heap.size w1 w' → P (.returned (.bool EB)) w') := Lib.hid (by rw [hBR] at HP; exact HP.out)
          clear HM HP
          go_wp2_with (first
            | (go_at_call 42; refine (HC.out _ (by first | exact hb4 | exact hb4.trans ((Below.refl _ _).drew.mono hb4.size))).mono ?_; rintro e w5 ⟨rfl, hb5⟩; have HX5 := HX0.out.later hb5; clear x0 x1 x2 x3 x4 x5 x6 x7 x8 x9; obtain ⟨x0, x1, x2, x3, x4, x5, x6, x7, x8, x9⟩ := HX5.c10)
            | (go_at_call 43; refine (HE1.out _ (by first | exact hb5 | exact hb5.trans ((Below.refl _ _).drew.mono hb5.size))).mono ?_; rintro e w6 ⟨rfl, hb6⟩))
          try go_ret
          exact HPF.out _ (by first | exact hb6 | exact hb6.trans ((Below.refl _ _).drew.mono hb6.size))
      have t2 : (k == 2) = false := by simpa using h2
      rw [if_neg h2] at hBR
      clear h2 HE1
      by_cases h4 : k = 4
      · subst h4
        rw [if_pos rfl] at hBR
        clear t2
        cases CB with
        | false =>
          have HPF : Hid (∀ w', Below w1.heap.size w1 w' → P (.returned (.bool false)) w') := Lib.hid (by rw [hBR] at HP; exact HP.out)
          clear HM HP
          go_wp2_with (go_at_call 42; refine (HC.out _ (by first | exact hb4 | exact hb4.trans ((Below.refl _ _).drew.mono hb4.size))).mono ?_; rintro e w5 ⟨rfl, hb5⟩)
          try go_ret
          exact HPF.out _ (by first | exact hb5 | exact hb5.trans ((Below.refl _ _).drew.mono hb5.size))
        | true =>
          have HPF : Hid (∀ w', Below w1.heap.size w1 w' → P (.returned (.bool MB)) w') := Lib.hid (by rw [hBR] at HP; exact HP.out)
          clear HP
          go_wp2_with (first
            | (go_at_call 42; refine (HC.out _ (by first | exact hb4 | exact hb4.trans ((Below.refl _ _).drew.mono hb4.size))).mono ?_; rintro e w5 ⟨rfl, hb5⟩; have HX5 := HX0.out.later hb5; clear x0 x1 x2 x3 x4 x5 x6 x7 x8 x9; obtain ⟨x0, x1, x2, x3, x4, x5, x6, x7, x8, x9⟩ := HX5.c10)
            | (go_at_call 44; refine (HM.out _ (by first | exact hb5 | exact hb5.trans ((Below.refl _ _).drew.mono hb5.size))).mono ?_; rintro e w6 ⟨rfl, hb6⟩))
          try go_ret
          exact HPF.out _ (by first | exact hb6 | exact hb6.trans ((Below.refl _ _).drew.mono hb6.size))
      have t4 : (k == 4) = false := by simpa using h4
      rw [if_neg h4] at hBR
      clear h4
      have HPF : Hid (∀ w', Below w1.heap.size w1 w' → P (.returned (.bool (decide ((nd : Int) ≤ 64)))) w') := Lib.hid (by rw [show decide ((nd : Int) ≤ 64) = decide (nd ≤ 64) by rw [decide_eq_decide]; omega, ← hBR]; exact HP.out)
      clear HM HC HP
      go_wp2_with fail
      try go_ret
      exact HPF.out _ (by first | exact hb4 | exact hb4.trans ((Below.refl _ _).drew.mono hb4.size))
end Go.Proofs.Ytiahifpbofkimaa
