/- Messages: may one be? The document's own: kinds 5 to 9. Printed by gen_msh.py. -/
import Derived.Test.YtiahifpbofkimaaMsHa
namespace Go.Proofs.Ytiahifpbofkimaa
open Go.RowKit Go.Proofs
set_option linter.unusedVariables false
set_option linter.unusedSimpArgs false
set_option linter.unnecessarySimpa false

set_option maxRecDepth 20000 in
set_option maxHeartbeats 12800000 in
theorem rright_5 (m : Ms) (p : MsAt) (w : World) (h : MsRows w m p) (hN : NumsM m) (hk : m.kind = 5) : Calls Try.prog 16 #[msV m p] w fun e w' => e = .returned (.bool (rightMs m)) ∧ Below w.heap.size w w' := by
  have HB0 := Lib.hid ((Below.refl w.heap.size w).alloc (Nat.le_refl _) (.cells (msC m p) 27))
  have HX0 := Lib.hid (RecAt.new w (msC m p) 27)
  have hx := HX0.out.c10
  have HH := Lib.hid (h.later HB0.out)
  obtain ⟨w1, hw1⟩ : ∃ W, w.alloc (.cells (msC m p) 27) = W := ⟨_, rfl⟩
  rw [hw1] at HB0 HX0 HH
  have H4 := Lib.hid (rightMs_b4 HH.out.hc HH.out.he HH.out.ht HH.out.hd)
  have H6 := Lib.hid (rightMs_b6 HH.out.hc HH.out.he HH.out.ht HH.out.hd)
  have HO := Lib.hid (rightMs_ok HH.out.hc HH.out.he HH.out.ht HH.out.hd hN)
  have hnc : p.nc ≤ 9223372036854775807 := by have h1 := HH.out.c.1; have h2 := HH.out.c.2.1; have h3 := HH.out.hc; unfold maxLen at h2; omega
  have hne : p.ne ≤ 9223372036854775807 := by have h1 := HH.out.e.1; have h2 := HH.out.e.2.1; have h3 := HH.out.he; unfold maxLen at h2; omega
  have hnm : p.nm ≤ 9223372036854775807 := by have h1 := HH.out.t.1; have h2 := HH.out.t.2.1; have h3 := HH.out.ht; unfold maxLen at h2; omega
  have hnd : p.nd ≤ 9223372036854775807 := by have h1 := HH.out.d.1; have h2 := HH.out.d.2.1; have h3 := HH.out.hd; unfold maxLen at h2; omega
  obtain ⟨B, hB⟩ : ∃ B, rightMs m = B := ⟨_, rfl⟩
  rw [hB] at H4 H6 HO ⊢
  obtain ⟨P, hP⟩ : ∃ P, (fun e w' => e = Ending.returned (.bool B) ∧ Below w.heap.size w w') = P := ⟨_, rfl⟩
  rw [hP]
  have HP : Hid (∀ w', Below w1.heap.size w1 w' → P (.returned (.bool B)) w') := Lib.hid (fun w' hb => by rw [← hP]; exact ⟨rfl, HB0.out.trans (hb.mono HB0.out.size)⟩)
  clear hB hP h HH HB0
  unfold NumsM at hN
  obtain ⟨k, n, o, f, s, u, C, E, T, D⟩ := m
  obtain ⟨ac, nc, cc, ae, ne, ce, am, nm, cm, ad, nd, cd⟩ := p
  simp only [msC] at hw1 hx hN hk H4 H6 HO hnc hne hnm hnd
  subst hk
  obtain ⟨-, hn1, hn2, hn3, hn4, hn5⟩ := hN
  have k0 : decide ((1 : Int) ≤ 5 ∧ (5 : Int) ≤ 9) = true := by decide
  have k1 := decide_eq_true hn1
  have k2 := decide_eq_true hn2
  have k3 := decide_eq_true hn3
  have k4 := decide_eq_true hn4
  have k5 := decide_eq_true hn5
  clear hn1 hn2 hn3 hn4 hn5
  go_enter Try.func16, Try.ntmps16
  go_upto_region 1 with fail
  try rw [hw1]
  rw [hw1] at hx
  clear hw1
  obtain ⟨X, hX⟩ : ∃ X, w.heap.size = X := ⟨_, rfl⟩
  rw [hX]
  rw [hX] at HX0 hx
  clear hX
  obtain ⟨x0, x1, x2, x3, x4, x5, x6, x7, x8, x9⟩ := hx
  go_upto_region 4 with (go_at_call 45; refine (rmbetween_any _ _ _ _).mono ?_; (first | rw [k0] | rw [k1] | rw [k2] | rw [k3] | rw [k4] | rw [k5]); rintro e w2 ⟨rfl, rfl⟩)
  clear k0 k1 k2 k3 k4 k5
  go_cut [97] (fun v wx => v = .bool (b4 5 o f s u) ∧ Hid (Below w1.heap.size w1 wx))
  case first =>
    clear x1 x6 x7 x8 x9 H4 H6 HO HP
    by_cases co : o = 0
    · have ddo : (o != 0) = false := by simpa using co
      have eeo : (o == 0) = true := by simpa using co
      by_cases cf : f = 0
      · have ddf : (f != 0) = false := by simpa using cf
        have eef : (f == 0) = true := by simpa using cf
        by_cases cs : s = 0
        · have dds : (s != 0) = false := by simpa using cs
          have ees : (s == 0) = true := by simpa using cs
          by_cases cu : u = 0
          · have ddu : (u != 0) = false := by simpa using cu
            have eeu : (u == 0) = true := by simpa using cu
            have Zo := Lib.hid co; clear co; have Zf := Lib.hid cf; clear cf; have Zs := Lib.hid cs; clear cs; have Zu := Lib.hid cu; clear cu
            go_wp2_with fail
            go_meet
            have co := Zo.out; have cf := Zf.out; have cs := Zs.out; have cu := Zu.out
            exact ⟨by congr 1; symm; first | exact decide_eq_true (by omega) | exact decide_eq_false (by omega), Lib.hid (Below.refl _ _)⟩
          · have ddu : (u != 0) = true := by simpa using cu
            have eeu : (u == 0) = false := by simpa using cu
            have Zo := Lib.hid co; clear co; have Zf := Lib.hid cf; clear cf; have Zs := Lib.hid cs; clear cs; have Zu := Lib.hid cu; clear cu
            go_wp2_with fail
            go_meet
            have co := Zo.out; have cf := Zf.out; have cs := Zs.out; have cu := Zu.out
            exact ⟨by congr 1; symm; first | exact decide_eq_true (by omega) | exact decide_eq_false (by omega), Lib.hid (Below.refl _ _)⟩
        · have dds : (s != 0) = true := by simpa using cs
          have ees : (s == 0) = false := by simpa using cs
          by_cases cu : u = 0
          · have ddu : (u != 0) = false := by simpa using cu
            have eeu : (u == 0) = true := by simpa using cu
            have Zo := Lib.hid co; clear co; have Zf := Lib.hid cf; clear cf; have Zs := Lib.hid cs; clear cs; have Zu := Lib.hid cu; clear cu
            go_wp2_with fail
            go_meet
            have co := Zo.out; have cf := Zf.out; have cs := Zs.out; have cu := Zu.out
            exact ⟨by congr 1; symm; first | exact decide_eq_true (by omega) | exact decide_eq_false (by omega), Lib.hid (Below.refl _ _)⟩
          · have ddu : (u != 0) = true := by simpa using cu
            have eeu : (u == 0) = false := by simpa using cu
            have Zo := Lib.hid co; clear co; have Zf := Lib.hid cf; clear cf; have Zs := Lib.hid cs; clear cs; have Zu := Lib.hid cu; clear cu
            go_wp2_with fail
            go_meet
            have co := Zo.out; have cf := Zf.out; have cs := Zs.out; have cu := Zu.out
            exact ⟨by congr 1; symm; first | exact decide_eq_true (by omega) | exact decide_eq_false (by omega), Lib.hid (Below.refl _ _)⟩
      · have ddf : (f != 0) = true := by simpa using cf
        have eef : (f == 0) = false := by simpa using cf
        have Zo := Lib.hid co; clear co; have Zf := Lib.hid cf; clear cf
        go_wp2_with fail
        go_meet
        have co := Zo.out; have cf := Zf.out
        exact ⟨by congr 1; symm; first | exact decide_eq_true (by omega) | exact decide_eq_false (by omega), Lib.hid (Below.refl _ _)⟩
    · have ddo : (o != 0) = true := by simpa using co
      have eeo : (o == 0) = false := by simpa using co
      have Zo := Lib.hid co; clear co
      go_wp2_with fail
      go_meet
      have co := Zo.out
      exact ⟨by congr 1; symm; first | exact decide_eq_true (by omega) | exact decide_eq_false (by omega), Lib.hid (Below.refl _ _)⟩
  case rest =>
    obtain ⟨rfl, HBc⟩ := hcut
    clear x0 x1 x2 x3 x4 x5 x6 x7 x8 x9
    obtain ⟨x0, x1, x2, x3, x4, x5, x6, x7, x8, x9⟩ := (HX0.out.later HBc.out).c10
    cases hb4 : b4 5 o f s u with
    | true =>
      have hB := H4.out hb4
      subst hB
      go_wp2_with fail
      try go_ret
      exact HP.out _ HBc.out
    | false =>
    have HO2 := Lib.hid (HO.out hb4)
    clear H4 HO hb4
    go_upto_region 6 with fail
    go_cut [139] (fun v wy => v = .bool (b6 5 nc ne nm nd) ∧ Hid (Below w1.heap.size w1 wy))
    case first =>
      clear x0 x1 x2 x3 x4 x5 H6 HO2 HP
      by_cases cnc : nc = 0
      · have ddnc : decide (0 < (nc : Int)) = false := by simp; omega
        have eenc : decide (0 < nc) = false := by simp; omega
        by_cases cne : ne = 0
        · have ddne : decide (0 < (ne : Int)) = false := by simp; omega
          have eene : decide (0 < ne) = false := by simp; omega
          by_cases cnm : nm = 0
          · have ddnm : decide (0 < (nm : Int)) = false := by simp; omega
            have eenm : decide (0 < nm) = false := by simp; omega
            by_cases cnd : nd = 0
            · have ddnd : decide (0 < (nd : Int)) = false := by simp; omega
              have eend : decide (0 < nd) = false := by simp; omega
              have Znc := Lib.hid cnc; clear cnc; have Zne := Lib.hid cne; clear cne; have Znm := Lib.hid cnm; clear cnm; have Znd := Lib.hid cnd; clear cnd
              go_wp2_with fail
              go_meet
              have cnc := Znc.out; have cne := Zne.out; have cnm := Znm.out; have cnd := Znd.out
              exact ⟨by congr 1; symm; first | exact decide_eq_true (by omega) | exact decide_eq_false (by omega), HBc⟩
            · have ddnd : decide (0 < (nd : Int)) = true := by simp; omega
              have eend : decide (0 < nd) = true := by simp; omega
              have Znc := Lib.hid cnc; clear cnc; have Zne := Lib.hid cne; clear cne; have Znm := Lib.hid cnm; clear cnm; have Znd := Lib.hid cnd; clear cnd
              go_wp2_with fail
              go_meet
              have cnc := Znc.out; have cne := Zne.out; have cnm := Znm.out; have cnd := Znd.out
              exact ⟨by congr 1; symm; first | exact decide_eq_true (by omega) | exact decide_eq_false (by omega), HBc⟩
          · have ddnm : decide (0 < (nm : Int)) = true := by simp; omega
            have eenm : decide (0 < nm) = true := by simp; omega
            have Znc := Lib.hid cnc; clear cnc; have Zne := Lib.hid cne; clear cne; have Znm := Lib.hid cnm; clear cnm
            go_wp2_with fail
            go_meet
            have cnc := Znc.out; have cne := Zne.out; have cnm := Znm.out
            exact ⟨by congr 1; symm; first | exact decide_eq_true (by omega) | exact decide_eq_false (by omega), HBc⟩
        · have ddne : decide (0 < (ne : Int)) = true := by simp; omega
          have eene : decide (0 < ne) = true := by simp; omega
          have Znc := Lib.hid cnc; clear cnc; have Zne := Lib.hid cne; clear cne
          go_wp2_with fail
          go_meet
          have cnc := Znc.out; have cne := Zne.out
          exact ⟨by congr 1; symm; first | exact decide_eq_true (by omega) | exact decide_eq_false (by omega), HBc⟩
      · have ddnc : decide (0 < (nc : Int)) = true := by simp; omega
        have eenc : decide (0 < nc) = true := by simp; omega
        have Znc := Lib.hid cnc; clear cnc
        go_wp2_with fail
        go_meet
        have cnc := Znc.out
        exact ⟨by congr 1; symm; first | exact decide_eq_true (by omega) | exact decide_eq_false (by omega), HBc⟩
    case rest =>
      obtain ⟨rfl, HBd⟩ := hcut
      clear x0 x1 x2 x3 x4 x5 x6 x7 x8 x9
      obtain ⟨x0, x1, x2, x3, x4, x5, x6, x7, x8, x9⟩ := (HX0.out.later HBd.out).c10
      cases hb6 : b6 5 nc ne nm nd with
      | true =>
        have hB := H6.out hb6
        subst hB
        go_wp2_with fail
        try go_ret
        exact HP.out _ HBd.out
      | false =>
        have hB := HO2.out hb6
        clear H6 HO2 hb6
        simp only [Int.reduceEq, reduceIte] at hB
        subst hB
        go_wp2_with fail
        try go_ret
        exact HP.out _ HBd.out
set_option maxRecDepth 20000 in
set_option maxHeartbeats 12800000 in
theorem rright_6 (m : Ms) (p : MsAt) (w : World) (h : MsRows w m p) (hN : NumsM m) (hk : m.kind = 6) : Calls Try.prog 16 #[msV m p] w fun e w' => e = .returned (.bool (rightMs m)) ∧ Below w.heap.size w w' := by
  have HB0 := Lib.hid ((Below.refl w.heap.size w).alloc (Nat.le_refl _) (.cells (msC m p) 27))
  have HX0 := Lib.hid (RecAt.new w (msC m p) 27)
  have hx := HX0.out.c10
  have HH := Lib.hid (h.later HB0.out)
  obtain ⟨w1, hw1⟩ : ∃ W, w.alloc (.cells (msC m p) 27) = W := ⟨_, rfl⟩
  rw [hw1] at HB0 HX0 HH
  have H4 := Lib.hid (rightMs_b4 HH.out.hc HH.out.he HH.out.ht HH.out.hd)
  have H6 := Lib.hid (rightMs_b6 HH.out.hc HH.out.he HH.out.ht HH.out.hd)
  have HO := Lib.hid (rightMs_ok HH.out.hc HH.out.he HH.out.ht HH.out.hd hN)
  have hnc : p.nc ≤ 9223372036854775807 := by have h1 := HH.out.c.1; have h2 := HH.out.c.2.1; have h3 := HH.out.hc; unfold maxLen at h2; omega
  have hne : p.ne ≤ 9223372036854775807 := by have h1 := HH.out.e.1; have h2 := HH.out.e.2.1; have h3 := HH.out.he; unfold maxLen at h2; omega
  have hnm : p.nm ≤ 9223372036854775807 := by have h1 := HH.out.t.1; have h2 := HH.out.t.2.1; have h3 := HH.out.ht; unfold maxLen at h2; omega
  have hnd : p.nd ≤ 9223372036854775807 := by have h1 := HH.out.d.1; have h2 := HH.out.d.2.1; have h3 := HH.out.hd; unfold maxLen at h2; omega
  obtain ⟨B, hB⟩ : ∃ B, rightMs m = B := ⟨_, rfl⟩
  rw [hB] at H4 H6 HO ⊢
  obtain ⟨P, hP⟩ : ∃ P, (fun e w' => e = Ending.returned (.bool B) ∧ Below w.heap.size w w') = P := ⟨_, rfl⟩
  rw [hP]
  have HP : Hid (∀ w', Below w1.heap.size w1 w' → P (.returned (.bool B)) w') := Lib.hid (fun w' hb => by rw [← hP]; exact ⟨rfl, HB0.out.trans (hb.mono HB0.out.size)⟩)
  clear hB hP h HH HB0
  unfold NumsM at hN
  obtain ⟨k, n, o, f, s, u, C, E, T, D⟩ := m
  obtain ⟨ac, nc, cc, ae, ne, ce, am, nm, cm, ad, nd, cd⟩ := p
  simp only [msC] at hw1 hx hN hk H4 H6 HO hnc hne hnm hnd
  subst hk
  obtain ⟨-, hn1, hn2, hn3, hn4, hn5⟩ := hN
  have k0 : decide ((1 : Int) ≤ 6 ∧ (6 : Int) ≤ 9) = true := by decide
  have k1 := decide_eq_true hn1
  have k2 := decide_eq_true hn2
  have k3 := decide_eq_true hn3
  have k4 := decide_eq_true hn4
  have k5 := decide_eq_true hn5
  clear hn1 hn2 hn3 hn4 hn5
  go_enter Try.func16, Try.ntmps16
  go_upto_region 1 with fail
  try rw [hw1]
  rw [hw1] at hx
  clear hw1
  obtain ⟨X, hX⟩ : ∃ X, w.heap.size = X := ⟨_, rfl⟩
  rw [hX]
  rw [hX] at HX0 hx
  clear hX
  obtain ⟨x0, x1, x2, x3, x4, x5, x6, x7, x8, x9⟩ := hx
  go_upto_region 4 with (go_at_call 45; refine (rmbetween_any _ _ _ _).mono ?_; (first | rw [k0] | rw [k1] | rw [k2] | rw [k3] | rw [k4] | rw [k5]); rintro e w2 ⟨rfl, rfl⟩)
  clear k0 k1 k2 k3 k4 k5
  go_cut [97] (fun v wx => v = .bool (b4 6 o f s u) ∧ Hid (Below w1.heap.size w1 wx))
  case first =>
    clear x1 x6 x7 x8 x9 H4 H6 HO HP
    by_cases co : o = 0
    · have ddo : (o != 0) = false := by simpa using co
      have eeo : (o == 0) = true := by simpa using co
      by_cases cf : f = 0
      · have ddf : (f != 0) = false := by simpa using cf
        have eef : (f == 0) = true := by simpa using cf
        by_cases cs : s = 0
        · have dds : (s != 0) = false := by simpa using cs
          have ees : (s == 0) = true := by simpa using cs
          by_cases cu : u = 0
          · have ddu : (u != 0) = false := by simpa using cu
            have eeu : (u == 0) = true := by simpa using cu
            have Zo := Lib.hid co; clear co; have Zf := Lib.hid cf; clear cf; have Zs := Lib.hid cs; clear cs; have Zu := Lib.hid cu; clear cu
            go_wp2_with fail
            go_meet
            have co := Zo.out; have cf := Zf.out; have cs := Zs.out; have cu := Zu.out
            exact ⟨by congr 1; symm; first | exact decide_eq_true (by omega) | exact decide_eq_false (by omega), Lib.hid (Below.refl _ _)⟩
          · have ddu : (u != 0) = true := by simpa using cu
            have eeu : (u == 0) = false := by simpa using cu
            have Zo := Lib.hid co; clear co; have Zf := Lib.hid cf; clear cf; have Zs := Lib.hid cs; clear cs; have Zu := Lib.hid cu; clear cu
            go_wp2_with fail
            go_meet
            have co := Zo.out; have cf := Zf.out; have cs := Zs.out; have cu := Zu.out
            exact ⟨by congr 1; symm; first | exact decide_eq_true (by omega) | exact decide_eq_false (by omega), Lib.hid (Below.refl _ _)⟩
        · have dds : (s != 0) = true := by simpa using cs
          have ees : (s == 0) = false := by simpa using cs
          by_cases cu : u = 0
          · have ddu : (u != 0) = false := by simpa using cu
            have eeu : (u == 0) = true := by simpa using cu
            have Zo := Lib.hid co; clear co; have Zf := Lib.hid cf; clear cf; have Zs := Lib.hid cs; clear cs; have Zu := Lib.hid cu; clear cu
            go_wp2_with fail
            go_meet
            have co := Zo.out; have cf := Zf.out; have cs := Zs.out; have cu := Zu.out
            exact ⟨by congr 1; symm; first | exact decide_eq_true (by omega) | exact decide_eq_false (by omega), Lib.hid (Below.refl _ _)⟩
          · have ddu : (u != 0) = true := by simpa using cu
            have eeu : (u == 0) = false := by simpa using cu
            have Zo := Lib.hid co; clear co; have Zf := Lib.hid cf; clear cf; have Zs := Lib.hid cs; clear cs; have Zu := Lib.hid cu; clear cu
            go_wp2_with fail
            go_meet
            have co := Zo.out; have cf := Zf.out; have cs := Zs.out; have cu := Zu.out
            exact ⟨by congr 1; symm; first | exact decide_eq_true (by omega) | exact decide_eq_false (by omega), Lib.hid (Below.refl _ _)⟩
      · have ddf : (f != 0) = true := by simpa using cf
        have eef : (f == 0) = false := by simpa using cf
        have Zo := Lib.hid co; clear co; have Zf := Lib.hid cf; clear cf
        go_wp2_with fail
        go_meet
        have co := Zo.out; have cf := Zf.out
        exact ⟨by congr 1; symm; first | exact decide_eq_true (by omega) | exact decide_eq_false (by omega), Lib.hid (Below.refl _ _)⟩
    · have ddo : (o != 0) = true := by simpa using co
      have eeo : (o == 0) = false := by simpa using co
      have Zo := Lib.hid co; clear co
      go_wp2_with fail
      go_meet
      have co := Zo.out
      exact ⟨by congr 1; symm; first | exact decide_eq_true (by omega) | exact decide_eq_false (by omega), Lib.hid (Below.refl _ _)⟩
  case rest =>
    obtain ⟨rfl, HBc⟩ := hcut
    clear x0 x1 x2 x3 x4 x5 x6 x7 x8 x9
    obtain ⟨x0, x1, x2, x3, x4, x5, x6, x7, x8, x9⟩ := (HX0.out.later HBc.out).c10
    cases hb4 : b4 6 o f s u with
    | true =>
      have hB := H4.out hb4
      subst hB
      go_wp2_with fail
      try go_ret
      exact HP.out _ HBc.out
    | false =>
    have HO2 := Lib.hid (HO.out hb4)
    clear H4 HO hb4
    go_upto_region 6 with fail
    go_cut [139] (fun v wy => v = .bool (b6 6 nc ne nm nd) ∧ Hid (Below w1.heap.size w1 wy))
    case first =>
      clear x0 x1 x2 x3 x4 x5 H6 HO2 HP
      by_cases cnc : nc = 0
      · have ddnc : decide (0 < (nc : Int)) = false := by simp; omega
        have eenc : decide (0 < nc) = false := by simp; omega
        by_cases cne : ne = 0
        · have ddne : decide (0 < (ne : Int)) = false := by simp; omega
          have eene : decide (0 < ne) = false := by simp; omega
          by_cases cnm : nm = 0
          · have ddnm : decide (0 < (nm : Int)) = false := by simp; omega
            have eenm : decide (0 < nm) = false := by simp; omega
            by_cases cnd : nd = 0
            · have ddnd : decide (0 < (nd : Int)) = false := by simp; omega
              have eend : decide (0 < nd) = false := by simp; omega
              have Znc := Lib.hid cnc; clear cnc; have Zne := Lib.hid cne; clear cne; have Znm := Lib.hid cnm; clear cnm; have Znd := Lib.hid cnd; clear cnd
              go_wp2_with fail
              go_meet
              have cnc := Znc.out; have cne := Zne.out; have cnm := Znm.out; have cnd := Znd.out
              exact ⟨by congr 1; symm; first | exact decide_eq_true (by omega) | exact decide_eq_false (by omega), HBc⟩
            · have ddnd : decide (0 < (nd : Int)) = true := by simp; omega
              have eend : decide (0 < nd) = true := by simp; omega
              have Znc := Lib.hid cnc; clear cnc; have Zne := Lib.hid cne; clear cne; have Znm := Lib.hid cnm; clear cnm; have Znd := Lib.hid cnd; clear cnd
              go_wp2_with fail
              go_meet
              have cnc := Znc.out; have cne := Zne.out; have cnm := Znm.out; have cnd := Znd.out
              exact ⟨by congr 1; symm; first | exact decide_eq_true (by omega) | exact decide_eq_false (by omega), HBc⟩
          · have ddnm : decide (0 < (nm : Int)) = true := by simp; omega
            have eenm : decide (0 < nm) = true := by simp; omega
            have Znc := Lib.hid cnc; clear cnc; have Zne := Lib.hid cne; clear cne; have Znm := Lib.hid cnm; clear cnm
            go_wp2_with fail
            go_meet
            have cnc := Znc.out; have cne := Zne.out; have cnm := Znm.out
            exact ⟨by congr 1; symm; first | exact decide_eq_true (by omega) | exact decide_eq_false (by omega), HBc⟩
        · have ddne : decide (0 < (ne : Int)) = true := by simp; omega
          have eene : decide (0 < ne) = true := by simp; omega
          have Znc := Lib.hid cnc; clear cnc; have Zne := Lib.hid cne; clear cne
          go_wp2_with fail
          go_meet
          have cnc := Znc.out; have cne := Zne.out
          exact ⟨by congr 1; symm; first | exact decide_eq_true (by omega) | exact decide_eq_false (by omega), HBc⟩
      · have ddnc : decide (0 < (nc : Int)) = true := by simp; omega
        have eenc : decide (0 < nc) = true := by simp; omega
        have Znc := Lib.hid cnc; clear cnc
        go_wp2_with fail
        go_meet
        have cnc := Znc.out
        exact ⟨by congr 1; symm; first | exact decide_eq_true (by omega) | exact decide_eq_false (by omega), HBc⟩
    case rest =>
      obtain ⟨rfl, HBd⟩ := hcut
      clear x0 x1 x2 x3 x4 x5 x6 x7 x8 x9
      obtain ⟨x0, x1, x2, x3, x4, x5, x6, x7, x8, x9⟩ := (HX0.out.later HBd.out).c10
      cases hb6 : b6 6 nc ne nm nd with
      | true =>
        have hB := H6.out hb6
        subst hB
        go_wp2_with fail
        try go_ret
        exact HP.out _ HBd.out
      | false =>
        have hB := HO2.out hb6
        clear H6 HO2 hb6
        have hB2 : B = decide ((nd : Int) ≤ 64) := by rw [hB]; simp only [Int.reduceEq, reduceIte]; rw [decide_eq_decide]; omega
        subst hB2
        clear hB
        go_wp2_with fail
        try go_ret
        exact HP.out _ HBd.out
set_option maxRecDepth 20000 in
set_option maxHeartbeats 12800000 in
theorem rright_7 (m : Ms) (p : MsAt) (w : World) (h : MsRows w m p) (hN : NumsM m) (hk : m.kind = 7) : Calls Try.prog 16 #[msV m p] w fun e w' => e = .returned (.bool (rightMs m)) ∧ Below w.heap.size w w' := by
  have HB0 := Lib.hid ((Below.refl w.heap.size w).alloc (Nat.le_refl _) (.cells (msC m p) 27))
  have HX0 := Lib.hid (RecAt.new w (msC m p) 27)
  have hx := HX0.out.c10
  have HH := Lib.hid (h.later HB0.out)
  obtain ⟨w1, hw1⟩ : ∃ W, w.alloc (.cells (msC m p) 27) = W := ⟨_, rfl⟩
  rw [hw1] at HB0 HX0 HH
  have H4 := Lib.hid (rightMs_b4 HH.out.hc HH.out.he HH.out.ht HH.out.hd)
  have H6 := Lib.hid (rightMs_b6 HH.out.hc HH.out.he HH.out.ht HH.out.hd)
  have HO := Lib.hid (rightMs_ok HH.out.hc HH.out.he HH.out.ht HH.out.hd hN)
  have hnc : p.nc ≤ 9223372036854775807 := by have h1 := HH.out.c.1; have h2 := HH.out.c.2.1; have h3 := HH.out.hc; unfold maxLen at h2; omega
  have hne : p.ne ≤ 9223372036854775807 := by have h1 := HH.out.e.1; have h2 := HH.out.e.2.1; have h3 := HH.out.he; unfold maxLen at h2; omega
  have hnm : p.nm ≤ 9223372036854775807 := by have h1 := HH.out.t.1; have h2 := HH.out.t.2.1; have h3 := HH.out.ht; unfold maxLen at h2; omega
  have hnd : p.nd ≤ 9223372036854775807 := by have h1 := HH.out.d.1; have h2 := HH.out.d.2.1; have h3 := HH.out.hd; unfold maxLen at h2; omega
  obtain ⟨B, hB⟩ : ∃ B, rightMs m = B := ⟨_, rfl⟩
  rw [hB] at H4 H6 HO ⊢
  obtain ⟨P, hP⟩ : ∃ P, (fun e w' => e = Ending.returned (.bool B) ∧ Below w.heap.size w w') = P := ⟨_, rfl⟩
  rw [hP]
  have HP : Hid (∀ w', Below w1.heap.size w1 w' → P (.returned (.bool B)) w') := Lib.hid (fun w' hb => by rw [← hP]; exact ⟨rfl, HB0.out.trans (hb.mono HB0.out.size)⟩)
  clear hB hP h HH HB0
  unfold NumsM at hN
  obtain ⟨k, n, o, f, s, u, C, E, T, D⟩ := m
  obtain ⟨ac, nc, cc, ae, ne, ce, am, nm, cm, ad, nd, cd⟩ := p
  simp only [msC] at hw1 hx hN hk H4 H6 HO hnc hne hnm hnd
  subst hk
  obtain ⟨-, hn1, hn2, hn3, hn4, hn5⟩ := hN
  have k0 : decide ((1 : Int) ≤ 7 ∧ (7 : Int) ≤ 9) = true := by decide
  have k1 := decide_eq_true hn1
  have k2 := decide_eq_true hn2
  have k3 := decide_eq_true hn3
  have k4 := decide_eq_true hn4
  have k5 := decide_eq_true hn5
  clear hn1 hn2 hn3 hn4 hn5
  go_enter Try.func16, Try.ntmps16
  go_upto_region 1 with fail
  try rw [hw1]
  rw [hw1] at hx
  clear hw1
  obtain ⟨X, hX⟩ : ∃ X, w.heap.size = X := ⟨_, rfl⟩
  rw [hX]
  rw [hX] at HX0 hx
  clear hX
  obtain ⟨x0, x1, x2, x3, x4, x5, x6, x7, x8, x9⟩ := hx
  go_upto_region 4 with (go_at_call 45; refine (rmbetween_any _ _ _ _).mono ?_; (first | rw [k0] | rw [k1] | rw [k2] | rw [k3] | rw [k4] | rw [k5]); rintro e w2 ⟨rfl, rfl⟩)
  clear k0 k1 k2 k3 k4 k5
  go_cut [97] (fun v wx => v = .bool (b4 7 o f s u) ∧ Hid (Below w1.heap.size w1 wx))
  case first =>
    clear x1 x6 x7 x8 x9 H4 H6 HO HP
    by_cases co : o = 0
    · have ddo : (o != 0) = false := by simpa using co
      have eeo : (o == 0) = true := by simpa using co
      by_cases cf : f = 0
      · have ddf : (f != 0) = false := by simpa using cf
        have eef : (f == 0) = true := by simpa using cf
        by_cases cs : s = 0
        · have dds : (s != 0) = false := by simpa using cs
          have ees : (s == 0) = true := by simpa using cs
          by_cases cu : u = 0
          · have ddu : (u != 0) = false := by simpa using cu
            have eeu : (u == 0) = true := by simpa using cu
            have Zo := Lib.hid co; clear co; have Zf := Lib.hid cf; clear cf; have Zs := Lib.hid cs; clear cs; have Zu := Lib.hid cu; clear cu
            go_wp2_with fail
            go_meet
            have co := Zo.out; have cf := Zf.out; have cs := Zs.out; have cu := Zu.out
            exact ⟨by congr 1; symm; first | exact decide_eq_true (by omega) | exact decide_eq_false (by omega), Lib.hid (Below.refl _ _)⟩
          · have ddu : (u != 0) = true := by simpa using cu
            have eeu : (u == 0) = false := by simpa using cu
            have Zo := Lib.hid co; clear co; have Zf := Lib.hid cf; clear cf; have Zs := Lib.hid cs; clear cs; have Zu := Lib.hid cu; clear cu
            go_wp2_with fail
            go_meet
            have co := Zo.out; have cf := Zf.out; have cs := Zs.out; have cu := Zu.out
            exact ⟨by congr 1; symm; first | exact decide_eq_true (by omega) | exact decide_eq_false (by omega), Lib.hid (Below.refl _ _)⟩
        · have dds : (s != 0) = true := by simpa using cs
          have ees : (s == 0) = false := by simpa using cs
          have Zo := Lib.hid co; clear co; have Zf := Lib.hid cf; clear cf; have Zs := Lib.hid cs; clear cs
          go_wp2_with fail
          go_meet
          have co := Zo.out; have cf := Zf.out; have cs := Zs.out
          exact ⟨by congr 1; symm; first | exact decide_eq_true (by omega) | exact decide_eq_false (by omega), Lib.hid (Below.refl _ _)⟩
      · have ddf : (f != 0) = true := by simpa using cf
        have eef : (f == 0) = false := by simpa using cf
        have Zo := Lib.hid co; clear co; have Zf := Lib.hid cf; clear cf
        go_wp2_with fail
        go_meet
        have co := Zo.out; have cf := Zf.out
        exact ⟨by congr 1; symm; first | exact decide_eq_true (by omega) | exact decide_eq_false (by omega), Lib.hid (Below.refl _ _)⟩
    · have ddo : (o != 0) = true := by simpa using co
      have eeo : (o == 0) = false := by simpa using co
      have Zo := Lib.hid co; clear co
      go_wp2_with fail
      go_meet
      have co := Zo.out
      exact ⟨by congr 1; symm; first | exact decide_eq_true (by omega) | exact decide_eq_false (by omega), Lib.hid (Below.refl _ _)⟩
  case rest =>
    obtain ⟨rfl, HBc⟩ := hcut
    clear x0 x1 x2 x3 x4 x5 x6 x7 x8 x9
    obtain ⟨x0, x1, x2, x3, x4, x5, x6, x7, x8, x9⟩ := (HX0.out.later HBc.out).c10
    cases hb4 : b4 7 o f s u with
    | true =>
      have hB := H4.out hb4
      subst hB
      go_wp2_with fail
      try go_ret
      exact HP.out _ HBc.out
    | false =>
    have HO2 := Lib.hid (HO.out hb4)
    clear H4 HO hb4
    go_upto_region 6 with fail
    go_cut [139] (fun v wy => v = .bool (b6 7 nc ne nm nd) ∧ Hid (Below w1.heap.size w1 wy))
    case first =>
      clear x0 x1 x2 x3 x4 x5 H6 HO2 HP
      by_cases cnc : nc = 0
      · have ddnc : decide (0 < (nc : Int)) = false := by simp; omega
        have eenc : decide (0 < nc) = false := by simp; omega
        by_cases cne : ne = 0
        · have ddne : decide (0 < (ne : Int)) = false := by simp; omega
          have eene : decide (0 < ne) = false := by simp; omega
          by_cases cnm : nm = 0
          · have ddnm : decide (0 < (nm : Int)) = false := by simp; omega
            have eenm : decide (0 < nm) = false := by simp; omega
            by_cases cnd : nd = 0
            · have ddnd : decide (0 < (nd : Int)) = false := by simp; omega
              have eend : decide (0 < nd) = false := by simp; omega
              have Znc := Lib.hid cnc; clear cnc; have Zne := Lib.hid cne; clear cne; have Znm := Lib.hid cnm; clear cnm; have Znd := Lib.hid cnd; clear cnd
              go_wp2_with fail
              go_meet
              have cnc := Znc.out; have cne := Zne.out; have cnm := Znm.out; have cnd := Znd.out
              exact ⟨by congr 1; symm; first | exact decide_eq_true (by omega) | exact decide_eq_false (by omega), HBc⟩
            · have ddnd : decide (0 < (nd : Int)) = true := by simp; omega
              have eend : decide (0 < nd) = true := by simp; omega
              have Znc := Lib.hid cnc; clear cnc; have Zne := Lib.hid cne; clear cne; have Znm := Lib.hid cnm; clear cnm; have Znd := Lib.hid cnd; clear cnd
              go_wp2_with fail
              go_meet
              have cnc := Znc.out; have cne := Zne.out; have cnm := Znm.out; have cnd := Znd.out
              exact ⟨by congr 1; symm; first | exact decide_eq_true (by omega) | exact decide_eq_false (by omega), HBc⟩
          · have ddnm : decide (0 < (nm : Int)) = true := by simp; omega
            have eenm : decide (0 < nm) = true := by simp; omega
            have Znc := Lib.hid cnc; clear cnc; have Zne := Lib.hid cne; clear cne; have Znm := Lib.hid cnm; clear cnm
            go_wp2_with fail
            go_meet
            have cnc := Znc.out; have cne := Zne.out; have cnm := Znm.out
            exact ⟨by congr 1; symm; first | exact decide_eq_true (by omega) | exact decide_eq_false (by omega), HBc⟩
        · have ddne : decide (0 < (ne : Int)) = true := by simp; omega
          have eene : decide (0 < ne) = true := by simp; omega
          have Znc := Lib.hid cnc; clear cnc; have Zne := Lib.hid cne; clear cne
          go_wp2_with fail
          go_meet
          have cnc := Znc.out; have cne := Zne.out
          exact ⟨by congr 1; symm; first | exact decide_eq_true (by omega) | exact decide_eq_false (by omega), HBc⟩
      · have ddnc : decide (0 < (nc : Int)) = true := by simp; omega
        have eenc : decide (0 < nc) = true := by simp; omega
        have Znc := Lib.hid cnc; clear cnc
        go_wp2_with fail
        go_meet
        have cnc := Znc.out
        exact ⟨by congr 1; symm; first | exact decide_eq_true (by omega) | exact decide_eq_false (by omega), HBc⟩
    case rest =>
      obtain ⟨rfl, HBd⟩ := hcut
      clear x0 x1 x2 x3 x4 x5 x6 x7 x8 x9
      obtain ⟨x0, x1, x2, x3, x4, x5, x6, x7, x8, x9⟩ := (HX0.out.later HBd.out).c10
      cases hb6 : b6 7 nc ne nm nd with
      | true =>
        have hB := H6.out hb6
        subst hB
        go_wp2_with fail
        try go_ret
        exact HP.out _ HBd.out
      | false =>
        have hB := HO2.out hb6
        clear H6 HO2 hb6
        simp only [Int.reduceEq, reduceIte] at hB
        subst hB
        go_wp2_with fail
        try go_ret
        exact HP.out _ HBd.out
set_option maxRecDepth 20000 in
set_option maxHeartbeats 12800000 in
theorem rright_8 (m : Ms) (p : MsAt) (w : World) (h : MsRows w m p) (hN : NumsM m) (hk : m.kind = 8) : Calls Try.prog 16 #[msV m p] w fun e w' => e = .returned (.bool (rightMs m)) ∧ Below w.heap.size w w' := by
  have HB0 := Lib.hid ((Below.refl w.heap.size w).alloc (Nat.le_refl _) (.cells (msC m p) 27))
  have HX0 := Lib.hid (RecAt.new w (msC m p) 27)
  have hx := HX0.out.c10
  have HH := Lib.hid (h.later HB0.out)
  obtain ⟨w1, hw1⟩ : ∃ W, w.alloc (.cells (msC m p) 27) = W := ⟨_, rfl⟩
  rw [hw1] at HB0 HX0 HH
  have H4 := Lib.hid (rightMs_b4 HH.out.hc HH.out.he HH.out.ht HH.out.hd)
  have H6 := Lib.hid (rightMs_b6 HH.out.hc HH.out.he HH.out.ht HH.out.hd)
  have HO := Lib.hid (rightMs_ok HH.out.hc HH.out.he HH.out.ht HH.out.hd hN)
  have hnc : p.nc ≤ 9223372036854775807 := by have h1 := HH.out.c.1; have h2 := HH.out.c.2.1; have h3 := HH.out.hc; unfold maxLen at h2; omega
  have hne : p.ne ≤ 9223372036854775807 := by have h1 := HH.out.e.1; have h2 := HH.out.e.2.1; have h3 := HH.out.he; unfold maxLen at h2; omega
  have hnm : p.nm ≤ 9223372036854775807 := by have h1 := HH.out.t.1; have h2 := HH.out.t.2.1; have h3 := HH.out.ht; unfold maxLen at h2; omega
  have hnd : p.nd ≤ 9223372036854775807 := by have h1 := HH.out.d.1; have h2 := HH.out.d.2.1; have h3 := HH.out.hd; unfold maxLen at h2; omega
  obtain ⟨B, hB⟩ : ∃ B, rightMs m = B := ⟨_, rfl⟩
  rw [hB] at H4 H6 HO ⊢
  obtain ⟨P, hP⟩ : ∃ P, (fun e w' => e = Ending.returned (.bool B) ∧ Below w.heap.size w w') = P := ⟨_, rfl⟩
  rw [hP]
  have HP : Hid (∀ w', Below w1.heap.size w1 w' → P (.returned (.bool B)) w') := Lib.hid (fun w' hb => by rw [← hP]; exact ⟨rfl, HB0.out.trans (hb.mono HB0.out.size)⟩)
  clear hB hP h HH HB0
  unfold NumsM at hN
  obtain ⟨k, n, o, f, s, u, C, E, T, D⟩ := m
  obtain ⟨ac, nc, cc, ae, ne, ce, am, nm, cm, ad, nd, cd⟩ := p
  simp only [msC] at hw1 hx hN hk H4 H6 HO hnc hne hnm hnd
  subst hk
  obtain ⟨-, hn1, hn2, hn3, hn4, hn5⟩ := hN
  have k0 : decide ((1 : Int) ≤ 8 ∧ (8 : Int) ≤ 9) = true := by decide
  have k1 := decide_eq_true hn1
  have k2 := decide_eq_true hn2
  have k3 := decide_eq_true hn3
  have k4 := decide_eq_true hn4
  have k5 := decide_eq_true hn5
  clear hn1 hn2 hn3 hn4 hn5
  go_enter Try.func16, Try.ntmps16
  go_upto_region 1 with fail
  try rw [hw1]
  rw [hw1] at hx
  clear hw1
  obtain ⟨X, hX⟩ : ∃ X, w.heap.size = X := ⟨_, rfl⟩
  rw [hX]
  rw [hX] at HX0 hx
  clear hX
  obtain ⟨x0, x1, x2, x3, x4, x5, x6, x7, x8, x9⟩ := hx
  go_upto_region 4 with (go_at_call 45; refine (rmbetween_any _ _ _ _).mono ?_; (first | rw [k0] | rw [k1] | rw [k2] | rw [k3] | rw [k4] | rw [k5]); rintro e w2 ⟨rfl, rfl⟩)
  clear k0 k1 k2 k3 k4 k5
  go_cut [97] (fun v wx => v = .bool (b4 8 o f s u) ∧ Hid (Below w1.heap.size w1 wx))
  case first =>
    clear x1 x6 x7 x8 x9 H4 H6 HO HP
    by_cases co : o = 0
    · have ddo : (o != 0) = false := by simpa using co
      have eeo : (o == 0) = true := by simpa using co
      by_cases cf : f = 0
      · have ddf : (f != 0) = false := by simpa using cf
        have eef : (f == 0) = true := by simpa using cf
        by_cases cs : s = 0
        · have dds : (s != 0) = false := by simpa using cs
          have ees : (s == 0) = true := by simpa using cs
          by_cases cu : u = 0
          · have ddu : (u != 0) = false := by simpa using cu
            have eeu : (u == 0) = true := by simpa using cu
            have Zo := Lib.hid co; clear co; have Zf := Lib.hid cf; clear cf; have Zs := Lib.hid cs; clear cs; have Zu := Lib.hid cu; clear cu
            go_wp2_with fail
            go_meet
            have co := Zo.out; have cf := Zf.out; have cs := Zs.out; have cu := Zu.out
            exact ⟨by congr 1; symm; first | exact decide_eq_true (by omega) | exact decide_eq_false (by omega), Lib.hid (Below.refl _ _)⟩
          · have ddu : (u != 0) = true := by simpa using cu
            have eeu : (u == 0) = false := by simpa using cu
            have Zo := Lib.hid co; clear co; have Zf := Lib.hid cf; clear cf; have Zs := Lib.hid cs; clear cs; have Zu := Lib.hid cu; clear cu
            go_wp2_with fail
            go_meet
            have co := Zo.out; have cf := Zf.out; have cs := Zs.out; have cu := Zu.out
            exact ⟨by congr 1; symm; first | exact decide_eq_true (by omega) | exact decide_eq_false (by omega), Lib.hid (Below.refl _ _)⟩
        · have dds : (s != 0) = true := by simpa using cs
          have ees : (s == 0) = false := by simpa using cs
          have Zo := Lib.hid co; clear co; have Zf := Lib.hid cf; clear cf; have Zs := Lib.hid cs; clear cs
          go_wp2_with fail
          go_meet
          have co := Zo.out; have cf := Zf.out; have cs := Zs.out
          exact ⟨by congr 1; symm; first | exact decide_eq_true (by omega) | exact decide_eq_false (by omega), Lib.hid (Below.refl _ _)⟩
      · have ddf : (f != 0) = true := by simpa using cf
        have eef : (f == 0) = false := by simpa using cf
        have Zo := Lib.hid co; clear co; have Zf := Lib.hid cf; clear cf
        go_wp2_with fail
        go_meet
        have co := Zo.out; have cf := Zf.out
        exact ⟨by congr 1; symm; first | exact decide_eq_true (by omega) | exact decide_eq_false (by omega), Lib.hid (Below.refl _ _)⟩
    · have ddo : (o != 0) = true := by simpa using co
      have eeo : (o == 0) = false := by simpa using co
      have Zo := Lib.hid co; clear co
      go_wp2_with fail
      go_meet
      have co := Zo.out
      exact ⟨by congr 1; symm; first | exact decide_eq_true (by omega) | exact decide_eq_false (by omega), Lib.hid (Below.refl _ _)⟩
  case rest =>
    obtain ⟨rfl, HBc⟩ := hcut
    clear x0 x1 x2 x3 x4 x5 x6 x7 x8 x9
    obtain ⟨x0, x1, x2, x3, x4, x5, x6, x7, x8, x9⟩ := (HX0.out.later HBc.out).c10
    cases hb4 : b4 8 o f s u with
    | true =>
      have hB := H4.out hb4
      subst hB
      go_wp2_with fail
      try go_ret
      exact HP.out _ HBc.out
    | false =>
    have HO2 := Lib.hid (HO.out hb4)
    clear H4 HO hb4
    go_upto_region 6 with fail
    go_cut [139] (fun v wy => v = .bool (b6 8 nc ne nm nd) ∧ Hid (Below w1.heap.size w1 wy))
    case first =>
      clear x0 x1 x2 x3 x4 x5 H6 HO2 HP
      by_cases cnc : nc = 0
      · have ddnc : decide (0 < (nc : Int)) = false := by simp; omega
        have eenc : decide (0 < nc) = false := by simp; omega
        by_cases cne : ne = 0
        · have ddne : decide (0 < (ne : Int)) = false := by simp; omega
          have eene : decide (0 < ne) = false := by simp; omega
          by_cases cnm : nm = 0
          · have ddnm : decide (0 < (nm : Int)) = false := by simp; omega
            have eenm : decide (0 < nm) = false := by simp; omega
            by_cases cnd : nd = 0
            · have ddnd : decide (0 < (nd : Int)) = false := by simp; omega
              have eend : decide (0 < nd) = false := by simp; omega
              have Znc := Lib.hid cnc; clear cnc; have Zne := Lib.hid cne; clear cne; have Znm := Lib.hid cnm; clear cnm; have Znd := Lib.hid cnd; clear cnd
              go_wp2_with fail
              go_meet
              have cnc := Znc.out; have cne := Zne.out; have cnm := Znm.out; have cnd := Znd.out
              exact ⟨by congr 1; symm; first | exact decide_eq_true (by omega) | exact decide_eq_false (by omega), HBc⟩
            · have ddnd : decide (0 < (nd : Int)) = true := by simp; omega
              have eend : decide (0 < nd) = true := by simp; omega
              have Znc := Lib.hid cnc; clear cnc; have Zne := Lib.hid cne; clear cne; have Znm := Lib.hid cnm; clear cnm; have Znd := Lib.hid cnd; clear cnd
              go_wp2_with fail
              go_meet
              have cnc := Znc.out; have cne := Zne.out; have cnm := Znm.out; have cnd := Znd.out
              exact ⟨by congr 1; symm; first | exact decide_eq_true (by omega) | exact decide_eq_false (by omega), HBc⟩
          · have ddnm : decide (0 < (nm : Int)) = true := by simp; omega
            have eenm : decide (0 < nm) = true := by simp; omega
            have Znc := Lib.hid cnc; clear cnc; have Zne := Lib.hid cne; clear cne; have Znm := Lib.hid cnm; clear cnm
            go_wp2_with fail
            go_meet
            have cnc := Znc.out; have cne := Zne.out; have cnm := Znm.out
            exact ⟨by congr 1; symm; first | exact decide_eq_true (by omega) | exact decide_eq_false (by omega), HBc⟩
        · have ddne : decide (0 < (ne : Int)) = true := by simp; omega
          have eene : decide (0 < ne) = true := by simp; omega
          have Znc := Lib.hid cnc; clear cnc; have Zne := Lib.hid cne; clear cne
          go_wp2_with fail
          go_meet
          have cnc := Znc.out; have cne := Zne.out
          exact ⟨by congr 1; symm; first | exact decide_eq_true (by omega) | exact decide_eq_false (by omega), HBc⟩
      · have ddnc : decide (0 < (nc : Int)) = true := by simp; omega
        have eenc : decide (0 < nc) = true := by simp; omega
        have Znc := Lib.hid cnc; clear cnc
        go_wp2_with fail
        go_meet
        have cnc := Znc.out
        exact ⟨by congr 1; symm; first | exact decide_eq_true (by omega) | exact decide_eq_false (by omega), HBc⟩
    case rest =>
      obtain ⟨rfl, HBd⟩ := hcut
      clear x0 x1 x2 x3 x4 x5 x6 x7 x8 x9
      obtain ⟨x0, x1, x2, x3, x4, x5, x6, x7, x8, x9⟩ := (HX0.out.later HBd.out).c10
      cases hb6 : b6 8 nc ne nm nd with
      | true =>
        have hB := H6.out hb6
        subst hB
        go_wp2_with fail
        try go_ret
        exact HP.out _ HBd.out
      | false =>
        have hB := HO2.out hb6
        clear H6 HO2 hb6
        simp only [Int.reduceEq, reduceIte] at hB
        subst hB
        go_wp2_with fail
        try go_ret
        exact HP.out _ HBd.out
set_option maxRecDepth 20000 in
set_option maxHeartbeats 12800000 in
theorem rright_9 (m : Ms) (p : MsAt) (w : World) (h : MsRows w m p) (hN : NumsM m) (hk : m.kind = 9) : Calls Try.prog 16 #[msV m p] w fun e w' => e = .returned (.bool (rightMs m)) ∧ Below w.heap.size w w' := by
  have HB0 := Lib.hid ((Below.refl w.heap.size w).alloc (Nat.le_refl _) (.cells (msC m p) 27))
  have HX0 := Lib.hid (RecAt.new w (msC m p) 27)
  have hx := HX0.out.c10
  have HH := Lib.hid (h.later HB0.out)
  obtain ⟨w1, hw1⟩ : ∃ W, w.alloc (.cells (msC m p) 27) = W := ⟨_, rfl⟩
  rw [hw1] at HB0 HX0 HH
  have H4 := Lib.hid (rightMs_b4 HH.out.hc HH.out.he HH.out.ht HH.out.hd)
  have H6 := Lib.hid (rightMs_b6 HH.out.hc HH.out.he HH.out.ht HH.out.hd)
  have HO := Lib.hid (rightMs_ok HH.out.hc HH.out.he HH.out.ht HH.out.hd hN)
  have hnc : p.nc ≤ 9223372036854775807 := by have h1 := HH.out.c.1; have h2 := HH.out.c.2.1; have h3 := HH.out.hc; unfold maxLen at h2; omega
  have hne : p.ne ≤ 9223372036854775807 := by have h1 := HH.out.e.1; have h2 := HH.out.e.2.1; have h3 := HH.out.he; unfold maxLen at h2; omega
  have hnm : p.nm ≤ 9223372036854775807 := by have h1 := HH.out.t.1; have h2 := HH.out.t.2.1; have h3 := HH.out.ht; unfold maxLen at h2; omega
  have hnd : p.nd ≤ 9223372036854775807 := by have h1 := HH.out.d.1; have h2 := HH.out.d.2.1; have h3 := HH.out.hd; unfold maxLen at h2; omega
  obtain ⟨B, hB⟩ : ∃ B, rightMs m = B := ⟨_, rfl⟩
  rw [hB] at H4 H6 HO ⊢
  obtain ⟨P, hP⟩ : ∃ P, (fun e w' => e = Ending.returned (.bool B) ∧ Below w.heap.size w w') = P := ⟨_, rfl⟩
  rw [hP]
  have HP : Hid (∀ w', Below w1.heap.size w1 w' → P (.returned (.bool B)) w') := Lib.hid (fun w' hb => by rw [← hP]; exact ⟨rfl, HB0.out.trans (hb.mono HB0.out.size)⟩)
  clear hB hP h HH HB0
  unfold NumsM at hN
  obtain ⟨k, n, o, f, s, u, C, E, T, D⟩ := m
  obtain ⟨ac, nc, cc, ae, ne, ce, am, nm, cm, ad, nd, cd⟩ := p
  simp only [msC] at hw1 hx hN hk H4 H6 HO hnc hne hnm hnd
  subst hk
  obtain ⟨-, hn1, hn2, hn3, hn4, hn5⟩ := hN
  have k0 : decide ((1 : Int) ≤ 9 ∧ (9 : Int) ≤ 9) = true := by decide
  have k1 := decide_eq_true hn1
  have k2 := decide_eq_true hn2
  have k3 := decide_eq_true hn3
  have k4 := decide_eq_true hn4
  have k5 := decide_eq_true hn5
  clear hn1 hn2 hn3 hn4 hn5
  go_enter Try.func16, Try.ntmps16
  go_upto_region 1 with fail
  try rw [hw1]
  rw [hw1] at hx
  clear hw1
  obtain ⟨X, hX⟩ : ∃ X, w.heap.size = X := ⟨_, rfl⟩
  rw [hX]
  rw [hX] at HX0 hx
  clear hX
  obtain ⟨x0, x1, x2, x3, x4, x5, x6, x7, x8, x9⟩ := hx
  go_upto_region 4 with (go_at_call 45; refine (rmbetween_any _ _ _ _).mono ?_; (first | rw [k0] | rw [k1] | rw [k2] | rw [k3] | rw [k4] | rw [k5]); rintro e w2 ⟨rfl, rfl⟩)
  clear k0 k1 k2 k3 k4 k5
  go_cut [97] (fun v wx => v = .bool (b4 9 o f s u) ∧ Hid (Below w1.heap.size w1 wx))
  case first =>
    clear x1 x6 x7 x8 x9 H4 H6 HO HP
    by_cases co : o = 0
    · have ddo : (o != 0) = false := by simpa using co
      have eeo : (o == 0) = true := by simpa using co
      by_cases cf : f = 0
      · have ddf : (f != 0) = false := by simpa using cf
        have eef : (f == 0) = true := by simpa using cf
        by_cases cs : s = 0
        · have dds : (s != 0) = false := by simpa using cs
          have ees : (s == 0) = true := by simpa using cs
          by_cases cu : u = 0
          · have ddu : (u != 0) = false := by simpa using cu
            have eeu : (u == 0) = true := by simpa using cu
            have Zo := Lib.hid co; clear co; have Zf := Lib.hid cf; clear cf; have Zs := Lib.hid cs; clear cs; have Zu := Lib.hid cu; clear cu
            go_wp2_with fail
            go_meet
            have co := Zo.out; have cf := Zf.out; have cs := Zs.out; have cu := Zu.out
            exact ⟨by congr 1; symm; first | exact decide_eq_true (by omega) | exact decide_eq_false (by omega), Lib.hid (Below.refl _ _)⟩
          · have ddu : (u != 0) = true := by simpa using cu
            have eeu : (u == 0) = false := by simpa using cu
            have Zo := Lib.hid co; clear co; have Zf := Lib.hid cf; clear cf; have Zs := Lib.hid cs; clear cs; have Zu := Lib.hid cu; clear cu
            go_wp2_with fail
            go_meet
            have co := Zo.out; have cf := Zf.out; have cs := Zs.out; have cu := Zu.out
            exact ⟨by congr 1; symm; first | exact decide_eq_true (by omega) | exact decide_eq_false (by omega), Lib.hid (Below.refl _ _)⟩
        · have dds : (s != 0) = true := by simpa using cs
          have ees : (s == 0) = false := by simpa using cs
          have Zo := Lib.hid co; clear co; have Zf := Lib.hid cf; clear cf; have Zs := Lib.hid cs; clear cs
          go_wp2_with fail
          go_meet
          have co := Zo.out; have cf := Zf.out; have cs := Zs.out
          exact ⟨by congr 1; symm; first | exact decide_eq_true (by omega) | exact decide_eq_false (by omega), Lib.hid (Below.refl _ _)⟩
      · have ddf : (f != 0) = true := by simpa using cf
        have eef : (f == 0) = false := by simpa using cf
        have Zo := Lib.hid co; clear co; have Zf := Lib.hid cf; clear cf
        go_wp2_with fail
        go_meet
        have co := Zo.out; have cf := Zf.out
        exact ⟨by congr 1; symm; first | exact decide_eq_true (by omega) | exact decide_eq_false (by omega), Lib.hid (Below.refl _ _)⟩
    · have ddo : (o != 0) = true := by simpa using co
      have eeo : (o == 0) = false := by simpa using co
      have Zo := Lib.hid co; clear co
      go_wp2_with fail
      go_meet
      have co := Zo.out
      exact ⟨by congr 1; symm; first | exact decide_eq_true (by omega) | exact decide_eq_false (by omega), Lib.hid (Below.refl _ _)⟩
  case rest =>
    obtain ⟨rfl, HBc⟩ := hcut
    clear x0 x1 x2 x3 x4 x5 x6 x7 x8 x9
    obtain ⟨x0, x1, x2, x3, x4, x5, x6, x7, x8, x9⟩ := (HX0.out.later HBc.out).c10
    cases hb4 : b4 9 o f s u with
    | true =>
      have hB := H4.out hb4
      subst hB
      go_wp2_with fail
      try go_ret
      exact HP.out _ HBc.out
    | false =>
    have HO2 := Lib.hid (HO.out hb4)
    clear H4 HO hb4
    go_upto_region 6 with fail
    go_cut [139] (fun v wy => v = .bool (b6 9 nc ne nm nd) ∧ Hid (Below w1.heap.size w1 wy))
    case first =>
      clear x0 x1 x2 x3 x4 x5 H6 HO2 HP
      by_cases cnc : nc = 0
      · have ddnc : decide (0 < (nc : Int)) = false := by simp; omega
        have eenc : decide (0 < nc) = false := by simp; omega
        by_cases cne : ne = 0
        · have ddne : decide (0 < (ne : Int)) = false := by simp; omega
          have eene : decide (0 < ne) = false := by simp; omega
          by_cases cnm : nm = 0
          · have ddnm : decide (0 < (nm : Int)) = false := by simp; omega
            have eenm : decide (0 < nm) = false := by simp; omega
            by_cases cnd : nd = 0
            · have ddnd : decide (0 < (nd : Int)) = false := by simp; omega
              have eend : decide (0 < nd) = false := by simp; omega
              have Znc := Lib.hid cnc; clear cnc; have Zne := Lib.hid cne; clear cne; have Znm := Lib.hid cnm; clear cnm; have Znd := Lib.hid cnd; clear cnd
              go_wp2_with fail
              go_meet
              have cnc := Znc.out; have cne := Zne.out; have cnm := Znm.out; have cnd := Znd.out
              exact ⟨by congr 1; symm; first | exact decide_eq_true (by omega) | exact decide_eq_false (by omega), HBc⟩
            · have ddnd : decide (0 < (nd : Int)) = true := by simp; omega
              have eend : decide (0 < nd) = true := by simp; omega
              have Znc := Lib.hid cnc; clear cnc; have Zne := Lib.hid cne; clear cne; have Znm := Lib.hid cnm; clear cnm; have Znd := Lib.hid cnd; clear cnd
              go_wp2_with fail
              go_meet
              have cnc := Znc.out; have cne := Zne.out; have cnm := Znm.out; have cnd := Znd.out
              exact ⟨by congr 1; symm; first | exact decide_eq_true (by omega) | exact decide_eq_false (by omega), HBc⟩
          · have ddnm : decide (0 < (nm : Int)) = true := by simp; omega
            have eenm : decide (0 < nm) = true := by simp; omega
            have Znc := Lib.hid cnc; clear cnc; have Zne := Lib.hid cne; clear cne; have Znm := Lib.hid cnm; clear cnm
            go_wp2_with fail
            go_meet
            have cnc := Znc.out; have cne := Zne.out; have cnm := Znm.out
            exact ⟨by congr 1; symm; first | exact decide_eq_true (by omega) | exact decide_eq_false (by omega), HBc⟩
        · have ddne : decide (0 < (ne : Int)) = true := by simp; omega
          have eene : decide (0 < ne) = true := by simp; omega
          have Znc := Lib.hid cnc; clear cnc; have Zne := Lib.hid cne; clear cne
          go_wp2_with fail
          go_meet
          have cnc := Znc.out; have cne := Zne.out
          exact ⟨by congr 1; symm; first | exact decide_eq_true (by omega) | exact decide_eq_false (by omega), HBc⟩
      · have ddnc : decide (0 < (nc : Int)) = true := by simp; omega
        have eenc : decide (0 < nc) = true := by simp; omega
        have Znc := Lib.hid cnc; clear cnc
        go_wp2_with fail
        go_meet
        have cnc := Znc.out
        exact ⟨by congr 1; symm; first | exact decide_eq_true (by omega) | exact decide_eq_false (by omega), HBc⟩
    case rest =>
      obtain ⟨rfl, HBd⟩ := hcut
      clear x0 x1 x2 x3 x4 x5 x6 x7 x8 x9
      obtain ⟨x0, x1, x2, x3, x4, x5, x6, x7, x8, x9⟩ := (HX0.out.later HBd.out).c10
      cases hb6 : b6 9 nc ne nm nd with
      | true =>
        have hB := H6.out hb6
        subst hB
        go_wp2_with fail
        try go_ret
        exact HP.out _ HBd.out
      | false =>
        have hB := HO2.out hb6
        clear H6 HO2 hb6
        simp only [Int.reduceEq, reduceIte] at hB
        obtain ⟨ZB, hZB⟩ : ∃ Z, decide (1 ≤ u ∧ u ≤ 13) = Z := ⟨_, rfl⟩
        rw [hZB] at hB
        subst hB
        go_wp2_with (go_at_call 45; refine (rmbetween_any _ _ _ _).mono ?_; rw [hZB]; rintro e w5 ⟨rfl, rfl⟩)
        try go_ret
        exact HP.out _ HBd.out
end Go.Proofs.Ytiahifpbofkimaa
