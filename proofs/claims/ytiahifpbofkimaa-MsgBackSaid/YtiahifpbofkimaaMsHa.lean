/- Messages: may one be? The document's own: what is told of it, numbers; kinds 1, 3. Printed by gen_msh.py. -/
import Derived.Test.YtiahifpbofkimaaGM
import Derived.Deep.DeepCutAuto
namespace Go.Proofs.Ytiahifpbofkimaa
open Go.RowKit Go.Proofs
set_option linter.unusedVariables false
set_option linter.unusedSimpArgs false
set_option linter.unnecessarySimpa false

def b4 (k o f s u : Int) : Bool := decide (¬ ((o ≠ 0 → k = 1 ∨ k = 2 ∨ k = 4) ∧ (f ≠ 0 → k = 1 ∨ k = 2) ∧ (s ≠ 0 → k = 5 ∨ k = 6) ∧ (u ≠ 0 → k = 5 ∨ k = 6 ∨ k = 9)))
def b6 (k : Int) (c e t d : Nat) : Bool := decide (¬ ((c ≠ 0 → k = 2 ∨ k = 4) ∧ (e ≠ 0 → k = 2) ∧ (t ≠ 0 → k = 4) ∧ (d ≠ 0 → k = 6)))
theorem ne_nil_len {α : Type} {l : List α} {n : Nat} (h : l.length = n) : l ≠ [] ↔ n ≠ 0 := by subst h; simp
theorem named_bools {m : Ms} {c e t d : Nat} (hc : m.chain.length = c) (he : m.ents.length = e) (ht : m.marks.length = t) (hd : m.data.length = d) : NamedM m ↔ b4 m.kind m.pos m.fin m.stage m.num = false ∧ b6 m.kind c e t d = false := by
  unfold NamedM b4 b6
  rw [decide_eq_false_iff_not, decide_eq_false_iff_not, Decidable.not_not, Decidable.not_not, ne_nil_len hc, ne_nil_len he, ne_nil_len ht, ne_nil_len hd]
  constructor
  · rintro ⟨h1, h2, h3, h4, h5, h6, h7, h8⟩; exact ⟨⟨h1, h2, h3, h4⟩, h5, h6, h7, h8⟩
  · rintro ⟨⟨h1, h2, h3, h4⟩, h5, h6, h7, h8⟩; exact ⟨h1, h2, h3, h4, h5, h6, h7, h8⟩
theorem rightMs_b4 {m : Ms} {c e t d : Nat} (hc : m.chain.length = c) (he : m.ents.length = e) (ht : m.marks.length = t) (hd : m.data.length = d) (h : b4 m.kind m.pos m.fin m.stage m.num = true) : rightMs m = false := rightMs_no fun k => by
  have := ((named_bools hc he ht hd).1 k.2.1).1; rw [h] at this; cases this
theorem rightMs_b6 {m : Ms} {c e t d : Nat} (hc : m.chain.length = c) (he : m.ents.length = e) (ht : m.marks.length = t) (hd : m.data.length = d) (h : b6 m.kind c e t d = true) : rightMs m = false := rightMs_no fun k => by
  have := ((named_bools hc he ht hd).1 k.2.1).2; rw [h] at this; cases this
theorem rightMs_num {m : Ms} (h : ¬ NumsM m) : rightMs m = false := rightMs_no fun k => h k.1
theorem rightMs_ok {m : Ms} {c e t d : Nat} (hc : m.chain.length = c) (he : m.ents.length = e) (ht : m.marks.length = t) (hd : m.data.length = d) (hN : NumsM m) (h4 : b4 m.kind m.pos m.fin m.stage m.num = false) (h6 : b6 m.kind c e t d = false) :
    rightMs m = if m.kind = 2 then (rightC m.chain && entsB m.pos m.ents) else if m.kind = 4 then (rightC m.chain && marksB m.marks) else if m.kind = 6 then decide (d ≤ 64) else if m.kind = 9 then decide (1 ≤ m.num ∧ m.num ≤ 13) else true := by
  have hn := (named_bools hc he ht hd).2 ⟨h4, h6⟩
  rw [Bool.eq_iff_iff, rightMs_iff]
  split
  · rename_i hk
    rw [Bool.and_eq_true, rightC_iff, entsB_iff]
    exact ⟨fun h => h.2.2.1 hk, fun h => ⟨hN, hn, fun _ => h, fun e => by omega, fun e => by omega, fun e => by omega⟩⟩
  split
  · rename_i hk2 hk
    rw [Bool.and_eq_true, rightC_iff, marksB_iff]
    exact ⟨fun h => h.2.2.2.1 hk, fun h => ⟨hN, hn, fun e => by omega, fun _ => h, fun e => by omega, fun e => by omega⟩⟩
  split
  · rename_i hk2 hk4 hk
    rw [decide_eq_true_eq, ← hd]
    exact ⟨fun h => h.2.2.2.2.1 hk, fun h => ⟨hN, hn, fun e => by omega, fun e => by omega, fun _ => h, fun e => by omega⟩⟩
  split
  · rename_i hk2 hk4 hk6 hk
    rw [decide_eq_true_eq]
    exact ⟨fun h => h.2.2.2.2.2 hk, fun h => ⟨hN, hn, fun e => by omega, fun e => by omega, fun e => by omega, fun _ => h⟩⟩
  · exact ⟨fun _ => rfl, fun _ => ⟨hN, hn, fun e => by omega, fun e => by omega, fun e => by omega, fun e => by omega⟩⟩
set_option maxRecDepth 20000 in
set_option maxHeartbeats 12800000 in
theorem rright_bad (m : Ms) (p : MsAt) (w : World) (h : MsRows w m p) (hN : ¬ NumsM m) : Calls Try.prog 16 #[msV m p] w fun e w' => e = .returned (.bool (rightMs m)) ∧ Below w.heap.size w w' := by
  have HB0 := Lib.hid ((Below.refl w.heap.size w).alloc (Nat.le_refl _) (.cells (msC m p) 27))
  have HX0 := Lib.hid (RecAt.new w (msC m p) 27)
  have hx := HX0.out.c10
  have HH := Lib.hid (h.later HB0.out)
  obtain ⟨w1, hw1⟩ : ∃ W, w.alloc (.cells (msC m p) 27) = W := ⟨_, rfl⟩
  rw [hw1] at HB0 HX0 HH
  rw [rightMs_num hN]
  unfold NumsM at hN
  obtain ⟨k, n, o, f, s, u, C, E, T, D⟩ := m
  obtain ⟨ac, nc, cc, ae, ne, ce, am, nm, cm, ad, nd, cd⟩ := p
  simp only [msC] at hw1 hx hN ⊢
  clear HH h
  go_enter Try.func16, Try.ntmps16
  go_upto_region 1 with fail
  try rw [hw1]
  rw [hw1] at hx
  clear hw1
  obtain ⟨X, hX⟩ : ∃ X, w.heap.size = X := ⟨_, rfl⟩
  rw [hX]
  rw [hX] at HX0 hx
  clear hX
  obtain ⟨x0, x1, x2, x3, x4, x5, x6, x7, x8, x9⟩ := hx
  cases k0 : decide (1 ≤ k ∧ k ≤ 9) with
  | false =>
    clear hN
    go_wp2_with (go_at_call 45; refine (rmbetween_any _ _ _ _).mono ?_; (first | rw [k0]); rintro e w2 ⟨rfl, rfl⟩)
    go_ret
    exact ⟨rfl, HB0.out⟩
  | true =>
  cases k1 : decide (1 ≤ n ∧ n ≤ 1099511627776) with
  | false =>
    clear hN
    go_wp2_with (go_at_call 45; refine (rmbetween_any _ _ _ _).mono ?_; (first | rw [k0] | rw [k1]); rintro e w2 ⟨rfl, rfl⟩)
    go_ret
    exact ⟨rfl, HB0.out⟩
  | true =>
  cases k2 : decide (0 ≤ o ∧ o ≤ 1099511627776) with
  | false =>
    clear hN
    go_wp2_with (go_at_call 45; refine (rmbetween_any _ _ _ _).mono ?_; (first | rw [k0] | rw [k1] | rw [k2]); rintro e w2 ⟨rfl, rfl⟩)
    go_ret
    exact ⟨rfl, HB0.out⟩
  | true =>
  cases k3 : decide (0 ≤ f ∧ f ≤ 1099511627776) with
  | false =>
    clear hN
    go_wp2_with (go_at_call 45; refine (rmbetween_any _ _ _ _).mono ?_; (first | rw [k0] | rw [k1] | rw [k2] | rw [k3]); rintro e w2 ⟨rfl, rfl⟩)
    go_ret
    exact ⟨rfl, HB0.out⟩
  | true =>
  cases k4 : decide (0 ≤ s ∧ s ≤ 16) with
  | false =>
    clear hN
    go_wp2_with (go_at_call 45; refine (rmbetween_any _ _ _ _).mono ?_; (first | rw [k0] | rw [k1] | rw [k2] | rw [k3] | rw [k4]); rintro e w2 ⟨rfl, rfl⟩)
    go_ret
    exact ⟨rfl, HB0.out⟩
  | true =>
  have k5 : decide (0 ≤ u ∧ u ≤ 512) = false := decide_eq_false (fun k => hN ⟨of_decide_eq_true k0, of_decide_eq_true k1, of_decide_eq_true k2, of_decide_eq_true k3, of_decide_eq_true k4, k⟩)
  clear hN
  go_wp2_with (go_at_call 45; refine (rmbetween_any _ _ _ _).mono ?_; (first | rw [k0] | rw [k1] | rw [k2] | rw [k3] | rw [k4] | rw [k5]); rintro e w2 ⟨rfl, rfl⟩)
  go_ret
  exact ⟨rfl, HB0.out⟩
set_option maxRecDepth 20000 in
set_option maxHeartbeats 12800000 in
theorem rright_1 (m : Ms) (p : MsAt) (w : World) (h : MsRows w m p) (hN : NumsM m) (hk : m.kind = 1) : Calls Try.prog 16 #[msV m p] w fun e w' => e = .returned (.bool (rightMs m)) ∧ Below w.heap.size w w' := by
  have HB0 := Lib.hid ((Below.refl w.heap.size w).alloc (Nat.le_refl _) (.cells (msC m p) 27))
  have HX0 := Lib.hid (RecAt.new w (msC m p) 27)
  have hx := HX0.out.c10
  have HH := Lib.hid (h.later HB0.out)
  obtain ⟨w1, hw1⟩ : ∃ W, w.alloc (.cells (msC m p) 27) = W := ⟨_, rfl⟩
  rw [hw1] at HB0 HX0 HH
  have H4 := Lib.hid (rightMs_b4 HH.out.hc HH.out.he HH.out.ht HH.out.hd)
  have H6 := Lib.hid (rightMs_b6 HH.out.hc HH.out.he HH.out.ht HH.out.hd)
  have HO := Lib.hid (rightMs_ok HH.out.hc HH.out.he HH.out.ht HH.out.hd hN)
  have hnc : p.nc ≤ 9223372036854775807 := by have h1 := HH.out.c.1; have h2 := HH.out.c.2.1; have h3 := HH.out.hc; unfold maxLen at h2; omega
  have hne : p.ne ≤ 9223372036854775807 := by have h1 := HH.out.e.1; have h2 := HH.out.e.2.1; have h3 := HH.out.he; unfold maxLen at h2; omega
  have hnm : p.nm ≤ 9223372036854775807 := by have h1 := HH.out.t.1; have h2 := HH.out.t.2.1; have h3 := HH.out.ht; unfold maxLen at h2; omega
  have hnd : p.nd ≤ 9223372036854775807 := by have h1 := HH.out.d.1; have h2 := HH.out.d.2.1; have h3 := HH.out.hd; unfold maxLen at h2; omega
  obtain ⟨B, hB⟩ : ∃ B, rightMs m = B := ⟨_, rfl⟩
  rw [hB] at H4 H6 HO ⊢
  obtain ⟨P, hP⟩ : ∃ P, (fun e w' => e = Ending.returned (.bool B) ∧ Below w.heap.size w w') = P := ⟨_, rfl⟩
  rw [hP]
  have HP : Hid (∀ w', Below w1.heap.size w1 w' → P (.returned (.bool B)) w') := Lib.hid (fun w' hb => by rw [← hP]; exact ⟨rfl, HB0.out.trans (hb.mono HB0.out.size)⟩)
  clear hB hP h HH HB0
  unfold NumsM at hN
  obtain ⟨k, n, o, f, s, u, C, E, T, D⟩ := m
  obtain ⟨ac, nc, cc, ae, ne, ce, am, nm, cm, ad, nd, cd⟩ := p
  simp only [msC] at hw1 hx hN hk H4 H6 HO hnc hne hnm hnd
  subst hk
  obtain ⟨-, hn1, hn2, hn3, hn4, hn5⟩ := hN
  have k0 : decide ((1 : Int) ≤ 1 ∧ (1 : Int) ≤ 9) = true := by decide
  have k1 := decide_eq_true hn1
  have k2 := decide_eq_true hn2
  have k3 := decide_eq_true hn3
  have k4 := decide_eq_true hn4
  have k5 := decide_eq_true hn5
  clear hn1 hn2 hn3 hn4 hn5
  go_enter Try.func16, Try.ntmps16
  go_upto_region 1 with fail
  try rw [hw1]
  rw [hw1] at hx
  clear hw1
  obtain ⟨X, hX⟩ : ∃ X, w.heap.size = X := ⟨_, rfl⟩
  rw [hX]
  rw [hX] at HX0 hx
  clear hX
  obtain ⟨x0, x1, x2, x3, x4, x5, x6, x7, x8, x9⟩ := hx
  go_upto_region 4 with (go_at_call 45; refine (rmbetween_any _ _ _ _).mono ?_; (first | rw [k0] | rw [k1] | rw [k2] | rw [k3] | rw [k4] | rw [k5]); rintro e w2 ⟨rfl, rfl⟩)
  clear k0 k1 k2 k3 k4 k5
  go_cut [97] (fun v wx => v = .bool (b4 1 o f s u) ∧ Hid (Below w1.heap.size w1 wx))
  case first =>
    clear x1 x6 x7 x8 x9 H4 H6 HO HP
    by_cases co : o = 0
    · have ddo : (o != 0) = false := by simpa using co
      have eeo : (o == 0) = true := by simpa using co
      by_cases cf : f = 0
      · have ddf : (f != 0) = false := by simpa using cf
        have eef : (f == 0) = true := by simpa using cf
        by_cases cs : s = 0
        · have dds : (s != 0) = false := by simpa using cs
          have ees : (s == 0) = true := by simpa using cs
          by_cases cu : u = 0
          · have ddu : (u != 0) = false := by simpa using cu
            have eeu : (u == 0) = true := by simpa using cu
            have Zo := Lib.hid co; clear co; have Zf := Lib.hid cf; clear cf; have Zs := Lib.hid cs; clear cs; have Zu := Lib.hid cu; clear cu
            go_wp2_with fail
            go_meet
            have co := Zo.out; have cf := Zf.out; have cs := Zs.out; have cu := Zu.out
            exact ⟨by congr 1; symm; first | exact decide_eq_true (by omega) | exact decide_eq_false (by omega), Lib.hid (Below.refl _ _)⟩
          · have ddu : (u != 0) = true := by simpa using cu
            have eeu : (u == 0) = false := by simpa using cu
            have Zo := Lib.hid co; clear co; have Zf := Lib.hid cf; clear cf; have Zs := Lib.hid cs; clear cs; have Zu := Lib.hid cu; clear cu
            go_wp2_with fail
            go_meet
            have co := Zo.out; have cf := Zf.out; have cs := Zs.out; have cu := Zu.out
            exact ⟨by congr 1; symm; first | exact decide_eq_true (by omega) | exact decide_eq_false (by omega), Lib.hid (Below.refl _ _)⟩
        · have dds : (s != 0) = true := by simpa using cs
          have ees : (s == 0) = false := by simpa using cs
          have Zo := Lib.hid co; clear co; have Zf := Lib.hid cf; clear cf; have Zs := Lib.hid cs; clear cs
          go_wp2_with fail
          go_meet
          have co := Zo.out; have cf := Zf.out; have cs := Zs.out
          exact ⟨by congr 1; symm; first | exact decide_eq_true (by omega) | exact decide_eq_false (by omega), Lib.hid (Below.refl _ _)⟩
      · have ddf : (f != 0) = true := by simpa using cf
        have eef : (f == 0) = false := by simpa using cf
        by_cases cs : s = 0
        · have dds : (s != 0) = false := by simpa using cs
          have ees : (s == 0) = true := by simpa using cs
          by_cases cu : u = 0
          · have ddu : (u != 0) = false := by simpa using cu
            have eeu : (u == 0) = true := by simpa using cu
            have Zo := Lib.hid co; clear co; have Zf := Lib.hid cf; clear cf; have Zs := Lib.hid cs; clear cs; have Zu := Lib.hid cu; clear cu
            go_wp2_with fail
            go_meet
            have co := Zo.out; have cf := Zf.out; have cs := Zs.out; have cu := Zu.out
            exact ⟨by congr 1; symm; first | exact decide_eq_true (by omega) | exact decide_eq_false (by omega), Lib.hid (Below.refl _ _)⟩
          · have ddu : (u != 0) = true := by simpa using cu
            have eeu : (u == 0) = false := by simpa using cu
            have Zo := Lib.hid co; clear co; have Zf := Lib.hid cf; clear cf; have Zs := Lib.hid cs; clear cs; have Zu := Lib.hid cu; clear cu
            go_wp2_with fail
            go_meet
            have co := Zo.out; have cf := Zf.out; have cs := Zs.out; have cu := Zu.out
            exact ⟨by congr 1; symm; first | exact decide_eq_true (by omega) | exact decide_eq_false (by omega), Lib.hid (Below.refl _ _)⟩
        · have dds : (s != 0) = true := by simpa using cs
          have ees : (s == 0) = false := by simpa using cs
          have Zo := Lib.hid co; clear co; have Zf := Lib.hid cf; clear cf; have Zs := Lib.hid cs; clear cs
          go_wp2_with fail
          go_meet
          have co := Zo.out; have cf := Zf.out; have cs := Zs.out
          exact ⟨by congr 1; symm; first | exact decide_eq_true (by omega) | exact decide_eq_false (by omega), Lib.hid (Below.refl _ _)⟩
    · have ddo : (o != 0) = true := by simpa using co
      have eeo : (o == 0) = false := by simpa using co
      by_cases cf : f = 0
      · have ddf : (f != 0) = false := by simpa using cf
        have eef : (f == 0) = true := by simpa using cf
        by_cases cs : s = 0
        · have dds : (s != 0) = false := by simpa using cs
          have ees : (s == 0) = true := by simpa using cs
          by_cases cu : u = 0
          · have ddu : (u != 0) = false := by simpa using cu
            have eeu : (u == 0) = true := by simpa using cu
            have Zo := Lib.hid co; clear co; have Zf := Lib.hid cf; clear cf; have Zs := Lib.hid cs; clear cs; have Zu := Lib.hid cu; clear cu
            go_wp2_with fail
            go_meet
            have co := Zo.out; have cf := Zf.out; have cs := Zs.out; have cu := Zu.out
            exact ⟨by congr 1; symm; first | exact decide_eq_true (by omega) | exact decide_eq_false (by omega), Lib.hid (Below.refl _ _)⟩
          · have ddu : (u != 0) = true := by simpa using cu
            have eeu : (u == 0) = false := by simpa using cu
            have Zo := Lib.hid co; clear co; have Zf := Lib.hid cf; clear cf; have Zs := Lib.hid cs; clear cs; have Zu := Lib.hid cu; clear cu
            go_wp2_with fail
            go_meet
            have co := Zo.out; have cf := Zf.out; have cs := Zs.out; have cu := Zu.out
            exact ⟨by congr 1; symm; first | exact decide_eq_true (by omega) | exact decide_eq_false (by omega), Lib.hid (Below.refl _ _)⟩
        · have dds : (s != 0) = true := by simpa using cs
          have ees : (s == 0) = false := by simpa using cs
          have Zo := Lib.hid co; clear co; have Zf := Lib.hid cf; clear cf; have Zs := Lib.hid cs; clear cs
          go_wp2_with fail
          go_meet
          have co := Zo.out; have cf := Zf.out; have cs := Zs.out
          exact ⟨by congr 1; symm; first | exact decide_eq_true (by omega) | exact decide_eq_false (by omega), Lib.hid (Below.refl _ _)⟩
      · have ddf : (f != 0) = true := by simpa using cf
        have eef : (f == 0) = false := by simpa using cf
        by_cases cs : s = 0
        · have dds : (s != 0) = false := by simpa using cs
          have ees : (s == 0) = true := by simpa using cs
          by_cases cu : u = 0
          · have ddu : (u != 0) = false := by simpa using cu
            have eeu : (u == 0) = true := by simpa using cu
            have Zo := Lib.hid co; clear co; have Zf := Lib.hid cf; clear cf; have Zs := Lib.hid cs; clear cs; have Zu := Lib.hid cu; clear cu
            go_wp2_with fail
            go_meet
            have co := Zo.out; have cf := Zf.out; have cs := Zs.out; have cu := Zu.out
            exact ⟨by congr 1; symm; first | exact decide_eq_true (by omega) | exact decide_eq_false (by omega), Lib.hid (Below.refl _ _)⟩
          · have ddu : (u != 0) = true := by simpa using cu
            have eeu : (u == 0) = false := by simpa using cu
            have Zo := Lib.hid co; clear co; have Zf := Lib.hid cf; clear cf; have Zs := Lib.hid cs; clear cs; have Zu := Lib.hid cu; clear cu
            go_wp2_with fail
            go_meet
            have co := Zo.out; have cf := Zf.out; have cs := Zs.out; have cu := Zu.out
            exact ⟨by congr 1; symm; first | exact decide_eq_true (by omega) | exact decide_eq_false (by omega), Lib.hid (Below.refl _ _)⟩
        · have dds : (s != 0) = true := by simpa using cs
          have ees : (s == 0) = false := by simpa using cs
          have Zo := Lib.hid co; clear co; have Zf := Lib.hid cf; clear cf; have Zs := Lib.hid cs; clear cs
          go_wp2_with fail
          go_meet
          have co := Zo.out; have cf := Zf.out; have cs := Zs.out
          exact ⟨by congr 1; symm; first | exact decide_eq_true (by omega) | exact decide_eq_false (by omega), Lib.hid (Below.refl _ _)⟩
  case rest =>
    obtain ⟨rfl, HBc⟩ := hcut
    clear x0 x1 x2 x3 x4 x5 x6 x7 x8 x9
    obtain ⟨x0, x1, x2, x3, x4, x5, x6, x7, x8, x9⟩ := (HX0.out.later HBc.out).c10
    cases hb4 : b4 1 o f s u with
    | true =>
      have hB := H4.out hb4
      subst hB
      go_wp2_with fail
      try go_ret
      exact HP.out _ HBc.out
    | false =>
    have HO2 := Lib.hid (HO.out hb4)
    clear H4 HO hb4
    go_upto_region 6 with fail
    go_cut [139] (fun v wy => v = .bool (b6 1 nc ne nm nd) ∧ Hid (Below w1.heap.size w1 wy))
    case first =>
      clear x0 x1 x2 x3 x4 x5 H6 HO2 HP
      by_cases cnc : nc = 0
      · have ddnc : decide (0 < (nc : Int)) = false := by simp; omega
        have eenc : decide (0 < nc) = false := by simp; omega
        by_cases cne : ne = 0
        · have ddne : decide (0 < (ne : Int)) = false := by simp; omega
          have eene : decide (0 < ne) = false := by simp; omega
          by_cases cnm : nm = 0
          · have ddnm : decide (0 < (nm : Int)) = false := by simp; omega
            have eenm : decide (0 < nm) = false := by simp; omega
            by_cases cnd : nd = 0
            · have ddnd : decide (0 < (nd : Int)) = false := by simp; omega
              have eend : decide (0 < nd) = false := by simp; omega
              have Znc := Lib.hid cnc; clear cnc; have Zne := Lib.hid cne; clear cne; have Znm := Lib.hid cnm; clear cnm; have Znd := Lib.hid cnd; clear cnd
              go_wp2_with fail
              go_meet
              have cnc := Znc.out; have cne := Zne.out; have cnm := Znm.out; have cnd := Znd.out
              exact ⟨by congr 1; symm; first | exact decide_eq_true (by omega) | exact decide_eq_false (by omega), HBc⟩
            · have ddnd : decide (0 < (nd : Int)) = true := by simp; omega
              have eend : decide (0 < nd) = true := by simp; omega
              have Znc := Lib.hid cnc; clear cnc; have Zne := Lib.hid cne; clear cne; have Znm := Lib.hid cnm; clear cnm; have Znd := Lib.hid cnd; clear cnd
              go_wp2_with fail
              go_meet
              have cnc := Znc.out; have cne := Zne.out; have cnm := Znm.out; have cnd := Znd.out
              exact ⟨by congr 1; symm; first | exact decide_eq_true (by omega) | exact decide_eq_false (by omega), HBc⟩
          · have ddnm : decide (0 < (nm : Int)) = true := by simp; omega
            have eenm : decide (0 < nm) = true := by simp; omega
            have Znc := Lib.hid cnc; clear cnc; have Zne := Lib.hid cne; clear cne; have Znm := Lib.hid cnm; clear cnm
            go_wp2_with fail
            go_meet
            have cnc := Znc.out; have cne := Zne.out; have cnm := Znm.out
            exact ⟨by congr 1; symm; first | exact decide_eq_true (by omega) | exact decide_eq_false (by omega), HBc⟩
        · have ddne : decide (0 < (ne : Int)) = true := by simp; omega
          have eene : decide (0 < ne) = true := by simp; omega
          have Znc := Lib.hid cnc; clear cnc; have Zne := Lib.hid cne; clear cne
          go_wp2_with fail
          go_meet
          have cnc := Znc.out; have cne := Zne.out
          exact ⟨by congr 1; symm; first | exact decide_eq_true (by omega) | exact decide_eq_false (by omega), HBc⟩
      · have ddnc : decide (0 < (nc : Int)) = true := by simp; omega
        have eenc : decide (0 < nc) = true := by simp; omega
        have Znc := Lib.hid cnc; clear cnc
        go_wp2_with fail
        go_meet
        have cnc := Znc.out
        exact ⟨by congr 1; symm; first | exact decide_eq_true (by omega) | exact decide_eq_false (by omega), HBc⟩
    case rest =>
      obtain ⟨rfl, HBd⟩ := hcut
      clear x0 x1 x2 x3 x4 x5 x6 x7 x8 x9
      obtain ⟨x0, x1, x2, x3, x4, x5, x6, x7, x8, x9⟩ := (HX0.out.later HBd.out).c10
      cases hb6 : b6 1 nc ne nm nd with
      | true =>
        have hB := H6.out hb6
        subst hB
        go_wp2_with fail
        try go_ret
        exact HP.out _ HBd.out
      | false =>
        have hB := HO2.out hb6
        clear H6 HO2 hb6
        simp only [Int.reduceEq, reduceIte] at hB
        subst hB
        go_wp2_with fail
        try go_ret
        exact HP.out _ HBd.out
set_option maxRecDepth 20000 in
set_option maxHeartbeats 12800000 in
theorem rright_3 (m : Ms) (p : MsAt) (w : World) (h : MsRows w m p) (hN : NumsM m) (hk : m.kind = 3) : Calls Try.prog 16 #[msV m p] w fun e w' => e = .returned (.bool (rightMs m)) ∧ Below w.heap.size w w' := by
  have HB0 := Lib.hid ((Below.refl w.heap.size w).alloc (Nat.le_refl _) (.cells (msC m p) 27))
  have HX0 := Lib.hid (RecAt.new w (msC m p) 27)
  have hx := HX0.out.c10
  have HH := Lib.hid (h.later HB0.out)
  obtain ⟨w1, hw1⟩ : ∃ W, w.alloc (.cells (msC m p) 27) = W := ⟨_, rfl⟩
  rw [hw1] at HB0 HX0 HH
  have H4 := Lib.hid (rightMs_b4 HH.out.hc HH.out.he HH.out.ht HH.out.hd)
  have H6 := Lib.hid (rightMs_b6 HH.out.hc HH.out.he HH.out.ht HH.out.hd)
  have HO := Lib.hid (rightMs_ok HH.out.hc HH.out.he HH.out.ht HH.out.hd hN)
  have hnc : p.nc ≤ 9223372036854775807 := by have h1 := HH.out.c.1; have h2 := HH.out.c.2.1; have h3 := HH.out.hc; unfold maxLen at h2; omega
  have hne : p.ne ≤ 9223372036854775807 := by have h1 := HH.out.e.1; have h2 := HH.out.e.2.1; have h3 := HH.out.he; unfold maxLen at h2; omega
  have hnm : p.nm ≤ 9223372036854775807 := by have h1 := HH.out.t.1; have h2 := HH.out.t.2.1; have h3 := HH.out.ht; unfold maxLen at h2; omega
  have hnd : p.nd ≤ 9223372036854775807 := by have h1 := HH.out.d.1; have h2 := HH.out.d.2.1; have h3 := HH.out.hd; unfold maxLen at h2; omega
  obtain ⟨B, hB⟩ : ∃ B, rightMs m = B := ⟨_, rfl⟩
  rw [hB] at H4 H6 HO ⊢
  obtain ⟨P, hP⟩ : ∃ P, (fun e w' => e = Ending.returned (.bool B) ∧ Below w.heap.size w w') = P := ⟨_, rfl⟩
  rw [hP]
  have HP : Hid (∀ w', Below w1.heap.size w1 w' → P (.returned (.bool B)) w') := Lib.hid (fun w' hb => by rw [← hP]; exact ⟨rfl, HB0.out.trans (hb.mono HB0.out.size)⟩)
  clear hB hP h HH HB0
  unfold NumsM at hN
  obtain ⟨k, n, o, f, s, u, C, E, T, D⟩ := m
  obtain ⟨ac, nc, cc, ae, ne, ce, am, nm, cm, ad, nd, cd⟩ := p
  simp only [msC] at hw1 hx hN hk H4 H6 HO hnc hne hnm hnd
  subst hk
  obtain ⟨-, hn1, hn2, hn3, hn4, hn5⟩ := hN
  have k0 : decide ((1 : Int) ≤ 3 ∧ (3 : Int) ≤ 9) = true := by decide
  have k1 := decide_eq_true hn1
  have k2 := decide_eq_true hn2
  have k3 := decide_eq_true hn3
  have k4 := decide_eq_true hn4
  have k5 := decide_eq_true hn5
  clear hn1 hn2 hn3 hn4 hn5
  go_enter Try.func16, Try.ntmps16
  go_upto_region 1 with fail
  try rw [hw1]
  rw [hw1] at hx
  clear hw1
  obtain ⟨X, hX⟩ : ∃ X, w.heap.size = X := ⟨_, rfl⟩
  rw [hX]
  rw [hX] at HX0 hx
  clear hX
  obtain ⟨x0, x1, x2, x3, x4, x5, x6, x7, x8, x9⟩ := hx
  go_upto_region 4 with (go_at_call 45; refine (rmbetween_any _ _ _ _).mono ?_; (first | rw [k0] | rw [k1] | rw [k2] | rw [k3] | rw [k4] | rw [k5]); rintro e w2 ⟨rfl, rfl⟩)
  clear k0 k1 k2 k3 k4 k5
  go_cut [97] (fun v wx => v = .bool (b4 3 o f s u) ∧ Hid (Below w1.heap.size w1 wx))
  case first =>
    clear x1 x6 x7 x8 x9 H4 H6 HO HP
    by_cases co : o = 0
    · have ddo : (o != 0) = false := by simpa using co
      have eeo : (o == 0) = true := by simpa using co
      by_cases cf : f = 0
      · have ddf : (f != 0) = false := by simpa using cf
        have eef : (f == 0) = true := by simpa using cf
        by_cases cs : s = 0
        · have dds : (s != 0) = false := by simpa using cs
          have ees : (s == 0) = true := by simpa using cs
          by_cases cu : u = 0
          · have ddu : (u != 0) = false := by simpa using cu
            have eeu : (u == 0) = true := by simpa using cu
            have Zo := Lib.hid co; clear co; have Zf := Lib.hid cf; clear cf; have Zs := Lib.hid cs; clear cs; have Zu := Lib.hid cu; clear cu
            go_wp2_with fail
            go_meet
            have co := Zo.out; have cf := Zf.out; have cs := Zs.out; have cu := Zu.out
            exact ⟨by congr 1; symm; first | exact decide_eq_true (by omega) | exact decide_eq_false (by omega), Lib.hid (Below.refl _ _)⟩
          · have ddu : (u != 0) = true := by simpa using cu
            have eeu : (u == 0) = false := by simpa using cu
            have Zo := Lib.hid co; clear co; have Zf := Lib.hid cf; clear cf; have Zs := Lib.hid cs; clear cs; have Zu := Lib.hid cu; clear cu
            go_wp2_with fail
            go_meet
            have co := Zo.out; have cf := Zf.out; have cs := Zs.out; have cu := Zu.out
            exact ⟨by congr 1; symm; first | exact decide_eq_true (by omega) | exact decide_eq_false (by omega), Lib.hid (Below.refl _ _)⟩
        · have dds : (s != 0) = true := by simpa using cs
          have ees : (s == 0) = false := by simpa using cs
          have Zo := Lib.hid co; clear co; have Zf := Lib.hid cf; clear cf; have Zs := Lib.hid cs; clear cs
          go_wp2_with fail
          go_meet
          have co := Zo.out; have cf := Zf.out; have cs := Zs.out
          exact ⟨by congr 1; symm; first | exact decide_eq_true (by omega) | exact decide_eq_false (by omega), Lib.hid (Below.refl _ _)⟩
      · have ddf : (f != 0) = true := by simpa using cf
        have eef : (f == 0) = false := by simpa using cf
        have Zo := Lib.hid co; clear co; have Zf := Lib.hid cf; clear cf
        go_wp2_with fail
        go_meet
        have co := Zo.out; have cf := Zf.out
        exact ⟨by congr 1; symm; first | exact decide_eq_true (by omega) | exact decide_eq_false (by omega), Lib.hid (Below.refl _ _)⟩
    · have ddo : (o != 0) = true := by simpa using co
      have eeo : (o == 0) = false := by simpa using co
      have Zo := Lib.hid co; clear co
      go_wp2_with fail
      go_meet
      have co := Zo.out
      exact ⟨by congr 1; symm; first | exact decide_eq_true (by omega) | exact decide_eq_false (by omega), Lib.hid (Below.refl _ _)⟩
  case rest =>
    obtain ⟨rfl, HBc⟩ := hcut
    clear x0 x1 x2 x3 x4 x5 x6 x7 x8 x9
    obtain ⟨x0, x1, x2, x3, x4, x5, x6, x7, x8, x9⟩ := (HX0.out.later HBc.out).c10
    cases hb4 : b4 3 o f s u with
    | true =>
      have hB := H4.out hb4
      subst hB
      go_wp2_with fail
      try go_ret
      exact HP.out _ HBc.out
    | false =>
    have HO2 := Lib.hid (HO.out hb4)
    clear H4 HO hb4
    go_upto_region 6 with fail
    go_cut [139] (fun v wy => v = .bool (b6 3 nc ne nm nd) ∧ Hid (Below w1.heap.size w1 wy))
    case first =>
      clear x0 x1 x2 x3 x4 x5 H6 HO2 HP
      by_cases cnc : nc = 0
      · have ddnc : decide (0 < (nc : Int)) = false := by simp; omega
        have eenc : decide (0 < nc) = false := by simp; omega
        by_cases cne : ne = 0
        · have ddne : decide (0 < (ne : Int)) = false := by simp; omega
          have eene : decide (0 < ne) = false := by simp; omega
          by_cases cnm : nm = 0
          · have ddnm : decide (0 < (nm : Int)) = false := by simp; omega
            have eenm : decide (0 < nm) = false := by simp; omega
            by_cases cnd : nd = 0
            · have ddnd : decide (0 < (nd : Int)) = false := by simp; omega
              have eend : decide (0 < nd) = false := by simp; omega
              have Znc := Lib.hid cnc; clear cnc; have Zne := Lib.hid cne; clear cne; have Znm := Lib.hid cnm; clear cnm; have Znd := Lib.hid cnd; clear cnd
              go_wp2_with fail
              go_meet
              have cnc := Znc.out; have cne := Zne.out; have cnm := Znm.out; have cnd := Znd.out
              exact ⟨by congr 1; symm; first | exact decide_eq_true (by omega) | exact decide_eq_false (by omega), HBc⟩
            · have ddnd : decide (0 < (nd : Int)) = true := by simp; omega
              have eend : decide (0 < nd) = true := by simp; omega
              have Znc := Lib.hid cnc; clear cnc; have Zne := Lib.hid cne; clear cne; have Znm := Lib.hid cnm; clear cnm; have Znd := Lib.hid cnd; clear cnd
              go_wp2_with fail
              go_meet
              have cnc := Znc.out; have cne := Zne.out; have cnm := Znm.out; have cnd := Znd.out
              exact ⟨by congr 1; symm; first | exact decide_eq_true (by omega) | exact decide_eq_false (by omega), HBc⟩
          · have ddnm : decide (0 < (nm : Int)) = true := by simp; omega
            have eenm : decide (0 < nm) = true := by simp; omega
            have Znc := Lib.hid cnc; clear cnc; have Zne := Lib.hid cne; clear cne; have Znm := Lib.hid cnm; clear cnm
            go_wp2_with fail
            go_meet
            have cnc := Znc.out; have cne := Zne.out; have cnm := Znm.out
            exact ⟨by congr 1; symm; first | exact decide_eq_true (by omega) | exact decide_eq_false (by omega), HBc⟩
        · have ddne : decide (0 < (ne : Int)) = true := by simp; omega
          have eene : decide (0 < ne) = true := by simp; omega
          have Znc := Lib.hid cnc; clear cnc; have Zne := Lib.hid cne; clear cne
          go_wp2_with fail
          go_meet
          have cnc := Znc.out; have cne := Zne.out
          exact ⟨by congr 1; symm; first | exact decide_eq_true (by omega) | exact decide_eq_false (by omega), HBc⟩
      · have ddnc : decide (0 < (nc : Int)) = true := by simp; omega
        have eenc : decide (0 < nc) = true := by simp; omega
        have Znc := Lib.hid cnc; clear cnc
        go_wp2_with fail
        go_meet
        have cnc := Znc.out
        exact ⟨by congr 1; symm; first | exact decide_eq_true (by omega) | exact decide_eq_false (by omega), HBc⟩
    case rest =>
      obtain ⟨rfl, HBd⟩ := hcut
      clear x0 x1 x2 x3 x4 x5 x6 x7 x8 x9
      obtain ⟨x0, x1, x2, x3, x4, x5, x6, x7, x8, x9⟩ := (HX0.out.later HBd.out).c10
      cases hb6 : b6 3 nc ne nm nd with
      | true =>
        have hB := H6.out hb6
        subst hB
        go_wp2_with fail
        try go_ret
        exact HP.out _ HBd.out
      | false =>
        have hB := HO2.out hb6
        clear H6 HO2 hb6
        simp only [Int.reduceEq, reduceIte] at hB
        subst hB
        go_wp2_with fail
        try go_ret
        exact HP.out _ HBd.out
end Go.Proofs.Ytiahifpbofkimaa
