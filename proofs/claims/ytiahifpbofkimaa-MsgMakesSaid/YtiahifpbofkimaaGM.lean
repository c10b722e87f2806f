/- Messages: may entries and marks be sent? The program's and the document's own. | Messages: may one be? The document's own: marks that are sent. | Messages: what is put of their lists: package msg's. -/
import Derived.Test.YtiahifpbofkimaaMsA
import Derived.Test.YtiahifpbofkimaaGL
import Derived.Test.YtiahifpbofkimaaGJ
import Derived.Test.YtiahifpbofkimaaGD
import Derived.Deep.RegionWith
import Derived.Deep.DeepCutAuto
namespace Go.Proofs.Ytiahifpbofkimaa
open Go.RowKit Go.Proofs
set_option linter.unusedVariables false
set_option linter.unusedSimpArgs false
set_option linter.unnecessarySimpa false

theorem mbetween_any (n a b : Int) (w : World) : Calls Try.prog 39 #[.int .i64 n, .int .i64 a, .int .i64 b] w fun e w' => e = .returned (.bool (decide (a ≤ n ∧ n ≤ b))) ∧ w = w' := by
  by_cases h1 : a ≤ n <;> by_cases h2 : n ≤ b
  all_goals
    go_enter Try.func39, Try.ntmps39
    go_wp2
    go_ret
    exact ⟨ret_bool (by simp [h1, h2]), rfl⟩
theorem rmbetween_any (n a b : Int) (w : World) : Calls Try.prog 45 #[.int .i64 n, .int .i64 a, .int .i64 b] w fun e w' => e = .returned (.bool (decide (a ≤ n ∧ n ≤ b))) ∧ w = w' := by
  by_cases h1 : a ≤ n <;> by_cases h2 : n ≤ b
  all_goals
    go_enter Try.func45, Try.ntmps45
    go_wp2
    go_ret
    exact ⟨ret_bool (by simp [h1, h2]), rfl⟩

/-! ### entries -/
theorem entsB_long {p : Int} {l : List En} {n : Nat} (hn : l.length = n) (h : 4 < n) : entsB p l = false := entsB_no fun k => by have := k.1; omega
theorem entsB_bad {p : Int} {l : List En} {j : Nat} {e : En} (he : l[j]? = some e) (h : ¬ (e.right = true ∧ e.seq = p + 1 + j)) : entsB p l = false := entsB_no fun k => h (k.2 j (List.getElem?_eq_some_iff.1 he).1 e he)
theorem entsB_end {p : Int} {l : List En} {n : Nat} (hn : l.length = n) (h : n ≤ 4) (ha : ∀ i, i < n → entStep p l i) : entsB p l = true := entsB_yes ⟨by omega, fun i hi => ha i (by omega)⟩
theorem ent_more {p : Int} {l : List En} {j : Nat} {e : En} (he : l[j]? = some e) (h1 : e.right = true) (h2 : e.seq = p + 1 + j) (ha : ∀ i, i < j → entStep p l i) : ∀ i, i < j + 1 → entStep p l i := fun i hi => by
  by_cases c : i = j
  · subst c
    intro u hu
    rw [he] at hu
    cases hu
    exact ⟨h1, h2⟩
  · exact ha i (by omega)
set_option maxRecDepth 20000 in
set_option maxHeartbeats 6400000 in
theorem rightEntries_any (ad : Option Addr) (n c : Nat) (es : List En) (p : Int) (w : World) (hr : ERow w ad c es) (hn : es.length = n) (hp0 : 0 ≤ p) (hp1 : p ≤ 1099511627776) :
    Calls Try.prog 43 #[.slice ad n c, .int .i64 p] w fun e w' => e = .returned (.bool (entsB p es)) ∧ Below w.heap.size w w' := by
  have HR := Lib.hid hr
  have HN := Lib.hid hn
  have hc1 := hr.1
  rw [hn] at hc1
  have hcm : c ≤ 9223372036854775807 := by have := hr.2.1; unfold maxLen at this; omega
  clear hr hn
  by_cases hl : 4 < n
  · have HF := Lib.hid (entsB_long (p := p) HN.out hl)
    have hd : decide (4 < (n : Int)) = true := by simp; omega
    clear hl
    go_enter Try.func43, Try.ntmps43
    go_wp2_with fail
    go_ret
    exact ⟨ret_bool HF.out.symm, Below.refl _ _⟩
  · have hd : decide (4 < (n : Int)) = false := by simp; omega
    have hl4 : n ≤ 4 := by omega
    clear hl
    go_enter Try.func43, Try.ntmps43
    go_wp2_with fail
    go_loopw [5, 6, 12] (fun _ _ i wr => ∃ j : Nat, i = .int .i64 j ∧ j ≤ n ∧ Below w.heap.size w wr ∧ Hid (∀ i, i < j → entStep p es i)) (fun _ _ i _ => n - (intOf i).toNat)
    case atStart => exact ⟨0, rfl, by omega, Below.refl _ _, Lib.hid (fun i h => by omega)⟩
    case round =>
      obtain ⟨j, rfl, hj, hb, HA⟩ := hrel
      have HB := Lib.hid hb
      clear hb
      by_cases hjn : (j : Int) < n
      · obtain ⟨e, he⟩ : ∃ e, es[j]? = some e := ⟨es[j]'(by have := HN.out; omega), List.getElem?_eq_getElem _⟩
        obtain ⟨b1, o1, d1, k1, rfl, p0, p1, p2, R1⟩ := (HR.out.later HB.out).at he
        have hL : e.data.length ≤ 9223372036854775807 := by have := R1.1; have := R1.2.1; unfold maxLen at this; omega
        have HT := Lib.hid he
        clear he R1
        obtain ⟨T, Z, D⟩ := e
        simp only at p0 p1 p2 hL
        obtain ⟨L, hLL⟩ : ∃ L, D.length = L := ⟨_, rfl⟩
        rw [hLL] at p2 hL
        have HBA := Lib.hid (((Below.refl wr.heap.size wr).alloc (Nat.le_refl _) (.cells #[.int .i64 T, .int .i64 Z, .slice d1 L k1] 44)))
        have HXA := Lib.hid (RecAt.new wr #[.int .i64 T, .int .i64 Z, .slice d1 L k1] 44)
        have HK := Lib.hid fun W => frright_any T Z d1 L k1 W hL
        have HE : Hid (En.right ⟨T, Z, D⟩ = rightE T Z L) := Lib.hid (by unfold En.right; simp only; rw [hLL])
        clear hLL hL
        cases hb : rightE T Z L with
        | false =>
          have HF := Lib.hid (entsB_bad (p := p) HT.out (fun k => by rw [HE.out, hb] at k; exact absurd k.1 (by simp)))
          rw [hb] at HK
          clear hb
          go_wp2_with (go_at_call 79; refine (HK.out _).mono ?_; rintro e w6 ⟨rfl, hb6⟩; have HB6 := Lib.hid (HB.out.trans ((HBA.out.trans (hb6.mono HBA.out.size)).mono HB.out.size)); clear hb6)
          go_ret
          exact ⟨ret_bool HF.out.symm, HB6.out⟩
        | true =>
          have HRT : Hid (En.right ⟨T, Z, D⟩ = true) := Lib.hid (by rw [HE.out, hb])
          rw [hb] at HK
          clear hb
          have hw : wrap64 (p + 1 + j) = p + 1 + j := by unfold wrap64; omega
          cases hs : (Z == p + 1 + (j : Int)) with
          | false =>
            have hsn : (Z != p + 1 + (j : Int)) = true := by simp [bne, hs]
            have HF := Lib.hid (entsB_bad (p := p) HT.out (fun k => by have := k.2; simp only at this; rw [this] at hs; simp at hs))
            go_wp2_with (go_at_call 79; refine (HK.out _).mono ?_; rintro e w6 ⟨rfl, hb6⟩; have HB6 := Lib.hid (HB.out.trans ((HBA.out.trans (hb6.mono HBA.out.size)).mono HB.out.size)); have HX6 := Lib.hid (HXA.out.later hb6); clear hb6; obtain ⟨x0, x1, x2⟩ := HX6.out.c3)
            go_ret
            exact ⟨ret_bool HF.out.symm, HB6.out⟩
          | true =>
            have hsn : (Z != p + 1 + (j : Int)) = false := by simp [bne, hs]
            have HA2 := Lib.hid (ent_more HT.out HRT.out (by simpa using hs) HA.out)
            go_wp2_with (go_at_call 79; refine (HK.out _).mono ?_; rintro e w6 ⟨rfl, hb6⟩; have HB6 := Lib.hid (HB.out.trans ((HBA.out.trans (hb6.mono HBA.out.size)).mono HB.out.size)); have HX6 := Lib.hid (HXA.out.later hb6); clear hb6; obtain ⟨x0, x1, x2⟩ := HX6.out.c3)
            go_roundw
            case rel => exact ⟨j + 1, by go_num, by omega, HB6.out, HA2⟩
            case measure => simp [intOf]; omega
      · have : j = n := by omega
        subst this
        have HF := Lib.hid (entsB_end HN.out hl4 HA.out)
        go_wp2_with fail
        go_ret
        exact ⟨ret_bool HF.out.symm, HB.out⟩

/-! ### marks -/
theorem sent_bool (t : Mk) : decide t.Sent = (decide (1 ≤ t.id ∧ t.id ≤ 1073741824) && (decide (0 ≤ t.size ∧ t.size ≤ 512) && markL t.nm)) := by
  rw [Bool.eq_iff_iff]; simp only [Bool.and_eq_true, decide_eq_true_eq]; unfold Mk.Sent
  constructor
  · rintro ⟨a, b, c, d, e⟩; exact ⟨⟨a, b⟩, ⟨c, d⟩, e⟩
  · rintro ⟨⟨a, b⟩, ⟨c, d⟩, e⟩; exact ⟨a, b, c, d, e⟩
theorem marksB_out {l : List Mk} {n : Nat} (hn : l.length = n) (h : ¬ (1 ≤ n ∧ n ≤ 17)) : marksB l = false := marksB_no fun k => by have := k.1; have := k.2.1; omega
theorem marksB_bad {l : List Mk} {j : Nat} {t : Mk} (he : l[j]? = some t) (h : decide t.Sent = false) : marksB l = false := marksB_no fun k => by rw [decide_eq_true (k.2.2 j (List.getElem?_eq_some_iff.1 he).1 t he)] at h; cases h
theorem marksB_end {l : List Mk} {n : Nat} (hn : l.length = n) (h : 1 ≤ n ∧ n ≤ 17) (ha : ∀ i, i < n → markStep l i) : marksB l = true := marksB_yes ⟨by omega, by omega, fun i hi => ha i (by omega)⟩
theorem mark_more {l : List Mk} {j : Nat} {t : Mk} (he : l[j]? = some t) (h1 : decide t.Sent = true) (ha : ∀ i, i < j → markStep l i) : ∀ i, i < j + 1 → markStep l i := fun i hi => by
  by_cases c : i = j
  · subst c
    intro u hu
    rw [he] at hu
    cases hu
    exact of_decide_eq_true h1
  · exact ha i (by omega)
set_option maxRecDepth 20000 in
set_option maxHeartbeats 6400000 in
theorem rightMarks_any (ad : Option Addr) (n c : Nat) (ts : List Mk) (w : World) (hr : MRow w ad c ts) (hn : ts.length = n) :
    Calls Try.prog 44 #[.slice ad n c] w fun e w' => e = .returned (.bool (marksB ts)) ∧ Below w.heap.size w w' := by
  have HR := Lib.hid hr
  have HN := Lib.hid hn
  have hc1 := hr.1
  rw [hn] at hc1
  have hcm : c ≤ 9223372036854775807 := by have := hr.2.1; unfold maxLen at this; omega
  clear hr hn
  by_cases hl : 1 ≤ n ∧ n ≤ 17
  · have hd : decide ((1 : Int) ≤ (n : Int) ∧ (n : Int) ≤ 17) = true := by simp; omega
    go_enter Try.func44, Try.ntmps44
    go_wp2_with (go_at_call 39; refine (mbetween_any _ _ _ _).mono ?_; rw [hd]; rintro e w2 ⟨rfl, rfl⟩)
    clear hd
    go_loopw [4, 5, 6, 13] (fun _ _ _ i wr => ∃ j : Nat, i = .int .i64 j ∧ j ≤ n ∧ Below w.heap.size w wr ∧ Hid (∀ i, i < j → markStep ts i)) (fun _ _ _ i _ => n - (intOf i).toNat)
    case atStart => exact ⟨0, rfl, by omega, Below.refl _ _, Lib.hid (fun i h => by omega)⟩
    case round =>
      obtain ⟨j, rfl, hj, hb, HA⟩ := hrel
      have HB := Lib.hid hb
      clear hb
      by_cases hjn : (j : Int) < n
      · obtain ⟨t, ht⟩ : ∃ t, ts[j]? = some t := ⟨ts[j]'(by have := HN.out; omega), List.getElem?_eq_getElem _⟩
        obtain ⟨b0, o0, rfl, p0, p1, p2, p3⟩ := (HR.out.later HB.out).c4 ht
        have HT := Lib.hid ht
        have hB := HR.out.b ht
        have HS := Lib.hid (sent_bool t)
        clear ht
        obtain ⟨ti, tn, tz, tg⟩ := t
        simp only at p0 p1 p2 p3
        have HK := Lib.hid fun W => cutp_any tn W hB.2.2
        have hcs : (cutS tn).size ≤ 9223372036854775807 := Nat.le_trans (cutS_len tn) hB.2.2
        have HM := Lib.hid fun W => name_any (cutS tn) W hcs
        rw [cutS_mark] at HM
        unfold Mk.nm at HS
        simp only at HS
        have HB1 := Lib.hid (HB.out.trans (((Below.refl wr.heap.size wr).alloc (Nat.le_refl _) (.cells #[.int .i64 ti, .string tn, .int .i64 tz, .bool tg] 46)).mono HB.out.size))
        clear hB hcs
        generalize heldL tn.data.toList = H1 at *
        generalize cutS tn = CS at *
        cases k1 : decide (1 ≤ ti ∧ ti ≤ 1073741824) with
        | false =>
          rw [k1] at HS
          have HF := Lib.hid (marksB_bad HT.out (by rw [HS.out]; simp))
          go_wp2_with (first
            | (go_at_call 80; refine (HK.out _).mono ?_; rintro e w6 ⟨rfl, rfl⟩)
            | (go_at_call 39; refine (mbetween_any _ _ _ _).mono ?_; rw [k1]; rintro e w2 ⟨rfl, rfl⟩))
          go_ret
          exact ⟨ret_bool HF.out.symm, HB1.out⟩
        | true =>
        rw [k1] at HS
        cases k2 : decide (0 ≤ tz ∧ tz ≤ 512) with
        | false =>
          rw [k2] at HS
          have HF := Lib.hid (marksB_bad HT.out (by rw [HS.out]; simp))
          go_wp2_with (first
            | (go_at_call 80; refine (HK.out _).mono ?_; rintro e w6 ⟨rfl, rfl⟩)
            | (go_at_call 39; refine (mbetween_any _ _ _ _).mono ?_; (first | rw [k1] | rw [k2]); rintro e w2 ⟨rfl, rfl⟩))
          go_ret
          exact ⟨ret_bool HF.out.symm, HB1.out⟩
        | true =>
        rw [k2] at HS
        cases k3 : markL tn.data.toList with
        | false =>
          rw [k3] at HS HM
          have HF := Lib.hid (marksB_bad HT.out (by rw [HS.out]; simp))
          go_wp2_with (first
            | (go_at_call 80; refine (HK.out _).mono ?_; rintro e w6 ⟨rfl, rfl⟩)
            | (go_at_call 39; refine (mbetween_any _ _ _ _).mono ?_; (first | rw [k1] | rw [k2]); rintro e w2 ⟨rfl, rfl⟩)
            | (go_at_call 81; refine (HM.out _).mono ?_; rintro e w2 ⟨rfl, rfl⟩))
          go_ret
          exact ⟨ret_bool HF.out.symm, HB1.out⟩
        | true =>
          rw [k3] at HS HM
          have HA2 := Lib.hid (mark_more HT.out (by rw [HS.out]; simp) HA.out)
          go_wp2_with (first
            | (go_at_call 80; refine (HK.out _).mono ?_; rintro e w6 ⟨rfl, rfl⟩)
            | (go_at_call 39; refine (mbetween_any _ _ _ _).mono ?_; (first | rw [k1] | rw [k2]); rintro e w2 ⟨rfl, rfl⟩)
            | (go_at_call 81; refine (HM.out _).mono ?_; rintro e w2 ⟨rfl, rfl⟩))
          go_roundw
          case rel => exact ⟨j + 1, by go_num, by omega, HB1.out, HA2⟩
          case measure => simp [intOf]; omega
      · have : j = n := by omega
        subst this
        have HF := Lib.hid (marksB_end HN.out hl HA.out)
        go_wp2_with fail
        go_ret
        exact ⟨ret_bool HF.out.symm, HB.out⟩
  · have HF := Lib.hid (marksB_out HN.out hl)
    have hd : decide ((1 : Int) ≤ (n : Int) ∧ (n : Int) ≤ 17) = false := by simp; omega
    go_enter Try.func44, Try.ntmps44
    go_wp2_with (go_at_call 39; refine (mbetween_any _ _ _ _).mono ?_; rw [hd]; rintro e w2 ⟨rfl, rfl⟩)
    go_ret
    exact ⟨ret_bool HF.out.symm, Below.refl _ _⟩
end Go.Proofs.Ytiahifpbofkimaa
namespace Go.Proofs.Ytiahifpbofkimaa
open Go.RowKit Go.Proofs
set_option linter.unusedVariables false
set_option linter.unusedSimpArgs false
set_option linter.unnecessarySimpa false

set_option maxRecDepth 20000 in
set_option maxHeartbeats 12800000 in
theorem info_any (m : Ms) (p : MsAt) (w : World) (h : MsRows w m p) : Calls Try.prog 47 #[msV m p] w fun e w' => e = .returned (.bool (rightC m.chain && marksB m.marks)) ∧ Below w.heap.size w w' := by
  have HB0 := Lib.hid ((Below.refl w.heap.size w).alloc (Nat.le_refl _) (.cells (msC m p) 27))
  have HX0 := Lib.hid (RecAt.new w (msC m p) 27)
  have hx := HX0.out.c10
  have HH := Lib.hid (h.later HB0.out)
  obtain ⟨w1, hw1⟩ : ∃ W, w.alloc (.cells (msC m p) 27) = W := ⟨_, rfl⟩
  rw [hw1] at HB0 HX0 HH
  have HC := Lib.hid (chrright_any _ _ _ m.chain w1 HH.out.c HH.out.hc)
  obtain ⟨CB, hCB⟩ : ∃ SB, rightC m.chain = SB := ⟨_, rfl⟩
  rw [hCB] at HC ⊢
  obtain ⟨k, n, o, f, s, u, C, E, T, D⟩ := m
  obtain ⟨ac, nc, cc, ae, ne, ce, am, nm, cm, ad, nd, cd⟩ := p
  have hce := HH.out.t.1
  rw [HH.out.ht] at hce
  have hcm : cm ≤ 9223372036854775807 := by have := HH.out.t.2.1; unfold maxLen at this; simp only at this; omega
  have HR := Lib.hid HH.out.t
  have HN := Lib.hid HH.out.ht
  simp only [msC] at hw1 hx hce HR HN HC ⊢
  clear hCB HH h
  obtain ⟨P, hP⟩ : ∃ P, (fun e w' => e = Ending.returned (.bool (CB && marksB T)) ∧ Below w.heap.size w w') = P := ⟨_, rfl⟩
  rw [hP]
  have HP : Hid (∀ w', Below w1.heap.size w1 w' → P (.returned (.bool (CB && marksB T))) w') := Lib.hid (fun w' hb => by rw [← hP]; exact ⟨rfl, HB0.out.trans (hb.mono HB0.out.size)⟩)
  clear hP HB0
  go_enter Try.func47, Try.ntmps47
  go_upto_region 1 with fail
  try rw [hw1]
  rw [hw1] at hx
  clear hw1
  obtain ⟨X, hX⟩ : ∃ X, w.heap.size = X := ⟨_, rfl⟩
  rw [hX]
  rw [hX] at HX0 hx
  clear hX
  obtain ⟨-, -, -, -, -, -, x6, -, x8, -⟩ := hx
  cases CB with
  | false =>
    have HPF : Hid (∀ w', Below w1.heap.size w1 w' → P (.returned (.bool false)) w') := Lib.hid (by simpa using HP.out)
    clear HP
    go_wp2_with (go_at_call 61; refine HC.out.mono ?_; rintro e w2 ⟨rfl, hb2⟩)
    try go_ret
    exact HPF.out _ hb2
  | true =>
  have HPT : Hid (∀ w', Below w1.heap.size w1 w' → P (.returned (.bool (marksB T))) w') := Lib.hid (by simpa using HP.out)
  clear HP
  by_cases hl : 1 ≤ nm ∧ nm ≤ 17
  · have hd1 : decide ((nm : Int) < 1) = false := by simp; omega
    have hd2 : decide (17 < (nm : Int)) = false := by simp; omega
    go_wp2_with (go_at_call 61; refine HC.out.mono ?_; rintro e w2 ⟨rfl, hb2⟩; have HB2 := Lib.hid hb2; clear x6 x8; obtain ⟨-, -, -, -, -, -, x6, -, x8, -⟩ := (HX0.out.later hb2).c10; clear hb2)
    clear x6 x8 hd1 hd2 HC
    go_loopw [3] (fun i wr => ∃ j : Nat, i = .int .i64 j ∧ j ≤ nm ∧ Below w1.heap.size w1 wr ∧ Hid (∀ i, i < j → markStep T i)) (fun i _ => nm - (intOf i).toNat)
    case atStart => exact ⟨0, rfl, by omega, HB2.out, Lib.hid (fun i h => by omega)⟩
    case round =>
      obtain ⟨j, rfl, hj, hb, HA⟩ := hrel
      have HB := Lib.hid hb
      have HX1 := Lib.hid (HX0.out.later hb)
      obtain ⟨-, -, -, -, -, -, x6, -, x8, -⟩ := HX1.out.c10
      clear hb
      by_cases hjn : (j : Int) < nm
      · obtain ⟨t, ht⟩ : ∃ t, T[j]? = some t := ⟨T[j]'(by have := HN.out; omega), List.getElem?_eq_getElem _⟩
        obtain ⟨b0, o0, rfl, p0, p1, p2, p3⟩ := (HR.out.later HB.out).c4 ht
        have HT := Lib.hid ht
        have hB := HR.out.b ht
        have HS := Lib.hid (sent_bool t)
        clear ht
        obtain ⟨ti, tn, tz, tg⟩ := t
        simp only at p0 p1 p2 p3
        have HM := Lib.hid fun W => markname_any tn W hB.2.2
        unfold Mk.nm at HS
        simp only at HS
        clear hB
        cases k1 : decide (1 ≤ ti ∧ ti ≤ 1073741824) with
        | false =>
          rw [k1] at HS
          have HPF : Hid (∀ w', Below w1.heap.size w1 w' → P (.returned (.bool false)) w') := Lib.hid (by have := marksB_bad HT.out (by rw [HS.out]; simp); rw [this] at HPT; exact HPT.out)
          clear HPT
          go_wp2_with (go_at_call 45; refine (rmbetween_any _ _ _ _).mono ?_; rw [k1]; rintro e w2 ⟨rfl, rfl⟩)
          try go_ret
          exact HPF.out _ HB.out
        | true =>
        rw [k1] at HS
        cases k2 : decide (0 ≤ tz ∧ tz ≤ 512) with
        | false =>
          rw [k2] at HS
          have HPF : Hid (∀ w', Below w1.heap.size w1 w' → P (.returned (.bool false)) w') := Lib.hid (by have := marksB_bad HT.out (by rw [HS.out]; simp); rw [this] at HPT; exact HPT.out)
          clear HPT
          go_wp2_with (go_at_call 45; refine (rmbetween_any _ _ _ _).mono ?_; (first | rw [k1] | rw [k2]); rintro e w2 ⟨rfl, rfl⟩)
          try go_ret
          exact HPF.out _ HB.out
        | true =>
        rw [k2] at HS
        cases k3 : markL tn.data.toList with
        | false =>
          rw [k3] at HS HM
          have HPF : Hid (∀ w', Below w1.heap.size w1 w' → P (.returned (.bool false)) w') := Lib.hid (by have := marksB_bad HT.out (by rw [HS.out]; simp); rw [this] at HPT; exact HPT.out)
          clear HPT
          go_wp2_with (first
            | (go_at_call 45; refine (rmbetween_any _ _ _ _).mono ?_; (first | rw [k1] | rw [k2]); rintro e w2 ⟨rfl, rfl⟩)
            | (go_at_call 82; refine (HM.out _).mono ?_; rintro e w2 ⟨rfl, rfl⟩))
          try go_ret
          exact HPF.out _ HB.out
        | true =>
          rw [k3] at HS HM
          have HA2 := Lib.hid (mark_more HT.out (by rw [HS.out]; simp) HA.out)
          go_wp2_with (first
            | (go_at_call 45; refine (rmbetween_any _ _ _ _).mono ?_; (first | rw [k1] | rw [k2]); rintro e w2 ⟨rfl, rfl⟩)
            | (go_at_call 82; refine (HM.out _).mono ?_; rintro e w2 ⟨rfl, rfl⟩))
          go_roundw
          case rel => exact ⟨j + 1, by go_num, by omega, HB.out, HA2⟩
          case measure => simp [intOf]; omega
      · have : j = nm := by omega
        subst this
        have HPF : Hid (∀ w', Below w1.heap.size w1 w' → P (.returned (.bool true)) w') := Lib.hid (by have := marksB_end HN.out hl HA.out; rw [this] at HPT; exact HPT.out)
        clear HPT
        go_wp2_with fail
        try go_ret
        exact HPF.out _ HB.out
  · have HPF : Hid (∀ w', Below w1.heap.size w1 w' → P (.returned (.bool false)) w') := Lib.hid (by have := marksB_out HN.out hl; rw [this] at HPT; exact HPT.out)
    have hdd : (decide ((nm : Int) < 1) = true ∧ decide (17 < (nm : Int)) = false) ∨ (decide ((nm : Int) < 1) = false ∧ decide (17 < (nm : Int)) = true) := by simp; omega
    clear hl HPT
    rcases hdd with ⟨hd1, hd2⟩ | ⟨hd1, hd2⟩
    all_goals
      go_wp2_with (go_at_call 61; refine HC.out.mono ?_; rintro e w2 ⟨rfl, hb2⟩; obtain ⟨-, -, -, -, -, -, y6, -, y8, -⟩ := (HX0.out.later hb2).c10)
      try go_ret
      exact HPF.out _ hb2
end Go.Proofs.Ytiahifpbofkimaa
namespace Go.Proofs.Ytiahifpbofkimaa
open Go.RowKit Go.Proofs
set_option linter.unusedVariables false
set_option linter.unusedSimpArgs false
set_option linter.unnecessarySimpa false

theorem run_ix3 (W : World) (a b c : Int) (k : Nat) (v : Int) (h : [a, b, c][k]? = some v) : (Instr.index 83 (.agg #[.int .i64 a, .int .i64 b, .int .i64 c]) (.int .i64 (k : Nat))).run Try.prog W = .ok (.int .i64 v) W := by
  have u3 := Try.underlying3
  have a3 := Try.isAgg3
  have z3 := Try.sizeOf3
  match k, h with
  | 0, h => simp at h; subst h; simp [Instr.index, asIntOf, run_underlying Try.underlying83, go_sem, a3, z3]
  | 1, h => simp at h; subst h; simp [Instr.index, asIntOf, run_underlying Try.underlying83, go_sem, a3, z3]
  | 2, h => simp at h; subst h; simp [Instr.index, asIntOf, run_underlying Try.underlying83, go_sem, a3, z3]
  | k + 3, h => simp at h
theorem run_ix5 (W : World) (a b c d e : Int) (k : Nat) (v : Int) (h : [a, b, c, d, e][k]? = some v) : (Instr.index 51 (.agg #[.int .i64 a, .int .i64 b, .int .i64 c, .int .i64 d, .int .i64 e]) (.int .i64 (k : Nat))).run Try.prog W = .ok (.int .i64 v) W := by
  have u3 := Try.underlying3
  have a3 := Try.isAgg3
  have z3 := Try.sizeOf3
  match k, h with
  | 0, h => simp at h; subst h; simp [Instr.index, asIntOf, run_underlying Try.underlying51, go_sem, a3, z3]
  | 1, h => simp at h; subst h; simp [Instr.index, asIntOf, run_underlying Try.underlying51, go_sem, a3, z3]
  | 2, h => simp at h; subst h; simp [Instr.index, asIntOf, run_underlying Try.underlying51, go_sem, a3, z3]
  | 3, h => simp at h; subst h; simp [Instr.index, asIntOf, run_underlying Try.underlying51, go_sem, a3, z3]
  | 4, h => simp at h; subst h; simp [Instr.index, asIntOf, run_underlying Try.underlying51, go_sem, a3, z3]
  | k + 5, h => simp at h
/-- What numbers of a row make, the first j. -/
def preN (l : List Int) (j : Nat) : List UInt8 := (l.take j).flatMap fun x => varL x.toNat
theorem preN_succ {l : List Int} {j : Nat} {x : Int} (h : l[j]? = some x) : preN l j ++ varL x.toNat = preN l (j + 1) := by
  obtain ⟨hj, rfl⟩ := List.getElem?_eq_some_iff.1 h
  unfold preN
  rw [List.take_succ_eq_append_getElem hj, List.flatMap_append]; simp
theorem preN_zero (l : List Int) : preN l 0 = [] := by simp [preN]
theorem preN_le (l : List Int) (j : Nat) : (preN l j).length ≤ (preN l l.length).length := by
  unfold preN
  rw [List.take_length]
  conv => rhs; rw [← List.take_append_drop j l, List.flatMap_append, List.length_append]
  omega
/-- What is laid when j entries are, ahead of it B. -/
def headE (B : List UInt8) (l : List En) (j : Nat) : List UInt8 := (B ++ varL l.length) ++ rowL (l.take j)
theorem headE_zero (B : List UInt8) (l : List En) : headE B l 0 = B ++ varL l.length := by unfold headE; simp [rowL]
theorem headE_all {B : List UInt8} {l : List En} {n : Nat} (h : l.length = n) : headE B l n = B ++ entsL l := by unfold headE entsL; rw [← h, List.take_length, List.append_assoc]
theorem headE_succ {B : List UInt8} {l : List En} {j : Nat} {t : En} (ht : l[j]? = some t) : headE B l (j + 1) = headE B l j ++ layL t := by
  obtain ⟨h, rfl⟩ := List.getElem?_eq_some_iff.1 ht
  unfold headE rowL
  rw [List.take_succ_eq_append_getElem h, List.flatMap_append, ← List.append_assoc]
  simp
theorem headE_le (B : List UInt8) (l : List En) (j : Nat) : (headE B l j).length ≤ (B ++ entsL l).length := by
  unfold headE entsL rowL
  conv => rhs; rw [← List.take_append_drop j l, List.flatMap_append]
  simp only [List.length_append, List.take_append_drop]; omega
set_option maxRecDepth 20000 in
set_option maxHeartbeats 6400000 in
theorem putEntries_any (ba : Option Addr) (bn bc : Nat) (B0 : List UInt8) (ad : Option Addr) (n c : Nat) (es : List En) (w : World) (hb : Row w ba bc B0) (hbn : B0.length = bn) (hr : ERow w ad c es) (hn : es.length = n) (hes : ∀ (i : Nat) e, es[i]? = some e → e.right = true) (hlen : (B0 ++ entsL es).length ≤ 50000) :
    Calls Try.prog 22 #[.slice ba bn bc, .slice ad n c] w fun e w' => ∃ v, e = .returned v ∧ Own w w' v (B0 ++ entsL es) := by
  have HR := Lib.hid hr
  have HN := Lib.hid hn
  have hc1 := hr.1
  rw [hn] at hc1
  have hcm : c ≤ 9223372036854775807 := by have := hr.2.1; unfold maxLen at this; omega
  have HV := Lib.hid (var_any ba bn bc B0 (n : Nat) w hb hbn (by rw [List.length_append] at hlen; omega) (by omega))
  rw [Int.toNat_natCast] at HV
  have HLE : Hid (∀ j, (headE B0 es j).length ≤ 50000) := Lib.hid (fun j => Nat.le_trans (headE_le B0 es j) hlen)
  have HZ : Hid (B0 ++ varL n = headE B0 es 0) := Lib.hid (by rw [headE_zero, hn])
  have HA : Hid (headE B0 es n = B0 ++ entsL es) := Lib.hid (headE_all hn)
  have HES := Lib.hid hes
  rw [HZ.out] at HV
  rw [← HA.out]
  clear hb hbn hr hn hlen hes HZ HA
  go_enter Try.func22, Try.ntmps22
  go_wp2_with (go_at_call 21; refine HV.out.mono ?_; rintro e w1 ⟨v1, rfl, o1⟩; have HO1 := Lib.hid o1; clear o1)
  go_loopw [0, 6, 7, 8, 15] (fun v _ _ _ i wr => ∃ j : Nat, i = .int .i64 (j : Nat) ∧ j ≤ n ∧ Hid (Own w wr v (headE B0 es j))) (fun _ _ _ _ i _ => n - (intOf i).toNat)
  case atStart => exact ⟨0, rfl, by omega, HO1⟩
  case round =>
    obtain ⟨j, rfl, hj, hO⟩ := hrel
    by_cases hjn : (j : Int) < n
    · obtain ⟨e, he⟩ : ∃ e, es[j]? = some e := ⟨es[j]'(by have := HN.out; omega), List.getElem?_eq_getElem _⟩
      obtain ⟨b1, o1, d1, k1, rfl, p0, p1, p2, R1⟩ := (HR.out.later hO.out.below).at he
      have HS := Lib.hid (headE_succ (B := B0) he)
      have HRT := Lib.hid (HES.out j e he)
      have HBA := Lib.hid (((Below.refl wr.heap.size wr).alloc (Nat.le_refl _) (.cells #[.int .i64 e.tag, .int .i64 e.seq, .slice d1 e.data.length k1] 44)))
      have HK := Lib.hid (lay_any e d1 k1 e.data.length _ (R1.later HBA.out) rfl (by have := R1.1; have := R1.2.1; unfold maxLen at this; omega))
      rw [layA_yes HRT.out] at HK
      have HO2 := Lib.hid (hO.out.later HBA.out)
      have HLL : Hid ((headE B0 es j).length + (layL e).length ≤ 50000) := Lib.hid (by have := HLE.out (j + 1); rw [HS.out, List.length_append] at this; exact this)
      clear he R1 HRT
      generalize layL e = LY at *
      obtain ⟨T, Z, D⟩ := e
      simp only at p0 p1 p2 HBA HK HO2
      generalize D.length = L at *
      go_wp2_with (first
        | (go_at_call 56; refine HK.out.mono ?_; rintro e w6 ⟨v6, rfl, o6⟩; have HB6 := Lib.hid (hO.out.below.trans ((HBA.out.trans (o6.below.mono HBA.out.size)).mono hO.out.below.size)); have HO6 := Lib.hid (HO2.out.later o6.below); obtain ⟨lyn, hly⟩ : ∃ N, LY.length = N := ⟨_, rfl⟩; obtain ⟨a6, c6, rfl, r6⟩ := o6.row_n hly; have HR6 := Lib.hid r6; have HLY := Lib.hid hly; clear o6 r6 hly)
        | (at_builtin; refine wp_row rfl _ _ rfl _ _ rfl w HO6.out _ _ _ _ HR6.out HLY.out rfl (by have := HLL.out; omega) ?_; intro v7 w7 o7; rw [← HS.out] at o7; have HO7 := Lib.hid o7; clear o7))
      go_roundw
      case rel => exact ⟨j + 1, by go_num, by omega, HO7⟩
      case measure => simp [intOf]; omega
    · have : j = n := by omega
      subst this
      go_wp2_with fail
      go_ret
      exact ⟨_, rfl, hO.out⟩
set_option maxRecDepth 20000 in
set_option maxHeartbeats 6400000 in
theorem putChain_any (ba : Option Addr) (bn bc : Nat) (B0 : List UInt8) (ad : Option Addr) (n c : Nat) (ts : List Tg) (w : World) (hb : Row w ba bc B0) (hbn : B0.length = bn) (hr : TRow w ad c ts) (hn : ts.length = n) (hok : ChOk ts) (hlen : bn ≤ 50000) :
    Calls Try.prog 23 #[.slice ba bn bc, .slice ad n c] w fun e w' => ∃ v, e = .returned v ∧ Own w w' v (B0 ++ textL (putC ts)) := by
  have HK := Lib.hid (chput_any ad n c ts w hr hn)
  rw [putCh_yes (rightC_iff.2 hok)] at HK
  have hpl := (putC_len hok).2
  obtain ⟨N, hN⟩ : ∃ N, (putC ts).length = N := ⟨_, rfl⟩
  have HN := Lib.hid hN
  rw [hN] at hpl
  have HT := Lib.hid (fun W (h : Below w.heap.size w W) => text_any ba bn bc B0 (⟨(putC ts).toArray⟩ : ByteArray) W (hb.later h) hbn (by omega) (by simp [ByteArray.size]; omega))
  have HX : Hid ((⟨(putC ts).toArray⟩ : ByteArray).data.toList = putC ts) := Lib.hid rfl
  simp only at HT
  generalize hS : (⟨(putC ts).toArray⟩ : ByteArray) = S at *
  have HS := Lib.hid hS
  generalize putC ts = PC at *
  clear hb hbn hr hn hok hN hS
  go_enter Try.func23, Try.ntmps23
  go_wp2_with (go_at_call 57; refine HK.out.mono ?_; rintro e w1 ⟨v1, rfl, o1⟩; have HB1 := Lib.hid o1.below; obtain ⟨a1, c1, rfl, r1⟩ := o1.row_n HN.out; have hcv := conv_row_n r1 HN.out; rw [HS.out] at hcv; clear o1 r1)
  go_wp2_with (go_at_call 58; refine (HT.out _ HB1.out).mono ?_; rintro e w2 ⟨v2, rfl, o2⟩; have HO2 := Lib.hid (o2.back HB1.out); clear o2)
  go_ret
  exact ⟨_, rfl, HO2.out⟩
set_option maxRecDepth 20000 in
set_option maxHeartbeats 12800000 in
theorem putMarks_any (ba : Option Addr) (bn bc : Nat) (B0 : List UInt8) (ad : Option Addr) (n c : Nat) (ts : List Mk) (w : World) (hb : Row w ba bc B0) (hbn : B0.length = bn) (hr : MRow w ad c ts) (hn : ts.length = n) (hlen : (B0 ++ marksL ts).length ≤ 50000) :
    Calls Try.prog 24 #[.slice ba bn bc, .slice ad n c] w fun e w' => ∃ v, e = .returned v ∧ Own w w' v (B0 ++ marksL ts) := by
  have HR := Lib.hid hr
  have HN := Lib.hid hn
  have hc1 := hr.1
  rw [hn] at hc1
  have hcm : c ≤ 9223372036854775807 := by have := hr.2.1; unfold maxLen at this; omega
  have HV := Lib.hid (var_any ba bn bc B0 (n : Nat) w hb hbn (by rw [List.length_append] at hlen; omega) (by omega))
  rw [Int.toNat_natCast] at HV
  have HLE : Hid (∀ j, (headM B0 ts j).length ≤ 50000) := Lib.hid (fun j => Nat.le_trans (headM_le B0 ts j) hlen)
  have HZ : Hid (B0 ++ varL n = headM B0 ts 0) := Lib.hid (by rw [headM_zero, hn])
  have HA : Hid (headM B0 ts n = B0 ++ marksL ts) := Lib.hid (headM_all hn)
  have HLN : Hid (∀ (i : Nat) t, ts[i]? = some t → t.name.size ≤ 1000000) := Lib.hid (fun i t ht => by have := name_le ht; rw [List.length_append] at hlen; omega)
  rw [HZ.out] at HV
  rw [← HA.out]
  clear hb hbn hr hn hlen HZ HA
  go_enter Try.func24, Try.ntmps24
  go_wp2_with (go_at_call 21; refine HV.out.mono ?_; rintro e w1 ⟨v1, rfl, o1⟩; have HO1 := Lib.hid o1; clear o1)
  go_loopw [0, 6, 7, 9, 16] (fun v _ _ _ i wr => ∃ j : Nat, i = .int .i64 (j : Nat) ∧ j ≤ n ∧ Hid (Own w wr v (headM B0 ts j))) (fun _ _ _ _ i _ => n - (intOf i).toNat)
  case atStart => exact ⟨0, rfl, by omega, HO1⟩
  case round =>
    obtain ⟨j, rfl, hj, hO⟩ := hrel
    by_cases hjn : (j : Int) < n
    · obtain ⟨t, ht⟩ : ∃ t, ts[j]? = some t := ⟨ts[j]'(by have := HN.out; omega), List.getElem?_eq_getElem _⟩
      obtain ⟨b1, o1, rfl, p0, p1, p2, p3⟩ := (HR.out.later hO.out.below).c4 ht
      have HS := Lib.hid (headM_succ (B := B0) ht)
      have HTB : Hid (Mk.B t) := Lib.hid (HR.out.b ht)
      have hls := HLN.out j t ht
      clear ht
      obtain ⟨ti, tn, tz, tg⟩ := t
      simp only at hls p0 p1 p2 p3
      obtain ⟨G, hG⟩ : ∃ G : Int, (bitN tg : Nat) = G := ⟨_, rfl⟩
      have HLL : Hid ((headM B0 ts j).length + (mkL ⟨ti, tn, tz, tg⟩).length ≤ 50000) := Lib.hid (by have := HLE.out (j + 1); rw [HS.out, List.length_append] at this; exact this)
      have hba : Below wr.heap.size wr (wr.alloc (.cells #[.int .i64 ti, .string tn, .int .i64 tz, .bool tg] 46)) := (Below.refl _ _).alloc (Nat.le_refl _) _
      have HX := Lib.hid (RecAt.new wr #[.int .i64 ti, .string tn, .int .i64 tz, .bool tg] 46)
      have HO2 := Lib.hid (hO.out.later hba)
      have HGX : Hid ((headM B0 ts j ++ preN [ti, tz, G] 3) ++ textL tn.data.toList = headM B0 ts (j + 1)) := Lib.hid (by
        rw [HS.out]; unfold preN mkL Mk.nm; simp [List.append_assoc, ← hG])
      have HPL : Hid (∀ i, (headM B0 ts j ++ preN [ti, tz, G] i).length ≤ 50000) := Lib.hid (fun i => by
        have h1 := HLE.out (j + 1)
        rw [← HGX.out] at h1
        have h2 := preN_le [ti, tz, G] i
        rw [show [ti, tz, G].length = 3 from rfl] at h2
        simp only [List.length_append] at h1 ⊢
        omega)
      have HXM : Hid (∀ (i : Nat) (x : Int), [ti, tz, G][i]? = some x → x ≤ 9223372036854775807) := Lib.hid (fun i x hi => by
        have := List.mem_of_getElem? hi
        simp only [List.mem_cons, List.not_mem_nil, or_false] at this
        have hB := HTB.out
        unfold Mk.B W64 at hB
        simp only at hB
        have hg : (bitN tg : Int) ≤ 1 := by cases tg <;> decide
        rcases this with h | h | h
        · omega
        · omega
        · rw [h, ← hG]; omega)
      go_upto_region 5 with fail
      clear p0 p1 p2 p3 hba
      generalize (wr.alloc (.cells #[.int .i64 ti, .string tn, .int .i64 tz, .bool tg] 46)) = w2 at *
      generalize wr.heap.size = p4 at *
      obtain ⟨x0, x1, x2, x3⟩ := HX.out.c4
      obtain ⟨HD, hHD⟩ : ∃ D, headM B0 ts j = D := ⟨_, rfl⟩
      rw [hHD] at HO2 HGX HPL HLL
      have hO2 := hO
      clear hO hHD
      obtain ⟨LX, hLX⟩ : ∃ L, [ti, tz, G] = L := ⟨_, rfl⟩
      rw [hLX] at HGX HPL HXM
      have HLN3 : Hid (LX.length = 3) := Lib.hid (by rw [← hLX]; rfl)
      cases tg with
      | false =>
        have HLX : Hid (LX = [ti, tz, 0]) := Lib.hid (by rw [← hLX, ← hG]; rfl)
        clear hLX hG hO2
        have HIX : Hid (∀ (W : World) (i : Nat) (x : Int), LX[i]? = some x → (Instr.index 83 (.agg #[.int .i64 ti, .int .i64 tz, .int .i64 0]) (.int .i64 (i : Nat))).run Try.prog W = .ok (.int .i64 x) W) := Lib.hid (fun W i x h => run_ix3 W ti tz 0 i x (by rw [HLX.out] at h; exact h))
        go_wp2_with fail
        clear x0 x1 x2 x3
        go_loopw [0, 9, 28] (fun v _ i wz => ∃ q : Nat, i = .int .i64 (q : Nat) ∧ q ≤ 3 ∧ Hid (Below w2.heap.size w2 wz) ∧ Hid (Own w wz v (HD ++ preN LX q))) (fun _ _ i _ => 3 - (intOf i).toNat)
        case atStart => exact ⟨0, rfl, by omega, Lib.hid (Below.refl _ _), by rw [preN_zero, List.append_nil]; exact HO2⟩
        case round =>
          obtain ⟨q, rfl, hq, HBq, hOq⟩ := hrel
          by_cases hq3 : (q : Int) < 3
          · obtain ⟨x, hxq⟩ : ∃ x, LX[q]? = some x := ⟨LX[q]'(by rw [HLN3.out]; omega), List.getElem?_eq_getElem _⟩
            have hix := fun W => HIX.out W q x hxq
            have hxm := HXM.out q x hxq
            have HSQ := Lib.hid (preN_succ hxq)
            obtain ⟨N0, hN0⟩ : ∃ N, (HD ++ preN LX q).length = N := ⟨_, rfl⟩
            obtain ⟨a0, q0, rfl, r0⟩ := hOq.out.row_n hN0
            have HVA := Lib.hid (var_any a0 N0 q0 _ x _ r0 hN0 (by have := HPL.out q; omega) hxm)
            rw [List.append_assoc, HSQ.out] at HVA
            have HWq := Lib.hid hOq.out.below
            clear r0 hN0 hOq hxq
            go_wp2_with (go_at_call 21; refine HVA.out.mono ?_; rintro e w3 ⟨v3, rfl, o3⟩; have HB3 := Lib.hid (HBq.out.trans (o3.below.mono HBq.out.size)); have HO3 := Lib.hid (o3.back HWq.out); clear o3)
            go_roundw
            case rel => exact ⟨q + 1, by go_num, by omega, HB3, HO3⟩
            case measure => simp [intOf]; omega
          · have : q = 3 := by omega
            subst this
            obtain ⟨x0, x1, x2, x3⟩ := (HX.out.later HBq.out).c4
            obtain ⟨N0, hN0⟩ : ∃ N, (HD ++ preN LX 3).length = N := ⟨_, rfl⟩
            obtain ⟨a0, q0, rfl, r0⟩ := hOq.out.row_n hN0
            have HVA := Lib.hid (text_any a0 N0 q0 _ tn _ r0 hN0 (by have := HPL.out 3; omega) hls)
            rw [HGX.out] at HVA
            have HWq := Lib.hid hOq.out.below
            clear r0 hN0 hOq
            go_wp2_with (go_at_call 58; refine HVA.out.mono ?_; rintro e w3 ⟨v3, rfl, o3⟩; have HO3 := Lib.hid (o3.back HWq.out); clear o3)
            go_roundw
            case rel => exact ⟨j + 1, by go_num, by omega, HO3⟩
            case measure => simp [intOf]; omega
      | true =>
        have HLX : Hid (LX = [ti, tz, 1]) := Lib.hid (by rw [← hLX, ← hG]; rfl)
        clear hLX hG hO2
        have HIX : Hid (∀ (W : World) (i : Nat) (x : Int), LX[i]? = some x → (Instr.index 83 (.agg #[.int .i64 ti, .int .i64 tz, .int .i64 1]) (.int .i64 (i : Nat))).run Try.prog W = .ok (.int .i64 x) W) := Lib.hid (fun W i x h => run_ix3 W ti tz 1 i x (by rw [HLX.out] at h; exact h))
        go_wp2_with fail
        clear x0 x1 x2 x3
        go_loopw [0, 9, 28] (fun v _ i wz => ∃ q : Nat, i = .int .i64 (q : Nat) ∧ q ≤ 3 ∧ Hid (Below w2.heap.size w2 wz) ∧ Hid (Own w wz v (HD ++ preN LX q))) (fun _ _ i _ => 3 - (intOf i).toNat)
        case atStart => exact ⟨0, rfl, by omega, Lib.hid (Below.refl _ _), by rw [preN_zero, List.append_nil]; exact HO2⟩
        case round =>
          obtain ⟨q, rfl, hq, HBq, hOq⟩ := hrel
          by_cases hq3 : (q : Int) < 3
          · obtain ⟨x, hxq⟩ : ∃ x, LX[q]? = some x := ⟨LX[q]'(by rw [HLN3.out]; omega), List.getElem?_eq_getElem _⟩
            have hix := fun W => HIX.out W q x hxq
            have hxm := HXM.out q x hxq
            have HSQ := Lib.hid (preN_succ hxq)
            obtain ⟨N0, hN0⟩ : ∃ N, (HD ++ preN LX q).length = N := ⟨_, rfl⟩
            obtain ⟨a0, q0, rfl, r0⟩ := hOq.out.row_n hN0
            have HVA := Lib.hid (var_any a0 N0 q0 _ x _ r0 hN0 (by have := HPL.out q; omega) hxm)
            rw [List.append_assoc, HSQ.out] at HVA
            have HWq := Lib.hid hOq.out.below
            clear r0 hN0 hOq hxq
            go_wp2_with (go_at_call 21; refine HVA.out.mono ?_; rintro e w3 ⟨v3, rfl, o3⟩; have HB3 := Lib.hid (HBq.out.trans (o3.below.mono HBq.out.size)); have HO3 := Lib.hid (o3.back HWq.out); clear o3)
            go_roundw
            case rel => exact ⟨q + 1, by go_num, by omega, HB3, HO3⟩
            case measure => simp [intOf]; omega
          · have : q = 3 := by omega
            subst this
            obtain ⟨x0, x1, x2, x3⟩ := (HX.out.later HBq.out).c4
            obtain ⟨N0, hN0⟩ : ∃ N, (HD ++ preN LX 3).length = N := ⟨_, rfl⟩
            obtain ⟨a0, q0, rfl, r0⟩ := hOq.out.row_n hN0
            have HVA := Lib.hid (text_any a0 N0 q0 _ tn _ r0 hN0 (by have := HPL.out 3; omega) hls)
            rw [HGX.out] at HVA
            have HWq := Lib.hid hOq.out.below
            clear r0 hN0 hOq
            go_wp2_with (go_at_call 58; refine HVA.out.mono ?_; rintro e w3 ⟨v3, rfl, o3⟩; have HO3 := Lib.hid (o3.back HWq.out); clear o3)
            go_roundw
            case rel => exact ⟨j + 1, by go_num, by omega, HO3⟩
            case measure => simp [intOf]; omega
    · have : j = n := by omega
      subst this
      go_wp2_with fail
      go_ret
      exact ⟨_, rfl, hO.out⟩
end Go.Proofs.Ytiahifpbofkimaa
