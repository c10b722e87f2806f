/- Records of an image: what is seen, how many holds, do they rise, are names apart; the program's. -/
import Derived.Test.YtfjplhjlmilcfaaHd
import Derived.Deep.RegionWith
import Derived.Deep.DeepCutAuto
namespace Go.Proofs.Ytfjplhjlmilcfaa
open Go.RowKit Go.Proofs
set_option linter.unusedVariables false
set_option linter.unusedSimpArgs false
set_option linter.unnecessarySimpa false

noncomputable def bP (p : Prop) : Bool := open Classical in if p then true else false
theorem bP_yes {p : Prop} (h : p) : bP p = true := by unfold bP; rw [if_pos h]
theorem bP_no {p : Prop} (h : ¬ p) : bP p = false := by unfold bP; rw [if_neg h]
theorem bP_iff {p : Prop} : bP p = true ↔ p := by unfold bP; split <;> simp_all
theorem bP_and (p q : Prop) : (bP p && bP q) = bP (p ∧ q) := by
  rw [Bool.eq_iff_iff]; simp only [Bool.and_eq_true, bP_iff]
def Rise (nx : Int) (l : List Mk) : Prop := ∀ i, i < l.length → okM nx l i
theorem rise_bad {nx : Int} {l : List Mk} {j : Nat} {t : Mk} (ht : l[j]? = some t) (h : ¬ (lastM l j < t.id ∧ t.id < nx)) : bP (Rise nx l) = false :=
  bP_no fun hx => h (hx j (List.getElem?_eq_some_iff.1 ht).1 t ht)
theorem rise_all {nx : Int} {l : List Mk} {n : Nat} (hn : l.length = n) (h : ∀ m, m < n → okM nx l m) : bP (Rise nx l) = true := bP_yes fun i hi => h i (by omega)
theorem okM_more {nx : Int} {l : List Mk} {j : Nat} {t : Mk} (ht : l[j]? = some t) (ha : ∀ m, m < j → okM nx l m) (h : lastM l j < t.id ∧ t.id < nx) : ∀ m, m < j + 1 → okM nx l m := fun m hm => by
  by_cases e : m = j
  · subst e; intro u hu; rw [ht] at hu; cases hu; exact h
  · exact ha m (by omega)
set_option maxRecDepth 20000 in
set_option maxHeartbeats 3200000 in
theorem rising_any (ad : Option Addr) (n c : Nat) (ts : List Mk) (nx : Int) (w : World) (hr : MRow w ad c ts) (hn : ts.length = n) :
    Calls Try.prog 42 #[.slice ad n c, .int .i64 nx] w fun e w' => e = .returned (.bool (bP (Rise nx ts))) ∧ Below w.heap.size w w' := by
  have HR := Lib.hid hr
  have HN := Lib.hid hn
  have hc1 := hr.1
  rw [hn] at hc1
  have hcm : c ≤ 9223372036854775807 := by have := hr.2.1; unfold maxLen at this; omega
  clear hr hn
  go_enter Try.func42, Try.ntmps42
  go_wp2_with fail
  go_loopw [5, 7, 10] (fun L _ i wr => ∃ j : Nat, i = .int .i64 j ∧ L = .int .i64 (lastM ts j) ∧ j ≤ n ∧ Below w.heap.size w wr ∧ Hid (∀ m, m < j → okM nx ts m)) (fun _ _ i _ => n - (intOf i).toNat)
  case atStart => exact ⟨0, rfl, rfl, by omega, Below.refl _ _, Lib.hid (fun m h => by omega)⟩
  case round =>
    obtain ⟨j, rfl, rfl, hj, hb, HA⟩ := hrel
    have HB := Lib.hid hb
    clear hb
    by_cases hjn : (j : Int) < n
    · obtain ⟨t, ht⟩ : ∃ t, ts[j]? = some t := ⟨ts[j]'(by have := HN.out; omega), List.getElem?_eq_getElem _⟩
      obtain ⟨b0, o0, rfl, p0, p1, p2, p3⟩ := (HR.out.later HB.out).c4 ht
      have HT := Lib.hid ht
      have HL := Lib.hid (lastM_succ ht)
      clear ht
      obtain ⟨ti, tn, tz, tg⟩ := t
      have hba : Below wr.heap.size wr (wr.alloc (.cells #[.int .i64 ti, .string tn, .int .i64 tz, .bool tg] 39)) := (Below.refl _ _).alloc (Nat.le_refl _) _
      have HB2 := Lib.hid (HB.out.trans (hba.mono HB.out.size))
      have HX := Lib.hid (RecAt.new wr #[.int .i64 ti, .string tn, .int .i64 tz, .bool tg] 39)
      clear hba
      obtain ⟨L, hL⟩ : ∃ L, lastM ts j = L := ⟨_, rfl⟩
      have HLL := Lib.hid hL
      rw [hL]
      clear hL
      go_upto_region 5 with fail
      clear p0 p1 p2 p3
      generalize (wr.alloc (.cells #[.int .i64 ti, .string tn, .int .i64 tz, .bool tg] 39)) = w2 at *
      generalize wr.heap.size = p4 at *
      obtain ⟨x0, x1, x2, x3⟩ := HX.out.c4
      cases e1 : decide (ti ≤ L) with
      | true =>
        have HF := Lib.hid (rise_bad (nx := nx) HT.out (fun hx => by have h1 := hx.1; rw [HLL.out] at h1; simp only at h1; simp only [decide_eq_true_eq] at e1; omega))
        go_wp2_with fail
        go_ret
        exact ⟨ret_bool HF.out.symm, HB2.out⟩
      | false =>
        cases e2 : decide (nx ≤ ti) with
        | true =>
          have HF := Lib.hid (rise_bad (nx := nx) HT.out (fun hx => by have h1 := hx.2; simp only at h1; simp only [decide_eq_true_eq] at e2; omega))
          go_wp2_with fail
          go_ret
          exact ⟨ret_bool HF.out.symm, HB2.out⟩
        | false =>
          have HM := Lib.hid (okM_more (nx := nx) HT.out HA.out (by rw [HLL.out]; simp only [decide_eq_false_iff_not] at e1 e2; simp only; omega))
          go_wp2_with fail
          go_roundw
          case rel => exact ⟨j + 1, by go_num, by rw [HL.out], by omega, HB2.out, HM⟩
          case measure => simp [intOf]; omega
    · have : j = n := by omega
      subst this
      have HF := Lib.hid (rise_all HN.out HA.out)
      go_wp2_with fail
      go_ret
      exact ⟨ret_bool HF.out.symm, HB.out⟩
set_option maxRecDepth 20000 in
set_option maxHeartbeats 3200000 in
theorem holds_any (ad : Option Addr) (n c : Nat) (ts : List Mk) (w : World) (hr : MRow w ad c ts) (hn : ts.length = n) :
    Calls Try.prog 43 #[.slice ad n c] w fun e w' => e = .returned (.int .i64 (holdsN ts : Nat)) ∧ Below w.heap.size w w' := by
  have HR := Lib.hid hr
  have HN := Lib.hid hn
  have hc1 := hr.1
  rw [hn] at hc1
  have hcm : c ≤ 9223372036854775807 := by have := hr.2.1; unfold maxLen at this; omega
  clear hr hn
  go_enter Try.func43, Try.ntmps43
  go_wp2_with fail
  go_loopw [3, 5, 8] (fun L _ i wr => ∃ j h : Nat, i = .int .i64 j ∧ L = .int .i64 (h : Nat) ∧ j ≤ n ∧ h ≤ j ∧ Below w.heap.size w wr ∧ Hid (h = holdsN (ts.take j))) (fun _ _ i _ => n - (intOf i).toNat)
  case atStart => exact ⟨0, 0, rfl, rfl, by omega, by omega, Below.refl _ _, Lib.hid rfl⟩
  case round =>
    obtain ⟨j, h, rfl, rfl, hj, hhj, hb, HA⟩ := hrel
    have HB := Lib.hid hb
    clear hb
    by_cases hjn : (j : Int) < n
    · obtain ⟨t, ht⟩ : ∃ t, ts[j]? = some t := ⟨ts[j]'(by have := HN.out; omega), List.getElem?_eq_getElem _⟩
      obtain ⟨b0, o0, rfl, p0, p1, p2, p3⟩ := (HR.out.later HB.out).c4 ht
      have HH := Lib.hid (holdsN_snoc ht)
      have HTB : Hid (Mk.B t) := Lib.hid (HR.out.b ht)
      clear ht
      obtain ⟨ti, tn, tz, tg⟩ := t
      have hba : Below wr.heap.size wr (wr.alloc (.cells #[.int .i64 ti, .string tn, .int .i64 tz, .bool tg] 39)) := (Below.refl _ _).alloc (Nat.le_refl _) _
      have HB2 := Lib.hid (HB.out.trans (hba.mono HB.out.size))
      have HX := Lib.hid (RecAt.new wr #[.int .i64 ti, .string tn, .int .i64 tz, .bool tg] 39)
      clear hba
      go_upto_region 5 with fail
      clear p0 p1 p2 p3
      generalize (wr.alloc (.cells #[.int .i64 ti, .string tn, .int .i64 tz, .bool tg] 39)) = w2 at *
      generalize wr.heap.size = p4 at *
      obtain ⟨x0, x1, x2, x3⟩ := HX.out.c4
      have HK := Lib.hid (hold_any ⟨ti, tn, tz, tg⟩ w2 HTB.out)
      cases hh : (Mk.mk ti tn tz tg).held with
      | true =>
        rw [hh] at HK HH
        have HF : Hid (h + 1 = holdsN (ts.take (j + 1))) := Lib.hid (by rw [HH.out, ← HA.out]; rfl)
        clear hh
        go_wp2_with fail
        refine HK.out.mono ?_
        rintro e w3 ⟨rfl, hb3⟩
        have HB3 := Lib.hid (HB2.out.trans (hb3.mono HB2.out.size))
        clear hb3
        go_wp2_with fail
        go_roundw
        case rel => exact ⟨j + 1, h + 1, by go_num, by go_num, by omega, by omega, HB3.out, HF⟩
        case measure => simp [intOf]; omega
      | false =>
        rw [hh] at HK HH
        have HF : Hid (h = holdsN (ts.take (j + 1))) := Lib.hid (by rw [HH.out, ← HA.out]; rfl)
        clear hh
        go_wp2_with fail
        refine HK.out.mono ?_
        rintro e w3 ⟨rfl, hb3⟩
        have HB3 := Lib.hid (HB2.out.trans (hb3.mono HB2.out.size))
        clear hb3
        go_wp2_with fail
        go_roundw
        case rel => exact ⟨j + 1, h, by go_num, rfl, by omega, by omega, HB3.out, HF⟩
        case measure => simp [intOf]; omega
    · have : j = n := by omega
      subst this
      have HF : Hid (h = holdsN ts) := Lib.hid (by rw [HA.out, List.take_of_length_le (Nat.le_of_eq HN.out)])
      go_wp2_with fail
      go_ret
      exact ⟨ret_int (by rw [← HF.out]), HB.out⟩
set_option maxRecDepth 20000 in
set_option maxHeartbeats 3200000 in
theorem seen_any (h : Hd) (ad : Option Addr) (n c : Nat) (w : World) (hr : MRow w ad c h.marks) (hn : h.marks.length = n) (hlen : n ≤ 100000) :
    Calls Try.prog 22 #[hdA h ad n c] w fun e w' => ∃ v, e = .returned v ∧ MOwn w w' v (seenL h.marks) := by
  obtain ⟨hs, ho, hu, hc, hx, hq, ts⟩ := h
  simp only at hr hn ⊢
  have HR := Lib.hid hr
  have HN := Lib.hid hn
  have hc1 := hr.1
  rw [hn] at hc1
  have hcm : c ≤ 9223372036854775807 := by have := hr.2.1; unfold maxLen at this; omega
  have hba : Below w.heap.size w (w.alloc (.cells #[.int .i64 hs, .int .i64 ho, .int .i64 hu, .int .i64 hc, .int .i64 hx, .int .i64 hq, .slice ad n c] 26)) := (Below.refl _ _).alloc (Nat.le_refl _) _
  have HB0 := Lib.hid hba
  have HX0 := Lib.hid (RecAt.new w #[.int .i64 hs, .int .i64 ho, .int .i64 hu, .int .i64 hc, .int .i64 hx, .int .i64 hq, .slice ad n c] 26)
  clear hr hn hba
  go_enter Try.func22, Try.ntmps22
  go_upto_region 1 with fail
  generalize (w.alloc (.cells #[.int .i64 hs, .int .i64 ho, .int .i64 hu, .int .i64 hc, .int .i64 hx, .int .i64 hq, .slice ad n c] 26)) = w1 at *
  obtain ⟨P, hP⟩ : ∃ P, w.heap.size = P := ⟨_, rfl⟩
  rw [hP]
  rw [hP] at HX0
  clear hP
  obtain ⟨_, _, _, _, _, _, y6⟩ := HX0.out.c7
  go_wp2_with fail
  clear y6
  go_loopw [3, 5, 9] (fun v _ i wr => ∃ j : Nat, i = .int .i64 j ∧ j ≤ n ∧ Hid (MOwn w wr v (seenL (ts.take j)))) (fun _ _ i _ => n - (intOf i).toNat)
  case atStart => exact ⟨0, rfl, by omega, Lib.hid (GOwn.nil' HB0.out)⟩
  case round =>
    obtain ⟨j, rfl, hj, HO⟩ := hrel
    by_cases hjn : (j : Int) < n
    · obtain ⟨t, ht⟩ : ∃ t, ts[j]? = some t := ⟨ts[j]'(by have := HN.out; omega), List.getElem?_eq_getElem _⟩
      obtain ⟨b0, o0, rfl, p0, p1, p2, p3⟩ := (HR.out.later HO.out.below).c4 ht
      have HSN := Lib.hid (seenL_snoc ht)
      have HTB : Hid (Mk.B t) := Lib.hid (HR.out.b ht)
      clear ht
      obtain ⟨ti, tn, tz, tg⟩ := t
      have hba : Below wr.heap.size wr (wr.alloc (.cells #[.int .i64 ti, .string tn, .int .i64 tz, .bool tg] 39)) := (Below.refl _ _).alloc (Nat.le_refl _) _
      have HO2 := Lib.hid (HO.out.later hba)
      have HX := Lib.hid (RecAt.new wr #[.int .i64 ti, .string tn, .int .i64 tz, .bool tg] 39)
      clear hba HO
      go_upto_region 5 with fail
      clear p0 p1 p2 p3
      generalize (wr.alloc (.cells #[.int .i64 ti, .string tn, .int .i64 tz, .bool tg] 39)) = w2 at *
      generalize wr.heap.size = p4 at *
      have HK := Lib.hid (mseen_any ⟨ti, tn, tz, tg⟩ w2 HTB.out)
      have HLN : Hid ((seenL (ts.take j)).length ≤ n) := Lib.hid (Nat.le_trans (seenL_le _) (by rw [List.length_take, HN.out]; omega))
      cases hh : (Mk.mk ti tn tz tg).seen with
      | true =>
        rw [hh] at HK HSN
        have HF : Hid (seenL (ts.take j) ++ [⟨ti, tn, tz, tg⟩] = seenL (ts.take (j + 1))) := Lib.hid (by rw [HSN.out]; rfl)
        clear hh
        obtain ⟨x0, x1, x2, x3⟩ := HX.out.c4
        go_wp2_with fail
        refine HK.out.mono ?_
        rintro e w3 ⟨rfl, hb3⟩
        have HO3 := Lib.hid (HO2.out.later hb3)
        have HX3 := Lib.hid (HX.out.later hb3)
        clear hb3 x0 x1 x2 x3 HX HO2
        obtain ⟨x0, x1, x2, x3⟩ := HX3.out.c4
        go_wp2_with (at_builtin; refine wp_gone mkOk rfl _ _ rfl rfl _ _ rfl w HO3.out ⟨ti, tn, tz, tg⟩ HTB.out rfl rfl (by have := HLN.out; omega) ?_; intro v8 w8 o8 g8 h8; have HO8 := Lib.hid o8; rw [HF.out] at HO8; clear o8 g8 h8)
        go_roundw
        case rel => exact ⟨j + 1, by go_num, by omega, HO8⟩
        case measure => simp [intOf]; omega
      | false =>
        rw [hh] at HK HSN
        have HF : Hid (seenL (ts.take j) = seenL (ts.take (j + 1))) := Lib.hid (by rw [HSN.out]; exact (List.append_nil _).symm)
        clear hh
        obtain ⟨x0, x1, x2, x3⟩ := HX.out.c4
        go_wp2_with fail
        refine HK.out.mono ?_
        rintro e w3 ⟨rfl, hb3⟩
        have HO3 := Lib.hid (HO2.out.later hb3)
        rw [HF.out] at HO3
        clear hb3 x0 x1 x2 x3 HX HO2
        go_wp2_with fail
        go_roundw
        case rel => exact ⟨j + 1, by go_num, by omega, HO3⟩
        case measure => simp [intOf]; omega
    · have : j = n := by omega
      subst this
      have HF : Hid (ts.take j = ts) := Lib.hid (List.take_of_length_le (Nat.le_of_eq HN.out))
      rw [HF.out] at HO
      go_wp2_with fail
      go_ret
      exact ⟨_, rfl, HO.out⟩
theorem apart_here {l : List Mk} {i j : Nat} {t u : Mk} (ht : l[i]? = some t) (hu : l[j]? = some u) (hj : j < i) (he : u.name = t.name) : bP (Apart l) = false :=
  bP_no fun hx => hx i (List.getElem?_eq_some_iff.1 ht).1 t ht j u hj hu he
theorem apart_all {l : List Mk} {n : Nat} (hn : l.length = n) (h : ∀ m, m < n → apartAt l m) : bP (Apart l) = true := bP_yes fun i hi => h i (by omega)
theorem apart_one {l : List Mk} {j : Nat} {t : Mk} (ht : l[j]? = some t) (h : ∀ i u, i < j → l[i]? = some u → u.name ≠ t.name) : apartAt l j := fun s hs => by
  rw [ht] at hs; cases hs; exact h
theorem upto_more {P : Nat → Prop} {j : Nat} (h : ∀ m, m < j → P m) (hj : P j) : ∀ m, m < j + 1 → P m := fun m hm => by
  by_cases e : m = j
  · subst e; exact hj
  · exact h m (by omega)
theorem ne_name {l : List Mk} {i : Nat} {u : Mk} {s : ByteArray} (hu : l[i]? = some u) (hn : u.name ≠ s) (h : ∀ k v, k < i → l[k]? = some v → v.name ≠ s) : ∀ k v, k < i + 1 → l[k]? = some v → v.name ≠ s := fun k v hk hv => by
  by_cases e : k = i
  · subst e; rw [hu] at hv; cases hv; exact hn
  · exact h k v (by omega) hv
set_option maxRecDepth 20000 in
set_option maxHeartbeats 3200000 in
theorem apart_any (ad : Option Addr) (n c : Nat) (ts : List Mk) (w : World) (hr : MRow w ad c ts) (hn : ts.length = n) :
    Calls Try.prog 45 #[.slice ad n c] w fun e w' => e = .returned (.bool (bP (Apart ts))) ∧ Below w.heap.size w w' := by
  have HR := Lib.hid hr
  have HN := Lib.hid hn
  have hc1 := hr.1
  rw [hn] at hc1
  have hcm : c ≤ 9223372036854775807 := by have := hr.2.1; unfold maxLen at this; omega
  have HNC := Lib.hid hr.2.2.1
  clear hr hn
  go_enter Try.func45, Try.ntmps45
  go_wp2_with fail
  go_loopw [3, 4, 6, 9] (fun _ _ _ i wr => ∃ j : Nat, i = .int .i64 j ∧ j ≤ n ∧ Below w.heap.size w wr ∧ Hid (∀ m, m < j → apartAt ts m)) (fun _ _ _ i _ => n - (intOf i).toNat)
  case atStart => exact ⟨0, rfl, by omega, Below.refl _ _, Lib.hid (fun m h => by omega)⟩
  case round =>
    obtain ⟨j, rfl, hj, hb, HA⟩ := hrel
    have HB := Lib.hid hb
    clear hb
    cases hd : decide ((j : Int) < n) with
    | true =>
      have hjn : j < n := by simp only [decide_eq_true_eq] at hd; omega
      obtain ⟨t, ht⟩ : ∃ t, ts[j]? = some t := ⟨ts[j]'(by have := HN.out; omega), List.getElem?_eq_getElem _⟩
      obtain ⟨b0, o0, rfl, p0, p1, p2, p3⟩ := (HR.out.later HB.out).c4 ht
      have hs1 : ∀ W, (Instr.slice 24 (.slice (some ⟨b0, o0, none⟩) n c) none (some (.int .i64 j)) none).run Try.prog W = .ok (.slice (some ⟨b0, o0, none⟩) j c) W := fun W => run_slG mkOk rfl HNC.out hc1 (by omega)
      have HT := Lib.hid ht
      clear ht
      obtain ⟨ti, tn, tz, tg⟩ := t
      have hba : Below wr.heap.size wr (wr.alloc (.cells #[.int .i64 ti, .string tn, .int .i64 tz, .bool tg] 39)) := (Below.refl _ _).alloc (Nat.le_refl _) _
      have HB2 := Lib.hid (HB.out.trans (hba.mono HB.out.size))
      have HX := Lib.hid (RecAt.new wr #[.int .i64 ti, .string tn, .int .i64 tz, .bool tg] 39)
      have HPL := Lib.hid HB.out.size
      clear hba
      go_upto_region 4 with fail
      clear p0 p1 p2 p3
      generalize (wr.alloc (.cells #[.int .i64 ti, .string tn, .int .i64 tz, .bool tg] 39)) = w2 at *
      generalize wr.heap.size = p4 at *
      go_wp2_with fail
      go_loopw [6, 18] (fun _ i wr => ∃ k : Nat, i = .int .i64 k ∧ k ≤ j ∧ Hid (Below w2.heap.size w2 wr) ∧ Hid (∀ i u, i < k → ts[i]? = some u → u.name ≠ tn)) (fun _ i _ => j - (intOf i).toNat)
      case atStart => exact ⟨0, rfl, by omega, Lib.hid (Below.refl _ _), Lib.hid (fun m u h => by omega)⟩
      case round =>
        obtain ⟨k, rfl, hk, HBk, HAk⟩ := hrel
        by_cases hkj : (k : Int) < j
        · obtain ⟨u, hu⟩ : ∃ u, ts[k]? = some u := ⟨ts[k]'(by have := HN.out; omega), List.getElem?_eq_getElem _⟩
          have HBW := Lib.hid (HB2.out.trans (HBk.out.mono HB2.out.size))
          obtain ⟨_, _, e9, q0, q1, q2, q3⟩ := (HR.out.later HBW.out).c4 hu
          cases e9
          have HU := Lib.hid hu
          clear hu
          obtain ⟨ui, un, uz, ug⟩ := u
          have hba : Below wr.heap.size wr (wr.alloc (.cells #[.int .i64 ui, .string un, .int .i64 uz, .bool ug] 39)) := (Below.refl _ _).alloc (Nat.le_refl _) _
          have HB4 := Lib.hid (HBk.out.trans (hba.mono HBk.out.size))
          have HX4 := Lib.hid (HX.out.later HB4.out)
          have HY4 := Lib.hid (RecAt.new wr #[.int .i64 ui, .string un, .int .i64 uz, .bool ug] 39)
          clear hba
          go_upto_region 7 with fail
          clear q0 q1 q2 q3
          generalize (wr.alloc (.cells #[.int .i64 ui, .string un, .int .i64 uz, .bool ug] 39)) = w4 at *
          generalize wr.heap.size = p6 at *
          obtain ⟨x0, x1, x2, x3⟩ := HX4.out.c4
          obtain ⟨y0, y1, y2, y3⟩ := HY4.out.c4
          by_cases he : un = tn
          · have HF := Lib.hid (apart_here HT.out HU.out (by omega) he)
            have hd2 : (tn.toList == un.toList) = true := (sbeq_iff _ _).2 he.symm
            have HBW4 := Lib.hid (HB2.out.trans (HB4.out.mono HB2.out.size))
            clear he
            go_wp2_with fail
            go_ret
            exact ⟨ret_bool HF.out.symm, HBW4.out⟩
          · have HF := Lib.hid (ne_name HU.out he HAk.out)
            have hd2 : (tn.toList == un.toList) = false := sbeq_no fun h => he h.symm
            clear he
            go_wp2_with fail
            go_roundw
            case rel => exact ⟨k + 1, by go_num, by omega, HB4, HF⟩
            case measure => simp [intOf]; omega
        · have : k = j := by omega
          subst this
          have HF := Lib.hid (upto_more HA.out (apart_one HT.out HAk.out))
          have HBW := Lib.hid (HB2.out.trans (HBk.out.mono HB2.out.size))
          go_wp2_with fail
          go_roundw
          case rel => exact ⟨k + 1, by go_num, by omega, HBW.out, HF⟩
          case measure => simp [intOf]; omega
    | false =>
      have : j = n := by simp only [decide_eq_false_iff_not] at hd; omega
      subst this
      have HF := Lib.hid (apart_all HN.out HA.out)
      go_wp2_with fail
      go_ret
      exact ⟨ret_bool HF.out.symm, HB.out⟩
end Go.Proofs.Ytfjplhjlmilcfaa
