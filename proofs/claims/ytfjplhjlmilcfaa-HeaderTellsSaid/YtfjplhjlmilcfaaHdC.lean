/- Records of an image: may one be? What is seen? The document's own. -/
import Derived.Test.YtfjplhjlmilcfaaHdB
namespace Go.Proofs.Ytfjplhjlmilcfaa
open Go.RowKit Go.Proofs
set_option linter.unusedVariables false
set_option linter.unusedSimpArgs false
set_option linter.unnecessarySimpa false

set_option maxRecDepth 20000 in
set_option maxHeartbeats 3200000 in
theorem rseen_any (h : Hd) (ad : Option Addr) (n c : Nat) (w : World) (hr : MRow w ad c h.marks) (hn : h.marks.length = n) (hlen : n ≤ 100000) :
    Calls Try.prog 15 #[hdA h ad n c] w fun e w' => ∃ v, e = .returned v ∧ MOwn w w' v (seenL h.marks) := by
  obtain ⟨hs, ho, hu, hc, hx, hq, ts⟩ := h
  simp only at hr hn ⊢
  have HR := Lib.hid hr
  have HN := Lib.hid hn
  have hc1 := hr.1
  rw [hn] at hc1
  have hcm : c ≤ 9223372036854775807 := by have := hr.2.1; unfold maxLen at this; omega
  have hba : Below w.heap.size w (w.alloc (.cells #[.int .i64 hs, .int .i64 ho, .int .i64 hu, .int .i64 hc, .int .i64 hx, .int .i64 hq, .slice ad n c] 26)) := (Below.refl _ _).alloc (Nat.le_refl _) _
  have HB0 := Lib.hid hba
  have HX0 := Lib.hid (RecAt.new w #[.int .i64 hs, .int .i64 ho, .int .i64 hu, .int .i64 hc, .int .i64 hx, .int .i64 hq, .slice ad n c] 26)
  clear hr hn hba
  go_enter Try.func15, Try.ntmps15
  go_upto_region 1 with fail
  have HS0 : Hid (w.heap.size < (w.alloc (.cells #[.int .i64 hs, .int .i64 ho, .int .i64 hu, .int .i64 hc, .int .i64 hx, .int .i64 hq, .slice ad n c] 26)).heap.size) := Lib.hid (by simp)
  generalize (w.alloc (.cells #[.int .i64 hs, .int .i64 ho, .int .i64 hu, .int .i64 hc, .int .i64 hx, .int .i64 hq, .slice ad n c] 26)) = w1 at *
  obtain ⟨P, hP⟩ : ∃ P, w.heap.size = P := ⟨_, rfl⟩
  have HP := Lib.hid hP
  rw [hP]
  rw [hP] at HX0
  clear hP
  go_wp2_with fail
  go_loopw [3, 4] (fun v i wr => ∃ j : Nat, i = .int .i64 j ∧ j ≤ n ∧ Hid (RecAt wr P #[.int .i64 hs, .int .i64 ho, .int .i64 hu, .int .i64 hc, .int .i64 hx, .int .i64 hq, .slice ad n c] 26) ∧ Hid (MOwn w1 wr v (seenL (ts.take j)))) (fun _ i _ => n - (intOf i).toNat)
  case atStart => exact ⟨0, rfl, by omega, HX0, Lib.hid (GOwn.nil _ w1)⟩
  case round =>
    obtain ⟨j, rfl, hj, HXr, HO⟩ := hrel
    obtain ⟨y0, y1, y2, y3, y4, y5, y6⟩ := HXr.out.c7
    have HBW := Lib.hid (HB0.out.trans (HO.out.below.mono HB0.out.size))
    by_cases hjn : (j : Int) < n
    · obtain ⟨t, ht⟩ : ∃ t, ts[j]? = some t := ⟨ts[j]'(by have := HN.out; omega), List.getElem?_eq_getElem _⟩
      obtain ⟨b0, o0, rfl, p0, p1, p2, p3⟩ := (HR.out.later HBW.out).c4 ht
      have HSN := Lib.hid (seenL_snoc ht)
      have HTB : Hid (Mk.B t) := Lib.hid (HR.out.b ht)
      clear ht
      obtain ⟨ti, tn, tz, tg⟩ := t
      simp only at p0 p1 p2 p3
      have HH := Lib.hid (hidden_any tn wr HTB.out.2.2)
      have HLN : Hid ((seenL (ts.take j)).length ≤ n) := Lib.hid (Nat.le_trans (seenL_le _) (by rw [List.length_take, HN.out]; omega))
      cases tg with
      | true =>
        have HF : Hid (seenL (ts.take j) = seenL (ts.take (j + 1))) := Lib.hid (by rw [HSN.out]; exact (List.append_nil _).symm)
        rw [HF.out] at HO
        go_wp2_with fail
        go_roundw
        case rel => exact ⟨j + 1, by go_num, by omega, HXr, HO⟩
        case measure => simp [intOf]; omega
      | false =>
        cases hh : heldL tn.data.toList with
        | true =>
          rw [hh] at HH
          have HF : Hid (seenL (ts.take j) = seenL (ts.take (j + 1))) := Lib.hid (by rw [HSN.out]; unfold Mk.seen Mk.held Mk.nm; simp only [hh]; exact (List.append_nil _).symm)
          rw [HF.out] at HO
          clear hh
          go_wp2_with (go_at_call 39; refine HH.out.mono ?_; rintro e w2 ⟨rfl, rfl⟩)
          go_roundw
          case rel => exact ⟨j + 1, by go_num, by omega, HXr, HO⟩
          case measure => simp [intOf]; omega
        | false =>
          rw [hh] at HH
          have HF : Hid (seenL (ts.take j) ++ [⟨ti, tn, tz, false⟩] = seenL (ts.take (j + 1))) := Lib.hid (by rw [HSN.out]; unfold Mk.seen Mk.held Mk.nm; simp only [hh]; rfl)
          clear hh
          have HPL : Hid (P < w1.heap.size) := Lib.hid (by rw [← HP.out]; exact HS0.out)
          go_wp2_with (first
            | (go_at_call 39; refine HH.out.mono ?_; rintro e w2 ⟨rfl, rfl⟩)
            | (at_builtin; refine wp_gone mkOk rfl _ _ rfl rfl _ _ rfl w1 HO.out ⟨ti, tn, tz, false⟩ HTB.out rfl rfl (by have := HLN.out; omega) ?_; intro v8 w8 o8 g8 h8; have HO8 := Lib.hid o8; rw [HF.out] at HO8; clear o8 g8 h8))
          have HX8 := Lib.hid ((HX0.out).later HO8.out.below)
          go_roundw
          case rel => exact ⟨j + 1, by go_num, by omega, HX8, HO8⟩
          case measure => simp [intOf]; omega
    · have : j = n := by omega
      subst this
      have HF : Hid (ts.take j = ts) := Lib.hid (List.take_of_length_le (Nat.le_of_eq HN.out))
      rw [HF.out] at HO
      go_wp2_with fail
      go_ret
      exact ⟨_, rfl, HO.out.back HB0.out⟩
theorem lastM_le {nx : Int} {l : List Mk} {j : Nat} {t : Mk} (ht : l[j]? = some t) (h : ∀ m, m < j → okM nx l m) (hl : lastM l j < t.id) : 1 ≤ t.id := by
  have := lastM_ge (Nat.le_of_lt (List.getElem?_eq_some_iff.1 ht).1) h
  omega
theorem right_bad {h : Hd} {j : Nat} {t : Mk} (ht : h.marks[j]? = some t) (ha : ∀ m, m < j → okM h.next h.marks m) (k : ¬ (lastM h.marks j < t.id ∧ t.id < h.next ∧ t.Fit)) : rightH h = false := rightH_no fun hx => by
  have h1 := hx.2.2.1 j (List.getElem?_eq_some_iff.1 ht).1 t ht
  have h2 := hx.2.2.2.2.1 t (List.mem_of_getElem? ht)
  exact k ⟨h1.1, h1.2, h2⟩
theorem right_fin {h : Hd} {n : Nat} (hn : h.marks.length = n) (k : NumsOk h) (h1 : n ≤ 17) (h2 : ∀ m, m < n → okM h.next h.marks m) (h4 : ∀ m t, m < n → h.marks[m]? = some t → t.Fit) (h6 : Apart (seenL h.marks)) :
    rightH h = (decide ((seenL h.marks).length ≤ 8) && decide (holdsN h.marks ≤ 1)) := by
  rw [Bool.eq_iff_iff, rightH_iff, Bool.and_eq_true, decide_eq_true_eq, decide_eq_true_eq]
  constructor
  · intro hx; exact ⟨hx.2.2.2.2.2.1, hx.2.2.2.1⟩
  · rintro ⟨h5, h3⟩
    refine ⟨k, by omega, fun i hi => h2 i (by omega), h3, fun t ht => ?_, h5, h6⟩
    obtain ⟨i, hi⟩ := List.mem_iff_getElem?.1 ht
    exact h4 i t (by have := (List.getElem?_eq_some_iff.1 hi).1; omega) hi
theorem right_twins {h : Hd} {i j : Nat} {t u : Mk} (ht : (seenL h.marks)[i]? = some t) (hu : (seenL h.marks)[j]? = some u) (hj : j < i) (he : u.name = t.name) : rightH h = false :=
  rightH_no fun hx => hx.2.2.2.2.2.2 i (List.getElem?_eq_some_iff.1 ht).1 t ht j u hj hu he
end Go.Proofs.Ytfjplhjlmilcfaa
