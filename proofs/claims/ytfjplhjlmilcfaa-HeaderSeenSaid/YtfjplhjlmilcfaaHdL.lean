/- Records of an image: Get; Find, Newest; are two alike? -/
import Derived.Test.YtfjplhjlmilcfaaHdK
import Derived.Laws.StructEq
import Derived.Lib.MinMax
namespace Go.Proofs.Ytfjplhjlmilcfaa
open Go.RowKit Go.Proofs
set_option linter.unusedVariables false
set_option linter.unusedSimpArgs false
set_option linter.unnecessarySimpa false

set_option maxHeartbeats 3200000 in
theorem getH_any (ad : Option Addr) (n c : Nat) (l : List UInt8) (w : World) (hr : Row w ad c l) (hn : l.length = n) (hlen : n ≤ 100000) :
    Calls Try.prog 12 #[.slice ad n c] w (HGot l w) := by
  have HR := Lib.hid hr
  have HN := Lib.hid hn
  clear hr hn
  have hba : Below w.heap.size w (w.alloc (.cells zeroHd 26)) := (Below.refl _ _).alloc (Nat.le_refl _) _
  have HB1 := Lib.hid hba
  have HX1 := Lib.hid (RecAt.new w zeroHd 26)
  clear hba
  go_enter Try.func12, Try.ntmps12
  go_upto_region 1 with fail
  generalize (w.alloc (.cells zeroHd 26)) = w2 at *
  obtain ⟨P2, hP2⟩ : ∃ P, w.heap.size = P := ⟨_, rfl⟩
  have HP2 := Lib.hid hP2
  rw [hP2]
  rw [hP2] at HX1
  clear hP2
  have HOP := Lib.hid (open_any ad n c l w2 (HR.out.later HB1.out) HN.out hlen)
  cases hop : openL l with
  | none =>
    have HF := Lib.hid (getHd_sum hop)
    rw [hop] at HOP
    clear hop
    go_wp2_with fail
    refine HOP.out.mono ?_
    rintro e w3 ⟨v3, rfl, o3⟩
    have HB3 := Lib.hid (HB1.out.trans (o3.below.mono HB1.out.size))
    have HX3 := Lib.hid (HX1.out.later o3.below)
    clear o3
    go_wp2_with (refine wpList_rec rfl rfl P2 zeroHd zeroHd rfl rfl HX3.out rfl (by kernel_rfl) (by kernel_rfl) ?_; intro w4 r1 r2 r3 r4)
    refine bodyPost_ret (results_ct rfl rfl r1 Try.underlying26 rfl (by kernel_rfl)) rfl ?_
    exact hgot_no HF.out (HB3.out.grown r4 HB3.out.size (fun q e => by cases e; exact Nat.le_of_eq HP2.out))
  | some p =>
    have HOO := Lib.hid hop
    rw [hop] at HOP
    obtain ⟨m, hm⟩ : ∃ m, p.length = m := ⟨_, rfl⟩
    have HM := Lib.hid hm
    have hml : m ≤ n := by
      have h1 := congrArg List.length (open_is hop)
      rw [sealL_len, HN.out, hm] at h1; omega
    clear hop hm
    go_upto_region 4 with (go_at_call 33; refine HOP.out.mono ?_; rintro e w3 ⟨v3, rfl, o3⟩; have HO3 := Lib.hid o3; clear o3)
    obtain ⟨a3, c3, rfl, r3⟩ := HO3.out.row_n (show ((some p).getD []).length = m from HM.out)
    have HB3 := Lib.hid (HB1.out.trans (HO3.out.below.mono HB1.out.size))
    have HX3 := Lib.hid (HX1.out.later HO3.out.below)
    have HGU := Lib.hid (guessH_any a3 m c3 p w3 r3 HM.out (by omega))
    clear HX1 HOP HO3 r3
    go_wp2_with fail
    refine HGU.out.mono ?_
    rintro e w4 ⟨a4, m4, c4, g, rfl, o4, hm4, h17, hgs⟩
    have HO4 := Lib.hid (o4.back HB3.out)
    have HM4 := Lib.hid hm4
    have HGS := Lib.hid hgs
    have HPL : Hid (P2 < w3.heap.size) := Lib.hid HX3.out.lt
    have HNB : Hid ((Value.slice a4 m4 c4).ownBlock ≠ some P2) := Lib.hid (fun e => by have := (World.ownsRow.lt o4.1 P2 e).1; have := HPL.out; omega)
    have HX4 := Lib.hid (HX3.out.later o4.below)
    have HB4 := Lib.hid (HB3.out.trans (o4.below.mono HB3.out.size))
    clear o4 hm4 hgs h17 HX3 HGU HPL
    obtain ⟨x0, x1, x2, x3, x4, x5, us⟩ := g
    simp only at HO4 HM4 HGS
    have hb5 : Below w4.heap.size w4 (w4.alloc (.cells #[.int .i64 x0, .int .i64 x1, .int .i64 x2, .int .i64 x3, .int .i64 x4, .int .i64 x5, .slice a4 m4 c4] 26)) := (Below.refl _ _).alloc (Nat.le_refl _) _
    have HX6 := Lib.hid (RecAt.new w4 #[.int .i64 x0, .int .i64 x1, .int .i64 x2, .int .i64 x3, .int .i64 x4, .int .i64 x5, .slice a4 m4 c4] 26)
    have HX5 := Lib.hid (HX4.out.later hb5)
    have HO5 := Lib.hid (HO4.out.later hb5)
    have HB5 := Lib.hid (HB4.out.trans (hb5.mono HB4.out.size))
    clear hb5 HX4 HO4 HB4
    go_upto_region 5 with fail
    generalize (w4.alloc (.cells #[.int .i64 x0, .int .i64 x1, .int .i64 x2, .int .i64 x3, .int .i64 x4, .int .i64 x5, .slice a4 m4 c4] 26)) = w5 at *
    generalize w4.heap.size = P6 at *
    obtain ⟨y0, y1, y2, y3, y4, y5, y6⟩ := HX6.out.c7
    obtain ⟨_, _, ev5, r5⟩ := HO5.out.row_n mkOk HM4.out
    cases ev5
    have HPH := Lib.hid (putH_any ⟨x0, x1, x2, x3, x4, x5, us⟩ a4 m4 c4 w5 r5 HM4.out)
    clear r5
    cases hx : rightH ⟨x0, x1, x2, x3, x4, x5, us⟩ with
    | false =>
      rw [putHd_no hx] at HPH
      have HF := Lib.hid (guessH_not HOO.out HGS.out (.inl hx))
      clear hx
      go_wp2_with fail
      refine HPH.out.mono ?_
      rintro e w7 ⟨v7, rfl, o7⟩
      have HB7 := Lib.hid (HB5.out.trans (o7.below.mono HB5.out.size))
      have HX8 := Lib.hid (HX5.out.later o7.below)
      clear o7 y0 y1 y2 y3 y4 y5 y6
      go_wp2_with (refine wpList_rec rfl rfl P2 zeroHd zeroHd rfl rfl HX8.out rfl (by kernel_rfl) (by kernel_rfl) ?_; intro w8 r1 r2 r3 r4)
      refine bodyPost_ret (results_ct rfl rfl r1 Try.underlying26 rfl (by kernel_rfl)) rfl ?_
      exact hgot_no HF.out (HB7.out.grown r4 HB7.out.size (fun q e => by cases e; exact Nat.le_of_eq HP2.out))
    | true =>
      rw [putHd_yes hx] at HPH
      have HXX := Lib.hid hx
      clear hx
      go_wp2_with fail
      refine HPH.out.mono ?_
      rintro e w7 ⟨v7, rfl, o7⟩
      obtain ⟨m7, hm7⟩ : ∃ m, (sealL (bodyH ⟨x0, x1, x2, x3, x4, x5, us⟩)).length = m := ⟨_, rfl⟩
      obtain ⟨a7, c7, rfl, r7⟩ := o7.row_n hm7
      have HB7 := Lib.hid (HB5.out.trans (o7.below.mono HB5.out.size))
      have HX8 := Lib.hid (HX5.out.later o7.below)
      have HX9 := Lib.hid (HX6.out.later o7.below)
      have HO7 := Lib.hid (HO5.out.later o7.below)
      have HE := Lib.hid (equal_any a7 ad m7 n c7 c (sealL (bodyH ⟨x0, x1, x2, x3, x4, x5, us⟩)) l w7 r7 (HR.out.later HB7.out) hm7 HN.out)
      clear o7 r7 hm7 y0 y1 y2 y3 y4 y5 y6
      by_cases he : sealL (bodyH ⟨x0, x1, x2, x3, x4, x5, us⟩) = l
      · have HF := Lib.hid (guessH_yes HOO.out HXX.out he)
        have hd : decide (sealL (bodyH ⟨x0, x1, x2, x3, x4, x5, us⟩) = l) = true := by simpa using he
        rw [hd] at HE
        clear he hd
        obtain ⟨y0, y1, y2, y3, y4, y5, y6⟩ := HX9.out.c7
        go_wp2_with (first
          | (go_at_call 35; refine HE.out.mono ?_; rintro e w9 ⟨rfl, rfl⟩)
          | (refine wpList_rec rfl rfl P2 zeroHd #[.int .i64 x0, .int .i64 x1, .int .i64 x2, .int .i64 x3, .int .i64 x4, .int .i64 x5, .slice a4 m4 c4] rfl rfl HX8.out rfl (by kernel_rfl) (by kernel_rfl) ?_; intro w8 r1 r2 r3 r4))
        refine bodyPost_ret (results_ct rfl rfl r1 Try.underlying26 rfl (by kernel_rfl)) rfl ?_
        unfold HGot
        rw [HF.out]
        simp only [HM4.out]
        exact ⟨a4, c4, rfl, HO7.out.keptBy r4 (.inr HNB.out) (fun k e => by cases e; exact Nat.le_of_eq HP2.out)⟩
      · have HF := Lib.hid (guessH_not HOO.out HGS.out (.inr he))
        have hd : decide (sealL (bodyH ⟨x0, x1, x2, x3, x4, x5, us⟩) = l) = false := by simpa using he
        rw [hd] at HE
        clear he hd
        go_wp2_with (first
          | (go_at_call 35; refine HE.out.mono ?_; rintro e w9 ⟨rfl, rfl⟩)
          | (refine wpList_rec rfl rfl P2 zeroHd zeroHd rfl rfl HX8.out rfl (by kernel_rfl) (by kernel_rfl) ?_; intro w8 r1 r2 r3 r4))
        refine bodyPost_ret (results_ct rfl rfl r1 Try.underlying26 rfl (by kernel_rfl)) rfl ?_
        exact hgot_no HF.out (HB7.out.grown r4 HB7.out.size (fun q e => by cases e; exact Nat.le_of_eq HP2.out))
/-! ### Find, Newest -/
def HFound (t : Mk) (b : Bool) (w : World) (e : Ending) (w' : World) : Prop := e = .returned (.tuple #[mkA t, .bool b]) ∧ Below w.heap.size w w'
theorem find_go {l : List Mk} {s : ByteArray} {j : Nat} {t : Mk} (ht : l[j]? = some t) (h : (t.seen && decide (t.name = s)) = true) (ha : ∀ m u, m < j → l[m]? = some u → (u.seen && decide (u.name = s)) = false) : foundM l s = (t, true) := by
  have : findM l s = some t := by
    unfold findM
    rw [List.find?_eq_some_iff_getElem]
    obtain ⟨hj, rfl⟩ := List.getElem?_eq_some_iff.1 ht
    exact ⟨h, j, hj, rfl, fun i hi => by rw [ha i _ hi (List.getElem?_eq_getElem (by omega))]; rfl⟩
  unfold foundM; rw [this]
theorem find_no {l : List Mk} {s : ByteArray} {n : Nat} (hn : l.length = n) (ha : ∀ m u, m < n → l[m]? = some u → (u.seen && decide (u.name = s)) = false) : foundM l s = (noMk, false) := by
  have : findM l s = none := by
    unfold findM
    rw [List.find?_eq_none]
    intro u hu
    obtain ⟨i, hi⟩ := List.mem_iff_getElem?.1 hu
    rw [ha i u (by have := (List.getElem?_eq_some_iff.1 hi).1; omega) hi]; simp
  unfold foundM; rw [this]
theorem find_more {l : List Mk} {s : ByteArray} {j : Nat} {t : Mk} (ht : l[j]? = some t) (h : (t.seen && decide (t.name = s)) = false) (ha : ∀ m u, m < j → l[m]? = some u → (u.seen && decide (u.name = s)) = false) : ∀ m u, m < j + 1 → l[m]? = some u → (u.seen && decide (u.name = s)) = false := fun m u hm hu => by
  by_cases e : m = j
  · subst e; rw [ht] at hu; cases hu; exact h
  · exact ha m u (by omega) hu
abbrev zeroMk : Array Value := #[.int .i64 0, .string ⟨#[]⟩, .int .i64 0, .bool false]
set_option maxRecDepth 20000 in
set_option maxHeartbeats 3200000 in
theorem findH_any (h : Hd) (s : ByteArray) (ad : Option Addr) (n c : Nat) (w : World) (hr : MRow w ad c h.marks) (hn : h.marks.length = n) :
    Calls Try.prog 16 #[hdA h ad n c, .string s] w fun e w' => HFound (foundM h.marks s).1 (foundM h.marks s).2 w e w' := by
  obtain ⟨hs, ho, hu, hc, hx, hq, ts⟩ := h
  simp only at hr hn ⊢
  have HR := Lib.hid hr
  have HN := Lib.hid hn
  have hc1 := hr.1
  rw [hn] at hc1
  have hcm : c ≤ 9223372036854775807 := by have := hr.2.1; unfold maxLen at this; omega
  clear hr hn
  obtain ⟨HX1, HX4, HB2⟩ : Hid (RecAt ((w.alloc (.cells #[.int .i64 hs, .int .i64 ho, .int .i64 hu, .int .i64 hc, .int .i64 hx, .int .i64 hq, .slice ad n c] 26)).alloc (.cells zeroMk 39)) w.heap.size #[.int .i64 hs, .int .i64 ho, .int .i64 hu, .int .i64 hc, .int .i64 hx, .int .i64 hq, .slice ad n c] 26) ∧ Hid (RecAt ((w.alloc (.cells #[.int .i64 hs, .int .i64 ho, .int .i64 hu, .int .i64 hc, .int .i64 hx, .int .i64 hq, .slice ad n c] 26)).alloc (.cells zeroMk 39)) (w.heap.size + 1) zeroMk 39) ∧ Hid (Below w.heap.size w ((w.alloc (.cells #[.int .i64 hs, .int .i64 ho, .int .i64 hu, .int .i64 hc, .int .i64 hx, .int .i64 hq, .slice ad n c] 26)).alloc (.cells zeroMk 39))) := two_recs w _ _ _ _
  go_enter Try.func16, Try.ntmps16
  go_upto_region 1 with fail
  generalize ((w.alloc (.cells #[.int .i64 hs, .int .i64 ho, .int .i64 hu, .int .i64 hc, .int .i64 hx, .int .i64 hq, .slice ad n c] 26)).alloc (.cells zeroMk 39)) = w1 at *
  obtain ⟨P4, hP4⟩ : ∃ P, w.heap.size + 1 = P := ⟨_, rfl⟩
  have HP4 := Lib.hid hP4
  rw [hP4] at HX4 ⊢
  clear hP4
  obtain ⟨P2, hP2⟩ : ∃ P, w.heap.size = P := ⟨_, rfl⟩
  have HP2 := Lib.hid hP2
  rw [hP2]
  rw [hP2] at HX1 HP4
  clear hP2
  obtain ⟨y0, y1, y2, y3, y4, y5, y6⟩ := HX1.out.c7
  go_wp2_with fail
  clear y0 y1 y2 y3 y4 y5 y6
  go_loopw [7, 11] (fun _ i wr => ∃ j : Nat, i = .int .i64 j ∧ j ≤ n ∧ Hid (Below w.heap.size w wr) ∧ Hid (RecAt wr P4 zeroMk 39) ∧ Hid (∀ m u, m < j → ts[m]? = some u → (u.seen && decide (u.name = s)) = false)) (fun _ i _ => n - (intOf i).toNat)
  case atStart => exact ⟨0, rfl, by omega, HB2, HX4, Lib.hid (fun m u h => by omega)⟩
  case round =>
    obtain ⟨j, rfl, hj, HB, HX, HA⟩ := hrel
    by_cases hjn : (j : Int) < n
    · obtain ⟨t, ht⟩ : ∃ t, ts[j]? = some t := ⟨ts[j]'(by have := HN.out; omega), List.getElem?_eq_getElem _⟩
      obtain ⟨b0, o0, rfl, p0, p1, p2, p3⟩ := (HR.out.later HB.out).c4 ht
      have HT := Lib.hid ht
      have HTB : Hid (Mk.B t) := Lib.hid (HR.out.b ht)
      clear ht
      obtain ⟨ti, tn, tz, tg⟩ := t
      have hbb : Below wr.heap.size wr (wr.alloc (.cells #[.int .i64 ti, .string tn, .int .i64 tz, .bool tg] 39)) := (Below.refl _ _).alloc (Nat.le_refl _) _
      have HB5 := Lib.hid (HB.out.trans (hbb.mono HB.out.size))
      have HX5 := Lib.hid (HX.out.later hbb)
      have HY := Lib.hid (RecAt.new wr #[.int .i64 ti, .string tn, .int .i64 tz, .bool tg] 39)
      clear hbb
      go_upto_region 4 with fail
      clear p0 p1 p2 p3
      generalize (wr.alloc (.cells #[.int .i64 ti, .string tn, .int .i64 tz, .bool tg] 39)) = w5 at *
      generalize wr.heap.size = p7 at *
      obtain ⟨x0, x1, x2, x3⟩ := HY.out.c4
      have HK := Lib.hid (mseen_any ⟨ti, tn, tz, tg⟩ w5 HTB.out)
      cases hsn : (Mk.mk ti tn tz tg).seen with
      | false =>
        rw [hsn] at HK
        have HA2 := Lib.hid (find_more HT.out (by rw [hsn, Bool.false_and]) HA.out)
        clear hsn
        go_wp2_with (go_at_call 40; refine HK.out.mono ?_; rintro e w6 ⟨rfl, hb6⟩; have HB6 := Lib.hid (HB5.out.trans (hb6.mono HB5.out.size)); have HX6 := Lib.hid (HX5.out.later hb6); clear hb6)
        go_roundw
        case rel => exact ⟨j + 1, by go_num, by omega, HB6, HX6, HA2⟩
        case measure => simp [intOf]; omega
      | true =>
        rw [hsn] at HK
        by_cases he : tn = s
        · have HF := Lib.hid (find_go (s := s) HT.out (by rw [hsn, Bool.true_and]; exact decide_eq_true he) HA.out)
          have hd2 : (tn.toList == s.toList) = true := (sbeq_iff _ _).2 he
          clear he hsn
          go_wp2_with (first
            | (go_at_call 40; refine HK.out.mono ?_; rintro e w6 ⟨rfl, hb6⟩; have HB6 := Lib.hid (HB5.out.trans (hb6.mono HB5.out.size)); have HX6 := Lib.hid (HX5.out.later hb6); have HY6 := Lib.hid (HY.out.later hb6); clear hb6 x0 x1 x2 x3; obtain ⟨x0, x1, x2, x3⟩ := HY6.out.c4)
            | (refine wpList_rec rfl rfl P4 zeroMk #[.int .i64 ti, .string tn, .int .i64 tz, .bool tg] rfl rfl HX6.out rfl (by kernel_rfl) (by kernel_rfl) ?_; intro w7 r1 r2 r3 r4))
          refine bodyPost_ret (results_ct rfl rfl r1 Try.underlying39 rfl (by kernel_rfl)) rfl ?_
          rw [HF.out]
          exact ⟨rfl, HB6.out.grown r4 HB6.out.size (fun q e => by cases e; have := HP2.out; have := HP4.out; omega)⟩
        · have HA2 := Lib.hid (find_more (s := s) HT.out (by rw [hsn, Bool.true_and]; exact decide_eq_false he) HA.out)
          have hd2 : (tn.toList == s.toList) = false := sbeq_no he
          clear he hsn
          go_wp2_with (go_at_call 40; refine HK.out.mono ?_; rintro e w6 ⟨rfl, hb6⟩; have HB6 := Lib.hid (HB5.out.trans (hb6.mono HB5.out.size)); have HX6 := Lib.hid (HX5.out.later hb6); have HY6 := Lib.hid (HY.out.later hb6); clear hb6 x0 x1 x2 x3; obtain ⟨x0, x1, x2, x3⟩ := HY6.out.c4)
          go_roundw
          case rel => exact ⟨j + 1, by go_num, by omega, HB6, HX6, HA2⟩
          case measure => simp [intOf]; omega
    · have : j = n := by omega
      subst this
      have HF := Lib.hid (find_no HN.out HA.out)
      go_wp2_with (refine wpList_rec rfl rfl P4 zeroMk zeroMk rfl rfl HX.out rfl (by kernel_rfl) (by kernel_rfl) ?_; intro w7 r1 r2 r3 r4)
      refine bodyPost_ret (results_ct rfl rfl r1 Try.underlying39 rfl (by kernel_rfl)) rfl ?_
      rw [HF.out]
      exact ⟨rfl, HB.out.grown r4 HB.out.size (fun q e => by cases e; have := HP2.out; have := HP4.out; omega)⟩
def newJ (l : List Mk) (i0 : Int) (j : Nat) : Int := (l.take j).foldl (fun m u => max m u.id) i0
theorem newJ_succ {l : List Mk} {i0 : Int} {j : Nat} {t : Mk} (ht : l[j]? = some t) : newJ l i0 (j + 1) = max (newJ l i0 j) t.id := by
  obtain ⟨h, rfl⟩ := List.getElem?_eq_some_iff.1 ht
  unfold newJ
  rw [List.take_succ_eq_append_getElem h, List.foldl_append]
  rfl
theorem newest_all {l : List Mk} {t : Mk} {n : Nat} (hn : l.length = n) (h0 : l[0]? = some t) : newestM l = newJ l t.id n := by
  unfold newJ
  rw [← hn, List.take_length]
  cases l with
  | nil => simp at h0
  | cons u r => simp at h0; subst h0; rfl
set_option maxRecDepth 20000 in
set_option maxHeartbeats 3200000 in
theorem newestH_any (h : Hd) (ad : Option Addr) (n c : Nat) (w : World) (hr : MRow w ad c h.marks) (hn : h.marks.length = n) :
    Calls Try.prog 23 #[hdA h ad n c] w fun e w' => e = .returned (.int .i64 (newestM h.marks)) ∧ Below w.heap.size w w' := by
  obtain ⟨hs, ho, hu, hc, hx, hq, ts⟩ := h
  simp only at hr hn ⊢
  have HR := Lib.hid hr
  have HN := Lib.hid hn
  have hc1 := hr.1
  rw [hn] at hc1
  have hcm : c ≤ 9223372036854775807 := by have := hr.2.1; unfold maxLen at this; omega
  have hba : Below w.heap.size w (w.alloc (.cells #[.int .i64 hs, .int .i64 ho, .int .i64 hu, .int .i64 hc, .int .i64 hx, .int .i64 hq, .slice ad n c] 26)) := (Below.refl _ _).alloc (Nat.le_refl _) _
  have HB0 := Lib.hid hba
  have HX0 := Lib.hid (RecAt.new w #[.int .i64 hs, .int .i64 ho, .int .i64 hu, .int .i64 hc, .int .i64 hx, .int .i64 hq, .slice ad n c] 26)
  clear hr hn hba
  go_enter Try.func23, Try.ntmps23
  go_upto_region 1 with fail
  generalize (w.alloc (.cells #[.int .i64 hs, .int .i64 ho, .int .i64 hu, .int .i64 hc, .int .i64 hx, .int .i64 hq, .slice ad n c] 26)) = w1 at *
  obtain ⟨P, hP⟩ : ∃ P, w.heap.size = P := ⟨_, rfl⟩
  rw [hP]
  rw [hP] at HX0
  clear hP
  obtain ⟨y0, y1, y2, y3, y4, y5, y6⟩ := HX0.out.c7
  cases hz : ((n : Int) == 0) with
  | true =>
    have HF : Hid (newestM ts = 0) := Lib.hid (by
      have : n = 0 := by simp at hz; omega
      have h2 := HN.out
      rw [this] at h2
      rw [List.length_eq_zero_iff.1 h2]; rfl)
    go_wp2_with fail
    go_ret
    exact ⟨ret_int HF.out.symm, HB0.out⟩
  | false =>
    have h0n : 0 < n := by simp at hz; omega
    obtain ⟨t, ht⟩ : ∃ t, ts[0]? = some t := ⟨ts[0]'(by have := HN.out; omega), List.getElem?_eq_getElem _⟩
    obtain ⟨b0, o0, rfl, p0, p1, p2, p3⟩ := (HR.out.later HB0.out).c4 ht
    have HT := Lib.hid (newest_all HN.out ht)
    clear ht
    obtain ⟨ti, tn, tz, tg⟩ := t
    simp only at p0 HT
    simp only [Nat.zero_mul, Nat.add_zero] at p0
    go_wp2_with fail
    clear p0 p1 p2 p3 y0 y1 y2 y3 y4 y5 y6
    go_loopw [3, 5, 18] (fun M _ i wr => ∃ j : Nat, i = .int .i64 j ∧ M = .int .i64 (newJ ts ti j) ∧ j ≤ n ∧ Hid (Below w.heap.size w wr)) (fun _ _ i _ => n - (intOf i).toNat)
    case atStart => exact ⟨0, rfl, rfl, by omega, HB0⟩
    case round =>
      obtain ⟨j, rfl, rfl, hj, HB⟩ := hrel
      by_cases hjn : (j : Int) < n
      · obtain ⟨u, hu⟩ : ∃ u, ts[j]? = some u := ⟨ts[j]'(by have := HN.out; omega), List.getElem?_eq_getElem _⟩
        obtain ⟨_, _, e9, q0, q1, q2, q3⟩ := (HR.out.later HB.out).c4 hu
        cases e9
        have HS := Lib.hid (newJ_succ (i0 := ti) hu)
        clear hu
        obtain ⟨ui, un, uz, ug⟩ := u
        simp only at HS
        obtain ⟨M, hM⟩ : ∃ M, newJ ts ti j = M := ⟨_, rfl⟩
        rw [hM] at HS ⊢
        clear hM
        have hbb : Below wr.heap.size wr (wr.alloc (.cells #[.int .i64 ui, .string un, .int .i64 uz, .bool ug] 39)) := (Below.refl _ _).alloc (Nat.le_refl _) _
        have HB5 := Lib.hid (HB.out.trans (hbb.mono HB.out.size))
        clear hbb
        go_wp2_with fail
        go_roundw
        case rel => exact ⟨j + 1, by go_num, by rw [HS.out], by omega, HB5⟩
        case measure => simp [intOf]; omega
      · have : j = n := by omega
        subst this
        go_wp2_with fail
        go_ret
        exact ⟨ret_int (by rw [HT.out]), HB.out⟩
end Go.Proofs.Ytfjplhjlmilcfaa
