/- Records of an image: the law's few; the document's example. -/
import Derived.Test.YtfjplhjlmilcfaaHdL
import Derived.Test.YtfjplhjlmilcfaaHdN
namespace Go.Proofs.Ytfjplhjlmilcfaa
open Go.RowKit Go.Proofs
set_option linter.unusedVariables false
set_option linter.unusedSimpArgs false
set_option linter.unnecessarySimpa false

/-- No more than forty marks, no name longer than sixty. -/
def FewM (l : List Mk) : Prop := (∀ (i : Nat) (t : Mk), l[i]? = some t → t.name.size ≤ 60) ∧ l.length ≤ 40
theorem few_more {l : List Mk} {j : Nat} {t : Mk} (ht : l[j]? = some t) (h : t.name.size ≤ 60) (ha : ∀ i u, i < j → l[i]? = some u → u.name.size ≤ 60) : ∀ i u, i < j + 1 → l[i]? = some u → u.name.size ≤ 60 := fun i u hi hu => by
  by_cases e : i = j
  · subst e; rw [ht] at hu; cases hu; exact h
  · exact ha i u (by omega) hu
set_option maxRecDepth 20000 in
set_option maxHeartbeats 3200000 in
theorem fewH_any (h : Hd) (ad : Option Addr) (n c : Nat) (w : World) (hr : MRow w ad c h.marks) (hn : h.marks.length = n) :
    Calls Try.prog 7 #[hdA h ad n c] w fun e w' => e = .returned (.bool (bP (FewM h.marks))) ∧ Below w.heap.size w w' := by
  obtain ⟨hs, ho, hu, hc, hx, hq, ts⟩ := h
  simp only at hr hn ⊢
  have HR := Lib.hid hr
  have HN := Lib.hid hn
  have hc1 := hr.1
  rw [hn] at hc1
  have hcm : c ≤ 9223372036854775807 := by have := hr.2.1; unfold maxLen at this; omega
  have hba : Below w.heap.size w (w.alloc (.cells #[.int .i64 hs, .int .i64 ho, .int .i64 hu, .int .i64 hc, .int .i64 hx, .int .i64 hq, .slice ad n c] 26)) := (Below.refl _ _).alloc (Nat.le_refl _) _
  have HB0 := Lib.hid hba
  have HX0 := Lib.hid (RecAt.new w #[.int .i64 hs, .int .i64 ho, .int .i64 hu, .int .i64 hc, .int .i64 hx, .int .i64 hq, .slice ad n c] 26)
  clear hr hn hba
  go_enter Try.func7, Try.ntmps7
  go_upto_region 1 with fail
  generalize (w.alloc (.cells #[.int .i64 hs, .int .i64 ho, .int .i64 hu, .int .i64 hc, .int .i64 hx, .int .i64 hq, .slice ad n c] 26)) = w1 at *
  obtain ⟨P, hP⟩ : ∃ P, w.heap.size = P := ⟨_, rfl⟩
  rw [hP]
  rw [hP] at HX0
  clear hP
  go_wp2_with fail
  go_loopw [3] (fun i wr => ∃ j : Nat, i = .int .i64 j ∧ j ≤ n ∧ w1 = wr ∧ Hid (∀ i u, i < j → ts[i]? = some u → u.name.size ≤ 60)) (fun i _ => n - (intOf i).toNat)
  case atStart => exact ⟨0, rfl, by omega, rfl, Lib.hid (fun m u h => by omega)⟩
  case round =>
    obtain ⟨j, rfl, hj, rfl, HA⟩ := hrel
    obtain ⟨_, _, _, _, _, _, y6⟩ := HX0.out.c7
    by_cases hjn : (j : Int) < n
    · obtain ⟨t, ht⟩ : ∃ t, ts[j]? = some t := ⟨ts[j]'(by have := HN.out; omega), List.getElem?_eq_getElem _⟩
      obtain ⟨b0, o0, rfl, p0, p1, p2, p3⟩ := (HR.out.later HB0.out).c4 ht
      have HT := Lib.hid ht
      clear ht
      obtain ⟨ti, tn, tz, tg⟩ := t
      simp only at p1 HT
      obtain ⟨m, hm⟩ : ∃ m, tn.size = m := ⟨_, rfl⟩
      by_cases hk : 60 < m
      · have HF : Hid (bP (FewM ts) = false) := Lib.hid (bP_no (fun h => by have := h.1 j _ HT.out; simp only at this; omega))
        have hd : decide (60 < (m : Int)) = true := by simp; omega
        clear hk
        go_wp2_with fail
        go_ret
        exact ⟨ret_bool HF.out.symm, HB0.out⟩
      · have HA2 := Lib.hid (few_more HT.out (by simp only; omega) HA.out)
        have hd : decide (60 < (m : Int)) = false := by simp; omega
        clear hk
        go_wp2_with fail
        go_roundw
        case rel => exact ⟨j + 1, by go_num, by omega, trivial, HA2⟩
        case measure => simp [intOf]; omega
    · have : j = n := by omega
      subst this
      have HF : Hid (bP (FewM ts) = decide ((j : Int) ≤ 40)) := Lib.hid (by
        by_cases h : (j : Int) ≤ 40
        · rw [bP_yes (p := FewM ts) ⟨fun i t ht => HA.out i t (by have := (List.getElem?_eq_some_iff.1 ht).1; have := HN.out; omega) ht, by rw [HN.out]; omega⟩, decide_eq_true h]
        · rw [bP_no (p := FewM ts) (fun k => by have := k.2; rw [HN.out] at this; omega), decide_eq_false h])
      go_wp2_with fail
      go_ret
      exact ⟨ret_bool HF.out.symm, HB0.out⟩

/-! ### the example -/
theorem hgot_is {l : List UInt8} {d : Hd} {k : Int} (h : getHd l = (d, k)) {n : Nat} (hn : d.marks.length = n) {w w' : World} {e : Ending} (hg : HGot l w e w') :
    ∃ a c, e = .returned (.tuple #[hdA d a n c, .int .i64 k]) ∧ MOwn w w' (.slice a n c) d.marks := by
  unfold HGot at hg
  rw [h] at hg
  subst hn
  exact hg
def kMk : Mk := ⟨1, ⟨#[97]⟩, 4, false⟩
def kHd : Hd := ⟨8, 3, 2, 1, 2, 0, [kMk]⟩
theorem kMk_b : kMk.B := ⟨by unfold W64 kMk; decide, by unfold W64 kMk; decide, by decide⟩
theorem kHd_ok : HdOk kHd := by
  refine ⟨by decide, by decide, fun i hi => ?_, by decide, fun t ht => ?_, by decide, fun i hi => ?_⟩
  · have : i = 0 := by have : kHd.marks.length = 1 := rfl; omega
    subst this
    intro t ht
    have : t = kMk := by simpa [kHd] using ht.symm
    subst this
    rw [lastM_zero]
    decide
  · have : t = kMk := by simpa [kHd] using ht
    subst this
    decide
  · have : i = 0 := by have : (seenL kHd.marks).length = 1 := by decide
                       omega
    subst this
    intro t ht j u hj
    omega
theorem kHd_right : rightH kHd = true := rightH_iff.2 kHd_ok
theorem kHd_got : getHd (sealL (bodyH kHd)) = (kHd, 0) := getHd_some (open_seal _) kHd_ok rfl
theorem kHd_none : getHd [] = (noHd, 13) := getHd_sum (by decide)
theorem kHd_find : foundM kHd.marks ⟨#[97]⟩ = (kMk, true) := find_go (j := 0) rfl (by decide) (fun m u h => by omega)
theorem kHd_new : newestM kHd.marks = 1 := rfl
set_option maxRecDepth 20000 in
set_option maxHeartbeats 6400000 in
theorem knownH_any (w : World) : Calls Try.prog 8 #[] w fun e w' => e = .returned (.bool true) ∧ Below w.heap.size w w' := by
  have hb0 : Below w.heap.size w (w.alloc (.cells #[.int .i64 1, .string ⟨#[97]⟩, .int .i64 4, .bool false] 39)) := (Below.refl _ _).alloc (Nat.le_refl _) _
  have hr0 : MRow (w.alloc (.cells #[.int .i64 1, .string ⟨#[97]⟩, .int .i64 4, .bool false] 39)) (some ⟨w.heap.size, 0, none⟩) 1 [kMk] := grow_new mkOk w kMk_b rfl _
  have hb1 : Below w.heap.size w ((w.alloc (.cells #[.int .i64 1, .string ⟨#[97]⟩, .int .i64 4, .bool false] 39)).alloc (.cells #[.int .i64 8, .int .i64 3, .int .i64 2, .int .i64 1, .int .i64 2, .int .i64 0, .slice (some ⟨w.heap.size, 0, none⟩) 1 1] 26)) := hb0.alloc hb0.size _
  have hr1 : MRow ((w.alloc (.cells #[.int .i64 1, .string ⟨#[97]⟩, .int .i64 4, .bool false] 39)).alloc (.cells #[.int .i64 8, .int .i64 3, .int .i64 2, .int .i64 1, .int .i64 2, .int .i64 0, .slice (some ⟨w.heap.size, 0, none⟩) 1 1] 26)) (some ⟨w.heap.size, 0, none⟩) 1 [kMk] := hr0.later ((Below.refl _ _).alloc (Nat.le_refl _) _)
  have HX1 := Lib.hid (RecAt.new (w.alloc (.cells #[.int .i64 1, .string ⟨#[97]⟩, .int .i64 4, .bool false] 39)) #[.int .i64 8, .int .i64 3, .int .i64 2, .int .i64 1, .int .i64 2, .int .i64 0, .slice (some ⟨w.heap.size, 0, none⟩) 1 1] 26)
  have HB1 := Lib.hid hb1
  have HR1 := Lib.hid hr1
  simp only [World.size_alloc] at HX1
  clear hb0 hr0 hb1 hr1
  go_enter Try.func8, Try.ntmps8
  go_upto_region 2 with fail
  generalize ((w.alloc (.cells #[.int .i64 1, .string ⟨#[97]⟩, .int .i64 4, .bool false] 39)).alloc (.cells #[.int .i64 8, .int .i64 3, .int .i64 2, .int .i64 1, .int .i64 2, .int .i64 0, .slice (some ⟨w.heap.size, 0, none⟩) 1 1] 26)) = w1 at *
  obtain ⟨P1, hP1⟩ : ∃ P, w.heap.size + 1 = P := ⟨_, rfl⟩
  rw [hP1] at HX1 ⊢
  clear hP1
  obtain ⟨P0, hP0⟩ : ∃ P, w.heap.size = P := ⟨_, rfl⟩
  rw [hP0] at HX1 HR1 ⊢
  clear hP0
  obtain ⟨y0, y1, y2, y3, y4, y5, y6⟩ := HX1.out.c7
  go_wp2_with fail
  refine (putH_any kHd (some ⟨P0, 0, none⟩) 1 1 w1 HR1.out rfl).mono ?_
  rw [putHd_yes kHd_right]
  rintro e w2 ⟨v2, rfl, o2⟩
  simp only at o2
  obtain ⟨m2, hm2⟩ : ∃ m, (sealL (bodyH kHd)).length = m := ⟨_, rfl⟩
  have hm2b : m2 ≤ 100000 := by rw [← hm2, sealL_len]; have := bodyH_len kHd_ok; omega
  obtain ⟨a2, c2, rfl, r2⟩ := o2.row_n hm2
  have HM2 := Lib.hid hm2
  have HQ2 := Lib.hid r2
  have HB2 := Lib.hid (HB1.out.trans (o2.below.mono HB1.out.size))
  have HX2 := Lib.hid (HX1.out.later o2.below)
  have HR2 := Lib.hid (HR1.out.later o2.below)
  clear o2 hm2 r2 y0 y1 y2 y3 y4 y5 y6 HR1 HX1
  go_wp2_with fail
  refine (getH_any a2 m2 c2 _ w2 HQ2.out HM2.out hm2b).mono ?_
  intro e w3 hg
  obtain ⟨a3, c3, rfl, o3⟩ := hgot_is kHd_got (n := 1) rfl hg
  obtain ⟨_, _, e3, r3⟩ := o3.row_n mkOk (n := 1) rfl
  cases e3
  have HB3 := Lib.hid (HB2.out.trans (o3.below.mono HB2.out.size))
  have HX3 := Lib.hid (HX2.out.later o3.below)
  have HR3 := Lib.hid (HR2.out.later o3.below)
  have HS3 := Lib.hid r3
  clear hg o3 r3 HR2 HX2
  have hb4 : Below w3.heap.size w3 (w3.alloc (.cells #[.int .i64 8, .int .i64 3, .int .i64 2, .int .i64 1, .int .i64 2, .int .i64 0, .slice a3 1 c3] 26)) := (Below.refl _ _).alloc (Nat.le_refl _) _
  have HY4 := Lib.hid (RecAt.new w3 #[.int .i64 8, .int .i64 3, .int .i64 2, .int .i64 1, .int .i64 2, .int .i64 0, .slice a3 1 c3] 26)
  have HB4 := Lib.hid (HB3.out.trans (hb4.mono HB3.out.size))
  have HX4 := Lib.hid (HX3.out.later hb4)
  have HR4 := Lib.hid (HR3.out.later hb4)
  have HS4 := Lib.hid (HS3.out.later hb4)
  clear hb4 HX3 HR3 HS3
  go_upto_region 4 with fail
  simp only [kHd]
  generalize (w3.alloc (.cells #[.int .i64 8, .int .i64 3, .int .i64 2, .int .i64 1, .int .i64 2, .int .i64 0, .slice a3 1 c3] 26)) = w4 at *
  generalize w3.heap.size = P4 at *
  go_wp2_with fail
  refine (getH_any none 0 0 [] w4 (Row.none _) rfl (by omega)).mono ?_
  intro e w5 hg
  obtain ⟨a5, c5, rfl, o5⟩ := hgot_is kHd_none (n := 0) rfl hg
  have HB5 := Lib.hid (HB4.out.trans (o5.below.mono HB4.out.size))
  have HX5 := Lib.hid (HX4.out.later o5.below)
  have HY5 := Lib.hid (HY4.out.later o5.below)
  have HR5 := Lib.hid (HR4.out.later o5.below)
  have HS5 := Lib.hid (HS4.out.later o5.below)
  clear hg o5 HX4 HY4 HR4 HS4
  have hb6 : Below w5.heap.size w5 (w5.alloc (.cells #[.int .i64 0, .int .i64 0, .int .i64 0, .int .i64 0, .int .i64 0, .int .i64 0, .slice a5 0 c5] 26)) := (Below.refl _ _).alloc (Nat.le_refl _) _
  have HB6 := Lib.hid (HB5.out.trans (hb6.mono HB5.out.size))
  have HX6 := Lib.hid (HX5.out.later hb6)
  have HY6 := Lib.hid (HY5.out.later hb6)
  have HR6 := Lib.hid (HR5.out.later hb6)
  have HS6 := Lib.hid (HS5.out.later hb6)
  clear hb6 HX5 HY5 HR5 HS5
  go_upto_region 5 with fail
  simp only [noHd]
  generalize (w5.alloc (.cells #[.int .i64 0, .int .i64 0, .int .i64 0, .int .i64 0, .int .i64 0, .int .i64 0, .slice a5 0 c5] 26)) = w6 at *
  generalize w5.heap.size = P6 at *
  obtain ⟨y0, y1, y2, y3, y4, y5, y6⟩ := HX6.out.c7
  go_wp2_with fail
  refine (findH_any kHd ⟨#[97]⟩ (some ⟨P0, 0, none⟩) 1 1 w6 HR6.out rfl).mono ?_
  rw [kHd_find]
  rintro e w7 ⟨rfl, hb7⟩
  have HB7 := Lib.hid (HB6.out.trans (hb7.mono HB6.out.size))
  have HX7 := Lib.hid (HX6.out.later hb7)
  have HY7 := Lib.hid (HY6.out.later hb7)
  have HR7 := Lib.hid (HR6.out.later hb7)
  have HS7 := Lib.hid (HS6.out.later hb7)
  clear hb7 HX6 HY6 HR6 HS6 y0 y1 y2 y3 y4 y5 y6
  have hb8 : Below w7.heap.size w7 (w7.alloc (.cells #[.int .i64 1, .string ⟨#[97]⟩, .int .i64 4, .bool false] 39)) := (Below.refl _ _).alloc (Nat.le_refl _) _
  have HM8 := Lib.hid (RecAt.new w7 #[.int .i64 1, .string ⟨#[97]⟩, .int .i64 4, .bool false] 39)
  have HB8 := Lib.hid (HB7.out.trans (hb8.mono HB7.out.size))
  have HX8 := Lib.hid (HX7.out.later hb8)
  have HY8 := Lib.hid (HY7.out.later hb8)
  have HR8 := Lib.hid (HR7.out.later hb8)
  have HS8 := Lib.hid (HS7.out.later hb8)
  clear hb8 HX7 HY7 HR7 HS7
  go_upto_region 6 with fail
  simp only [kMk]
  generalize (w7.alloc (.cells #[.int .i64 1, .string ⟨#[97]⟩, .int .i64 4, .bool false] 39)) = w8 at *
  generalize w7.heap.size = P8 at *
  have HK1 := Lib.hid (rsame_hd kHd kHd a3 (some ⟨P0, 0, none⟩) 1 1 c3 1 w8 HS8.out HR8.out rfl rfl)
  rw [show decide (kHd = kHd) = true from by simp] at HK1
  obtain ⟨y0, y1, y2, y3, y4, y5, y6⟩ := HX8.out.c7
  obtain ⟨z0, z1, z2, z3, z4, z5, z6⟩ := HY8.out.c7
  go_wp2_with (first
    | (go_at_call 14; refine HK1.out.mono ?_; rintro e w9 ⟨rfl, hb9⟩; have HB9 := Lib.hid (HB8.out.trans (hb9.mono HB8.out.size)); have HX9 := Lib.hid (HX8.out.later hb9); have HM9 := Lib.hid (HM8.out.later hb9); have HR9 := Lib.hid (HR8.out.later hb9); clear hb9 y0 y1 y2 y3 y4 y5 y6 z0 z1 z2 z3 z4 z5 z6; obtain ⟨y0, y1, y2, y3, y4, y5, y6⟩ := HX9.out.c7; obtain ⟨z0, z1, z2, z3⟩ := HM9.out.c4)
    | (go_at_call 23; refine (newestH_any kHd (some ⟨P0, 0, none⟩) 1 1 _ HR9.out rfl).mono ?_; rw [kHd_new]; rintro e w10 ⟨rfl, hb10⟩; have HB10 := Lib.hid (HB9.out.trans (hb10.mono HB9.out.size)); clear hb10)
    | (go_at_call 19; refine (shape_any 3 4 1 _).mono ?_; rw [show decide (ShapeOk 3 4 1) = false from by decide]; rintro e w11 ⟨rfl, hb11⟩; have HB11 := Lib.hid (HB10.out.trans (hb11.mono HB10.out.size)); clear hb11))
  go_ret
  exact ⟨ret_bool rfl, HB11.out⟩
end Go.Proofs.Ytfjplhjlmilcfaa
