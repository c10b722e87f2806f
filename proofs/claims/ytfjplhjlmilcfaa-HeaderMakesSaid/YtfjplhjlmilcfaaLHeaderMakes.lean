/- The law 'HeaderMakes', walked. -/
import Derived.Test.YtfjplhjlmilcfaaHdQ
import Derived.Test.YtfjplhjlmilcfaaHdLaw
import Derived.Test.YtfjplhjlmilcfaaFree
import Derived.Lib.MinMax
import Derived.Deep.CutBlock
namespace Go.Proofs.Ytfjplhjlmilcfaa
open Go.RowKit Go.Proofs
set_option linter.unusedVariables false
set_option linter.unusedSimpArgs false
set_option linter.unnecessarySimpa false

set_option maxRecDepth 100000 in
set_option maxHeartbeats 6400000 in
theorem headerMakes_known (sz od un ct : Int) (ad : Option Addr) (n c : Nat) (wh by' : Int) (w : World) (hb : 30 < n) :
    Calls Try.prog 4 #[.int .i64 sz, .int .i64 od, .int .i64 un, .int .i64 ct, .slice ad n c, .int .i64 wh, .int .i64 by'] w fun x w' => x = .returned (.bool true) ∧ Below w.heap.size w w' := by
  have h : 30 < (n : Int) := by omega
  clear hb
  go_enter Try.func4, Try.ntmps4
  go_wp2_with fail
  refine (knownH_any _).mono ?_
  rintro y w2 ⟨rfl, hb2⟩
  go_wp2_with fail
  go_ret
  exact ⟨rfl, hb2⟩
/-- The record under way: its cells and its own marks. -/
def Turn8 (w wx : World) (P M c9 : Nat) (a9 : Option Addr) : Prop := ∃ n' : Hd, n'.marks.length = M ∧ RecAt wx P #[.int .i64 n'.size, .int .i64 n'.order, .int .i64 n'.unit, .int .i64 n'.count, .int .i64 n'.next, .int .i64 n'.seq, .slice a9 M c9] 26 ∧ MOwn w wx (.slice a9 M c9) n'.marks
set_option maxRecDepth 100000 in
set_option maxHeartbeats 25600000 in
theorem headerMakes_main (sz od un ct : Int) (ad : Option Addr) (n c : Nat) (zs : List Int) (wh by' : Int) (w : World) (hr : ZRow w ad c zs) (hn : zs.length = n) (hn2 : n ≤ 30) (hby : -9223372036854775808 ≤ by' ∧ by' ≤ 9223372036854775807) :
    Calls Try.prog 4 #[.int .i64 sz, .int .i64 od, .int .i64 un, .int .i64 ct, .slice ad n c, .int .i64 wh, .int .i64 by'] w fun x w' => x = .returned (.bool true) ∧ Below w.heap.size w w' := by
  have hd0 : decide (30 < (n : Int)) = false := by simp; omega
  have HMK := Lib.hid (makeH_any sz od un ct ad n c zs w hr hn)
  have HBY := Lib.hid hby
  clear hr hn hby
  go_enter Try.func4, Try.ntmps4
  go_wp2_with fail
  refine HMK.out.mono ?_
  rintro e w1 ⟨H, am, cp, M, rfl, hok, hap, hlen, h16, ho1⟩
  have HLN := Lib.hid hlen
  obtain ⟨_, _, e1, r1⟩ := ho1.row_n mkOk hlen
  cases e1
  have HB1 := Lib.hid ho1.below
  have HR1 := Lib.hid r1
  have HRT := Lib.hid (rightH_iff.2 hok)
  clear hok hap hlen ho1 r1 HMK hd0
  obtain ⟨hs, ho, hu, hc, hx, hq, ms⟩ := H
  simp only at HLN
  have hba : Below w1.heap.size w1 (w1.alloc (.cells #[.int .i64 hs, .int .i64 ho, .int .i64 hu, .int .i64 hc, .int .i64 hx, .int .i64 hq, .slice am M cp] 26)) := (Below.refl _ _).alloc (Nat.le_refl _) _
  have HX2 := Lib.hid (RecAt.new w1 #[.int .i64 hs, .int .i64 ho, .int .i64 hu, .int .i64 hc, .int .i64 hx, .int .i64 hq, .slice am M cp] 26)
  have HB2 := Lib.hid (HB1.out.trans (hba.mono HB1.out.size))
  have HR2 := Lib.hid (HR1.out.later hba)
  clear hba HR1
  go_upto_region 4 with fail
  generalize (w1.alloc (.cells #[.int .i64 hs, .int .i64 ho, .int .i64 hu, .int .i64 hc, .int .i64 hx, .int .i64 hq, .slice am M cp] 26)) = w2 at *
  generalize w1.heap.size = P15 at *
  obtain ⟨y0, y1, y2, y3, y4, y5, y6⟩ := HX2.out.c7
  have HPU := Lib.hid (putH_any ⟨hs, ho, hu, hc, hx, hq, ms⟩ am M cp w2 HR2.out HLN.out)
  rw [putHd_yes HRT.out] at HPU
  obtain ⟨X, hX⟩ : ∃ X, sealL (bodyH ⟨hs, ho, hu, hc, hx, hq, ms⟩) = X := ⟨_, rfl⟩
  have HX := Lib.hid hX
  rw [hX] at HPU
  obtain ⟨k2, hk2⟩ : ∃ k, X.length = k := ⟨_, rfl⟩
  have HK2 := Lib.hid hk2
  clear hX hk2
  go_wp2_with fail
  refine HPU.out.mono ?_
  rintro e w3 ⟨v3, rfl, o3⟩
  have o3 : Own w2 w3 v3 X := o3
  obtain ⟨b2, d2, rfl, r2⟩ := o3.row_n HK2.out
  have HB3 := Lib.hid (HB2.out.trans (o3.below.mono HB2.out.size))
  have HX3 := Lib.hid (HX2.out.later o3.below)
  have HR3 := Lib.hid (HR2.out.later o3.below)
  have HQ3 := Lib.hid r2
  clear o3 r2 HPU y0 y1 y2 y3 y4 y5 y6 HX2 HR2
  obtain ⟨y0, y1, y2, y3, y4, y5, y6⟩ := HX3.out.c7
  have HPU := Lib.hid (rputH_any ⟨hs, ho, hu, hc, hx, hq, ms⟩ am M cp w3 HR3.out HLN.out)
  rw [putHd_yes HRT.out, HX.out] at HPU
  go_wp2_with fail
  refine HPU.out.mono ?_
  rintro e w4 ⟨v4, rfl, o4⟩
  have o4 : Own w3 w4 v4 X := o4
  obtain ⟨b4, d4, rfl, r4⟩ := o4.row_n HK2.out
  have HB4 := Lib.hid (HB3.out.trans (o4.below.mono HB3.out.size))
  have HX4 := Lib.hid (HX3.out.later o4.below)
  have HR4 := Lib.hid (HR3.out.later o4.below)
  have q1 := conv_row_n (HQ3.out.later o4.below) HK2.out
  have q2 := conv_row_n r4 HK2.out
  clear o4 r4 HPU y0 y1 y2 y3 y4 y5 y6 HX3 HR3 HRT HX
  go_upto_region 8 with fail
  clear q1 q2 HQ3
  obtain ⟨y0, y1, y2, y3, y4, y5, y6⟩ := HX4.out.c7
  have hba : Below w4.heap.size w4 (w4.alloc (.cells #[.int .i64 hs, .int .i64 ho, .int .i64 hu, .int .i64 hc, .int .i64 hx, .int .i64 hq, .slice am M cp] 26)) := (Below.refl _ _).alloc (Nat.le_refl _) _
  have HN5 := Lib.hid (RecAt.new w4 #[.int .i64 hs, .int .i64 ho, .int .i64 hu, .int .i64 hc, .int .i64 hx, .int .i64 hq, .slice am M cp] 26)
  have HB5 := Lib.hid (HB4.out.trans (hba.mono HB4.out.size))
  have HX5 := Lib.hid (HX4.out.later hba)
  have HR5 := Lib.hid (HR4.out.later hba)
  have HWP : Hid (w.heap.size ≤ w4.heap.size) := Lib.hid HB4.out.size
  clear hba HR4
  go_upto_region 9 with fail
  generalize (w4.alloc (.cells #[.int .i64 hs, .int .i64 ho, .int .i64 hu, .int .i64 hc, .int .i64 hx, .int .i64 hq, .slice am M cp] 26)) = w5 at *
  generalize w4.heap.size = P20 at *
  clear y0 y1 y2 y3 y4 y5 y6 HX4
  have HE0 : Hid (MOwn w (w5.alloc (.cells #[] 39)) (.slice (some ⟨w5.heap.size, 0, none⟩) 0 0) []) := Lib.hid (GOwn.empty HB5.out rfl)
  have hba : Below w5.heap.size w5 (w5.alloc (.cells #[] 39)) := (Below.refl _ _).alloc (Nat.le_refl _) _
  have HX6 := Lib.hid (HX5.out.later hba)
  have HN6 := Lib.hid (HN5.out.later hba)
  have HR6 := Lib.hid (HR5.out.later hba)
  have HPL : Hid (P20 < w5.heap.size) := Lib.hid HN5.out.lt
  clear hba
  obtain ⟨y0, y1, y2, y3, y4, y5, y6⟩ := HX6.out.c7
  have HK1 : Hid ((Value.slice (some ⟨w5.heap.size, 0, none⟩) 0 0).ownBlock ≠ some P20) := Lib.hid (fun e => by have h := HPL.out; simp only [Value.ownBlock, Option.some.injEq] at e; omega)
  have HK3 : Hid (some (w5.alloc (.cells #[] 39)).heap.size ≠ some P20) := Lib.hid (fun e => by have h := HPL.out; simp only [World.size_alloc, Option.some.injEq] at e; omega)
  have HLM : Hid (([] ++ ms).length = M) := Lib.hid (by rw [List.nil_append]; exact HLN.out)
  go_upto_region 10 with (at_builtin; refine wp_gapp mkOk rfl _ _ rfl rfl _ _ rfl w HE0.out _ _ _ ms HR6.out HLN.out rfl (by have := HLN.out; simp; omega) ?_; intro v9 w9 o9 g9 h9; obtain ⟨a9, c9, rfl, _⟩ := o9.row_n mkOk HLM.out; have HO9 := Lib.hid o9; have HG9 := Lib.hid g9; have HNB : Hid ((Value.slice a9 M c9).ownBlock ≠ some P20) := Lib.hid (by rcases h9 with h | h; exact (by rw [h]; exact HK1.out); exact (by rw [h]; exact HK3.out)); have HN9 := Lib.hid (HN6.out.grown HG9.out (fun e => HK1.out e.symm)); clear o9 g9 h9 y0 y1 y2 y3 y4 y5 y6; obtain ⟨y0, y1, y2, y3, y4, y5, y6⟩ := HN9.out.c7; have f6 := HN9.out.frozen 6)
  rw [List.nil_append] at HO9
  have HO10 := Lib.hid (HO9.out.besides HWP.out HNB.out 6 (.slice a9 M c9))
  have HN10 := Lib.hid (HN9.out.set 6 (.slice a9 M c9))
  simp only [List.setIfInBounds_toArray, List.set_cons_zero, List.set_cons_succ] at HN10
  generalize (w9.setCell ⟨P20, 6, none⟩ (.slice a9 M c9)) = w10 at *
  clear y0 y1 y2 y3 y4 y5 y6 f6 HG9 HN9 HO9 HN6 HX6 HR6 HX5 HN5 HR5 HE0
  obtain ⟨y0, y1, y2, y3, y4, y5, y6⟩ := HN10.out.c7
  have HM17 := Lib.hid h16
  obtain ⟨kk, hkk⟩ : ∃ z, bits .and .i64 (wh / 256) 15 = z := ⟨_, rfl⟩
  have hkr : 0 ≤ kk ∧ kk ≤ 15 := by rw [← hkk]; exact and_range _ 15 (by decide)
  go_upto_if 68 with fail
  go_cut [21] (fun kv wx => ∃ K : Nat, kv = .int .i64 K ∧ Hid (0 < M → K < M) ∧ wx = w10)
  case first =>
    by_cases hM : 0 < (M : Int)
    · obtain ⟨K, hK, hKM⟩ : ∃ K : Nat, kk % (M : Int) = K ∧ K < M := by
        have h1 := Int.emod_nonneg kk (show (M : Int) ≠ 0 by omega)
        have h2 := Int.emod_lt_of_pos kk hM
        exact ⟨(kk % (M : Int)).toNat, by omega, by omega⟩
      go_wp2_with fail
      go_meet
      exact ⟨K, by rw [hK], Lib.hid (fun _ => hKM), rfl⟩
    · go_wp2_with fail
      go_meet
      exact ⟨0, rfl, Lib.hid (fun h => by omega), rfl⟩
  case rest =>
  obtain ⟨K, rfl, HKM, rfl⟩ := hcut
  clear hkk hkr
  have HM : Hid (∀ t ∈ ms, t.B) := Lib.hid HO10.out.2.2
  have f0 := HN10.out.frozen 0
  have f2 := HN10.out.frozen 2
  have f4 := HN10.out.frozen 4
  have f5 := HN10.out.frozen 5
  obtain ⟨d, hd⟩ : ∃ z, bits .and .i64 wh 7 = z := ⟨_, rfl⟩
  obtain ⟨B0, hB0⟩ : ∃ b, (d == 0) = b := ⟨_, rfl⟩
  obtain ⟨B1, hB1⟩ : ∃ b, (d == 1) = b := ⟨_, rfl⟩
  obtain ⟨B2, hB2⟩ : ∃ b, (d == 2) = b := ⟨_, rfl⟩
  obtain ⟨B3, hB3⟩ : ∃ b, (d == 3) = b := ⟨_, rfl⟩
  obtain ⟨B4, hB4⟩ : ∃ b, (d == 4) = b := ⟨_, rfl⟩
  obtain ⟨B5, hB5⟩ : ∃ b, (d == 5) = b := ⟨_, rfl⟩
  obtain ⟨B6, hB6⟩ : ∃ b, (d == 6) = b := ⟨_, rfl⟩
  obtain ⟨BM, hBM⟩ : ∃ b, ((M : Int) == 0) = b := ⟨_, rfl⟩
  have HBM : Hid (BM = false → 0 < M) := Lib.hid (fun h => by rw [h] at hBM; simp at hBM; omega)
  go_upto_block 0 with fail
  go_cut [81, 87, 93, 100, 107, 117, 127, 143] (fun _ _ _ _ _ _ _ _ wx => Turn8 w wx P20 M c9 a9)
  case first =>
    cases B0 with
    | true =>
      go_wp2_with fail
      go_meet
      exact ⟨⟨by', ho, hu, hc, hx, hq, ms⟩, HLN.out, HN10.out.set 0 (.int .i64 by'), HO10.out.besides HWP.out HNB.out 0 (.int .i64 by')⟩
    | false =>
    cases B1 with
    | true =>
      go_wp2_with fail
      go_meet
      exact ⟨⟨hs, ho, hu, hc, by', hq, ms⟩, HLN.out, HN10.out.set 4 (.int .i64 by'), HO10.out.besides HWP.out HNB.out 4 (.int .i64 by')⟩
    | false =>
    cases B2 with
    | true =>
      go_wp2_with fail
      go_meet
      exact ⟨⟨hs, ho, by', hc, hx, hq, ms⟩, HLN.out, HN10.out.set 2 (.int .i64 by'), HO10.out.besides HWP.out HNB.out 2 (.int .i64 by')⟩
    | false =>
    cases BM with
    | true =>
      go_wp2_with fail
      go_meet
      exact ⟨⟨hs, ho, hu, hc, hx, by', ms⟩, HLN.out, HN10.out.set 5 (.int .i64 by'), HO10.out.besides HWP.out HNB.out 5 (.int .i64 by')⟩
    | false =>
    have hM0 := HBM.out rfl
    have hKM := HKM.out hM0
    obtain ⟨g, c10, ev, hg1, hg2, hg3, hg4⟩ := HO10.out.at HLN.out hM0
    cases ev
    obtain ⟨t, ht⟩ : ∃ t, ms[K]? = some t := ⟨ms[K]'(by have := HLN.out; omega), List.getElem?_eq_getElem _⟩
    have htb := HM.out t (List.mem_of_getElem? ht)
    obtain ⟨_, _, ev, r10⟩ := HO10.out.row_n mkOk HLN.out
    cases ev
    obtain ⟨b0, o0, ev, p0, p1, p2, p3⟩ := r10.c4 ht
    cases ev
    obtain ⟨s, hs0⟩ : ∃ s, ms[0]? = some s := ⟨ms[0]'(by have := HLN.out; omega), List.getElem?_eq_getElem _⟩
    obtain ⟨_, _, ev, s0, s1, s2, s3⟩ := r10.c4 hs0
    cases ev
    have hsb := HM.out s (List.mem_of_getElem? hs0)
    have z0 := HO10.out.frozenAt HLN.out (K * 4)
    have z1 := HO10.out.frozenAt HLN.out (K * 4 + 1)
    have z2 := HO10.out.frozenAt HLN.out (K * 4 + 2)
    have z3 := HO10.out.frozenAt HLN.out (K * 4 + 3)
    simp only [Nat.zero_add, Nat.zero_mul] at p0 p1 p2 p3 s0 s1 s2 s3
    have HT := Lib.hid ht
    have HTB : Hid t.B := Lib.hid htb
    have HSB : Hid s.B := Lib.hid hsb
    have HNE : Hid (P20 ≠ g) := Lib.hid (fun e => HNB.out (by rw [e]; rfl))
    obtain ⟨ti, tn, tz, tg⟩ := t
    obtain ⟨si, sn, sz', sg⟩ := s
    simp only at p0 p1 p2 p3 s0 s1 s2 s3
    clear ht htb r10 hs0 hsb s0 s2 s3 hg1 hg3
    cases B3 with
    | true =>
      go_wp2_with fail
      go_meet
      exact ⟨⟨hs, ho, hu, hc, hx, hq, ms.set K ⟨by', tn, tz, tg⟩⟩, by simp only [List.length_set]; exact HLN.out, HN10.out.other HNE.out _ _, HO10.out.stored mkOk HLN.out (k := 0) HT.out (by decide) rfl ⟨HBY.out, HTB.out.2⟩⟩
    | false =>
    cases B4 with
    | true =>
      go_wp2_with fail
      go_meet
      exact ⟨⟨hs, ho, hu, hc, hx, hq, ms.set K ⟨ti, tn, by', tg⟩⟩, by simp only [List.length_set]; exact HLN.out, HN10.out.other HNE.out _ _, HO10.out.stored mkOk HLN.out (k := 2) HT.out (by decide) rfl ⟨HTB.out.1, HBY.out, HTB.out.2.2⟩⟩
    | false =>
    cases B5 with
    | true =>
      clear y0 y1 y2 y3 y4 y5 p0 p1 p2 s1 f0 f2 f4 f5 z0 z1 z2
      go_upto_region 27 with fail
      go_region
      all_goals
        go_wp2_with fail
        go_meet
        exact ⟨⟨hs, ho, hu, hc, hx, hq, ms.set K ⟨ti, tn, tz, !tg⟩⟩, by simp only [List.length_set]; exact HLN.out, (HN10.out.other HNE.out _ _).later (Below.refl _ _).drew, (HO10.out.stored mkOk HLN.out (k := 3) (t' := ⟨ti, tn, tz, !tg⟩) (v := .bool !tg) HT.out (by decide) rfl ⟨HTB.out.1, HTB.out.2.1, HTB.out.2.2⟩).later (Below.refl _ _).drew⟩
    | false =>
    cases B6 with
    | true =>
      clear y0 y1 y2 y3 y4 y5 p0 p2 p3 f0 f2 f4 f5 z0 z2 z3
      go_upto_region 29 with fail
      go_region
      all_goals
        go_wp2_with fail
        go_meet
        exact ⟨⟨hs, ho, hu, hc, hx, hq, ms.set K ⟨ti, sn, tz, tg⟩⟩, by simp only [List.length_set]; exact HLN.out, (HN10.out.other HNE.out _ _).later (Below.refl _ _).drew, (HO10.out.stored mkOk HLN.out (k := 1) (t' := ⟨ti, sn, tz, tg⟩) (v := .string sn) HT.out (by decide) rfl ⟨HTB.out.1, HTB.out.2.1, HSB.out.2.2⟩).later (Below.refl _ _).drew⟩
    | false =>
      go_wp2_with fail
      go_meet
      exact ⟨⟨hs, ho, hu, hc, hx, hq, ms.set K ⟨ti, ⟨#[126, 120]⟩, tz, tg⟩⟩, by simp only [List.length_set]; exact HLN.out, HN10.out.other HNE.out _ _, HO10.out.stored mkOk HLN.out (k := 1) HT.out (by decide) rfl ⟨HTB.out.1, HTB.out.2.1, show (⟨#[126, 120]⟩ : ByteArray).size ≤ 9223372036854775807 by decide⟩⟩
  case rest =>
  obtain ⟨N', hl, hrec, hown⟩ := hcut
  obtain ⟨ns, no, nu, nc, nx, nq, us⟩ := N'
  simp only at hl hrec hown
  have HNL := Lib.hid hl
  have HNC := Lib.hid hrec
  have HBC := Lib.hid hown.below
  obtain ⟨_, _, ev, rc⟩ := hown.row_n mkOk hl
  cases ev
  have HRC := Lib.hid rc
  clear hl hrec hown rc HO10 HN10 HLN HM HNB HWP HKM HBM y0 y1 y2 y3 y4 y5 y6 f0 f2 f4 f5 hd hB0 hB1 hB2 hB3 hB4 hB5 hB6 hBM
  obtain ⟨y0, y1, y2, y3, y4, y5, y6⟩ := HNC.out.c7
  obtain ⟨PX, pe, hPX⟩ : ∃ a b, putHd ⟨ns, no, nu, nc, nx, nq, us⟩ = (a, b) := ⟨_, _, rfl⟩
  have HPX := Lib.hid hPX
  obtain ⟨pn, hpn⟩ : ∃ k, PX.length = k := ⟨_, rfl⟩
  have HPN := Lib.hid hpn
  obtain ⟨RR, hRR⟩ : ∃ b, rightH ⟨ns, no, nu, nc, nx, nq, us⟩ = b := ⟨_, rfl⟩
  have HRR := Lib.hid hRR
  clear hPX hpn hRR
  have HPU := Lib.hid (putH_any ⟨ns, no, nu, nc, nx, nq, us⟩ a9 M c9 wc HRC.out HNL.out)
  rw [HPX.out] at HPU
  go_wp2_with fail
  refine HPU.out.mono ?_
  rintro e w12 ⟨v12, rfl, o12⟩
  have o12 : Own wc w12 v12 PX := o12
  obtain ⟨a22, c22, rfl, r12⟩ := o12.row_n HPN.out
  have HB12 := Lib.hid (HBC.out.trans (o12.below.mono HBC.out.size))
  have HN12 := Lib.hid (HNC.out.later o12.below)
  have HR12 := Lib.hid (HRC.out.later o12.below)
  have HP12 := Lib.hid r12
  clear o12 r12 HPU y0 y1 y2 y3 y4 y5 y6 HNC HRC
  obtain ⟨y0, y1, y2, y3, y4, y5, y6⟩ := HN12.out.c7
  have HPU := Lib.hid (rputH_any ⟨ns, no, nu, nc, nx, nq, us⟩ a9 M c9 w12 HR12.out HNL.out)
  rw [HPX.out] at HPU
  go_wp2_with fail
  refine HPU.out.mono ?_
  rintro e w13 ⟨v13, rfl, o13⟩
  have o13 : Own w12 w13 v13 PX := o13
  obtain ⟨a24, c24, rfl, r13⟩ := o13.row_n HPN.out
  have HBZ := Lib.hid (HB12.out.trans (o13.below.mono HB12.out.size))
  have HN20 := Lib.hid (HN12.out.later o13.below)
  have HR13 := Lib.hid (HR12.out.later o13.below)
  have HP22 := Lib.hid (HP12.out.later o13.below)
  have HP24 := Lib.hid r13
  clear o13 r13 HPU y0 y1 y2 y3 y4 y5 y6 HN12 HR12 HP12
  go_upto_region 32 with fail
  have HRA := Lib.hid (fun W (h : Below w13.heap.size w13 W) => right_any ⟨ns, no, nu, nc, nx, nq, us⟩ a9 M c9 W (HR13.out.later h) HNL.out)
  have HRB := Lib.hid (fun W (h : Below w13.heap.size w13 W) => rright_any ⟨ns, no, nu, nc, nx, nq, us⟩ a9 M c9 W (HR13.out.later h) HNL.out)
  rw [HRR.out] at HRA HRB
  -- REG 32
  refine wp_region_tab (L := [cV (.slice a22 pn c22), cV (.string ⟨PX.toArray⟩), cV (.slice a24 pn c24), cV (.string ⟨PX.toArray⟩), cV (.bool true), cV (.bool true), cV (.int .i64 pe), cV (.int .i64 pe), cV (.bool true), cV (.bool true), cV (.bool true), cV (.agg #[.int .i64 ns, .int .i64 no, .int .i64 nu, .int .i64 nc, .int .i64 nx, .int .i64 nq, .slice a9 M c9]), cV (.bool RR), cV (.agg #[.int .i64 ns, .int .i64 no, .int .i64 nu, .int .i64 nc, .int .i64 nx, .int .i64 nq, .slice a9 M c9]), cV (.bool RR), cV (.bool true), cV (.bool true), cV (.bool true), cV (.bool true), cV (.bool true), cV (.bool true)]) [[(22, none)], [(167, some 0)], [(24, none)], [(169, some 2)], [(168, some 1), (170, some 3)], [(171, some 4)], [(23, none), (172, some 5)], [(25, none), (172, some 5)], [(173, some 6), (174, some 7), (172, some 5)], [(172, some 5), (175, some 8)], [(176, some 9)], [(20, none), (177, some 10)], [(178, some 11), (177, some 10)], [(20, none), (177, some 10)], [(180, some 13), (177, some 10)], [(179, some 12), (181, some 14), (177, some 10)], [(177, some 10), (182, some 15)], [(183, some 16)], [(184, some 17)], [(184, some 17), (185, some 18)], [(186, some 19)]] 21 187 (by kernel_rfl) rfl rfl (by kernel_rfl) (by kernel_rfl) ?_ ?_
  · show ∀ i, i < 21 → _
    iterate 21 (refine fls ?_ ?_)
    · exact fl0
    · intro a w1 hR hsz hs      -- 0: slot 167
      obtain ⟨h0, _⟩ := hs
      have h0 : a.tmps.getD 22 undef = .slice a22 pn c22 := h0
      refine op_run rfl rfl (v := .slice a22 pn c22) (w' := w1) ?_ rfl (Below.refl _ _)
      simp [execOp, Act.eval, h0, go_sem]
    · intro a w1 hR hsz hs      -- 1: slot 168
      obtain ⟨h0, _⟩ := hs
      have h0 : a.tmps.getD 167 undef = .slice a22 pn c22 := h0
      have hcv := conv_row_n (HP22.out.later hR) HPN.out
      refine op_run rfl rfl (v := .string ⟨PX.toArray⟩) (w' := w1) ?_ rfl (Below.refl _ _)
      simp [execOp, Act.eval, h0, hcv, go_sem]
    · intro a w1 hR hsz hs      -- 2: slot 169
      obtain ⟨h0, _⟩ := hs
      have h0 : a.tmps.getD 24 undef = .slice a24 pn c24 := h0
      refine op_run rfl rfl (v := .slice a24 pn c24) (w' := w1) ?_ rfl (Below.refl _ _)
      simp [execOp, Act.eval, h0, go_sem]
    · intro a w1 hR hsz hs      -- 3: slot 170
      obtain ⟨h0, _⟩ := hs
      have h0 : a.tmps.getD 169 undef = .slice a24 pn c24 := h0
      have hcv := conv_row_n (HP24.out.later hR) HPN.out
      refine op_run rfl rfl (v := .string ⟨PX.toArray⟩) (w' := w1) ?_ rfl (Below.refl _ _)
      simp [execOp, Act.eval, h0, hcv, go_sem]
    · intro a w1 hR hsz hs      -- 4: slot 171
      obtain ⟨h0, h1, _⟩ := hs
      have h0 : a.tmps.getD 168 undef = .string ⟨PX.toArray⟩ := h0
      have h1 : a.tmps.getD 170 undef = .string ⟨PX.toArray⟩ := h1
      refine op_run rfl rfl (v := .bool true) (w' := w1) ?_ rfl (Below.refl _ _)
      simp [execOp, Act.eval, h0, h1, go_sem]
    · intro a w1 hR hsz hs      -- 5: slot 172
      obtain ⟨h0, _⟩ := hs
      have h0 : a.tmps.getD 171 undef = .bool true := h0
      refine op_run rfl rfl (v := .bool true) (w' := w1) ?_ rfl (Below.refl _ _)
      simp [execOp, Act.eval, h0, go_sem]
    · intro a w1 hR hsz hs      -- 6: slot 173
      obtain ⟨h0, h1, _⟩ := hs
      have h0 : a.tmps.getD 23 undef = .int .i64 pe := h0
      have h1 : a.tmps.getD 172 undef = .bool true := h1
      refine opg_run rfl rfl rfl (by rw [hsz]; decide) h1 (v := .int .i64 pe) (w' := w1) ?_ rfl (Below.refl _ _)
      simp [execOp, Act.eval, h0, go_sem]
    · intro a w1 hR hsz hs      -- 7: slot 174
      obtain ⟨h0, h1, _⟩ := hs
      have h0 : a.tmps.getD 25 undef = .int .i64 pe := h0
      have h1 : a.tmps.getD 172 undef = .bool true := h1
      refine opg_run rfl rfl rfl (by rw [hsz]; decide) h1 (v := .int .i64 pe) (w' := w1) ?_ rfl (Below.refl _ _)
      simp [execOp, Act.eval, h0, go_sem]
    · intro a w1 hR hsz hs      -- 8: slot 175
      obtain ⟨h0, h1, h2, _⟩ := hs
      have h0 : a.tmps.getD 173 undef = .int .i64 pe := h0
      have h1 : a.tmps.getD 174 undef = .int .i64 pe := h1
      have h2 : a.tmps.getD 172 undef = .bool true := h2
      refine opg_run rfl rfl rfl (by rw [hsz]; decide) h2 (v := .bool true) (w' := w1) ?_ rfl (Below.refl _ _)
      simp [execOp, Act.eval, h0, h1, go_sem]
    · intro a w1 hR hsz hs      -- 9: slot 176
      obtain ⟨h0, h1, _⟩ := hs
      have h0 : a.tmps.getD 172 undef = .bool true := h0
      have h1 : a.tmps.getD 175 undef = .bool true := h1
      refine op_run rfl rfl (v := .bool true) (w' := w1) ?_ rfl (Below.refl _ _)
      simp [execOp, Act.eval, h0, h1, go_sem]
    · intro a w1 hR hsz hs      -- 10: slot 177
      obtain ⟨h0, _⟩ := hs
      have h0 : a.tmps.getD 176 undef = .bool true := h0
      refine op_run rfl rfl (v := .bool true) (w' := w1) ?_ rfl (Below.refl _ _)
      simp [execOp, Act.eval, h0, go_sem]
    · intro a w1 hR hsz hs      -- 11: slot 178
      obtain ⟨h0, h1, _⟩ := hs
      have h0 : a.tmps.getD 20 undef = .pointer (some ⟨P20, 0, none⟩) := h0
      have h1 : a.tmps.getD 177 undef = .bool true := h1
      obtain ⟨x0, x1, x2, x3, x4, x5, x6⟩ := (HN20.out.later hR).c7
      refine opg_run rfl rfl rfl (by rw [hsz]; decide) h1 (v := .agg #[.int .i64 ns, .int .i64 no, .int .i64 nu, .int .i64 nc, .int .i64 nx, .int .i64 nq, .slice a9 M c9]) (w' := w1) ?_ rfl (Below.refl _ _)
      simp [execOp, Act.eval, h0, x0, x1, x2, x3, x4, x5, x6, go_sem]
    · intro a w1 hR hsz hs      -- 12: slot 179
      obtain ⟨h0, h1, _⟩ := hs
      have h0 : a.tmps.getD 178 undef = .agg #[.int .i64 ns, .int .i64 no, .int .i64 nu, .int .i64 nc, .int .i64 nx, .int .i64 nq, .slice a9 M c9] := h0
      have h1 : a.tmps.getD 177 undef = .bool true := h1
      refine opg_call rfl rfl rfl (by rw [hsz]; decide) h1 (f := 17) (args := #[.agg #[.int .i64 ns, .int .i64 no, .int .i64 nu, .int .i64 nc, .int .i64 nx, .int .i64 nq, .slice a9 M c9]]) (by simp [execOp, Act.eval, resolve, h0, go_sem]) ?_
      exact calls_c (HRA.out w1 hR)
    · intro a w1 hR hsz hs      -- 13: slot 180
      obtain ⟨h0, h1, _⟩ := hs
      have h0 : a.tmps.getD 20 undef = .pointer (some ⟨P20, 0, none⟩) := h0
      have h1 : a.tmps.getD 177 undef = .bool true := h1
      obtain ⟨x0, x1, x2, x3, x4, x5, x6⟩ := (HN20.out.later hR).c7
      refine opg_run rfl rfl rfl (by rw [hsz]; decide) h1 (v := .agg #[.int .i64 ns, .int .i64 no, .int .i64 nu, .int .i64 nc, .int .i64 nx, .int .i64 nq, .slice a9 M c9]) (w' := w1) ?_ rfl (Below.refl _ _)
      simp [execOp, Act.eval, h0, x0, x1, x2, x3, x4, x5, x6, go_sem]
    · intro a w1 hR hsz hs      -- 14: slot 181
      obtain ⟨h0, h1, _⟩ := hs
      have h0 : a.tmps.getD 180 undef = .agg #[.int .i64 ns, .int .i64 no, .int .i64 nu, .int .i64 nc, .int .i64 nx, .int .i64 nq, .slice a9 M c9] := h0
      have h1 : a.tmps.getD 177 undef = .bool true := h1
      refine opg_call rfl rfl rfl (by rw [hsz]; decide) h1 (f := 18) (args := #[.agg #[.int .i64 ns, .int .i64 no, .int .i64 nu, .int .i64 nc, .int .i64 nx, .int .i64 nq, .slice a9 M c9]]) (by simp [execOp, Act.eval, resolve, h0, go_sem]) ?_
      exact calls_c (HRB.out w1 hR)
    · intro a w1 hR hsz hs      -- 15: slot 182
      obtain ⟨h0, h1, h2, _⟩ := hs
      have h0 : a.tmps.getD 179 undef = .bool RR := h0
      have h1 : a.tmps.getD 181 undef = .bool RR := h1
      have h2 : a.tmps.getD 177 undef = .bool true := h2
      refine opg_run rfl rfl rfl (by rw [hsz]; decide) h2 (v := .bool true) (w' := w1) ?_ rfl (Below.refl _ _)
      simp [execOp, Act.eval, h0, h1, go_sem]
    · intro a w1 hR hsz hs      -- 16: slot 183
      obtain ⟨h0, h1, _⟩ := hs
      have h0 : a.tmps.getD 177 undef = .bool true := h0
      have h1 : a.tmps.getD 182 undef = .bool true := h1
      refine op_run rfl rfl (v := .bool true) (w' := w1) ?_ rfl (Below.refl _ _)
      simp [execOp, Act.eval, h0, h1, go_sem]
    · intro a w1 hR hsz hs      -- 17: slot 184
      obtain ⟨h0, _⟩ := hs
      have h0 : a.tmps.getD 183 undef = .bool true := h0
      refine op_run rfl rfl (v := .bool true) (w' := w1) ?_ rfl (Below.refl _ _)
      simp [execOp, Act.eval, h0, go_sem]
    · intro a w1 hR hsz hs      -- 18: slot 185
      obtain ⟨h0, _⟩ := hs
      have h0 : a.tmps.getD 184 undef = .bool true := h0
      refine opg_call rfl rfl rfl (by rw [hsz]; decide) h0 (f := 8) (args := #[]) (by simp [execOp, Act.eval, resolve, go_sem]) ?_
      exact calls_c (knownH_any w1)
    · intro a w1 hR hsz hs      -- 19: slot 186
      obtain ⟨h0, h1, _⟩ := hs
      have h0 : a.tmps.getD 184 undef = .bool true := h0
      have h1 : a.tmps.getD 185 undef = .bool true := h1
      refine op_run rfl rfl (v := .bool true) (w' := w1) ?_ rfl (Below.refl _ _)
      simp [execOp, Act.eval, h0, h1, go_sem]
    · intro a w1 hR hsz hs      -- 20: slot 14
      obtain ⟨h0, _⟩ := hs
      have h0 : a.tmps.getD 186 undef = .bool true := h0
      refine op_run rfl rfl (v := .bool true) (w' := w1) ?_ rfl (Below.refl _ _)
      simp [execOp, Act.eval, h0, go_sem]
  · intro f w1 hR hv
    have e14 : f 14 = .bool true := hv 20 _ 14 rfl rfl
    clear hv
    try simp only [Exit.then]
    simp only [putAll, List.foldl_cons, List.foldl_nil, Option.getD_some, Act.put, List.setIfInBounds_toArray, List.set_cons_succ, List.set_cons_zero]
    go_wp2_with fail
    go_ret
    exact ⟨congrArg Ending.returned e14, HBZ.out.trans (hR.mono HBZ.out.size)⟩
  -- END 32
theorem headerMakes_walk (sz od un ct : Int) (ad : Option Addr) (n c : Nat) (zs : List Int) (wh by' : Int) (w : World) (hr : ZRow w ad c zs) (hn : zs.length = n) (hw : (Lit.int .i64 by').wf = true) :
    Calls Try.prog 4 #[.int .i64 sz, .int .i64 od, .int .i64 un, .int .i64 ct, .slice ad n c, .int .i64 wh, .int .i64 by'] w fun x w' => x = .returned (.bool true) ∧ Below w.heap.size w w' := by
  by_cases hb : 30 < n
  · exact headerMakes_known sz od un ct ad n c wh by' w hb
  · exact headerMakes_main sz od un ct ad n c zs wh by' w hr hn (by omega) (wf_i64 hw)
end Go.Proofs.Ytfjplhjlmilcfaa
