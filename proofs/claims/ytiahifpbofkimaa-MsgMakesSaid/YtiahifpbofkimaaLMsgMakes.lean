/- The law 'MsgMakes', walked. -/
import Derived.Test.YtiahifpbofkimaaMsS
import Derived.Test.YtiahifpbofkimaaGU
import Derived.Test.YtiahifpbofkimaaMsZ
import Derived.Test.YtiahifpbofkimaaGP
import Derived.Test.YtiahifpbofkimaaGC
import Derived.Deep.CutBlock
namespace Go.Proofs.Ytiahifpbofkimaa
open Go.RowKit Go.Proofs
set_option linter.unusedVariables false
set_option linter.unusedSimpArgs false
set_option linter.unnecessarySimpa false

set_option maxRecDepth 100000 in
set_option maxHeartbeats 6400000 in
theorem msgMakes_known (kd : Int) (ad : Option Addr) (n c : Nat) (ap : Option Addr) (np cp : Nat) (wh by' : Int) (w : World) (hb : 40 < n ∨ 200 < np) :
    Calls Try.prog 4 #[.int .i64 kd, .slice ad n c, .slice ap np cp, .int .i64 wh, .int .i64 by'] w fun x w' => x = .returned (.bool true) ∧ Below w.heap.size w w' := by
  rcases (show 40 < (n : Int) ∨ (decide (40 < (n : Int)) = false ∧ 200 < (np : Int)) by simp only [decide_eq_false_iff_not]; omega) with h | ⟨h1, h⟩
  all_goals
    clear hb
    go_enter Try.func4, Try.ntmps4
    go_wp2_with fail
    refine (knownMs_any _).mono ?_
    rintro y w2 ⟨rfl, hb2⟩
    go_wp2_with fail
    go_ret
    exact ⟨rfl, hb2⟩
/-- The message under way. -/
def Turn9 (w8 wx : World) (P : Nat) : Prop := ∃ (G : Ms) (q : MsAt), RecAt wx P (msC G q) 27 ∧ MsRows wx G q ∧ Below w8.heap.size w8 wx
set_option maxRecDepth 100000 in
set_option maxHeartbeats 25600000 in
theorem msgMakes_main (kd : Int) (ad : Option Addr) (n c : Nat) (zs : List Int) (ap : Option Addr) (np cp : Nat) (pl : List UInt8) (wh by' : Int) (w : World) (hr : ZRow w ad c zs) (hn : zs.length = n) (hn2 : n ≤ 40) (hp : Row w ap cp pl) (hpl : pl.length = np) (hp2 : np ≤ 200) :
    Calls Try.prog 4 #[.int .i64 kd, .slice ad n c, .slice ap np cp, .int .i64 wh, .int .i64 by'] w fun x w' => x = .returned (.bool true) ∧ Below w.heap.size w w' := by
  have hd0 : decide (40 < (n : Int)) = false := by simp; omega
  have hd1 : decide (200 < (np : Int)) = false := by simp; omega
  have HMK := Lib.hid (makeMs_any kd ad n c zs ap np cp pl w hr hn (by omega) hp hpl)
  have HPL := Lib.hid hp
  have HPN0 := Lib.hid hpl
  clear hr hn hp hpl
  go_enter Try.func4, Try.ntmps4
  go_wp2_with fail
  refine HMK.out.mono ?_
  rintro e w1 ⟨M, q1, rfl, hok, hr1, hb1⟩
  have HRT := Lib.hid (rightMs_iff.2 hok)
  have HL := Lib.hid (bodyMs_len hok)
  have hba : Below w1.heap.size w1 (w1.alloc (.cells (msC M q1) 27)) := (Below.refl _ _).alloc (Nat.le_refl _) _
  have HX2 := Lib.hid (RecAt.new w1 (msC M q1) 27)
  have HB2 := Lib.hid (hb1.trans (hba.mono hb1.size))
  have HR2 := Lib.hid (hr1.later hba)
  clear hok hr1 hb1 hba HMK hd0 hd1
  go_upto_region 4 with fail
  generalize (w1.alloc (.cells (msC M q1) 27)) = w2 at *
  obtain ⟨P11, hP11⟩ : ∃ P, w1.heap.size = P := ⟨_, rfl⟩
  rw [hP11] at HX2
  rw [hP11]
  clear hP11
  obtain ⟨X, hX⟩ : ∃ X, sealL (bodyMs M) = X := ⟨_, rfl⟩
  obtain ⟨k2, hk2⟩ : ∃ k, X.length = k := ⟨_, rfl⟩
  have HX := Lib.hid hX
  have HK2 := Lib.hid hk2
  clear hX hk2
  obtain ⟨y0, y1, y2, y3, y4, y5, y6, y7, y8, y9⟩ := HX2.out.c10
  have HPU := Lib.hid (msput_any M q1 w2 HR2.out)
  unfold PutP at HPU
  rw [putMs_yes HRT.out, HX.out] at HPU
  go_wp2_with fail
  refine HPU.out.mono ?_
  rintro e w3 ⟨v3, rfl, o3⟩
  have o3 : Own w2 w3 v3 X := o3
  obtain ⟨b2, d2, rfl, r2⟩ := o3.row_n HK2.out
  have HB3 := Lib.hid (HB2.out.trans (o3.below.mono HB2.out.size))
  have HX3 := Lib.hid (HX2.out.later o3.below)
  have HR3 := Lib.hid (HR2.out.later o3.below)
  have HQ3 := Lib.hid r2
  clear o3 r2 HPU y0 y1 y2 y3 y4 y5 y6 y7 y8 y9 HX2 HR2
  obtain ⟨y0, y1, y2, y3, y4, y5, y6, y7, y8, y9⟩ := HX3.out.c10
  have HPU := Lib.hid (msrput_any M q1 w3 HR3.out)
  unfold RPutP at HPU
  rw [putMs_yes HRT.out, HX.out] at HPU
  go_wp2_with fail
  refine HPU.out.mono ?_
  rintro e w4 ⟨v4, rfl, o4⟩
  have o4 : Own w3 w4 v4 X := o4
  obtain ⟨b4, d4, rfl, r4⟩ := o4.row_n HK2.out
  have HB4 := Lib.hid (HB3.out.trans (o4.below.mono HB3.out.size))
  have HX4 := Lib.hid (HX3.out.later o4.below)
  have HR4 := Lib.hid (HR3.out.later o4.below)
  have q1' := conv_row_n (HQ3.out.later o4.below) HK2.out
  have q2' := conv_row_n r4 HK2.out
  clear o4 r4 HPU y0 y1 y2 y3 y4 y5 y6 y7 y8 y9 HX3 HR3 HX
  go_upto_region 8 with fail
  clear q1' q2' HQ3
  obtain ⟨y0, y1, y2, y3, y4, y5, y6, y7, y8, y9⟩ := HX4.out.c10
  have hba : Below w4.heap.size w4 (w4.alloc (.cells (msC M q1) 27)) := (Below.refl _ _).alloc (Nat.le_refl _) _
  have HN5 := Lib.hid (RecAt.new w4 (msC M q1) 27)
  have HB5 := Lib.hid hba
  have HP5 := Lib.hid (HPL.out.later (HB4.out.trans (hba.mono HB4.out.size)))
  clear hba
  go_upto_region 9 with fail
  generalize (w4.alloc (.cells (msC M q1) 27)) = w5 at *
  obtain ⟨P16, hP16⟩ : ∃ P, w4.heap.size = P := ⟨_, rfl⟩
  have HP16 := Lib.hid hP16
  rw [hP16] at HN5
  rw [hP16]
  clear hP16 y0 y1 y2 y3 y4 y5 y6 y7 y8 y9
  obtain ⟨y0, y1, y2, y3, y4, y5, y6, y7, y8, y9⟩ := HN5.out.c10
  have f0 := HN5.out.frozen 0
  have f1 := HN5.out.frozen 1
  have f2 := HN5.out.frozen 2
  have f3 := HN5.out.frozen 3
  have f4 := HN5.out.frozen 4
  have f5 := HN5.out.frozen 5
  have f6 := HN5.out.frozen 6
  have f9 := HN5.out.frozen 9
  obtain ⟨d, hd⟩ : ∃ z, bits .and .i64 wh 7 = z := ⟨_, rfl⟩
  obtain ⟨B0, hB0⟩ : ∃ b, (d == 0) = b := ⟨_, rfl⟩
  obtain ⟨B1, hB1⟩ : ∃ b, (d == 1) = b := ⟨_, rfl⟩
  obtain ⟨B2, hB2⟩ : ∃ b, (d == 2) = b := ⟨_, rfl⟩
  obtain ⟨B3, hB3⟩ : ∃ b, (d == 3) = b := ⟨_, rfl⟩
  obtain ⟨B4, hB4⟩ : ∃ b, (d == 4) = b := ⟨_, rfl⟩
  obtain ⟨B5, hB5⟩ : ∃ b, (d == 5) = b := ⟨_, rfl⟩
  obtain ⟨B6, hB6⟩ : ∃ b, (d == 6) = b := ⟨_, rfl⟩
  go_upto_block 0 with fail
  go_cut [66, 70, 74, 78, 82, 86, 90] (fun _ _ _ _ _ _ _ wx => Turn9 w4 wx P16)
  case first =>
    cases B0 with
    | true =>
      go_wp2_with fail
      go_meet
      have hb := HB5.out.setCell (p := ⟨P16, 0, none⟩) (by have := HP16.out; simp only; omega) (.int .i64 by')
      have hrw := HR4.out.later hb
      exact ⟨⟨by', M.nonce, M.pos, M.fin, M.stage, M.num, M.chain, M.ents, M.marks, M.data⟩, q1, HN5.out.set 0 (.int .i64 by'), ⟨hrw.c, hrw.e, hrw.t, hrw.d, hrw.hc, hrw.he, hrw.ht, hrw.hd⟩, hb⟩
    | false =>
    cases B1 with
    | true =>
      go_wp2_with fail
      go_meet
      have hb := HB5.out.setCell (p := ⟨P16, 1, none⟩) (by have := HP16.out; simp only; omega) (.int .i64 by')
      have hrw := HR4.out.later hb
      exact ⟨⟨M.kind, by', M.pos, M.fin, M.stage, M.num, M.chain, M.ents, M.marks, M.data⟩, q1, HN5.out.set 1 (.int .i64 by'), ⟨hrw.c, hrw.e, hrw.t, hrw.d, hrw.hc, hrw.he, hrw.ht, hrw.hd⟩, hb⟩
    | false =>
    cases B2 with
    | true =>
      go_wp2_with fail
      go_meet
      have hb := HB5.out.setCell (p := ⟨P16, 2, none⟩) (by have := HP16.out; simp only; omega) (.int .i64 by')
      have hrw := HR4.out.later hb
      exact ⟨⟨M.kind, M.nonce, by', M.fin, M.stage, M.num, M.chain, M.ents, M.marks, M.data⟩, q1, HN5.out.set 2 (.int .i64 by'), ⟨hrw.c, hrw.e, hrw.t, hrw.d, hrw.hc, hrw.he, hrw.ht, hrw.hd⟩, hb⟩
    | false =>
    cases B3 with
    | true =>
      go_wp2_with fail
      go_meet
      have hb := HB5.out.setCell (p := ⟨P16, 3, none⟩) (by have := HP16.out; simp only; omega) (.int .i64 by')
      have hrw := HR4.out.later hb
      exact ⟨⟨M.kind, M.nonce, M.pos, by', M.stage, M.num, M.chain, M.ents, M.marks, M.data⟩, q1, HN5.out.set 3 (.int .i64 by'), ⟨hrw.c, hrw.e, hrw.t, hrw.d, hrw.hc, hrw.he, hrw.ht, hrw.hd⟩, hb⟩
    | false =>
    cases B4 with
    | true =>
      go_wp2_with fail
      go_meet
      have hb := HB5.out.setCell (p := ⟨P16, 4, none⟩) (by have := HP16.out; simp only; omega) (.int .i64 by')
      have hrw := HR4.out.later hb
      exact ⟨⟨M.kind, M.nonce, M.pos, M.fin, by', M.num, M.chain, M.ents, M.marks, M.data⟩, q1, HN5.out.set 4 (.int .i64 by'), ⟨hrw.c, hrw.e, hrw.t, hrw.d, hrw.hc, hrw.he, hrw.ht, hrw.hd⟩, hb⟩
    | false =>
    cases B5 with
    | true =>
      go_wp2_with fail
      go_meet
      have hb := HB5.out.setCell (p := ⟨P16, 5, none⟩) (by have := HP16.out; simp only; omega) (.int .i64 by')
      have hrw := HR4.out.later hb
      exact ⟨⟨M.kind, M.nonce, M.pos, M.fin, M.stage, by', M.chain, M.ents, M.marks, M.data⟩, q1, HN5.out.set 5 (.int .i64 by'), ⟨hrw.c, hrw.e, hrw.t, hrw.d, hrw.hc, hrw.he, hrw.ht, hrw.hd⟩, hb⟩
    | false =>
    cases B6 with
    | true =>
      go_wp2_with fail
      go_meet
      have hb := HB5.out.setCell (p := ⟨P16, 6, none⟩) (by have := HP16.out; simp only; omega) (.slice none 0 0)
      have hrw := HR4.out.later hb
      exact ⟨⟨M.kind, M.nonce, M.pos, M.fin, M.stage, M.num, [], M.ents, M.marks, M.data⟩, ⟨none, 0, 0, q1.ae, q1.ne, q1.ce, q1.am, q1.nm, q1.cm, q1.ad, q1.nd, q1.cd⟩, HN5.out.set 6 (.slice none 0 0), ⟨TRow.nil _, hrw.e, hrw.t, hrw.d, rfl, hrw.he, hrw.ht, hrw.hd⟩, hb⟩
    | false =>
      have HE0 := Lib.hid (own_empty (W0 := w5) (w := w5) (Below.refl _ _))
      have hba : Below w5.heap.size w5 (w5.alloc (.cells #[] 5)) := (Below.refl _ _).alloc (Nat.le_refl _) _
      have HP6 := Lib.hid (HP5.out.later hba)
      have HLN : Hid ((pl ++ [1]).length = np + 1) := Lib.hid (by rw [List.length_append, HPN0.out]; rfl)
      clear hba y0 y1 y2 y3 y4 y5 y6 y7 y8 y9 f9
      go_wp2_with (first
        | (at_builtin; refine wp_row rfl (.tmp 60) (.tmp 61) rfl _ [] rfl w5 HE0.out ap cp np pl HP6.out HPN0.out rfl (by have := HPN0.out; simp; omega) ?_; intro v10 w10 o10; rw [List.nil_append] at o10; have HO10 := Lib.hid o10; clear o10)
        | (at_builtin; refine wp_byte rfl (.tmp 62) (.tmp 63) rfl v10 pl rfl w5 HO10.out 1 1 rfl rfl (by have := HPN0.out; omega) ?_; intro v11 w11 o11; obtain ⟨a11, c11, rfl, r11⟩ := o11.row_n HLN.out; have HD11 := Lib.hid r11; have HB11 := Lib.hid o11.below; have HN11 := Lib.hid (HN5.out.later o11.below); clear r11 o11; obtain ⟨y0, y1, y2, y3, y4, y5, y6, y7, y8, y9⟩ := HN11.out.c10; have f9 := HN11.out.frozen 9))
      go_meet
      have hb0 := HB5.out.trans (HB11.out.mono HB5.out.size)
      have hb := hb0.setCell (p := ⟨P16, 9, none⟩) (by have := HP16.out; simp only; omega) (.slice a11 (np + 1) c11)
      have hrw := HR4.out.later hb
      exact ⟨⟨M.kind, M.nonce, M.pos, M.fin, M.stage, M.num, M.chain, M.ents, M.marks, pl ++ [1]⟩, ⟨q1.ac, q1.nc, q1.cc, q1.ae, q1.ne, q1.ce, q1.am, q1.nm, q1.cm, a11, np + 1, c11⟩, HN11.out.set 9 (.slice a11 (np + 1) c11), ⟨hrw.c, hrw.e, hrw.t, HD11.out.only (OnlyP.set w11 P16 9 _) HN11.out (noB8_ms _ _ _ _ _ _ _ _ _ _ _ _ _ _ _ _ _ _), hrw.hc, hrw.he, hrw.ht, HLN.out⟩, hb⟩
  case rest =>
  obtain ⟨G, qg, hrec, hrows, hbx⟩ := hcut
  have HG6 := Lib.hid hrec
  have HGR6 := Lib.hid hrows
  have HB6 := Lib.hid (HB4.out.trans (hbx.mono HB4.out.size))
  have HX6 := Lib.hid (HX4.out.later hbx)
  have HR6 := Lib.hid (HR4.out.later hbx)
  clear hrec hrows hbx HN5 HB5 HP5 HX4 HR4 HB4 HP16 HPL HPN0 hd hB0 hB1 hB2 hB3 hB4 hB5 hB6 y0 y1 y2 y3 y4 y5 y6 y7 y8 y9 f0 f1 f2 f3 f4 f5 f6 f9
  obtain ⟨y0, y1, y2, y3, y4, y5, y6, y7, y8, y9⟩ := HG6.out.c10
  obtain ⟨PX, pe, hPX⟩ : ∃ a b, putMs G = (a, b) := ⟨_, _, rfl⟩
  have HPX := Lib.hid hPX
  obtain ⟨pn, hpn⟩ : ∃ k, PX.length = k := ⟨_, rfl⟩
  have HPN := Lib.hid hpn
  obtain ⟨RR, hRR⟩ : ∃ b, rightMs G = b := ⟨_, rfl⟩
  have HRR := Lib.hid hRR
  clear hPX hpn hRR
  have HPU := Lib.hid (msput_any G qg wc HGR6.out)
  unfold PutP at HPU
  rw [HPX.out] at HPU
  go_wp2_with fail
  refine HPU.out.mono ?_
  rintro e w12 ⟨v12, rfl, o12⟩
  have o12 : Own wc w12 v12 PX := o12
  obtain ⟨a17, c17, rfl, r12⟩ := o12.row_n HPN.out
  have HB12 := Lib.hid (HB6.out.trans (o12.below.mono HB6.out.size))
  have HG12 := Lib.hid (HG6.out.later o12.below)
  have HGR12 := Lib.hid (HGR6.out.later o12.below)
  have HX12 := Lib.hid (HX6.out.later o12.below)
  have HR12 := Lib.hid (HR6.out.later o12.below)
  have HP12 := Lib.hid r12
  clear o12 r12 HPU y0 y1 y2 y3 y4 y5 y6 y7 y8 y9 HG6 HGR6 HX6 HR6 HB6
  obtain ⟨y0, y1, y2, y3, y4, y5, y6, y7, y8, y9⟩ := HG12.out.c10
  have HPU := Lib.hid (msrput_any G qg w12 HGR12.out)
  unfold RPutP at HPU
  rw [HPX.out] at HPU
  go_wp2_with fail
  refine HPU.out.mono ?_
  rintro e w13 ⟨v13, rfl, o13⟩
  have o13 : Own w12 w13 v13 PX := o13
  obtain ⟨a19, c19, rfl, r13⟩ := o13.row_n HPN.out
  have HBZ := Lib.hid (HB12.out.trans (o13.below.mono HB12.out.size))
  have HG20 := Lib.hid (HG12.out.later o13.below)
  have HGR20 := Lib.hid (HGR12.out.later o13.below)
  have HX20 := Lib.hid (HX12.out.later o13.below)
  have HR20 := Lib.hid (HR12.out.later o13.below)
  have HP17 := Lib.hid (HP12.out.later o13.below)
  have HP19 := Lib.hid r13
  clear o13 r13 HPU y0 y1 y2 y3 y4 y5 y6 y7 y8 y9 HG12 HGR12 HX12 HR12 HP12
  go_upto_region 27 with fail
  have HRA := Lib.hid (fun W (h : Below w13.heap.size w13 W) => msright_any G qg W (HGR20.out.later h))
  have HRB := Lib.hid (fun W (h : Below w13.heap.size w13 W) => msrright_any G qg W (HGR20.out.later h))
  rw [HRR.out] at HRA HRB
  have HRM := Lib.hid (fun W (h : Below w13.heap.size w13 W) => msright_any M q1 W (HR20.out.later h))
  rw [HRT.out] at HRM
  -- REG 27
  refine wp_region_tab (L := [cV (.slice a17 pn c17), cV (.string ⟨PX.toArray⟩), cV (.slice a19 pn c19), cV (.string ⟨PX.toArray⟩), cV (.bool true), cV (.bool true), cV (.int .i64 pe), cV (.int .i64 pe), cV (.bool true), cV (.bool true), cV (.bool true), cV (.agg #[.int .i64 G.kind, .int .i64 G.nonce, .int .i64 G.pos, .int .i64 G.fin, .int .i64 G.stage, .int .i64 G.num, .slice qg.ac qg.nc qg.cc, .slice qg.ae qg.ne qg.ce, .slice qg.am qg.nm qg.cm, .slice qg.ad qg.nd qg.cd]), cV (.bool RR), cV (.agg #[.int .i64 G.kind, .int .i64 G.nonce, .int .i64 G.pos, .int .i64 G.fin, .int .i64 G.stage, .int .i64 G.num, .slice qg.ac qg.nc qg.cc, .slice qg.ae qg.ne qg.ce, .slice qg.am qg.nm qg.cm, .slice qg.ad qg.nd qg.cd]), cV (.bool RR), cV (.bool true), cV (.bool true), cV (.bool true), cV (.agg #[.int .i64 M.kind, .int .i64 M.nonce, .int .i64 M.pos, .int .i64 M.fin, .int .i64 M.stage, .int .i64 M.num, .slice q1.ac q1.nc q1.cc, .slice q1.ae q1.ne q1.ce, .slice q1.am q1.nm q1.cm, .slice q1.ad q1.nd q1.cd]), cV (.bool true), cV (.bool true), cV (.bool true), cV (.bool true), cV (.bool true), cV (.bool true)]) [[(17, none)], [(103, some 0)], [(19, none)], [(105, some 2)], [(104, some 1), (106, some 3)], [(107, some 4)], [(18, none), (108, some 5)], [(20, none), (108, some 5)], [(109, some 6), (110, some 7), (108, some 5)], [(108, some 5), (111, some 8)], [(112, some 9)], [(16, none), (113, some 10)], [(114, some 11), (113, some 10)], [(16, none), (113, some 10)], [(116, some 13), (113, some 10)], [(115, some 12), (117, some 14), (113, some 10)], [(113, some 10), (118, some 15)], [(119, some 16)], [(11, none), (120, some 17)], [(121, some 18), (120, some 17)], [(120, some 17), (122, some 19)], [(123, some 20)], [(124, some 21)], [(124, some 21), (125, some 22)], [(126, some 23)]] 25 127 (by kernel_rfl) rfl rfl (by kernel_rfl) (by kernel_rfl) ?_ ?_
  · show ∀ i, i < 25 → _
    iterate 25 (refine fls ?_ ?_)
    · exact fl0
    · intro a w1 hR hsz hs      -- 0: slot 103
      obtain ⟨h0, _⟩ := hs
      have h0 : a.tmps.getD 17 undef = .slice a17 pn c17 := h0
      refine op_run rfl rfl (v := .slice a17 pn c17) (w' := w1) ?_ rfl (Below.refl _ _)
      simp [execOp, Act.eval, h0, go_sem]
    · intro a w1 hR hsz hs      -- 1: slot 104
      obtain ⟨h0, _⟩ := hs
      have h0 : a.tmps.getD 103 undef = .slice a17 pn c17 := h0
      have hcv := conv_row_n (HP17.out.later hR) HPN.out
      refine op_run rfl rfl (v := .string ⟨PX.toArray⟩) (w' := w1) ?_ rfl (Below.refl _ _)
      simp [execOp, Act.eval, h0, hcv, go_sem]
    · intro a w1 hR hsz hs      -- 2: slot 105
      obtain ⟨h0, _⟩ := hs
      have h0 : a.tmps.getD 19 undef = .slice a19 pn c19 := h0
      refine op_run rfl rfl (v := .slice a19 pn c19) (w' := w1) ?_ rfl (Below.refl _ _)
      simp [execOp, Act.eval, h0, go_sem]
    · intro a w1 hR hsz hs      -- 3: slot 106
      obtain ⟨h0, _⟩ := hs
      have h0 : a.tmps.getD 105 undef = .slice a19 pn c19 := h0
      have hcv := conv_row_n (HP19.out.later hR) HPN.out
      refine op_run rfl rfl (v := .string ⟨PX.toArray⟩) (w' := w1) ?_ rfl (Below.refl _ _)
      simp [execOp, Act.eval, h0, hcv, go_sem]
    · intro a w1 hR hsz hs      -- 4: slot 107
      obtain ⟨h0, h1, _⟩ := hs
      have h0 : a.tmps.getD 104 undef = .string ⟨PX.toArray⟩ := h0
      have h1 : a.tmps.getD 106 undef = .string ⟨PX.toArray⟩ := h1
      refine op_run rfl rfl (v := .bool true) (w' := w1) ?_ rfl (Below.refl _ _)
      simp [execOp, Act.eval, h0, h1, go_sem]
    · intro a w1 hR hsz hs      -- 5: slot 108
      obtain ⟨h0, _⟩ := hs
      have h0 : a.tmps.getD 107 undef = .bool true := h0
      refine op_run rfl rfl (v := .bool true) (w' := w1) ?_ rfl (Below.refl _ _)
      simp [execOp, Act.eval, h0, go_sem]
    · intro a w1 hR hsz hs      -- 6: slot 109
      obtain ⟨h0, h1, _⟩ := hs
      have h0 : a.tmps.getD 18 undef = .int .i64 pe := h0
      have h1 : a.tmps.getD 108 undef = .bool true := h1
      refine opg_run rfl rfl rfl (by rw [hsz]; decide) h1 (v := .int .i64 pe) (w' := w1) ?_ rfl (Below.refl _ _)
      simp [execOp, Act.eval, h0, go_sem]
    · intro a w1 hR hsz hs      -- 7: slot 110
      obtain ⟨h0, h1, _⟩ := hs
      have h0 : a.tmps.getD 20 undef = .int .i64 pe := h0
      have h1 : a.tmps.getD 108 undef = .bool true := h1
      refine opg_run rfl rfl rfl (by rw [hsz]; decide) h1 (v := .int .i64 pe) (w' := w1) ?_ rfl (Below.refl _ _)
      simp [execOp, Act.eval, h0, go_sem]
    · intro a w1 hR hsz hs      -- 8: slot 111
      obtain ⟨h0, h1, h2, _⟩ := hs
      have h0 : a.tmps.getD 109 undef = .int .i64 pe := h0
      have h1 : a.tmps.getD 110 undef = .int .i64 pe := h1
      have h2 : a.tmps.getD 108 undef = .bool true := h2
      refine opg_run rfl rfl rfl (by rw [hsz]; decide) h2 (v := .bool true) (w' := w1) ?_ rfl (Below.refl _ _)
      simp [execOp, Act.eval, h0, h1, go_sem]
    · intro a w1 hR hsz hs      -- 9: slot 112
      obtain ⟨h0, h1, _⟩ := hs
      have h0 : a.tmps.getD 108 undef = .bool true := h0
      have h1 : a.tmps.getD 111 undef = .bool true := h1
      refine op_run rfl rfl (v := .bool true) (w' := w1) ?_ rfl (Below.refl _ _)
      simp [execOp, Act.eval, h0, h1, go_sem]
    · intro a w1 hR hsz hs      -- 10: slot 113
      obtain ⟨h0, _⟩ := hs
      have h0 : a.tmps.getD 112 undef = .bool true := h0
      refine op_run rfl rfl (v := .bool true) (w' := w1) ?_ rfl (Below.refl _ _)
      simp [execOp, Act.eval, h0, go_sem]
    · intro a w1 hR hsz hs      -- 11: slot 114
      obtain ⟨h0, h1, _⟩ := hs
      have h0 : a.tmps.getD 16 undef = .pointer (some ⟨P16, 0, none⟩) := h0
      have h1 : a.tmps.getD 113 undef = .bool true := h1
      obtain ⟨x0, x1, x2, x3, x4, x5, x6, x7, x8, x9⟩ := (HG20.out.later hR).c10
      refine opg_run rfl rfl rfl (by rw [hsz]; decide) h1 (v := .agg #[.int .i64 G.kind, .int .i64 G.nonce, .int .i64 G.pos, .int .i64 G.fin, .int .i64 G.stage, .int .i64 G.num, .slice qg.ac qg.nc qg.cc, .slice qg.ae qg.ne qg.ce, .slice qg.am qg.nm qg.cm, .slice qg.ad qg.nd qg.cd]) (w' := w1) ?_ rfl (Below.refl _ _)
      simp [execOp, Act.eval, h0, x0, x1, x2, x3, x4, x5, x6, x7, x8, x9, go_sem]
    · intro a w1 hR hsz hs      -- 12: slot 115
      obtain ⟨h0, h1, _⟩ := hs
      have h0 : a.tmps.getD 114 undef = .agg #[.int .i64 G.kind, .int .i64 G.nonce, .int .i64 G.pos, .int .i64 G.fin, .int .i64 G.stage, .int .i64 G.num, .slice qg.ac qg.nc qg.cc, .slice qg.ae qg.ne qg.ce, .slice qg.am qg.nm qg.cm, .slice qg.ad qg.nd qg.cd] := h0
      have h1 : a.tmps.getD 113 undef = .bool true := h1
      refine opg_call rfl rfl rfl (by rw [hsz]; decide) h1 (f := 15) (args := #[.agg #[.int .i64 G.kind, .int .i64 G.nonce, .int .i64 G.pos, .int .i64 G.fin, .int .i64 G.stage, .int .i64 G.num, .slice qg.ac qg.nc qg.cc, .slice qg.ae qg.ne qg.ce, .slice qg.am qg.nm qg.cm, .slice qg.ad qg.nd qg.cd]]) (by simp [execOp, Act.eval, resolve, h0, go_sem]) ?_
      exact calls_c (HRA.out w1 hR)
    · intro a w1 hR hsz hs      -- 13: slot 116
      obtain ⟨h0, h1, _⟩ := hs
      have h0 : a.tmps.getD 16 undef = .pointer (some ⟨P16, 0, none⟩) := h0
      have h1 : a.tmps.getD 113 undef = .bool true := h1
      obtain ⟨x0, x1, x2, x3, x4, x5, x6, x7, x8, x9⟩ := (HG20.out.later hR).c10
      refine opg_run rfl rfl rfl (by rw [hsz]; decide) h1 (v := .agg #[.int .i64 G.kind, .int .i64 G.nonce, .int .i64 G.pos, .int .i64 G.fin, .int .i64 G.stage, .int .i64 G.num, .slice qg.ac qg.nc qg.cc, .slice qg.ae qg.ne qg.ce, .slice qg.am qg.nm qg.cm, .slice qg.ad qg.nd qg.cd]) (w' := w1) ?_ rfl (Below.refl _ _)
      simp [execOp, Act.eval, h0, x0, x1, x2, x3, x4, x5, x6, x7, x8, x9, go_sem]
    · intro a w1 hR hsz hs      -- 14: slot 117
      obtain ⟨h0, h1, _⟩ := hs
      have h0 : a.tmps.getD 116 undef = .agg #[.int .i64 G.kind, .int .i64 G.nonce, .int .i64 G.pos, .int .i64 G.fin, .int .i64 G.stage, .int .i64 G.num, .slice qg.ac qg.nc qg.cc, .slice qg.ae qg.ne qg.ce, .slice qg.am qg.nm qg.cm, .slice qg.ad qg.nd qg.cd] := h0
      have h1 : a.tmps.getD 113 undef = .bool true := h1
      refine opg_call rfl rfl rfl (by rw [hsz]; decide) h1 (f := 16) (args := #[.agg #[.int .i64 G.kind, .int .i64 G.nonce, .int .i64 G.pos, .int .i64 G.fin, .int .i64 G.stage, .int .i64 G.num, .slice qg.ac qg.nc qg.cc, .slice qg.ae qg.ne qg.ce, .slice qg.am qg.nm qg.cm, .slice qg.ad qg.nd qg.cd]]) (by simp [execOp, Act.eval, resolve, h0, go_sem]) ?_
      exact calls_c (HRB.out w1 hR)
    · intro a w1 hR hsz hs      -- 15: slot 118
      obtain ⟨h0, h1, h2, _⟩ := hs
      have h0 : a.tmps.getD 115 undef = .bool RR := h0
      have h1 : a.tmps.getD 117 undef = .bool RR := h1
      have h2 : a.tmps.getD 113 undef = .bool true := h2
      refine opg_run rfl rfl rfl (by rw [hsz]; decide) h2 (v := .bool true) (w' := w1) ?_ rfl (Below.refl _ _)
      simp [execOp, Act.eval, h0, h1, go_sem]
    · intro a w1 hR hsz hs      -- 16: slot 119
      obtain ⟨h0, h1, _⟩ := hs
      have h0 : a.tmps.getD 113 undef = .bool true := h0
      have h1 : a.tmps.getD 118 undef = .bool true := h1
      refine op_run rfl rfl (v := .bool true) (w' := w1) ?_ rfl (Below.refl _ _)
      simp [execOp, Act.eval, h0, h1, go_sem]
    · intro a w1 hR hsz hs      -- 17: slot 120
      obtain ⟨h0, _⟩ := hs
      have h0 : a.tmps.getD 119 undef = .bool true := h0
      refine op_run rfl rfl (v := .bool true) (w' := w1) ?_ rfl (Below.refl _ _)
      simp [execOp, Act.eval, h0, go_sem]
    · intro a w1 hR hsz hs      -- 18: slot 121
      obtain ⟨h0, h1, _⟩ := hs
      have h0 : a.tmps.getD 11 undef = .pointer (some ⟨P11, 0, none⟩) := h0
      have h1 : a.tmps.getD 120 undef = .bool true := h1
      obtain ⟨x0, x1, x2, x3, x4, x5, x6, x7, x8, x9⟩ := (HX20.out.later hR).c10
      refine opg_run rfl rfl rfl (by rw [hsz]; decide) h1 (v := .agg #[.int .i64 M.kind, .int .i64 M.nonce, .int .i64 M.pos, .int .i64 M.fin, .int .i64 M.stage, .int .i64 M.num, .slice q1.ac q1.nc q1.cc, .slice q1.ae q1.ne q1.ce, .slice q1.am q1.nm q1.cm, .slice q1.ad q1.nd q1.cd]) (w' := w1) ?_ rfl (Below.refl _ _)
      simp [execOp, Act.eval, h0, x0, x1, x2, x3, x4, x5, x6, x7, x8, x9, go_sem]
    · intro a w1 hR hsz hs      -- 19: slot 122
      obtain ⟨h0, h1, _⟩ := hs
      have h0 : a.tmps.getD 121 undef = .agg #[.int .i64 M.kind, .int .i64 M.nonce, .int .i64 M.pos, .int .i64 M.fin, .int .i64 M.stage, .int .i64 M.num, .slice q1.ac q1.nc q1.cc, .slice q1.ae q1.ne q1.ce, .slice q1.am q1.nm q1.cm, .slice q1.ad q1.nd q1.cd] := h0
      have h1 : a.tmps.getD 120 undef = .bool true := h1
      refine opg_call rfl rfl rfl (by rw [hsz]; decide) h1 (f := 15) (args := #[.agg #[.int .i64 M.kind, .int .i64 M.nonce, .int .i64 M.pos, .int .i64 M.fin, .int .i64 M.stage, .int .i64 M.num, .slice q1.ac q1.nc q1.cc, .slice q1.ae q1.ne q1.ce, .slice q1.am q1.nm q1.cm, .slice q1.ad q1.nd q1.cd]]) (by simp [execOp, Act.eval, resolve, h0, go_sem]) ?_
      exact calls_c (HRM.out w1 hR)
    · intro a w1 hR hsz hs      -- 20: slot 123
      obtain ⟨h0, h1, _⟩ := hs
      have h0 : a.tmps.getD 120 undef = .bool true := h0
      have h1 : a.tmps.getD 122 undef = .bool true := h1
      refine op_run rfl rfl (v := .bool true) (w' := w1) ?_ rfl (Below.refl _ _)
      simp [execOp, Act.eval, h0, h1, go_sem]
    · intro a w1 hR hsz hs      -- 21: slot 124
      obtain ⟨h0, _⟩ := hs
      have h0 : a.tmps.getD 123 undef = .bool true := h0
      refine op_run rfl rfl (v := .bool true) (w' := w1) ?_ rfl (Below.refl _ _)
      simp [execOp, Act.eval, h0, go_sem]
    · intro a w1 hR hsz hs      -- 22: slot 125
      obtain ⟨h0, _⟩ := hs
      have h0 : a.tmps.getD 124 undef = .bool true := h0
      refine opg_call rfl rfl rfl (by rw [hsz]; decide) h0 (f := 8) (args := #[]) (by simp [execOp, Act.eval, resolve, go_sem]) ?_
      exact calls_c (knownMs_any w1)
    · intro a w1 hR hsz hs      -- 23: slot 126
      obtain ⟨h0, h1, _⟩ := hs
      have h0 : a.tmps.getD 124 undef = .bool true := h0
      have h1 : a.tmps.getD 125 undef = .bool true := h1
      refine op_run rfl rfl (v := .bool true) (w' := w1) ?_ rfl (Below.refl _ _)
      simp [execOp, Act.eval, h0, h1, go_sem]
    · intro a w1 hR hsz hs      -- 24: slot 10
      obtain ⟨h0, _⟩ := hs
      have h0 : a.tmps.getD 126 undef = .bool true := h0
      refine op_run rfl rfl (v := .bool true) (w' := w1) ?_ rfl (Below.refl _ _)
      simp [execOp, Act.eval, h0, go_sem]
  · intro f w1 hR hv
    have e10 : f 10 = .bool true := hv 24 _ 10 rfl rfl
    clear hv
    try simp only [Exit.then]
    simp only [putAll, List.foldl_cons, List.foldl_nil, Option.getD_some, Act.put, List.setIfInBounds_toArray, List.set_cons_succ, List.set_cons_zero]
    go_wp2_with fail
    go_ret
    exact ⟨congrArg Ending.returned e10, HBZ.out.trans (hR.mono HBZ.out.size)⟩
  -- END 27
theorem msgMakes_walk (kd : Int) (ad : Option Addr) (n c : Nat) (zs : List Int) (ap : Option Addr) (np cp : Nat) (pl : List UInt8) (wh by' : Int) (w : World) (hr : ZRow w ad c zs) (hn : zs.length = n) (hp : Row w ap cp pl) (hpl : pl.length = np) :
    Calls Try.prog 4 #[.int .i64 kd, .slice ad n c, .slice ap np cp, .int .i64 wh, .int .i64 by'] w fun x w' => x = .returned (.bool true) ∧ Below w.heap.size w w' := by
  by_cases hb : 40 < n ∨ 200 < np
  · exact msgMakes_known kd ad n c ap np cp wh by' w hb
  · exact msgMakes_main kd ad n c zs ap np cp pl wh by' w hr hn (by omega) hp hpl (by omega)
end Go.Proofs.Ytiahifpbofkimaa
