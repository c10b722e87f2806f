/- The law 'MsgTells', walked. -/
import Derived.Test.YtiahifpbofkimaaMsS
import Derived.Test.YtiahifpbofkimaaGU
import Derived.Test.YtiahifpbofkimaaGC
namespace Go.Proofs.Ytiahifpbofkimaa
open Go.RowKit Go.Proofs
set_option linter.unusedVariables false
set_option linter.unusedSimpArgs false
set_option linter.unnecessarySimpa false

set_option maxRecDepth 100000 in
set_option maxHeartbeats 25600000 in
theorem msgTells_walk (m : Ms) (p : MsAt) (ab : Option Addr) (nb cb : Nat) (l : List UInt8) (sl : Bool) (w : World) (hr : MsRows w m p) (hl : Row w ab cb l) (hln : l.length = nb) :
    Calls Try.prog 3 #[msV m p, .slice ab nb cb, .bool sl] w fun x w' => x = .returned (.bool true) ∧ Below w.heap.size w w' := by
  have hba : Below w.heap.size w (w.alloc (.cells (msC m p) 27)) := (Below.refl _ _).alloc (Nat.le_refl _) _
  have HR0 := Lib.hid hr
  have HL0 := Lib.hid hl
  have HLN := Lib.hid hln
  have HB0 := Lib.hid hba
  have HX0 := Lib.hid (RecAt.new w (msC m p) 27)
  have HFW := Lib.hid (fewMs_any m p _ (hr.later hba))
  clear hr hl hln hba
  go_enter Try.func3, Try.ntmps3
  go_upto_region 1 with fail
  obtain ⟨w1, hw1⟩ : ∃ W, (w.alloc (.cells (msC m p) 27)) = W := ⟨_, rfl⟩
  rw [hw1] at HB0 HX0 HFW ⊢
  clear hw1
  obtain ⟨P3, hP3⟩ : ∃ P, w.heap.size = P := ⟨_, rfl⟩
  rw [hP3] at HX0
  rw [hP3]
  clear hP3
  obtain ⟨y0, y1, y2, y3, y4, y5, y6, y7, y8, y9⟩ := HX0.out.c10
  go_wp2_with fail
  refine HFW.out.mono ?_
  rintro e w2 ⟨fb, rfl, hfb, hb2⟩
  have HFB := Lib.hid hfb
  have HB2 := Lib.hid (HB0.out.trans (hb2.mono HB0.out.size))
  have HX2 := Lib.hid (HX0.out.later hb2)
  clear hb2 hfb HFW y0 y1 y2 y3 y4 y5 y6 y7 y8 y9
  cases fb with
  | false =>
    go_wp2_with fail
    refine (knownMs_any _).mono ?_
    rintro e w3 ⟨rfl, hb3⟩
    go_wp2_with fail
    go_ret
    exact ⟨rfl, HB2.out.trans (hb3.mono HB2.out.size)⟩
  | true =>
  cases hd : decide (300 < (nb : Int)) with
  | true =>
    go_wp2_with fail
    refine (knownMs_any _).mono ?_
    rintro e w3 ⟨rfl, hb3⟩
    go_wp2_with fail
    go_ret
    exact ⟨rfl, HB2.out.trans (hb3.mono HB2.out.size)⟩
  | false =>
  have hnb : nb ≤ 300 := by simp at hd; omega
  clear HFB
  go_upto_if 24 with fail
  clear hd
  go_cut [1] (fun bv wx => ∃ (a1 : Option Addr) (n1 c1 : Nat) (r : List UInt8), bv = .slice a1 n1 c1 ∧ n1 ≤ 304 ∧ Hid (Row wx a1 c1 r) ∧ Hid (r.length = n1) ∧ Hid (Below w2.heap.size w2 wx))
  case first =>
    cases sl with
    | false =>
      go_wp2_with fail
      go_meet
      exact ⟨ab, nb, cb, l, rfl, by omega, Lib.hid (HL0.out.later HB2.out), HLN, Lib.hid (Below.refl _ _)⟩
    | true =>
      go_wp2_with fail
      refine (rseal_any ab nb cb l w2 (HL0.out.later HB2.out) HLN.out (by omega)).mono ?_
      rintro e w3 ⟨v3, rfl, o3⟩
      obtain ⟨n3, hn3⟩ : ∃ k, (sealL l).length = k := ⟨_, rfl⟩
      have hn4 : n3 ≤ 304 := by rw [← hn3, sealL_len, HLN.out]; omega
      obtain ⟨a3, c3, rfl, r3⟩ := o3.row_n hn3
      have HR3 := Lib.hid r3
      have HB3 := Lib.hid o3.below
      have HN3 := Lib.hid hn3
      clear o3 r3 hn3
      go_wp2_with fail
      go_meet
      exact ⟨a3, n3, c3, _, rfl, hn4, HR3, HN3, HB3⟩
  case rest =>
  obtain ⟨ab, nb, cb, r, rfl, hn1, HP3, HPN, HBx⟩ := hcut
  obtain ⟨w3, hw3⟩ : ∃ W, W = wc := ⟨_, rfl⟩
  subst hw3
  have HB3 := Lib.hid (HB2.out.trans (HBx.out.mono HB2.out.size))
  have HX3 := Lib.hid (HX2.out.later HBx.out)
  have HR3 := Lib.hid (HR0.out.later HB3.out)
  clear HBx HX2 HX0 HB2 HB0 HL0 HLN
  obtain ⟨X, ex, hX⟩ : ∃ X er, putMs m = (X, er) := ⟨_, _, rfl⟩
  obtain ⟨xn, hxn⟩ : ∃ n, X.length = n := ⟨_, rfl⟩
  obtain ⟨G, eg, hG⟩ : ∃ G eg, getMs r = (G, eg) := ⟨_, _, rfl⟩
  have HX := Lib.hid hX
  have HXN := Lib.hid hxn
  have HG := Lib.hid hG
  clear hX hxn hG
  obtain ⟨y0, y1, y2, y3, y4, y5, y6, y7, y8, y9⟩ := HX3.out.c10
  have HPU := Lib.hid (msput_any m p w3 HR3.out)
  unfold PutP at HPU
  rw [HX.out] at HPU
  go_wp2_with fail
  refine HPU.out.mono ?_
  rintro e w5 ⟨v5, rfl, o5⟩
  have o5 : Own w3 w5 v5 X := o5
  obtain ⟨a7, c7, rfl, r5⟩ := o5.row_n HXN.out
  have HB5 := Lib.hid (HB3.out.trans (o5.below.mono HB3.out.size))
  have HX5 := Lib.hid (HX3.out.later o5.below)
  have HR5 := Lib.hid (HR3.out.later o5.below)
  have HP5 := Lib.hid (HP3.out.later o5.below)
  have HA5 := Lib.hid r5
  clear o5 r5 HPU HX3 HR3 HP3 HB3 y0 y1 y2 y3 y4 y5 y6 y7 y8 y9
  obtain ⟨y0, y1, y2, y3, y4, y5, y6, y7, y8, y9⟩ := HX5.out.c10
  have HPU := Lib.hid (msrput_any m p w5 HR5.out)
  unfold RPutP at HPU
  rw [HX.out] at HPU
  go_wp2_with fail
  refine HPU.out.mono ?_
  rintro e w6 ⟨v6, rfl, o6⟩
  have o6 : Own w5 w6 v6 X := o6
  obtain ⟨a9, c9, rfl, r6⟩ := o6.row_n HXN.out
  have HB6 := Lib.hid (HB5.out.trans (o6.below.mono HB5.out.size))
  have HX6 := Lib.hid (HX5.out.later o6.below)
  have HR6 := Lib.hid (HR5.out.later o6.below)
  have HP6 := Lib.hid (HP5.out.later o6.below)
  have HA6 := Lib.hid (HA5.out.later o6.below)
  have HC6 := Lib.hid r6
  clear o6 r6 HPU HX5 HR5 HP5 HB5 HA5 y0 y1 y2 y3 y4 y5 y6 y7 y8 y9
  have HGE := Lib.hid (msget_any ab nb cb r w6 HP6.out HPN.out (by omega))
  unfold MsGot at HGE
  rw [HG.out] at HGE
  go_wp2_with fail
  refine HGE.out.mono ?_
  rintro e w7 ⟨q7, rfl, r7, b7⟩
  have hba : Below w7.heap.size w7 (w7.alloc (.cells (msC G q7) 27)) := (Below.refl _ _).alloc (Nat.le_refl _) _
  have HG8 := Lib.hid (RecAt.new w7 (msC G q7) 27)
  have hb8 := b7.trans (hba.mono b7.size)
  have HB8 := Lib.hid (HB6.out.trans (hb8.mono HB6.out.size))
  have HX8 := Lib.hid (HX6.out.later hb8)
  have HR8 := Lib.hid (HR6.out.later hb8)
  have HP8 := Lib.hid (HP6.out.later hb8)
  have HA8 := Lib.hid (HA6.out.later hb8)
  have HC8 := Lib.hid (HC6.out.later hb8)
  have HGR8 := Lib.hid (r7.later hba)
  clear hba hb8 r7 b7 HX6 HR6 HP6 HA6 HC6 HB6 HGE
  go_upto_region 8 with fail
  generalize (w7.alloc (.cells (msC G q7) 27)) = w8 at *
  obtain ⟨P11, hP11⟩ : ∃ P, w7.heap.size = P := ⟨_, rfl⟩
  rw [hP11] at HG8
  rw [hP11]
  clear hP11
  have HGE := Lib.hid (rmsget_any ab nb cb r w8 HP8.out HPN.out (by omega))
  unfold MsGot at HGE
  rw [HG.out] at HGE
  go_wp2_with fail
  refine HGE.out.mono ?_
  rintro e w9 ⟨q8, rfl, r9, b9⟩
  have hba : Below w9.heap.size w9 (w9.alloc (.cells (msC G q8) 27)) := (Below.refl _ _).alloc (Nat.le_refl _) _
  have HQ9 := Lib.hid (RecAt.new w9 (msC G q8) 27)
  have hb10 := b9.trans (hba.mono b9.size)
  have HBZ := Lib.hid (HB8.out.trans (hb10.mono HB8.out.size))
  have HX9 := Lib.hid (HX8.out.later hb10)
  have HR9 := Lib.hid (HR8.out.later hb10)
  have HA9 := Lib.hid (HA8.out.later hb10)
  have HC9 := Lib.hid (HC8.out.later hb10)
  have HG9 := Lib.hid (HG8.out.later hb10)
  have HGR9 := Lib.hid (HGR8.out.later hb10)
  have HQR9 := Lib.hid (r9.later hba)
  clear hba hb10 r9 b9 HX8 HR8 HP8 HA8 HC8 HG8 HGR8 HB8 HGE
  go_upto_region 9 with fail
  generalize (w9.alloc (.cells (msC G q8) 27)) = w10 at *
  obtain ⟨P13, hP13⟩ : ∃ P, w9.heap.size = P := ⟨_, rfl⟩
  rw [hP13] at HQ9
  rw [hP13]
  clear hP13
  obtain ⟨RR, hRR⟩ : ∃ b, rightMs m = b := ⟨_, rfl⟩
  obtain ⟨DG, hDG⟩ : ∃ b, decide (m = G) = b := ⟨_, rfl⟩
  have HSG := Lib.hid (fun W (h : Below w10.heap.size w10 W) => msrsame_any G G q7 q8 W (HGR9.out.later h) (HQR9.out.later h))
  rw [decide_eq_true (rfl : G = G)] at HSG
  have HRA := Lib.hid (fun W (h : Below w10.heap.size w10 W) => msright_any m p W (HR9.out.later h))
  have HRB := Lib.hid (fun W (h : Below w10.heap.size w10 W) => msrright_any m p W (HR9.out.later h))
  rw [hRR] at HRA HRB
  have HDA := Lib.hid (fun W (h : Below w10.heap.size w10 W) => mssame_any m G p q7 W (HR9.out.later h) (HGR9.out.later h))
  have HDB := Lib.hid (fun W (h : Below w10.heap.size w10 W) => msrsame_any m G p q7 W (HR9.out.later h) (HGR9.out.later h))
  rw [hDG] at HDA HDB
  have HDC := Lib.hid (fun W (h : Below w10.heap.size w10 W) => mssame_any m m p p W (HR9.out.later h) (HR9.out.later h))
  rw [decide_eq_true (rfl : m = m)] at HDC
  clear hRR hDG
  -- REG 9
  refine wp_region_tab (L := [cV (.slice a7 xn c7), cV (.string ⟨X.toArray⟩), cV (.slice a9 xn c9), cV (.string ⟨X.toArray⟩), cV (.bool true), cV (.bool true), cV (.int .i64 ex), cV (.int .i64 ex), cV (.bool true), cV (.bool true), cV (.bool true), cV (.int .i64 eg), cV (.int .i64 eg), cV (.bool true), cV (.bool true), cV (.bool true), cV (.agg #[.int .i64 G.kind, .int .i64 G.nonce, .int .i64 G.pos, .int .i64 G.fin, .int .i64 G.stage, .int .i64 G.num, .slice q7.ac q7.nc q7.cc, .slice q7.ae q7.ne q7.ce, .slice q7.am q7.nm q7.cm, .slice q7.ad q7.nd q7.cd]), cV (.agg #[.int .i64 G.kind, .int .i64 G.nonce, .int .i64 G.pos, .int .i64 G.fin, .int .i64 G.stage, .int .i64 G.num, .slice q8.ac q8.nc q8.cc, .slice q8.ae q8.ne q8.ce, .slice q8.am q8.nm q8.cm, .slice q8.ad q8.nd q8.cd]), cV (.bool true), cV (.bool true), cV (.bool true), cV (.agg #[.int .i64 m.kind, .int .i64 m.nonce, .int .i64 m.pos, .int .i64 m.fin, .int .i64 m.stage, .int .i64 m.num, .slice p.ac p.nc p.cc, .slice p.ae p.ne p.ce, .slice p.am p.nm p.cm, .slice p.ad p.nd p.cd]), cV (.bool RR), cV (.agg #[.int .i64 m.kind, .int .i64 m.nonce, .int .i64 m.pos, .int .i64 m.fin, .int .i64 m.stage, .int .i64 m.num, .slice p.ac p.nc p.cc, .slice p.ae p.ne p.ce, .slice p.am p.nm p.cm, .slice p.ad p.nd p.cd]), cV (.bool RR), cV (.bool true), cV (.bool true), cV (.bool true), cV (.agg #[.int .i64 m.kind, .int .i64 m.nonce, .int .i64 m.pos, .int .i64 m.fin, .int .i64 m.stage, .int .i64 m.num, .slice p.ac p.nc p.cc, .slice p.ae p.ne p.ce, .slice p.am p.nm p.cm, .slice p.ad p.nd p.cd]), cV (.agg #[.int .i64 G.kind, .int .i64 G.nonce, .int .i64 G.pos, .int .i64 G.fin, .int .i64 G.stage, .int .i64 G.num, .slice q7.ac q7.nc q7.cc, .slice q7.ae q7.ne q7.ce, .slice q7.am q7.nm q7.cm, .slice q7.ad q7.nd q7.cd]), cV (.bool DG), cV (.agg #[.int .i64 m.kind, .int .i64 m.nonce, .int .i64 m.pos, .int .i64 m.fin, .int .i64 m.stage, .int .i64 m.num, .slice p.ac p.nc p.cc, .slice p.ae p.ne p.ce, .slice p.am p.nm p.cm, .slice p.ad p.nd p.cd]), cV (.agg #[.int .i64 G.kind, .int .i64 G.nonce, .int .i64 G.pos, .int .i64 G.fin, .int .i64 G.stage, .int .i64 G.num, .slice q7.ac q7.nc q7.cc, .slice q7.ae q7.ne q7.ce, .slice q7.am q7.nm q7.cm, .slice q7.ad q7.nd q7.cd]), cV (.bool DG), cV (.bool true), cV (.bool true), cV (.bool true), cV (.agg #[.int .i64 m.kind, .int .i64 m.nonce, .int .i64 m.pos, .int .i64 m.fin, .int .i64 m.stage, .int .i64 m.num, .slice p.ac p.nc p.cc, .slice p.ae p.ne p.ce, .slice p.am p.nm p.cm, .slice p.ad p.nd p.cd]), cV (.agg #[.int .i64 m.kind, .int .i64 m.nonce, .int .i64 m.pos, .int .i64 m.fin, .int .i64 m.stage, .int .i64 m.num, .slice p.ac p.nc p.cc, .slice p.ae p.ne p.ce, .slice p.am p.nm p.cm, .slice p.ad p.nd p.cd]), cV (.bool true), cV (.bool true), cV (.bool true), cV (.bool true), cV (.bool true), cV (.bool true)]) [[(7, none)], [(47, some 0)], [(9, none)], [(49, some 2)], [(48, some 1), (50, some 3)], [(51, some 4)], [(8, none), (52, some 5)], [(10, none), (52, some 5)], [(53, some 6), (54, some 7), (52, some 5)], [(52, some 5), (55, some 8)], [(56, some 9)], [(12, none), (57, some 10)], [(14, none), (57, some 10)], [(58, some 11), (59, some 12), (57, some 10)], [(57, some 10), (60, some 13)], [(61, some 14)], [(11, none), (62, some 15)], [(13, none), (62, some 15)], [(63, some 16), (64, some 17), (62, some 15)], [(62, some 15), (65, some 18)], [(66, some 19)], [(3, none), (67, some 20)], [(68, some 21), (67, some 20)], [(3, none), (67, some 20)], [(70, some 23), (67, some 20)], [(69, some 22), (71, some 24), (67, some 20)], [(67, some 20), (72, some 25)], [(73, some 26)], [(3, none), (74, some 27)], [(11, none), (74, some 27)], [(75, some 28), (76, some 29), (74, some 27)], [(3, none), (74, some 27)], [(11, none), (74, some 27)], [(78, some 31), (79, some 32), (74, some 27)], [(77, some 30), (80, some 33), (74, some 27)], [(74, some 27), (81, some 34)], [(82, some 35)], [(3, none), (83, some 36)], [(3, none), (83, some 36)], [(84, some 37), (85, some 38), (83, some 36)], [(83, some 36), (86, some 39)], [(87, some 40)], [(88, some 41)], [(88, some 41), (89, some 42)], [(90, some 43)]] 45 91 (by kernel_rfl) rfl rfl (by kernel_rfl) (by kernel_rfl) ?_ ?_
  · show ∀ i, i < 45 → _
    iterate 45 (refine fls ?_ ?_)
    · exact fl0
    · intro a w1 hR hsz hs      -- 0: slot 47
      obtain ⟨h0, _⟩ := hs
      have h0 : a.tmps.getD 7 undef = .slice a7 xn c7 := h0
      refine op_run rfl rfl (v := .slice a7 xn c7) (w' := w1) ?_ rfl (Below.refl _ _)
      simp [execOp, Act.eval, h0, go_sem]
    · intro a w1 hR hsz hs      -- 1: slot 48
      obtain ⟨h0, _⟩ := hs
      have h0 : a.tmps.getD 47 undef = .slice a7 xn c7 := h0
      have hcv := conv_row_n (HA9.out.later hR) HXN.out
      refine op_run rfl rfl (v := .string ⟨X.toArray⟩) (w' := w1) ?_ rfl (Below.refl _ _)
      simp [execOp, Act.eval, h0, hcv, go_sem]
    · intro a w1 hR hsz hs      -- 2: slot 49
      obtain ⟨h0, _⟩ := hs
      have h0 : a.tmps.getD 9 undef = .slice a9 xn c9 := h0
      refine op_run rfl rfl (v := .slice a9 xn c9) (w' := w1) ?_ rfl (Below.refl _ _)
      simp [execOp, Act.eval, h0, go_sem]
    · intro a w1 hR hsz hs      -- 3: slot 50
      obtain ⟨h0, _⟩ := hs
      have h0 : a.tmps.getD 49 undef = .slice a9 xn c9 := h0
      have hcv := conv_row_n (HC9.out.later hR) HXN.out
      refine op_run rfl rfl (v := .string ⟨X.toArray⟩) (w' := w1) ?_ rfl (Below.refl _ _)
      simp [execOp, Act.eval, h0, hcv, go_sem]
    · intro a w1 hR hsz hs      -- 4: slot 51
      obtain ⟨h0, h1, _⟩ := hs
      have h0 : a.tmps.getD 48 undef = .string ⟨X.toArray⟩ := h0
      have h1 : a.tmps.getD 50 undef = .string ⟨X.toArray⟩ := h1
      refine op_run rfl rfl (v := .bool true) (w' := w1) ?_ rfl (Below.refl _ _)
      simp [execOp, Act.eval, h0, h1, go_sem]
    · intro a w1 hR hsz hs      -- 5: slot 52
      obtain ⟨h0, _⟩ := hs
      have h0 : a.tmps.getD 51 undef = .bool true := h0
      refine op_run rfl rfl (v := .bool true) (w' := w1) ?_ rfl (Below.refl _ _)
      simp [execOp, Act.eval, h0, go_sem]
    · intro a w1 hR hsz hs      -- 6: slot 53
      obtain ⟨h0, h1, _⟩ := hs
      have h0 : a.tmps.getD 8 undef = .int .i64 ex := h0
      have h1 : a.tmps.getD 52 undef = .bool true := h1
      refine opg_run rfl rfl rfl (by rw [hsz]; decide) h1 (v := .int .i64 ex) (w' := w1) ?_ rfl (Below.refl _ _)
      simp [execOp, Act.eval, h0, go_sem]
    · intro a w1 hR hsz hs      -- 7: slot 54
      obtain ⟨h0, h1, _⟩ := hs
      have h0 : a.tmps.getD 10 undef = .int .i64 ex := h0
      have h1 : a.tmps.getD 52 undef = .bool true := h1
      refine opg_run rfl rfl rfl (by rw [hsz]; decide) h1 (v := .int .i64 ex) (w' := w1) ?_ rfl (Below.refl _ _)
      simp [execOp, Act.eval, h0, go_sem]
    · intro a w1 hR hsz hs      -- 8: slot 55
      obtain ⟨h0, h1, h2, _⟩ := hs
      have h0 : a.tmps.getD 53 undef = .int .i64 ex := h0
      have h1 : a.tmps.getD 54 undef = .int .i64 ex := h1
      have h2 : a.tmps.getD 52 undef = .bool true := h2
      refine opg_run rfl rfl rfl (by rw [hsz]; decide) h2 (v := .bool true) (w' := w1) ?_ rfl (Below.refl _ _)
      simp [execOp, Act.eval, h0, h1, go_sem]
    · intro a w1 hR hsz hs      -- 9: slot 56
      obtain ⟨h0, h1, _⟩ := hs
      have h0 : a.tmps.getD 52 undef = .bool true := h0
      have h1 : a.tmps.getD 55 undef = .bool true := h1
      refine op_run rfl rfl (v := .bool true) (w' := w1) ?_ rfl (Below.refl _ _)
      simp [execOp, Act.eval, h0, h1, go_sem]
    · intro a w1 hR hsz hs      -- 10: slot 57
      obtain ⟨h0, _⟩ := hs
      have h0 : a.tmps.getD 56 undef = .bool true := h0
      refine op_run rfl rfl (v := .bool true) (w' := w1) ?_ rfl (Below.refl _ _)
      simp [execOp, Act.eval, h0, go_sem]
    · intro a w1 hR hsz hs      -- 11: slot 58
      obtain ⟨h0, h1, _⟩ := hs
      have h0 : a.tmps.getD 12 undef = .int .i64 eg := h0
      have h1 : a.tmps.getD 57 undef = .bool true := h1
      refine opg_run rfl rfl rfl (by rw [hsz]; decide) h1 (v := .int .i64 eg) (w' := w1) ?_ rfl (Below.refl _ _)
      simp [execOp, Act.eval, h0, go_sem]
    · intro a w1 hR hsz hs      -- 12: slot 59
      obtain ⟨h0, h1, _⟩ := hs
      have h0 : a.tmps.getD 14 undef = .int .i64 eg := h0
      have h1 : a.tmps.getD 57 undef = .bool true := h1
      refine opg_run rfl rfl rfl (by rw [hsz]; decide) h1 (v := .int .i64 eg) (w' := w1) ?_ rfl (Below.refl _ _)
      simp [execOp, Act.eval, h0, go_sem]
    · intro a w1 hR hsz hs      -- 13: slot 60
      obtain ⟨h0, h1, h2, _⟩ := hs
      have h0 : a.tmps.getD 58 undef = .int .i64 eg := h0
      have h1 : a.tmps.getD 59 undef = .int .i64 eg := h1
      have h2 : a.tmps.getD 57 undef = .bool true := h2
      refine opg_run rfl rfl rfl (by rw [hsz]; decide) h2 (v := .bool true) (w' := w1) ?_ rfl (Below.refl _ _)
      simp [execOp, Act.eval, h0, h1, go_sem]
    · intro a w1 hR hsz hs      -- 14: slot 61
      obtain ⟨h0, h1, _⟩ := hs
      have h0 : a.tmps.getD 57 undef = .bool true := h0
      have h1 : a.tmps.getD 60 undef = .bool true := h1
      refine op_run rfl rfl (v := .bool true) (w' := w1) ?_ rfl (Below.refl _ _)
      simp [execOp, Act.eval, h0, h1, go_sem]
    · intro a w1 hR hsz hs      -- 15: slot 62
      obtain ⟨h0, _⟩ := hs
      have h0 : a.tmps.getD 61 undef = .bool true := h0
      refine op_run rfl rfl (v := .bool true) (w' := w1) ?_ rfl (Below.refl _ _)
      simp [execOp, Act.eval, h0, go_sem]
    · intro a w1 hR hsz hs      -- 16: slot 63
      obtain ⟨h0, h1, _⟩ := hs
      have h0 : a.tmps.getD 11 undef = .pointer (some ⟨P11, 0, none⟩) := h0
      have h1 : a.tmps.getD 62 undef = .bool true := h1
      obtain ⟨x0, x1, x2, x3, x4, x5, x6, x7, x8, x9⟩ := (HG9.out.later hR).c10
      refine opg_run rfl rfl rfl (by rw [hsz]; decide) h1 (v := .agg #[.int .i64 G.kind, .int .i64 G.nonce, .int .i64 G.pos, .int .i64 G.fin, .int .i64 G.stage, .int .i64 G.num, .slice q7.ac q7.nc q7.cc, .slice q7.ae q7.ne q7.ce, .slice q7.am q7.nm q7.cm, .slice q7.ad q7.nd q7.cd]) (w' := w1) ?_ rfl (Below.refl _ _)
      simp [execOp, Act.eval, h0, x0, x1, x2, x3, x4, x5, x6, x7, x8, x9, go_sem]
    · intro a w1 hR hsz hs      -- 17: slot 64
      obtain ⟨h0, h1, _⟩ := hs
      have h0 : a.tmps.getD 13 undef = .pointer (some ⟨P13, 0, none⟩) := h0
      have h1 : a.tmps.getD 62 undef = .bool true := h1
      obtain ⟨x0, x1, x2, x3, x4, x5, x6, x7, x8, x9⟩ := (HQ9.out.later hR).c10
      refine opg_run rfl rfl rfl (by rw [hsz]; decide) h1 (v := .agg #[.int .i64 G.kind, .int .i64 G.nonce, .int .i64 G.pos, .int .i64 G.fin, .int .i64 G.stage, .int .i64 G.num, .slice q8.ac q8.nc q8.cc, .slice q8.ae q8.ne q8.ce, .slice q8.am q8.nm q8.cm, .slice q8.ad q8.nd q8.cd]) (w' := w1) ?_ rfl (Below.refl _ _)
      simp [execOp, Act.eval, h0, x0, x1, x2, x3, x4, x5, x6, x7, x8, x9, go_sem]
    · intro a w1 hR hsz hs      -- 18: slot 65
      obtain ⟨h0, h1, h2, _⟩ := hs
      have h0 : a.tmps.getD 63 undef = .agg #[.int .i64 G.kind, .int .i64 G.nonce, .int .i64 G.pos, .int .i64 G.fin, .int .i64 G.stage, .int .i64 G.num, .slice q7.ac q7.nc q7.cc, .slice q7.ae q7.ne q7.ce, .slice q7.am q7.nm q7.cm, .slice q7.ad q7.nd q7.cd] := h0
      have h1 : a.tmps.getD 64 undef = .agg #[.int .i64 G.kind, .int .i64 G.nonce, .int .i64 G.pos, .int .i64 G.fin, .int .i64 G.stage, .int .i64 G.num, .slice q8.ac q8.nc q8.cc, .slice q8.ae q8.ne q8.ce, .slice q8.am q8.nm q8.cm, .slice q8.ad q8.nd q8.cd] := h1
      have h2 : a.tmps.getD 62 undef = .bool true := h2
      refine opg_call rfl rfl rfl (by rw [hsz]; decide) h2 (f := 14) (args := #[.agg #[.int .i64 G.kind, .int .i64 G.nonce, .int .i64 G.pos, .int .i64 G.fin, .int .i64 G.stage, .int .i64 G.num, .slice q7.ac q7.nc q7.cc, .slice q7.ae q7.ne q7.ce, .slice q7.am q7.nm q7.cm, .slice q7.ad q7.nd q7.cd], .agg #[.int .i64 G.kind, .int .i64 G.nonce, .int .i64 G.pos, .int .i64 G.fin, .int .i64 G.stage, .int .i64 G.num, .slice q8.ac q8.nc q8.cc, .slice q8.ae q8.ne q8.ce, .slice q8.am q8.nm q8.cm, .slice q8.ad q8.nd q8.cd]]) (by simp [execOp, Act.eval, resolve, h0, h1, go_sem]) ?_
      exact calls_c (HSG.out w1 hR)
    · intro a w1 hR hsz hs      -- 19: slot 66
      obtain ⟨h0, h1, _⟩ := hs
      have h0 : a.tmps.getD 62 undef = .bool true := h0
      have h1 : a.tmps.getD 65 undef = .bool true := h1
      refine op_run rfl rfl (v := .bool true) (w' := w1) ?_ rfl (Below.refl _ _)
      simp [execOp, Act.eval, h0, h1, go_sem]
    · intro a w1 hR hsz hs      -- 20: slot 67
      obtain ⟨h0, _⟩ := hs
      have h0 : a.tmps.getD 66 undef = .bool true := h0
      refine op_run rfl rfl (v := .bool true) (w' := w1) ?_ rfl (Below.refl _ _)
      simp [execOp, Act.eval, h0, go_sem]
    · intro a w1 hR hsz hs      -- 21: slot 68
      obtain ⟨h0, h1, _⟩ := hs
      have h0 : a.tmps.getD 3 undef = .pointer (some ⟨P3, 0, none⟩) := h0
      have h1 : a.tmps.getD 67 undef = .bool true := h1
      obtain ⟨x0, x1, x2, x3, x4, x5, x6, x7, x8, x9⟩ := (HX9.out.later hR).c10
      refine opg_run rfl rfl rfl (by rw [hsz]; decide) h1 (v := .agg #[.int .i64 m.kind, .int .i64 m.nonce, .int .i64 m.pos, .int .i64 m.fin, .int .i64 m.stage, .int .i64 m.num, .slice p.ac p.nc p.cc, .slice p.ae p.ne p.ce, .slice p.am p.nm p.cm, .slice p.ad p.nd p.cd]) (w' := w1) ?_ rfl (Below.refl _ _)
      simp [execOp, Act.eval, h0, x0, x1, x2, x3, x4, x5, x6, x7, x8, x9, go_sem]
    · intro a w1 hR hsz hs      -- 22: slot 69
      obtain ⟨h0, h1, _⟩ := hs
      have h0 : a.tmps.getD 68 undef = .agg #[.int .i64 m.kind, .int .i64 m.nonce, .int .i64 m.pos, .int .i64 m.fin, .int .i64 m.stage, .int .i64 m.num, .slice p.ac p.nc p.cc, .slice p.ae p.ne p.ce, .slice p.am p.nm p.cm, .slice p.ad p.nd p.cd] := h0
      have h1 : a.tmps.getD 67 undef = .bool true := h1
      refine opg_call rfl rfl rfl (by rw [hsz]; decide) h1 (f := 15) (args := #[.agg #[.int .i64 m.kind, .int .i64 m.nonce, .int .i64 m.pos, .int .i64 m.fin, .int .i64 m.stage, .int .i64 m.num, .slice p.ac p.nc p.cc, .slice p.ae p.ne p.ce, .slice p.am p.nm p.cm, .slice p.ad p.nd p.cd]]) (by simp [execOp, Act.eval, resolve, h0, go_sem]) ?_
      exact calls_c (HRA.out w1 hR)
    · intro a w1 hR hsz hs      -- 23: slot 70
      obtain ⟨h0, h1, _⟩ := hs
      have h0 : a.tmps.getD 3 undef = .pointer (some ⟨P3, 0, none⟩) := h0
      have h1 : a.tmps.getD 67 undef = .bool true := h1
      obtain ⟨x0, x1, x2, x3, x4, x5, x6, x7, x8, x9⟩ := (HX9.out.later hR).c10
      refine opg_run rfl rfl rfl (by rw [hsz]; decide) h1 (v := .agg #[.int .i64 m.kind, .int .i64 m.nonce, .int .i64 m.pos, .int .i64 m.fin, .int .i64 m.stage, .int .i64 m.num, .slice p.ac p.nc p.cc, .slice p.ae p.ne p.ce, .slice p.am p.nm p.cm, .slice p.ad p.nd p.cd]) (w' := w1) ?_ rfl (Below.refl _ _)
      simp [execOp, Act.eval, h0, x0, x1, x2, x3, x4, x5, x6, x7, x8, x9, go_sem]
    · intro a w1 hR hsz hs      -- 24: slot 71
      obtain ⟨h0, h1, _⟩ := hs
      have h0 : a.tmps.getD 70 undef = .agg #[.int .i64 m.kind, .int .i64 m.nonce, .int .i64 m.pos, .int .i64 m.fin, .int .i64 m.stage, .int .i64 m.num, .slice p.ac p.nc p.cc, .slice p.ae p.ne p.ce, .slice p.am p.nm p.cm, .slice p.ad p.nd p.cd] := h0
      have h1 : a.tmps.getD 67 undef = .bool true := h1
      refine opg_call rfl rfl rfl (by rw [hsz]; decide) h1 (f := 16) (args := #[.agg #[.int .i64 m.kind, .int .i64 m.nonce, .int .i64 m.pos, .int .i64 m.fin, .int .i64 m.stage, .int .i64 m.num, .slice p.ac p.nc p.cc, .slice p.ae p.ne p.ce, .slice p.am p.nm p.cm, .slice p.ad p.nd p.cd]]) (by simp [execOp, Act.eval, resolve, h0, go_sem]) ?_
      exact calls_c (HRB.out w1 hR)
    · intro a w1 hR hsz hs      -- 25: slot 72
      obtain ⟨h0, h1, h2, _⟩ := hs
      have h0 : a.tmps.getD 69 undef = .bool RR := h0
      have h1 : a.tmps.getD 71 undef = .bool RR := h1
      have h2 : a.tmps.getD 67 undef = .bool true := h2
      refine opg_run rfl rfl rfl (by rw [hsz]; decide) h2 (v := .bool true) (w' := w1) ?_ rfl (Below.refl _ _)
      simp [execOp, Act.eval, h0, h1, go_sem]
    · intro a w1 hR hsz hs      -- 26: slot 73
      obtain ⟨h0, h1, _⟩ := hs
      have h0 : a.tmps.getD 67 undef = .bool true := h0
      have h1 : a.tmps.getD 72 undef = .bool true := h1
      refine op_run rfl rfl (v := .bool true) (w' := w1) ?_ rfl (Below.refl _ _)
      simp [execOp, Act.eval, h0, h1, go_sem]
    · intro a w1 hR hsz hs      -- 27: slot 74
      obtain ⟨h0, _⟩ := hs
      have h0 : a.tmps.getD 73 undef = .bool true := h0
      refine op_run rfl rfl (v := .bool true) (w' := w1) ?_ rfl (Below.refl _ _)
      simp [execOp, Act.eval, h0, go_sem]
    · intro a w1 hR hsz hs      -- 28: slot 75
      obtain ⟨h0, h1, _⟩ := hs
      have h0 : a.tmps.getD 3 undef = .pointer (some ⟨P3, 0, none⟩) := h0
      have h1 : a.tmps.getD 74 undef = .bool true := h1
      obtain ⟨x0, x1, x2, x3, x4, x5, x6, x7, x8, x9⟩ := (HX9.out.later hR).c10
      refine opg_run rfl rfl rfl (by rw [hsz]; decide) h1 (v := .agg #[.int .i64 m.kind, .int .i64 m.nonce, .int .i64 m.pos, .int .i64 m.fin, .int .i64 m.stage, .int .i64 m.num, .slice p.ac p.nc p.cc, .slice p.ae p.ne p.ce, .slice p.am p.nm p.cm, .slice p.ad p.nd p.cd]) (w' := w1) ?_ rfl (Below.refl _ _)
      simp [execOp, Act.eval, h0, x0, x1, x2, x3, x4, x5, x6, x7, x8, x9, go_sem]
    · intro a w1 hR hsz hs      -- 29: slot 76
      obtain ⟨h0, h1, _⟩ := hs
      have h0 : a.tmps.getD 11 undef = .pointer (some ⟨P11, 0, none⟩) := h0
      have h1 : a.tmps.getD 74 undef = .bool true := h1
      obtain ⟨x0, x1, x2, x3, x4, x5, x6, x7, x8, x9⟩ := (HG9.out.later hR).c10
      refine opg_run rfl rfl rfl (by rw [hsz]; decide) h1 (v := .agg #[.int .i64 G.kind, .int .i64 G.nonce, .int .i64 G.pos, .int .i64 G.fin, .int .i64 G.stage, .int .i64 G.num, .slice q7.ac q7.nc q7.cc, .slice q7.ae q7.ne q7.ce, .slice q7.am q7.nm q7.cm, .slice q7.ad q7.nd q7.cd]) (w' := w1) ?_ rfl (Below.refl _ _)
      simp [execOp, Act.eval, h0, x0, x1, x2, x3, x4, x5, x6, x7, x8, x9, go_sem]
    · intro a w1 hR hsz hs      -- 30: slot 77
      obtain ⟨h0, h1, h2, _⟩ := hs
      have h0 : a.tmps.getD 75 undef = .agg #[.int .i64 m.kind, .int .i64 m.nonce, .int .i64 m.pos, .int .i64 m.fin, .int .i64 m.stage, .int .i64 m.num, .slice p.ac p.nc p.cc, .slice p.ae p.ne p.ce, .slice p.am p.nm p.cm, .slice p.ad p.nd p.cd] := h0
      have h1 : a.tmps.getD 76 undef = .agg #[.int .i64 G.kind, .int .i64 G.nonce, .int .i64 G.pos, .int .i64 G.fin, .int .i64 G.stage, .int .i64 G.num, .slice q7.ac q7.nc q7.cc, .slice q7.ae q7.ne q7.ce, .slice q7.am q7.nm q7.cm, .slice q7.ad q7.nd q7.cd] := h1
      have h2 : a.tmps.getD 74 undef = .bool true := h2
      refine opg_call rfl rfl rfl (by rw [hsz]; decide) h2 (f := 17) (args := #[.agg #[.int .i64 m.kind, .int .i64 m.nonce, .int .i64 m.pos, .int .i64 m.fin, .int .i64 m.stage, .int .i64 m.num, .slice p.ac p.nc p.cc, .slice p.ae p.ne p.ce, .slice p.am p.nm p.cm, .slice p.ad p.nd p.cd], .agg #[.int .i64 G.kind, .int .i64 G.nonce, .int .i64 G.pos, .int .i64 G.fin, .int .i64 G.stage, .int .i64 G.num, .slice q7.ac q7.nc q7.cc, .slice q7.ae q7.ne q7.ce, .slice q7.am q7.nm q7.cm, .slice q7.ad q7.nd q7.cd]]) (by simp [execOp, Act.eval, resolve, h0, h1, go_sem]) ?_
      exact calls_c (HDA.out w1 hR)
    · intro a w1 hR hsz hs      -- 31: slot 78
      obtain ⟨h0, h1, _⟩ := hs
      have h0 : a.tmps.getD 3 undef = .pointer (some ⟨P3, 0, none⟩) := h0
      have h1 : a.tmps.getD 74 undef = .bool true := h1
      obtain ⟨x0, x1, x2, x3, x4, x5, x6, x7, x8, x9⟩ := (HX9.out.later hR).c10
      refine opg_run rfl rfl rfl (by rw [hsz]; decide) h1 (v := .agg #[.int .i64 m.kind, .int .i64 m.nonce, .int .i64 m.pos, .int .i64 m.fin, .int .i64 m.stage, .int .i64 m.num, .slice p.ac p.nc p.cc, .slice p.ae p.ne p.ce, .slice p.am p.nm p.cm, .slice p.ad p.nd p.cd]) (w' := w1) ?_ rfl (Below.refl _ _)
      simp [execOp, Act.eval, h0, x0, x1, x2, x3, x4, x5, x6, x7, x8, x9, go_sem]
    · intro a w1 hR hsz hs      -- 32: slot 79
      obtain ⟨h0, h1, _⟩ := hs
      have h0 : a.tmps.getD 11 undef = .pointer (some ⟨P11, 0, none⟩) := h0
      have h1 : a.tmps.getD 74 undef = .bool true := h1
      obtain ⟨x0, x1, x2, x3, x4, x5, x6, x7, x8, x9⟩ := (HG9.out.later hR).c10
      refine opg_run rfl rfl rfl (by rw [hsz]; decide) h1 (v := .agg #[.int .i64 G.kind, .int .i64 G.nonce, .int .i64 G.pos, .int .i64 G.fin, .int .i64 G.stage, .int .i64 G.num, .slice q7.ac q7.nc q7.cc, .slice q7.ae q7.ne q7.ce, .slice q7.am q7.nm q7.cm, .slice q7.ad q7.nd q7.cd]) (w' := w1) ?_ rfl (Below.refl _ _)
      simp [execOp, Act.eval, h0, x0, x1, x2, x3, x4, x5, x6, x7, x8, x9, go_sem]
    · intro a w1 hR hsz hs      -- 33: slot 80
      obtain ⟨h0, h1, h2, _⟩ := hs
      have h0 : a.tmps.getD 78 undef = .agg #[.int .i64 m.kind, .int .i64 m.nonce, .int .i64 m.pos, .int .i64 m.fin, .int .i64 m.stage, .int .i64 m.num, .slice p.ac p.nc p.cc, .slice p.ae p.ne p.ce, .slice p.am p.nm p.cm, .slice p.ad p.nd p.cd] := h0
      have h1 : a.tmps.getD 79 undef = .agg #[.int .i64 G.kind, .int .i64 G.nonce, .int .i64 G.pos, .int .i64 G.fin, .int .i64 G.stage, .int .i64 G.num, .slice q7.ac q7.nc q7.cc, .slice q7.ae q7.ne q7.ce, .slice q7.am q7.nm q7.cm, .slice q7.ad q7.nd q7.cd] := h1
      have h2 : a.tmps.getD 74 undef = .bool true := h2
      refine opg_call rfl rfl rfl (by rw [hsz]; decide) h2 (f := 14) (args := #[.agg #[.int .i64 m.kind, .int .i64 m.nonce, .int .i64 m.pos, .int .i64 m.fin, .int .i64 m.stage, .int .i64 m.num, .slice p.ac p.nc p.cc, .slice p.ae p.ne p.ce, .slice p.am p.nm p.cm, .slice p.ad p.nd p.cd], .agg #[.int .i64 G.kind, .int .i64 G.nonce, .int .i64 G.pos, .int .i64 G.fin, .int .i64 G.stage, .int .i64 G.num, .slice q7.ac q7.nc q7.cc, .slice q7.ae q7.ne q7.ce, .slice q7.am q7.nm q7.cm, .slice q7.ad q7.nd q7.cd]]) (by simp [execOp, Act.eval, resolve, h0, h1, go_sem]) ?_
      exact calls_c (HDB.out w1 hR)
    · intro a w1 hR hsz hs      -- 34: slot 81
      obtain ⟨h0, h1, h2, _⟩ := hs
      have h0 : a.tmps.getD 77 undef = .bool DG := h0
      have h1 : a.tmps.getD 80 undef = .bool DG := h1
      have h2 : a.tmps.getD 74 undef = .bool true := h2
      refine opg_run rfl rfl rfl (by rw [hsz]; decide) h2 (v := .bool true) (w' := w1) ?_ rfl (Below.refl _ _)
      simp [execOp, Act.eval, h0, h1, go_sem]
    · intro a w1 hR hsz hs      -- 35: slot 82
      obtain ⟨h0, h1, _⟩ := hs
      have h0 : a.tmps.getD 74 undef = .bool true := h0
      have h1 : a.tmps.getD 81 undef = .bool true := h1
      refine op_run rfl rfl (v := .bool true) (w' := w1) ?_ rfl (Below.refl _ _)
      simp [execOp, Act.eval, h0, h1, go_sem]
    · intro a w1 hR hsz hs      -- 36: slot 83
      obtain ⟨h0, _⟩ := hs
      have h0 : a.tmps.getD 82 undef = .bool true := h0
      refine op_run rfl rfl (v := .bool true) (w' := w1) ?_ rfl (Below.refl _ _)
      simp [execOp, Act.eval, h0, go_sem]
    · intro a w1 hR hsz hs      -- 37: slot 84
      obtain ⟨h0, h1, _⟩ := hs
      have h0 : a.tmps.getD 3 undef = .pointer (some ⟨P3, 0, none⟩) := h0
      have h1 : a.tmps.getD 83 undef = .bool true := h1
      obtain ⟨x0, x1, x2, x3, x4, x5, x6, x7, x8, x9⟩ := (HX9.out.later hR).c10
      refine opg_run rfl rfl rfl (by rw [hsz]; decide) h1 (v := .agg #[.int .i64 m.kind, .int .i64 m.nonce, .int .i64 m.pos, .int .i64 m.fin, .int .i64 m.stage, .int .i64 m.num, .slice p.ac p.nc p.cc, .slice p.ae p.ne p.ce, .slice p.am p.nm p.cm, .slice p.ad p.nd p.cd]) (w' := w1) ?_ rfl (Below.refl _ _)
      simp [execOp, Act.eval, h0, x0, x1, x2, x3, x4, x5, x6, x7, x8, x9, go_sem]
    · intro a w1 hR hsz hs      -- 38: slot 85
      obtain ⟨h0, h1, _⟩ := hs
      have h0 : a.tmps.getD 3 undef = .pointer (some ⟨P3, 0, none⟩) := h0
      have h1 : a.tmps.getD 83 undef = .bool true := h1
      obtain ⟨x0, x1, x2, x3, x4, x5, x6, x7, x8, x9⟩ := (HX9.out.later hR).c10
      refine opg_run rfl rfl rfl (by rw [hsz]; decide) h1 (v := .agg #[.int .i64 m.kind, .int .i64 m.nonce, .int .i64 m.pos, .int .i64 m.fin, .int .i64 m.stage, .int .i64 m.num, .slice p.ac p.nc p.cc, .slice p.ae p.ne p.ce, .slice p.am p.nm p.cm, .slice p.ad p.nd p.cd]) (w' := w1) ?_ rfl (Below.refl _ _)
      simp [execOp, Act.eval, h0, x0, x1, x2, x3, x4, x5, x6, x7, x8, x9, go_sem]
    · intro a w1 hR hsz hs      -- 39: slot 86
      obtain ⟨h0, h1, h2, _⟩ := hs
      have h0 : a.tmps.getD 84 undef = .agg #[.int .i64 m.kind, .int .i64 m.nonce, .int .i64 m.pos, .int .i64 m.fin, .int .i64 m.stage, .int .i64 m.num, .slice p.ac p.nc p.cc, .slice p.ae p.ne p.ce, .slice p.am p.nm p.cm, .slice p.ad p.nd p.cd] := h0
      have h1 : a.tmps.getD 85 undef = .agg #[.int .i64 m.kind, .int .i64 m.nonce, .int .i64 m.pos, .int .i64 m.fin, .int .i64 m.stage, .int .i64 m.num, .slice p.ac p.nc p.cc, .slice p.ae p.ne p.ce, .slice p.am p.nm p.cm, .slice p.ad p.nd p.cd] := h1
      have h2 : a.tmps.getD 83 undef = .bool true := h2
      refine opg_call rfl rfl rfl (by rw [hsz]; decide) h2 (f := 17) (args := #[.agg #[.int .i64 m.kind, .int .i64 m.nonce, .int .i64 m.pos, .int .i64 m.fin, .int .i64 m.stage, .int .i64 m.num, .slice p.ac p.nc p.cc, .slice p.ae p.ne p.ce, .slice p.am p.nm p.cm, .slice p.ad p.nd p.cd], .agg #[.int .i64 m.kind, .int .i64 m.nonce, .int .i64 m.pos, .int .i64 m.fin, .int .i64 m.stage, .int .i64 m.num, .slice p.ac p.nc p.cc, .slice p.ae p.ne p.ce, .slice p.am p.nm p.cm, .slice p.ad p.nd p.cd]]) (by simp [execOp, Act.eval, resolve, h0, h1, go_sem]) ?_
      exact calls_c (HDC.out w1 hR)
    · intro a w1 hR hsz hs      -- 40: slot 87
      obtain ⟨h0, h1, _⟩ := hs
      have h0 : a.tmps.getD 83 undef = .bool true := h0
      have h1 : a.tmps.getD 86 undef = .bool true := h1
      refine op_run rfl rfl (v := .bool true) (w' := w1) ?_ rfl (Below.refl _ _)
      simp [execOp, Act.eval, h0, h1, go_sem]
    · intro a w1 hR hsz hs      -- 41: slot 88
      obtain ⟨h0, _⟩ := hs
      have h0 : a.tmps.getD 87 undef = .bool true := h0
      refine op_run rfl rfl (v := .bool true) (w' := w1) ?_ rfl (Below.refl _ _)
      simp [execOp, Act.eval, h0, go_sem]
    · intro a w1 hR hsz hs      -- 42: slot 89
      obtain ⟨h0, _⟩ := hs
      have h0 : a.tmps.getD 88 undef = .bool true := h0
      refine opg_call rfl rfl rfl (by rw [hsz]; decide) h0 (f := 8) (args := #[]) (by simp [execOp, Act.eval, resolve, go_sem]) ?_
      exact calls_c (knownMs_any w1)
    · intro a w1 hR hsz hs      -- 43: slot 90
      obtain ⟨h0, h1, _⟩ := hs
      have h0 : a.tmps.getD 88 undef = .bool true := h0
      have h1 : a.tmps.getD 89 undef = .bool true := h1
      refine op_run rfl rfl (v := .bool true) (w' := w1) ?_ rfl (Below.refl _ _)
      simp [execOp, Act.eval, h0, h1, go_sem]
    · intro a w1 hR hsz hs      -- 44: slot 6
      obtain ⟨h0, _⟩ := hs
      have h0 : a.tmps.getD 90 undef = .bool true := h0
      refine op_run rfl rfl (v := .bool true) (w' := w1) ?_ rfl (Below.refl _ _)
      simp [execOp, Act.eval, h0, go_sem]
  · intro f w1 hR hv
    have e6 : f 6 = .bool true := hv 44 _ 6 rfl rfl
    clear hv
    try simp only [Exit.then]
    simp only [putAll, List.foldl_cons, List.foldl_nil, Option.getD_some, Act.put, List.setIfInBounds_toArray, List.set_cons_succ, List.set_cons_zero]
    go_wp2_with fail
    go_ret
    exact ⟨congrArg Ending.returned e6, HBZ.out.trans (hR.mono HBZ.out.size)⟩
  -- END 9
theorem msgTells_open (cs : Array Value) (u : Ms) (ab : Option Addr) (nb cb : Nat) (l : List UInt8) (sl : Bool) (w : World) (k : MsE w cs.toList u) (hl : Row w ab cb l) (hln : l.length = nb) :
    Calls Try.prog 3 #[.agg cs, .slice ab nb cb, .bool sl] w fun x w' => x = .returned (.bool true) ∧ Below w.heap.size w w' := by
  obtain ⟨p, rfl, hr⟩ := k.open
  exact msgTells_walk u p ab nb cb l sl w hr hl hln
end Go.Proofs.Ytiahifpbofkimaa
