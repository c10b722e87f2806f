/- The law 'MsgOne', walked. -/
import Derived.Test.YtiahifpbofkimaaMsS
import Derived.Test.YtiahifpbofkimaaGU
import Derived.Test.YtiahifpbofkimaaMsZ
import Derived.Test.YtiahifpbofkimaaGP
import Derived.Test.YtiahifpbofkimaaGC
namespace Go.Proofs.Ytiahifpbofkimaa
open Go.RowKit Go.Proofs
set_option linter.unusedVariables false
set_option linter.unusedSimpArgs false
set_option linter.unnecessarySimpa false

theorem dec_lt {a b : Nat} (h : ¬ a < b) : decide ((a : Int) < (b : Int)) = false := by simp; omega
set_option maxRecDepth 100000 in
set_option maxHeartbeats 6400000 in
theorem msgOne_known (kd ot : Int) (ad : Option Addr) (n c : Nat) (ao : Option Addr) (no co : Nat) (ap : Option Addr) (np cp : Nat) (aq : Option Addr) (nq cq : Nat) (ab : Option Addr) (nb cb : Nat) (w : World) (hb : 40 < n ∨ 40 < no ∨ 200 < np ∨ 200 < nq ∨ 200 < nb) :
    Calls Try.prog 6 #[.int .i64 kd, .int .i64 ot, .slice ad n c, .slice ao no co, .slice ap np cp, .slice aq nq cq, .slice ab nb cb] w fun x w' => x = .returned (.bool true) ∧ Below w.heap.size w w' := by
  rcases (show 40 < (n : Int) ∨ (decide (40 < (n : Int)) = false ∧ 40 < (no : Int)) ∨ (decide (40 < (n : Int)) = false ∧ decide (40 < (no : Int)) = false ∧ 200 < (np : Int)) ∨ (decide (40 < (n : Int)) = false ∧ decide (40 < (no : Int)) = false ∧ decide (200 < (np : Int)) = false ∧ 200 < (nq : Int)) ∨ (decide (40 < (n : Int)) = false ∧ decide (40 < (no : Int)) = false ∧ decide (200 < (np : Int)) = false ∧ decide (200 < (nq : Int)) = false ∧ 200 < (nb : Int)) by simp only [decide_eq_false_iff_not]; omega) with h | ⟨h1, h⟩ | ⟨h1, h2, h⟩ | ⟨h1, h2, h3, h⟩ | ⟨h1, h2, h3, h4, h⟩
  all_goals
    clear hb
    go_enter Try.func6, Try.ntmps6
    go_wp2_with fail
    refine (knownMs_any _).mono ?_
    rintro y w2 ⟨rfl, hb2⟩
    go_wp2_with fail
    go_ret
    exact ⟨rfl, hb2⟩
set_option maxRecDepth 100000 in
set_option maxHeartbeats 25600000 in
theorem msgOne_main (kd ot : Int) (ad : Option Addr) (n c : Nat) (zs : List Int) (ao : Option Addr) (no co : Nat) (zo : List Int) (ap : Option Addr) (np cp : Nat) (pl : List UInt8) (aq : Option Addr) (nq cq : Nat) (ql : List UInt8) (ab : Option Addr) (nb cb : Nat) (bl : List UInt8) (w : World)
    (hr : ZRow w ad c zs) (hn : zs.length = n) (hn2 : n ≤ 40) (hr' : ZRow w ao co zo) (hn' : zo.length = no) (hn2' : no ≤ 40) (hp : Row w ap cp pl) (hpl : pl.length = np) (hp2 : np ≤ 200) (hq : Row w aq cq ql) (hql : ql.length = nq) (hq2 : nq ≤ 200) (hbr : Row w ab cb bl) (hbl : bl.length = nb) (hb2 : nb ≤ 200) :
    Calls Try.prog 6 #[.int .i64 kd, .int .i64 ot, .slice ad n c, .slice ao no co, .slice ap np cp, .slice aq nq cq, .slice ab nb cb] w fun x w' => x = .returned (.bool true) ∧ Below w.heap.size w w' := by
  have hd0 : decide (40 < (n : Int)) = false := by simp; omega
  have hd1 : decide (40 < (no : Int)) = false := by simp; omega
  have hd2 : decide (200 < (np : Int)) = false := by simp; omega
  have hd3 : decide (200 < (nq : Int)) = false := by simp; omega
  have hd4 : decide (200 < (nb : Int)) = false := by simp; omega
  have HMK := Lib.hid (makeMs_any kd ad n c zs ap np cp pl w hr hn (by omega) hp hpl)
  have HMQ := Lib.hid (fun W (h : Below w.heap.size w W) => makeMs_any ot ao no co zo aq nq cq ql W (hr'.later h) hn' (by omega) (hq.later h) hql)
  have HBR := Lib.hid hbr
  have HBL := Lib.hid hbl
  clear hr hn hp hpl hr' hn' hq hql hbr hbl
  go_enter Try.func6, Try.ntmps6
  go_wp2_with fail
  refine HMK.out.mono ?_
  rintro e w1 ⟨M, q1, rfl, hok, hr1, hb1⟩
  have HOK := Lib.hid hok
  have HB1 := Lib.hid hb1
  have HR1 := Lib.hid hr1
  have HMQ1 := Lib.hid (HMQ.out w1 hb1)
  clear hok hr1 hb1 HMK HMQ hd0 hd1 hd2 hd3 hd4
  go_wp2_with fail
  refine HMQ1.out.mono ?_
  rintro e w2 ⟨Y, q2, rfl, hok, hr2, hb2'⟩
  have HOY := Lib.hid hok
  obtain ⟨X3, Y3, B3⟩ := two_recsM w2 (msC M q1) (msC Y q2) 27 27
  have HX3 := Lib.hid X3
  have HY3 := Lib.hid Y3
  have HR3 := Lib.hid ((HR1.out.later hb2').later B3)
  have HS3 := Lib.hid (hr2.later B3)
  have HB3 := Lib.hid ((HB1.out.trans (hb2'.mono HB1.out.size)).trans (B3.mono (HB1.out.trans (hb2'.mono HB1.out.size)).size))
  clear hok hr2 hb2' X3 Y3 B3 HB1 HR1 HMQ1
  go_upto_region 4 with fail
  generalize ((w2.alloc (.cells (msC M q1) 27)).alloc (.cells (msC Y q2) 27)) = w3 at *
  obtain ⟨P16, hP16⟩ : ∃ P, w2.heap.size + 1 = P := ⟨_, rfl⟩
  rw [hP16] at HY3 ⊢
  clear hP16
  obtain ⟨P15, hP15⟩ : ∃ P, w2.heap.size = P := ⟨_, rfl⟩
  rw [hP15] at HX3
  rw [hP15]
  clear hP15
  obtain ⟨X, hX⟩ : ∃ X, sealL (bodyMs M) = X := ⟨_, rfl⟩
  obtain ⟨xn, hxn⟩ : ∃ k, X.length = k := ⟨_, rfl⟩
  obtain ⟨Z, hZ⟩ : ∃ X, sealL (bodyMs Y) = X := ⟨_, rfl⟩
  obtain ⟨yn, hyn⟩ : ∃ k, Z.length = k := ⟨_, rfl⟩
  obtain ⟨DD, hDD⟩ : ∃ b, decide (M = Y) = b := ⟨_, rfl⟩
  have hap := put_apart HOK.out HOY.out
  rw [hX, hZ, hDD] at hap
  have HAP := Lib.hid hap
  have HXE := Lib.hid (show putMs M = (X, 0) by rw [putMs_yes (rightMs_iff.2 HOK.out), hX])
  have HZE := Lib.hid (show putMs Y = (Z, 0) by rw [putMs_yes (rightMs_iff.2 HOY.out), hZ])
  have HXN := Lib.hid hxn
  have HYN := Lib.hid hyn
  have HDD := Lib.hid hDD
  clear hX hxn hZ hyn hDD hap HOK HOY
  obtain ⟨y0, y1, y2, y3, y4, y5, y6, y7, y8, y9⟩ := HX3.out.c10
  have HPU := Lib.hid (msput_any M q1 w3 HR3.out)
  unfold PutP at HPU
  rw [HXE.out] at HPU
  go_wp2_with fail
  refine HPU.out.mono ?_
  rintro e w5 ⟨v5, rfl, o5⟩
  have o5 : Own w3 w5 v5 X := o5
  obtain ⟨a17, c17, rfl, r5⟩ := o5.row_n HXN.out
  have HB5 := Lib.hid (HB3.out.trans (o5.below.mono HB3.out.size))
  have HX5 := Lib.hid (HX3.out.later o5.below)
  have HY5 := Lib.hid (HY3.out.later o5.below)
  have HR5 := Lib.hid (HR3.out.later o5.below)
  have HS5 := Lib.hid (HS3.out.later o5.below)
  have HA5 := Lib.hid r5
  clear o5 r5 HPU HX3 HR3 HY3 HS3 HB3 y0 y1 y2 y3 y4 y5 y6 y7 y8 y9
  obtain ⟨y0, y1, y2, y3, y4, y5, y6, y7, y8, y9⟩ := HY5.out.c10
  have HPU := Lib.hid (msput_any Y q2 w5 HS5.out)
  unfold PutP at HPU
  rw [HZE.out] at HPU
  go_wp2_with fail
  refine HPU.out.mono ?_
  rintro e w6 ⟨v6, rfl, o6⟩
  have o6 : Own w5 w6 v6 Z := o6
  obtain ⟨a19, c19, rfl, r6⟩ := o6.row_n HYN.out
  have HB6 := Lib.hid (HB5.out.trans (o6.below.mono HB5.out.size))
  have HX6 := Lib.hid (HX5.out.later o6.below)
  have HY6 := Lib.hid (HY5.out.later o6.below)
  have HR6 := Lib.hid (HR5.out.later o6.below)
  have HS6 := Lib.hid (HS5.out.later o6.below)
  have HA6 := Lib.hid (HA5.out.later o6.below)
  have HC6 := Lib.hid r6
  clear o6 r6 HPU HX5 HR5 HY5 HS5 HB5 HA5 y0 y1 y2 y3 y4 y5 y6 y7 y8 y9
  go_upto_region 6 with fail
  have HSS := sbeq_dec X Z
  rw [HAP.out] at HSS
  have HCV1 := fun W (h : Below w6.heap.size w6 W) => conv_row_n (HA6.out.later h) HXN.out
  have HCV2 := fun W (h : Below w6.heap.size w6 W) => conv_row_n (HC6.out.later h) HYN.out
  obtain ⟨S1, hS1⟩ : ∃ S, (⟨X.toArray⟩ : ByteArray) = S := ⟨_, rfl⟩
  obtain ⟨S2, hS2⟩ : ∃ S, (⟨Z.toArray⟩ : ByteArray) = S := ⟨_, rfl⟩
  rw [hS1, hS2] at HSS
  simp only [hS1] at HCV1
  simp only [hS2] at HCV2
  have HSS := Lib.hid HSS
  have HCV1 := Lib.hid HCV1
  have HCV2 := Lib.hid HCV2
  have HSM := Lib.hid (fun W (h : Below w6.heap.size w6 W) => msrsame_any M Y q1 q2 W (HR6.out.later h) (HS6.out.later h))
  rw [HDD.out] at HSM
  clear hS1 hS2
  -- REG 6
  refine wp_region_tab (L := [cV (.int .i64 0), cV (.bool false), cV (.bool false), cV (.int .i64 0), cV (.bool false), cV (.bool false), cV (.bool false), cV (.slice a17 xn c17), cV (.string S1), cV (.slice a19 yn c19), cV (.string S2), cV (.bool DD), cV (.agg #[.int .i64 M.kind, .int .i64 M.nonce, .int .i64 M.pos, .int .i64 M.fin, .int .i64 M.stage, .int .i64 M.num, .slice q1.ac q1.nc q1.cc, .slice q1.ae q1.ne q1.ce, .slice q1.am q1.nm q1.cm, .slice q1.ad q1.nd q1.cd]), cV (.agg #[.int .i64 Y.kind, .int .i64 Y.nonce, .int .i64 Y.pos, .int .i64 Y.fin, .int .i64 Y.stage, .int .i64 Y.num, .slice q2.ac q2.nc q2.cc, .slice q2.ae q2.ne q2.ce, .slice q2.am q2.nm q2.cm, .slice q2.ad q2.nd q2.cd]), cV (.bool DD), cV (.bool false), cV (.bool false)]) [[(18, none)], [(68, some 0)], [(69, some 1)], [(20, none), (70, some 2)], [(71, some 3), (70, some 2)], [(70, some 2), (72, some 4)], [(73, some 5)], [(17, none), (74, some 6)], [(75, some 7), (74, some 6)], [(19, none), (74, some 6)], [(77, some 9), (74, some 6)], [(76, some 8), (78, some 10), (74, some 6)], [(15, none), (74, some 6)], [(16, none), (74, some 6)], [(80, some 12), (81, some 13), (74, some 6)], [(79, some 11), (82, some 14), (74, some 6)], [(74, some 6), (83, some 15)]] 17 122 (by kernel_rfl) rfl rfl (by kernel_rfl) (by kernel_rfl) ?_ ?_
  · show ∀ i, i < 17 → _
    iterate 17 (refine fls ?_ ?_)
    · exact fl0
    · intro a w1 hR hsz hs      -- 0: slot 68
      obtain ⟨h0, _⟩ := hs
      have h0 : a.tmps.getD 18 undef = .int .i64 0 := h0
      refine op_run rfl rfl (v := .int .i64 0) (w' := w1) ?_ rfl (Below.refl _ _)
      simp [execOp, Act.eval, h0, go_sem]
    · intro a w1 hR hsz hs      -- 1: slot 69
      obtain ⟨h0, _⟩ := hs
      have h0 : a.tmps.getD 68 undef = .int .i64 0 := h0
      refine op_run rfl rfl (v := .bool false) (w' := w1) ?_ rfl (Below.refl _ _)
      simp [execOp, Act.eval, h0, go_sem]
    · intro a w1 hR hsz hs      -- 2: slot 70
      obtain ⟨h0, _⟩ := hs
      have h0 : a.tmps.getD 69 undef = .bool false := h0
      refine op_run rfl rfl (v := .bool false) (w' := w1) ?_ rfl (Below.refl _ _)
      simp [execOp, Act.eval, h0, go_sem]
    · intro a w1 hR hsz hs      -- 3: slot 71
      obtain ⟨h0, h1, _⟩ := hs
      have h0 : a.tmps.getD 20 undef = .int .i64 0 := h0
      have h1 : a.tmps.getD 70 undef = .bool false := h1
      refine opg_run rfl rfl rfl (by rw [hsz]; decide) h1 (v := .int .i64 0) (w' := w1) ?_ rfl (Below.refl _ _)
      simp [execOp, Act.eval, h0, go_sem]
    · intro a w1 hR hsz hs      -- 4: slot 72
      obtain ⟨h0, h1, _⟩ := hs
      have h0 : a.tmps.getD 71 undef = .int .i64 0 := h0
      have h1 : a.tmps.getD 70 undef = .bool false := h1
      refine opg_run rfl rfl rfl (by rw [hsz]; decide) h1 (v := .bool false) (w' := w1) ?_ rfl (Below.refl _ _)
      simp [execOp, Act.eval, h0, go_sem]
    · intro a w1 hR hsz hs      -- 5: slot 73
      obtain ⟨h0, h1, _⟩ := hs
      have h0 : a.tmps.getD 70 undef = .bool false := h0
      have h1 : a.tmps.getD 72 undef = .bool false := h1
      refine op_run rfl rfl (v := .bool false) (w' := w1) ?_ rfl (Below.refl _ _)
      simp [execOp, Act.eval, h0, h1, go_sem]
    · intro a w1 hR hsz hs      -- 6: slot 74
      obtain ⟨h0, _⟩ := hs
      have h0 : a.tmps.getD 73 undef = .bool false := h0
      refine op_run rfl rfl (v := .bool false) (w' := w1) ?_ rfl (Below.refl _ _)
      simp [execOp, Act.eval, h0, go_sem]
    · intro a w1 hR hsz hs      -- 7: slot 75
      obtain ⟨h0, h1, _⟩ := hs
      have h0 : a.tmps.getD 17 undef = .slice a17 xn c17 := h0
      have h1 : a.tmps.getD 74 undef = .bool false := h1
      refine opg_run rfl rfl rfl (by rw [hsz]; decide) h1 (v := .slice a17 xn c17) (w' := w1) ?_ rfl (Below.refl _ _)
      simp [execOp, Act.eval, h0, go_sem]
    · intro a w1 hR hsz hs      -- 8: slot 76
      obtain ⟨h0, h1, _⟩ := hs
      have h0 : a.tmps.getD 75 undef = .slice a17 xn c17 := h0
      have h1 : a.tmps.getD 74 undef = .bool false := h1
      have hcv := HCV1.out w1 hR
      refine opg_run rfl rfl rfl (by rw [hsz]; decide) h1 (v := .string S1) (w' := w1) ?_ rfl (Below.refl _ _)
      simp [execOp, Act.eval, h0, hcv, go_sem]
    · intro a w1 hR hsz hs      -- 9: slot 77
      obtain ⟨h0, h1, _⟩ := hs
      have h0 : a.tmps.getD 19 undef = .slice a19 yn c19 := h0
      have h1 : a.tmps.getD 74 undef = .bool false := h1
      refine opg_run rfl rfl rfl (by rw [hsz]; decide) h1 (v := .slice a19 yn c19) (w' := w1) ?_ rfl (Below.refl _ _)
      simp [execOp, Act.eval, h0, go_sem]
    · intro a w1 hR hsz hs      -- 10: slot 78
      obtain ⟨h0, h1, _⟩ := hs
      have h0 : a.tmps.getD 77 undef = .slice a19 yn c19 := h0
      have h1 : a.tmps.getD 74 undef = .bool false := h1
      have hcv := HCV2.out w1 hR
      refine opg_run rfl rfl rfl (by rw [hsz]; decide) h1 (v := .string S2) (w' := w1) ?_ rfl (Below.refl _ _)
      simp [execOp, Act.eval, h0, hcv, go_sem]
    · intro a w1 hR hsz hs      -- 11: slot 79
      obtain ⟨h0, h1, h2, _⟩ := hs
      have h0 : a.tmps.getD 76 undef = .string S1 := h0
      have h1 : a.tmps.getD 78 undef = .string S2 := h1
      have h2 : a.tmps.getD 74 undef = .bool false := h2
      have k0 := HSS.out
      refine opg_run rfl rfl rfl (by rw [hsz]; decide) h2 (v := .bool DD) (w' := w1) ?_ rfl (Below.refl _ _)
      simp [execOp, Act.eval, h0, h1, k0, go_sem]
    · intro a w1 hR hsz hs      -- 12: slot 80
      obtain ⟨h0, h1, _⟩ := hs
      have h0 : a.tmps.getD 15 undef = .pointer (some ⟨P15, 0, none⟩) := h0
      have h1 : a.tmps.getD 74 undef = .bool false := h1
      obtain ⟨x0, x1, x2, x3, x4, x5, x6, x7, x8, x9⟩ := (HX6.out.later hR).c10
      refine opg_run rfl rfl rfl (by rw [hsz]; decide) h1 (v := .agg #[.int .i64 M.kind, .int .i64 M.nonce, .int .i64 M.pos, .int .i64 M.fin, .int .i64 M.stage, .int .i64 M.num, .slice q1.ac q1.nc q1.cc, .slice q1.ae q1.ne q1.ce, .slice q1.am q1.nm q1.cm, .slice q1.ad q1.nd q1.cd]) (w' := w1) ?_ rfl (Below.refl _ _)
      simp [execOp, Act.eval, h0, x0, x1, x2, x3, x4, x5, x6, x7, x8, x9, go_sem]
    · intro a w1 hR hsz hs      -- 13: slot 81
      obtain ⟨h0, h1, _⟩ := hs
      have h0 : a.tmps.getD 16 undef = .pointer (some ⟨P16, 0, none⟩) := h0
      have h1 : a.tmps.getD 74 undef = .bool false := h1
      obtain ⟨x0, x1, x2, x3, x4, x5, x6, x7, x8, x9⟩ := (HY6.out.later hR).c10
      refine opg_run rfl rfl rfl (by rw [hsz]; decide) h1 (v := .agg #[.int .i64 Y.kind, .int .i64 Y.nonce, .int .i64 Y.pos, .int .i64 Y.fin, .int .i64 Y.stage, .int .i64 Y.num, .slice q2.ac q2.nc q2.cc, .slice q2.ae q2.ne q2.ce, .slice q2.am q2.nm q2.cm, .slice q2.ad q2.nd q2.cd]) (w' := w1) ?_ rfl (Below.refl _ _)
      simp [execOp, Act.eval, h0, x0, x1, x2, x3, x4, x5, x6, x7, x8, x9, go_sem]
    · intro a w1 hR hsz hs      -- 14: slot 82
      obtain ⟨h0, h1, h2, _⟩ := hs
      have h0 : a.tmps.getD 80 undef = .agg #[.int .i64 M.kind, .int .i64 M.nonce, .int .i64 M.pos, .int .i64 M.fin, .int .i64 M.stage, .int .i64 M.num, .slice q1.ac q1.nc q1.cc, .slice q1.ae q1.ne q1.ce, .slice q1.am q1.nm q1.cm, .slice q1.ad q1.nd q1.cd] := h0
      have h1 : a.tmps.getD 81 undef = .agg #[.int .i64 Y.kind, .int .i64 Y.nonce, .int .i64 Y.pos, .int .i64 Y.fin, .int .i64 Y.stage, .int .i64 Y.num, .slice q2.ac q2.nc q2.cc, .slice q2.ae q2.ne q2.ce, .slice q2.am q2.nm q2.cm, .slice q2.ad q2.nd q2.cd] := h1
      have h2 : a.tmps.getD 74 undef = .bool false := h2
      refine opg_call rfl rfl rfl (by rw [hsz]; decide) h2 (f := 14) (args := #[.agg #[.int .i64 M.kind, .int .i64 M.nonce, .int .i64 M.pos, .int .i64 M.fin, .int .i64 M.stage, .int .i64 M.num, .slice q1.ac q1.nc q1.cc, .slice q1.ae q1.ne q1.ce, .slice q1.am q1.nm q1.cm, .slice q1.ad q1.nd q1.cd], .agg #[.int .i64 Y.kind, .int .i64 Y.nonce, .int .i64 Y.pos, .int .i64 Y.fin, .int .i64 Y.stage, .int .i64 Y.num, .slice q2.ac q2.nc q2.cc, .slice q2.ae q2.ne q2.ce, .slice q2.am q2.nm q2.cm, .slice q2.ad q2.nd q2.cd]]) (by simp [execOp, Act.eval, resolve, h0, h1, go_sem]) ?_
      exact calls_c (HSM.out w1 hR)
    · intro a w1 hR hsz hs      -- 15: slot 83
      obtain ⟨h0, h1, h2, _⟩ := hs
      have h0 : a.tmps.getD 79 undef = .bool DD := h0
      have h1 : a.tmps.getD 82 undef = .bool DD := h1
      have h2 : a.tmps.getD 74 undef = .bool false := h2
      refine opg_run rfl rfl rfl (by rw [hsz]; decide) h2 (v := .bool false) (w' := w1) ?_ rfl (Below.refl _ _)
      simp [execOp, Act.eval, h0, h1, go_sem]
    · intro a w1 hR hsz hs      -- 16: slot 84
      obtain ⟨h0, h1, _⟩ := hs
      have h0 : a.tmps.getD 74 undef = .bool false := h0
      have h1 : a.tmps.getD 83 undef = .bool false := h1
      refine op_run rfl rfl (v := .bool false) (w' := w1) ?_ rfl (Below.refl _ _)
      simp [execOp, Act.eval, h0, h1, go_sem]
  intro f w1 hR hv
  have e84 : f 84 = .bool false := hv 16 _ 84 rfl rfl
  clear hv
  try simp only [Exit.then]
  simp only [putAll, List.foldl_cons, List.foldl_nil, Option.getD_some, Act.put, List.setIfInBounds_toArray, List.set_cons_succ, List.set_cons_zero]
  rw [e84]
  -- END 6
  have HB7 := Lib.hid (HB6.out.trans (hR.mono HB6.out.size))
  have HBR7 := Lib.hid (HBR.out.later HB7.out)
  clear HX6 HY6 HR6 HS6 HA6 HC6 HSS HCV1 HCV2 HSM HDD HAP HXE HZE HXN HYN HB6 e84
  go_wp2_with fail
  refine (rseal_any ab nb cb bl w1 HBR7.out HBL.out (by omega)).mono ?_
  rintro e w8 ⟨v8, rfl, o8⟩
  obtain ⟨sn, hsn⟩ : ∃ k, (sealL bl).length = k := ⟨_, rfl⟩
  have hsn4 : sn ≤ 204 := by rw [← hsn, sealL_len, HBL.out]; omega
  obtain ⟨a21, c21, rfl, r8⟩ := o8.row_n hsn
  have HR8 := Lib.hid r8
  have HSN := Lib.hid hsn
  have HB8 := Lib.hid (HB7.out.trans (o8.below.mono HB7.out.size))
  clear o8 r8 hsn HB7 HBR7
  obtain ⟨G, eg, hG⟩ : ∃ G eg, getMs (sealL bl) = (G, eg) := ⟨_, _, rfl⟩
  have HGP := Lib.hid (got_put hG)
  have HGE := Lib.hid (msget_any a21 sn c21 (sealL bl) w8 HR8.out HSN.out (by omega))
  unfold MsGot at HGE
  rw [hG] at HGE
  clear hG
  obtain ⟨SB, hSB⟩ : ∃ S, sealL bl = S := ⟨_, rfl⟩
  rw [hSB] at HGP HR8 HSN
  clear hSB
  go_wp2_with fail
  refine HGE.out.mono ?_
  rintro e w9 ⟨q9, rfl, r9, b9⟩
  have hba : Below w9.heap.size w9 (w9.alloc (.cells (msC G q9) 27)) := (Below.refl _ _).alloc (Nat.le_refl _) _
  have HX10 := Lib.hid (RecAt.new w9 (msC G q9) 27)
  have hb10 := b9.trans (hba.mono b9.size)
  have HB10 := Lib.hid (HB8.out.trans (hb10.mono HB8.out.size))
  have HR10 := Lib.hid (HR8.out.later hb10)
  have HGR10 := Lib.hid (r9.later hba)
  clear hba hb10 r9 b9 HGE HR8 HB8
  go_upto_region 10 with fail
  generalize (w9.alloc (.cells (msC G q9) 27)) = w10 at *
  obtain ⟨P22, hP22⟩ : ∃ P, w9.heap.size = P := ⟨_, rfl⟩
  rw [hP22] at HX10
  rw [hP22]
  clear hP22
  rcases HGP.out with ⟨rfl, hpg⟩ | ⟨hk, rfl⟩
  · have HPG := Lib.hid hpg
    clear hpg HGP
    obtain ⟨y0, y1, y2, y3, y4, y5, y6, y7, y8, y9⟩ := HX10.out.c10
    have HPU := Lib.hid (msput_any G q9 w10 HGR10.out)
    unfold PutP at HPU
    rw [HPG.out] at HPU
    go_wp2_with fail
    refine HPU.out.mono ?_
    rintro e w11 ⟨v11, rfl, o11⟩
    have o11 : Own w10 w11 v11 SB := o11
    obtain ⟨a24, c24, rfl, r11⟩ := o11.row_n HSN.out
    have q1' := conv_row_n r11 HSN.out
    have q2' := conv_row_n (HR10.out.later o11.below) HSN.out
    have HB11 := Lib.hid (HB10.out.trans (o11.below.mono HB10.out.size))
    clear o11 r11 HPU y0 y1 y2 y3 y4 y5 y6 y7 y8 y9
    go_wp2_with (go_at_call 8; refine (knownMs_any _).mono ?_; rintro y w14 ⟨rfl, hb14⟩)
    go_ret
    exact ⟨rfl, HB11.out.trans (hb14.mono HB11.out.size)⟩
  · have hk1 : (eg != 0) = true := by simpa using hk
    obtain ⟨y0, y1, y2, y3, y4, y5, y6, y7, y8, y9⟩ := HX10.out.c10
    simp only [noMs] at y0 y1
    go_wp2_with (go_at_call 8; refine (knownMs_any _).mono ?_; rintro y w14 ⟨rfl, hb14⟩)
    go_ret
    exact ⟨rfl, HB10.out.trans (hb14.mono HB10.out.size)⟩
theorem msgOne_walk (kd ot : Int) (ad : Option Addr) (n c : Nat) (zs : List Int) (ao : Option Addr) (no co : Nat) (zo : List Int) (ap : Option Addr) (np cp : Nat) (pl : List UInt8) (aq : Option Addr) (nq cq : Nat) (ql : List UInt8) (ab : Option Addr) (nb cb : Nat) (bl : List UInt8) (w : World)
    (hr : ZRow w ad c zs) (hn : zs.length = n) (hr' : ZRow w ao co zo) (hn' : zo.length = no) (hp : Row w ap cp pl) (hpl : pl.length = np) (hq : Row w aq cq ql) (hql : ql.length = nq) (hbr : Row w ab cb bl) (hbl : bl.length = nb) :
    Calls Try.prog 6 #[.int .i64 kd, .int .i64 ot, .slice ad n c, .slice ao no co, .slice ap np cp, .slice aq nq cq, .slice ab nb cb] w fun x w' => x = .returned (.bool true) ∧ Below w.heap.size w w' := by
  by_cases hb : 40 < n ∨ 40 < no ∨ 200 < np ∨ 200 < nq ∨ 200 < nb
  · exact msgOne_known kd ot ad n c ao no co ap np cp aq nq cq ab nb cb w hb
  · exact msgOne_main kd ot ad n c zs ao no co zo ap np cp pl aq nq cq ql ab nb cb bl w hr hn (by omega) hr' hn' (by omega) hp hpl (by omega) hq hql (by omega) hbr hbl (by omega)
end Go.Proofs.Ytiahifpbofkimaa
