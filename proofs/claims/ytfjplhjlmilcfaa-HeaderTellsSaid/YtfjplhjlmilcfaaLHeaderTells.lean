/- The law 'HeaderTells', walked. -/
import Derived.Test.YtfjplhjlmilcfaaHdO
import Derived.Test.YtfjplhjlmilcfaaHdLaw
import Derived.Test.YtfjplhjlmilcfaaHdR
import Derived.Test.YtfjplhjlmilcfaaFree
import Derived.Lib.MinMax
namespace Go.Proofs.Ytfjplhjlmilcfaa
open Go.RowKit Go.Proofs
set_option linter.unusedVariables false
set_option linter.unusedSimpArgs false
set_option linter.unnecessarySimpa false

theorem mk_same8 (w : World) (t : Mk) : (binOp .eql 39 (mkA t) (mkA t)).run Try.prog w = .ok (.bool true) w := by
  have := mk_eql w t t
  simpa using this
def gM (W0 : World) (rs : List Mk) : SV := ⟨fun w v => MOwn W0 w v rs, fun w w' v h hb => h.later hb⟩
theorem gm_of {W0 w : World} {rs : List Mk} {f : FuncId} {args : Array Value} (h : Calls Try.prog f args w fun e w' => ∃ v, e = .returned v ∧ MOwn w w' v rs) (hb : Below W0.heap.size W0 w) :
    Calls Try.prog f args w fun e w' => ∃ v, e = .returned v ∧ (gM W0 rs).p w' v ∧ Below w.heap.size w w' :=
  h.mono fun e w' ⟨v, h, o⟩ => ⟨_, h, o.back hb, o.below⟩
theorem msame_refl (a1 a2 : Option Addr) (n c1 c2 : Nat) (ts : List Mk) (w : World) (h1 : MRow w a1 c1 ts) (h2 : MRow w a2 c2 ts) (hn : ts.length = n) :
    Calls Try.prog 21 #[.slice a1 n c1, .slice a2 n c2] w fun e w' => e = .returned (.bool true) ∧ Below w.heap.size w w' := by
  have := msame_any a1 a2 n n c1 c2 ts ts w h1 h2 hn hn
  simpa using this
set_option maxRecDepth 100000 in
set_option maxHeartbeats 6400000 in
theorem headerTells_known (h : Hd) (am : Option Addr) (N ch : Nat) (ab : Option Addr) (nb cb : Nat) (nm : ByteArray) (sl : Bool) (w : World) (hr : MRow w am ch h.marks) (hn : h.marks.length = N) (hb : ¬ FewM h.marks ∨ 300 < nb ∨ 60 < nm.size) :
    Calls Try.prog 3 #[hdA h am N ch, .slice ab nb cb, .string nm, .bool sl] w fun x w' => x = .returned (.bool true) ∧ Below w.heap.size w w' := by
  obtain ⟨m, hm⟩ : ∃ m, nm.size = m := ⟨_, rfl⟩
  rw [hm] at hb
  obtain ⟨hs, ho, hu, hc, hx, hq, ms⟩ := h
  simp only at hr hn hb ⊢
  have hba : Below w.heap.size w (w.alloc (.cells #[.int .i64 hs, .int .i64 ho, .int .i64 hu, .int .i64 hc, .int .i64 hx, .int .i64 hq, .slice am N ch] 26)) := (Below.refl _ _).alloc (Nat.le_refl _) _
  have HB0 := Lib.hid hba
  have HX0 := Lib.hid (RecAt.new w #[.int .i64 hs, .int .i64 ho, .int .i64 hu, .int .i64 hc, .int .i64 hx, .int .i64 hq, .slice am N ch] 26)
  have HFW := Lib.hid (fewH_any ⟨hs, ho, hu, hc, hx, hq, ms⟩ am N ch _ (hr.later hba) hn)
  obtain ⟨F, hF⟩ : ∃ F, bP (FewM ms) = F := ⟨_, rfl⟩
  have hcase : F = false ∨ (F = true ∧ 300 < (nb : Int)) ∨ (F = true ∧ decide (300 < (nb : Int)) = false ∧ 60 < (m : Int)) := by
    by_cases hf : FewM ms
    · rw [bP_yes hf] at hF
      rcases hb with h | h
      · exact (h hf).elim
      · by_cases h3 : 300 < nb
        · exact .inr (.inl ⟨hF.symm, by omega⟩)
        · exact .inr (.inr ⟨hF.symm, by simp; omega, by omega⟩)
    · exact .inl (by rw [← hF]; exact bP_no hf)
  simp only at HFW
  rw [hF] at HFW
  clear hr hn hb hba hF
  rcases hcase with rfl | ⟨rfl, h2⟩ | ⟨rfl, h1, h2⟩
  all_goals
    go_enter Try.func3, Try.ntmps3
    go_upto_region 1 with fail
    generalize (w.alloc (.cells #[.int .i64 hs, .int .i64 ho, .int .i64 hu, .int .i64 hc, .int .i64 hx, .int .i64 hq, .slice am N ch] 26)) = w1 at *
    obtain ⟨y0, y1, y2, y3, y4, y5, y6⟩ := HX0.out.c7
    go_wp2_with (first | (go_at_call 7; refine HFW.out.mono ?_; rintro e w2 ⟨rfl, hb2⟩) | (go_at_call 8; refine (knownH_any _).mono ?_; rintro y w3 ⟨rfl, hb3⟩))
    go_ret
    exact ⟨rfl, HB0.out.trans ((hb2.trans (hb3.mono hb2.size)).mono HB0.out.size)⟩
set_option maxRecDepth 100000 in
set_option maxHeartbeats 25600000 in
theorem headerTells_main (h : Hd) (am : Option Addr) (N ch : Nat) (ab : Option Addr) (nb cb : Nat) (l : List UInt8) (nm : ByteArray) (sl : Bool) (w : World) (hr : MRow w am ch h.marks) (hn : h.marks.length = N) (hl : Row w ab cb l) (hln : l.length = nb) (hb1 : FewM h.marks) (hb2 : nb ≤ 300) (hb3 : nm.size ≤ 60) :
    Calls Try.prog 3 #[hdA h am N ch, .slice ab nb cb, .string nm, .bool sl] w fun x w' => x = .returned (.bool true) ∧ Below w.heap.size w w' := by
  obtain ⟨m, hm⟩ : ∃ m, nm.size = m := ⟨_, rfl⟩
  have hd1 : decide (300 < (nb : Int)) = false := by simp; omega
  have hd2 : decide (60 < (m : Int)) = false := by simp; omega
  have hN : N ≤ 40 := by rw [← hn]; exact hb1.2
  have hcn := hr.1
  rw [hn] at hcn
  have hcm : ch ≤ 9223372036854775807 := by have := hr.2.1; unfold maxLen at this; omega
  obtain ⟨hs, ho, hu, hc, hx, hq, ms⟩ := h
  simp only at hr hn hb1 ⊢
  have HNN := Lib.hid hn
  have HR0 := Lib.hid hr
  have HL0 := Lib.hid hl
  have HLN := Lib.hid hln
  have hba : Below w.heap.size w (w.alloc (.cells #[.int .i64 hs, .int .i64 ho, .int .i64 hu, .int .i64 hc, .int .i64 hx, .int .i64 hq, .slice am N ch] 26)) := (Below.refl _ _).alloc (Nat.le_refl _) _
  have HB0 := Lib.hid hba
  have HX0 := Lib.hid (RecAt.new w #[.int .i64 hs, .int .i64 ho, .int .i64 hu, .int .i64 hc, .int .i64 hx, .int .i64 hq, .slice am N ch] 26)
  have HFW := Lib.hid (fewH_any ⟨hs, ho, hu, hc, hx, hq, ms⟩ am N ch _ (hr.later hba) hn)
  simp only at HFW
  rw [bP_yes hb1] at HFW
  clear hr hn hl hln hb1 hba
  go_enter Try.func3, Try.ntmps3
  go_upto_region 1 with fail
  obtain ⟨w1, hw1⟩ : ∃ W, (w.alloc (.cells #[.int .i64 hs, .int .i64 ho, .int .i64 hu, .int .i64 hc, .int .i64 hx, .int .i64 hq, .slice am N ch] 26)) = W := ⟨_, rfl⟩
  rw [hw1] at HB0 HX0 HFW ⊢
  clear hw1
  obtain ⟨P4, hP4⟩ : ∃ P, w.heap.size = P := ⟨_, rfl⟩
  rw [hP4] at HX0
  rw [hP4]
  clear hP4
  obtain ⟨y0, y1, y2, y3, y4, y5, y6⟩ := HX0.out.c7
  go_upto_region 3 with (go_at_call 7; refine HFW.out.mono ?_; rintro e w2 ⟨rfl, hb2⟩)
  have HB2 := Lib.hid (HB0.out.trans (hb2.mono HB0.out.size))
  have HX2 := Lib.hid (HX0.out.later hb2)
  clear hb2 hd1 hd2 HFW y0 y1 y2 y3 y4 y5 y6
  go_upto_if 39 with fail
  go_cut [1] (fun bv wx => ∃ (a1 : Option Addr) (n1 c1 : Nat) (p : List UInt8), bv = .slice a1 n1 c1 ∧ n1 ≤ 304 ∧ Hid (Row wx a1 c1 p) ∧ Hid (p.length = n1) ∧ Hid (Below w2.heap.size w2 wx))
  case first =>
    cases sl with
    | false =>
      go_wp2_with fail
      go_meet
      exact ⟨ab, nb, cb, l, rfl, by omega, Lib.hid (HL0.out.later HB2.out), HLN, Lib.hid (Below.refl _ _)⟩
    | true =>
      go_wp2_with fail
      refine (rseal_any ab nb cb l w2 (HL0.out.later HB2.out) HLN.out (by omega)).mono ?_
      rintro e w3 ⟨v3, rfl, o3⟩
      obtain ⟨n3, hn3⟩ : ∃ k, (sealL l).length = k := ⟨_, rfl⟩
      have hn4 : n3 ≤ 304 := by rw [← hn3, sealL_len, HLN.out]; omega
      obtain ⟨a3, c3, rfl, r3⟩ := o3.row_n hn3
      have HR3 := Lib.hid r3
      have HB3 := Lib.hid o3.below
      have HN3 := Lib.hid hn3
      clear o3 r3 hn3
      go_wp2_with fail
      go_meet
      exact ⟨a3, n3, c3, _, rfl, hn4, HR3, HN3, HB3⟩
  case rest =>
  obtain ⟨ab, nb, cb, p, rfl, hn1, HP3, HPN, HBx⟩ := hcut
  obtain ⟨w3, hw3⟩ : ∃ W, W = wc := ⟨_, rfl⟩
  subst hw3
  have HB3 := Lib.hid (HB2.out.trans (HBx.out.mono HB2.out.size))
  have HX3 := Lib.hid (HX2.out.later HBx.out)
  have HR3 := Lib.hid (HR0.out.later HB3.out)
  clear HBx HX2 HX0 HB2 HB0 HL0 HLN
  obtain ⟨X, ex, hX⟩ : ∃ X er, putHd ⟨hs, ho, hu, hc, hx, hq, ms⟩ = (X, er) := ⟨_, _, rfl⟩
  obtain ⟨xn, hxn⟩ : ∃ n, X.length = n := ⟨_, rfl⟩
  obtain ⟨G, eg, hG⟩ : ∃ G eg, getHd p = (G, eg) := ⟨_, _, rfl⟩
  obtain ⟨K, hK⟩ : ∃ n, G.marks.length = n := ⟨_, rfl⟩
  have HX := Lib.hid hX
  have HXN := Lib.hid hxn
  have HG := Lib.hid hG
  have HK := Lib.hid hK
  clear hX hxn hG hK
  obtain ⟨y0, y1, y2, y3, y4, y5, y6⟩ := HX3.out.c7
  have HPU := Lib.hid (putH_any ⟨hs, ho, hu, hc, hx, hq, ms⟩ am N ch w3 HR3.out HNN.out)
  rw [HX.out] at HPU
  go_wp2_with fail
  refine HPU.out.mono ?_
  rintro e w5 ⟨v5, rfl, o5⟩
  have o5 : Own w3 w5 v5 X := o5
  obtain ⟨a9, c9, rfl, r5⟩ := o5.row_n HXN.out
  have HB5 := Lib.hid (HB3.out.trans (o5.below.mono HB3.out.size))
  have HX5 := Lib.hid (HX3.out.later o5.below)
  have HR5 := Lib.hid (HR3.out.later o5.below)
  have HP5 := Lib.hid (HP3.out.later o5.below)
  have HA5 := Lib.hid r5
  clear o5 r5 HPU HX3 HR3 HP3 HB3 y0 y1 y2 y3 y4 y5 y6
  obtain ⟨y0, y1, y2, y3, y4, y5, y6⟩ := HX5.out.c7
  have HPU := Lib.hid (rputH_any ⟨hs, ho, hu, hc, hx, hq, ms⟩ am N ch w5 HR5.out HNN.out)
  rw [HX.out] at HPU
  go_wp2_with fail
  refine HPU.out.mono ?_
  rintro e w6 ⟨v6, rfl, o6⟩
  have o6 : Own w5 w6 v6 X := o6
  obtain ⟨a11, c11, rfl, r6⟩ := o6.row_n HXN.out
  have HB6 := Lib.hid (HB5.out.trans (o6.below.mono HB5.out.size))
  have HX6 := Lib.hid (HX5.out.later o6.below)
  have HR6 := Lib.hid (HR5.out.later o6.below)
  have HP6 := Lib.hid (HP5.out.later o6.below)
  have HA6 := Lib.hid (HA5.out.later o6.below)
  have HC6 := Lib.hid r6
  clear o6 r6 HPU HX5 HR5 HP5 HB5 HA5 y0 y1 y2 y3 y4 y5 y6
  go_wp2_with fail
  refine (getH_any ab nb cb p w6 HP6.out HPN.out (by omega)).mono ?_
  intro e w7 hg
  obtain ⟨ag, cg, rfl, o7⟩ := hgot_is HG.out HK.out hg
  obtain ⟨_, _, ev, r7⟩ := o7.row_n mkOk HK.out
  cases ev
  obtain ⟨gs, go, gu, gc, gx, gq, us⟩ := G
  simp only at HK r7 o7 ⊢
  have hba : Below w7.heap.size w7 (w7.alloc (.cells #[.int .i64 gs, .int .i64 go, .int .i64 gu, .int .i64 gc, .int .i64 gx, .int .i64 gq, .slice ag K cg] 26)) := (Below.refl _ _).alloc (Nat.le_refl _) _
  have HX138 := Lib.hid (RecAt.new w7 #[.int .i64 gs, .int .i64 go, .int .i64 gu, .int .i64 gc, .int .i64 gx, .int .i64 gq, .slice ag K cg] 26)
  have hb8 := o7.below.trans (hba.mono o7.below.size)
  have HB8 := Lib.hid (HB6.out.trans (hb8.mono HB6.out.size))
  have HX8 := Lib.hid (HX6.out.later hb8)
  have HR8 := Lib.hid (HR6.out.later hb8)
  have HP8 := Lib.hid (HP6.out.later hb8)
  have HA8 := Lib.hid (HA6.out.later hb8)
  have HC8 := Lib.hid (HC6.out.later hb8)
  have HG8 := Lib.hid (r7.later hba)
  clear hba hb8 hg o7 r7 HX6 HR6 HP6 HA6 HC6 HB6
  go_upto_region 8 with fail
  generalize (w7.alloc (.cells #[.int .i64 gs, .int .i64 go, .int .i64 gu, .int .i64 gc, .int .i64 gx, .int .i64 gq, .slice ag K cg] 26)) = w8 at *
  generalize w7.heap.size = P13 at *
  go_wp2_with fail
  refine (rgetH_any ab nb cb p w8 HP8.out HPN.out (by omega)).mono ?_
  intro e w9 hg
  obtain ⟨aq, cq, rfl, o9⟩ := hgot_is HG.out HK.out hg
  obtain ⟨_, _, ev, r9⟩ := o9.row_n mkOk HK.out
  cases ev
  have hba : Below w9.heap.size w9 (w9.alloc (.cells #[.int .i64 gs, .int .i64 go, .int .i64 gu, .int .i64 gc, .int .i64 gx, .int .i64 gq, .slice aq K cq] 26)) := (Below.refl _ _).alloc (Nat.le_refl _) _
  have HX1510 := Lib.hid (RecAt.new w9 #[.int .i64 gs, .int .i64 go, .int .i64 gu, .int .i64 gc, .int .i64 gx, .int .i64 gq, .slice aq K cq] 26)
  have hb10 := o9.below.trans (hba.mono o9.below.size)
  have HB10 := Lib.hid (HB8.out.trans (hb10.mono HB8.out.size))
  have HX10 := Lib.hid (HX8.out.later hb10)
  have HR10 := Lib.hid (HR8.out.later hb10)
  have HA10 := Lib.hid (HA8.out.later hb10)
  have HC10 := Lib.hid (HC8.out.later hb10)
  have HG10 := Lib.hid (HG8.out.later hb10)
  have HX1310 := Lib.hid (HX138.out.later hb10)
  have HQ10 := Lib.hid (GRow.later r9 hba)
  clear hba hb10 hg o9 r9 HX8 HR8 HP8 HA8 HC8 HG8 HX138 HB8
  go_upto_region 9 with fail
  generalize (w9.alloc (.cells #[.int .i64 gs, .int .i64 go, .int .i64 gu, .int .i64 gc, .int .i64 gx, .int .i64 gq, .slice aq K cq] 26)) = w10 at *
  generalize w9.heap.size = P15 at *
  obtain ⟨y0, y1, y2, y3, y4, y5, y6⟩ := HX1310.out.c7
  obtain ⟨z0, z1, z2, z3, z4, z5, z6⟩ := HX1510.out.c7
  have q1 := conv_row_n HA10.out HXN.out
  have q2 := conv_row_n HC10.out HXN.out
  have HSM := Lib.hid (rsame_hd ⟨gs, go, gu, gc, gx, gq, us⟩ ⟨gs, go, gu, gc, gx, gq, us⟩ ag aq K K cg cq w10 HG10.out HQ10.out HK.out HK.out)
  rw [show decide ((⟨gs, go, gu, gc, gx, gq, us⟩ : Hd) = ⟨gs, go, gu, gc, gx, gq, us⟩) = true from by simp] at HSM
  have z1' : (ex != ex) = false := by simp
  have z2' : (eg != eg) = false := by simp
  go_upto_region 11 with (go_at_call 14; refine HSM.out.mono ?_; rintro e w11 ⟨rfl, hb11⟩)
  have HB11 := Lib.hid (HB10.out.trans (hb11.mono HB10.out.size))
  have HX11 := Lib.hid (HX10.out.later hb11)
  have HR11 := Lib.hid (HR10.out.later hb11)
  have HG11 := Lib.hid (HG10.out.later hb11)
  have HX1311 := Lib.hid (HX1310.out.later hb11)
  clear hb11 q1 q2 HSM z1' z2' y0 y1 y2 y3 y4 y5 y6 z0 z1 z2 z3 z4 z5 z6 HX10 HR10 HA10 HC10 HG10 HX1310 HX1510 HQ10 HB10
  obtain ⟨y0, y1, y2, y3, y4, y5, y6⟩ := HX11.out.c7
  have HSE := Lib.hid (rseen_any ⟨hs, ho, hu, hc, hx, hq, ms⟩ am N ch w11 HR11.out HNN.out (by omega))
  go_wp2_with fail
  refine HSE.out.mono ?_
  rintro e w12 ⟨v12, rfl, o12⟩
  have o12 : MOwn w11 w12 v12 (seenL ms) := o12
  obtain ⟨M, hM⟩ : ∃ M, (seenL ms).length = M := ⟨_, rfl⟩
  have HML := Lib.hid hM
  have hM40 : M ≤ 40 := by rw [← hM]; exact Nat.le_trans (seenL_le _) (by have := HNN.out; omega)
  obtain ⟨a17, c17, rfl, r12⟩ := o12.row_n mkOk hM
  have hc17 : M ≤ c17 := by have := r12.1; omega
  have hc17m : c17 ≤ 9223372036854775807 := by have := r12.2.1; unfold maxLen at this; omega
  have HB12 := Lib.hid (HB11.out.trans (o12.below.mono HB11.out.size))
  have HX12 := Lib.hid (HX11.out.later o12.below)
  have HR12 := Lib.hid (HR11.out.later o12.below)
  have HG12 := Lib.hid (HG11.out.later o12.below)
  have HX1312 := Lib.hid (HX1311.out.later o12.below)
  have HS12 := Lib.hid r12
  clear o12 r12 hM HSE y0 y1 y2 y3 y4 y5 y6 HX11 HR11 HG11 HX1311 HB11
  obtain ⟨y0, y1, y2, y3, y4, y5, y6⟩ := HX12.out.c7
  obtain ⟨t, tb, hT⟩ : ∃ t b, foundM ms nm = (t, b) := ⟨_, _, rfl⟩
  have HT := Lib.hid hT
  clear hT
  have HFI := findH_any ⟨hs, ho, hu, hc, hx, hq, ms⟩ nm am N ch w12 HR12.out HNN.out
  simp only at HFI
  rw [HT.out] at HFI
  have HFI := Lib.hid HFI
  obtain ⟨ti, tn, tz, tg⟩ := t
  go_wp2_with fail
  refine HFI.out.mono ?_
  rintro e w13 ⟨rfl, hb13⟩
  simp only
  have hba : Below w13.heap.size w13 (w13.alloc (.cells #[.int .i64 ti, .string tn, .int .i64 tz, .bool tg] 39)) := (Below.refl _ _).alloc (Nat.le_refl _) _
  have hb14 := hb13.trans (hba.mono hb13.size)
  have HM1814 := Lib.hid (RecAt.new w13 #[.int .i64 ti, .string tn, .int .i64 tz, .bool tg] 39)
  have HB14 := Lib.hid (HB12.out.trans (hb14.mono HB12.out.size))
  have HX14 := Lib.hid (HX12.out.later hb14)
  have HR14 := Lib.hid (HR12.out.later hb14)
  have HG14 := Lib.hid (HG12.out.later hb14)
  have HX1314 := Lib.hid (HX1312.out.later hb14)
  have HS14 := Lib.hid (HS12.out.later hb14)
  clear hba hb13 hb14 HFI y0 y1 y2 y3 y4 y5 y6 HX12 HR12 HG12 HX1312 HS12 HB12
  go_upto_region 13 with fail
  generalize (w13.alloc (.cells #[.int .i64 ti, .string tn, .int .i64 tz, .bool tg] 39)) = w14 at *
  generalize w13.heap.size = P18 at *
  have hba : Below w14.heap.size w14 (w14.alloc (.cells zeroMk 39)) := (Below.refl _ _).alloc (Nat.le_refl _) _
  have HM2015 := Lib.hid (RecAt.new w14 zeroMk 39)
  have HBB := Lib.hid hba
  clear hba
  go_upto_region 14 with fail
  generalize (w14.alloc (.cells zeroMk 39)) = w15 at *
  obtain ⟨P20, hP20⟩ : ∃ P, w14.heap.size = P := ⟨_, rfl⟩
  have HP20 := Lib.hid hP20
  rw [hP20]
  rw [hP20] at HM2015
  clear hP20
  go_wp2_with fail
  go_loopw [21, 23] (fun bv kv wr => ∃ (j : Nat) (qi : Int) (qn : ByteArray) (qz : Int) (qg b : Bool), kv = .int .i64 ((j : Int) - 1) ∧ bv = .bool b ∧ j ≤ M ∧ Hid (findS ((seenL ms).drop j) nm = (⟨qi, qn, qz, qg⟩, b)) ∧ Hid (Below w14.heap.size w14 wr) ∧ Hid (RecAt wr P20 #[.int .i64 qi, .string qn, .int .i64 qz, .bool qg] 39)) (fun _ kv _ => (intOf kv + 1).toNat)
  case atStart => exact ⟨M, 0, ⟨#[]⟩, 0, false, false, rfl, rfl, by omega, Lib.hid (by rw [List.drop_of_length_le (by have := HML.out; omega)]; rfl), HBB, HM2015⟩
  case round =>
    clear HBB HM2015
    obtain ⟨j, qi, qn, qz, qg, b, rfl, rfl, hj, HF, HBB, HM20⟩ := hrel
    cases j with
    | succ j' =>
      have e1 : ((j' + 1 : Nat) : Int) - 1 = j' := by omega
      rw [e1]
      obtain ⟨t, ht⟩ : ∃ t, (seenL ms)[j']? = some t := ⟨(seenL ms)[j']'(by have := HML.out; omega), List.getElem?_eq_getElem _⟩
      obtain ⟨b0, o0, rfl, p0, p1, p2, p3⟩ := (HS14.out.later HBB.out).c4 ht
      have HFD := Lib.hid (findS_drop ht nm)
      clear ht e1
      obtain ⟨ui, un, uz, ug⟩ := t
      simp only at p0 p1 p2 p3 HFD
      by_cases he : un = nm
      · have hd2 : (un.toList == nm.toList) = true := (sbeq_iff _ _).2 he
        have HF2 : Hid (findS ((seenL ms).drop j') nm = (⟨ui, un, uz, ug⟩, true)) := Lib.hid (by rw [HFD.out, if_pos he])
        clear he
        go_wp2_with (refine wpList_rec rfl rfl P20 #[.int .i64 qi, .string qn, .int .i64 qz, .bool qg] #[.int .i64 ui, .string un, .int .i64 uz, .bool ug] rfl rfl HM20.out rfl (by kernel_rfl) (by kernel_rfl) ?_; intro w16 r1 r2 r3 r4)
        have HBB2 := Lib.hid (HBB.out.grown r4 HBB.out.size (fun q e => by cases e; exact Nat.le_of_eq HP20.out))
        have HM2 := Lib.hid r1
        go_roundw
        case rel => exact ⟨j', ui, un, uz, ug, true, by go_num, rfl, by omega, HF2, HBB2, HM2⟩
        case measure => first | (simp [intOf]; done) | (simp [intOf]; omega)
      · have hd2 : (un.toList == nm.toList) = false := sbeq_no he
        have HF2 : Hid (findS ((seenL ms).drop j') nm = (⟨qi, qn, qz, qg⟩, b)) := Lib.hid (by rw [HFD.out, if_neg he, HF.out])
        clear he
        go_wp2_with fail
        go_roundw
        case rel => exact ⟨j', qi, qn, qz, qg, b, by go_num, rfl, by omega, HF2, HBB, HM20⟩
        case measure => first | (simp [intOf]; done) | (simp [intOf]; omega)
    | zero =>
      have e1 : ((0 : Nat) : Int) - 1 = -1 := by omega
      rw [e1]
      clear e1
      have hft := HF.out
      rw [List.drop_zero, findS_seen, HT.out] at hft
      simp only [Prod.mk.injEq, Mk.mk.injEq] at hft
      obtain ⟨⟨rfl, rfl, rfl, rfl⟩, rfl⟩ := hft
      have HBZ := Lib.hid (HB14.out.trans (HBB.out.mono HB14.out.size))
      have HX4 := Lib.hid (HX14.out.later HBB.out)
      have HRH := Lib.hid (HR14.out.later HBB.out)
      have HRG := Lib.hid (HG14.out.later HBB.out)
      have HX13 := Lib.hid (HX1314.out.later HBB.out)
      have HS17 := Lib.hid (HS14.out.later HBB.out)
      have HM18 := Lib.hid (HM1814.out.later HBB.out)
      clear HX14 HR14 HG14 HX1314 HS14 HM1814 HF HBB HB14 HP20
      obtain ⟨w16, hw16⟩ : ∃ W, W = wr := ⟨_, rfl⟩
      subst hw16
      go_wp2_with fail
      go_loopw [22, 24] (fun nv i wr => ∃ j : Nat, i = .int .i64 j ∧ nv = .int .i64 (newestM (ms.take j)) ∧ j ≤ N ∧ w16 = wr) (fun _ i _ => N - (intOf i).toNat)
      case atStart => exact ⟨0, rfl, rfl, by omega, rfl⟩
      case round =>
        obtain ⟨j, rfl, rfl, hj, rfl⟩ := hrel
        obtain ⟨y0, y1, y2, y3, y4, y5, y6⟩ := HX4.out.c7
        by_cases hjn : (j : Int) < N
        · obtain ⟨u, hu⟩ : ∃ u, ms[j]? = some u := ⟨ms[j]'(by have := HNN.out; omega), List.getElem?_eq_getElem _⟩
          obtain ⟨b0, o0, rfl, p0, p1, p2, p3⟩ := HRH.out.c4 hu
          have hst := newest_step hu
          obtain ⟨NV, hNV⟩ : ∃ x, newestM (ms.take j) = x := ⟨_, rfl⟩
          rw [hNV] at hst ⊢
          clear hu hNV
          obtain ⟨ui, un, uz, ug⟩ := u
          simp only at p0 hst
          by_cases hz : (j : Int) = 0
          · have hj0 : ((j : Int) == 0) = true := by simpa using hz
            rw [if_pos (.inl (by omega))] at hst
            have HST := Lib.hid hst
            clear hst hz
            go_wp2_with fail
            go_roundw
            case rel => exact ⟨j + 1, by go_num, by rw [HST.out], by omega, trivial⟩
            case measure => simp [intOf]; omega
          · have hj0 : ((j : Int) == 0) = false := by simpa using hz
            by_cases hlt : NV < ui
            · have hd5 : decide (NV < ui) = true := by simpa using hlt
              rw [if_pos (.inr hlt)] at hst
              have HST := Lib.hid hst
              clear hst hlt hz
              go_wp2_with fail
              go_roundw
              case rel => exact ⟨j + 1, by go_num, by rw [HST.out], by omega, trivial⟩
              case measure => simp [intOf]; omega
            · have hd5 : decide (NV < ui) = false := by simpa using hlt
              rw [if_neg (by omega)] at hst
              have HST := Lib.hid hst
              clear hst hlt hz
              go_wp2_with fail
              go_roundw
              case rel => exact ⟨j + 1, by go_num, by rw [HST.out], by omega, trivial⟩
              case measure => simp [intOf]; omega
        · have : j = N := by omega
          subst this
          rw [List.take_of_length_le (by have := HNN.out; omega)]
          obtain ⟨NW, hNW⟩ : ∃ x, newestM ms = x := ⟨_, rfl⟩
          have HNW := Lib.hid (fun W (h : Below w16.heap.size w16 W) => newestH_any ⟨hs, ho, hu, hc, hx, hq, ms⟩ am j ch W (HRH.out.later h) HNN.out)
          simp only at HNW
          rw [hNW] at HNW ⊢
          clear hNW
          go_upto_region 25 with fail
          clear y0 y1 y2 y3 y4 y5 y6
          obtain ⟨RR, hRR⟩ : ∃ b, rightH ⟨hs, ho, hu, hc, hx, hq, ms⟩ = b := ⟨_, rfl⟩
          have HRA := Lib.hid (fun W (h : Below w16.heap.size w16 W) => right_any ⟨hs, ho, hu, hc, hx, hq, ms⟩ am j ch W (HRH.out.later h) HNN.out)
          have HRB := Lib.hid (fun W (h : Below w16.heap.size w16 W) => rright_any ⟨hs, ho, hu, hc, hx, hq, ms⟩ am j ch W (HRH.out.later h) HNN.out)
          rw [hRR] at HRA HRB
          obtain ⟨SB, hSB⟩ : ∃ b, decide (ShapeOk ho hu hc) = b := ⟨_, rfl⟩
          have HSA := Lib.hid (fun W => shape_any ho hu hc W)
          have HSB := Lib.hid (fun W => rshape_any ho hu hc W)
          rw [hSB] at HSA HSB
          obtain ⟨DG, hDG⟩ : ∃ b, decide ((⟨hs, ho, hu, hc, hx, hq, ms⟩ : Hd) = ⟨gs, go, gu, gc, gx, gq, us⟩) = b := ⟨_, rfl⟩
          have HDA := Lib.hid (fun W (h : Below w16.heap.size w16 W) => same_any ⟨hs, ho, hu, hc, hx, hq, ms⟩ ⟨gs, go, gu, gc, gx, gq, us⟩ am ag j K ch cg W (HRH.out.later h) (HRG.out.later h) HNN.out HK.out)
          have HDB := Lib.hid (fun W (h : Below w16.heap.size w16 W) => rsame_hd ⟨hs, ho, hu, hc, hx, hq, ms⟩ ⟨gs, go, gu, gc, gx, gq, us⟩ am ag j K ch cg W (HRH.out.later h) (HRG.out.later h) HNN.out HK.out)
          rw [hDG] at HDA HDB
          have HDC := Lib.hid (fun W (h : Below w16.heap.size w16 W) => same_any ⟨hs, ho, hu, hc, hx, hq, ms⟩ ⟨hs, ho, hu, hc, hx, hq, ms⟩ am am j j ch ch W (HRH.out.later h) (HRH.out.later h) HNN.out HNN.out)
          rw [show decide ((⟨hs, ho, hu, hc, hx, hq, ms⟩ : Hd) = ⟨hs, ho, hu, hc, hx, hq, ms⟩) = true from by simp] at HDC
          have HN4 : Hid (j ≤ 100000) := Lib.hid (by omega)
          clear hRR hSB hDG
          -- REG 25
          refine wp_region_tab (L := [cV (.agg #[.int .i64 hs, .int .i64 ho, .int .i64 hu, .int .i64 hc, .int .i64 hx, .int .i64 hq, .slice am j ch]), cV (.bool RR), cV (.agg #[.int .i64 hs, .int .i64 ho, .int .i64 hu, .int .i64 hc, .int .i64 hx, .int .i64 hq, .slice am j ch]), cV (.bool RR), cV (.bool true), cV (.bool true), cV (.pointer (some ⟨P4, 1, none⟩)), cV (.agg #[.int .i64 ho, .int .i64 hu, .int .i64 hc]), cV (.bool SB), cV (.pointer (some ⟨P4, 1, none⟩)), cV (.agg #[.int .i64 ho, .int .i64 hu, .int .i64 hc]), cV (.bool SB), cV (.bool true), cV (.bool true), cV (.bool true), cV (.agg #[.int .i64 hs, .int .i64 ho, .int .i64 hu, .int .i64 hc, .int .i64 hx, .int .i64 hq, .slice am j ch]), gM w (seenL ms), cV (.slice a17 M c17), cV (.bool true), cV (.bool true), cV (.bool true), cV (.agg #[.int .i64 ti, .string tn, .int .i64 tz, .bool tg]), cV (.agg #[.int .i64 ti, .string tn, .int .i64 tz, .bool tg]), cV (.bool true), cV (.bool true), cV (.bool true), cV (.bool tb), cV (.bool tb), cV (.bool true), cV (.bool true), cV (.bool true), cV (.agg #[.int .i64 hs, .int .i64 ho, .int .i64 hu, .int .i64 hc, .int .i64 hx, .int .i64 hq, .slice am j ch]), cV (.int .i64 NW), cV (.int .i64 NW), cV (.bool true), cV (.bool true), cV (.bool true), cV (.agg #[.int .i64 hs, .int .i64 ho, .int .i64 hu, .int .i64 hc, .int .i64 hx, .int .i64 hq, .slice am j ch]), cV (.agg #[.int .i64 gs, .int .i64 go, .int .i64 gu, .int .i64 gc, .int .i64 gx, .int .i64 gq, .slice ag K cg]), cV (.bool DG), cV (.agg #[.int .i64 hs, .int .i64 ho, .int .i64 hu, .int .i64 hc, .int .i64 hx, .int .i64 hq, .slice am j ch]), cV (.agg #[.int .i64 gs, .int .i64 go, .int .i64 gu, .int .i64 gc, .int .i64 gx, .int .i64 gq, .slice ag K cg]), cV (.bool DG), cV (.bool true), cV (.bool true), cV (.bool true), cV (.agg #[.int .i64 hs, .int .i64 ho, .int .i64 hu, .int .i64 hc, .int .i64 hx, .int .i64 hq, .slice am j ch]), cV (.agg #[.int .i64 hs, .int .i64 ho, .int .i64 hu, .int .i64 hc, .int .i64 hx, .int .i64 hq, .slice am j ch]), cV (.bool true), cV (.bool true), cV (.bool true), cV (.bool true), cV (.bool true), cV (.bool true)]) [[(4, none)], [(135, some 0)], [(4, none)], [(137, some 2)], [(136, some 1), (138, some 3)], [(139, some 4)], [(4, none), (140, some 5)], [(141, some 6), (140, some 5)], [(142, some 7), (140, some 5)], [(4, none), (140, some 5)], [(144, some 9), (140, some 5)], [(145, some 10), (140, some 5)], [(143, some 8), (146, some 11), (140, some 5)], [(140, some 5), (147, some 12)], [(148, some 13)], [(4, none), (149, some 14)], [(150, some 15), (149, some 14)], [(17, none), (149, some 14)], [(151, some 16), (152, some 17), (149, some 14)], [(149, some 14), (153, some 18)], [(154, some 19)], [(18, none), (155, some 20)], [(20, none), (155, some 20)], [(156, some 21), (157, some 22), (155, some 20)], [(155, some 20), (158, some 23)], [(159, some 24)], [(19, none), (160, some 25)], [(21, none), (160, some 25)], [(161, some 26), (162, some 27), (160, some 25)], [(160, some 25), (163, some 28)], [(164, some 29)], [(4, none), (165, some 30)], [(166, some 31), (165, some 30)], [(22, none), (165, some 30)], [(167, some 32), (168, some 33), (165, some 30)], [(165, some 30), (169, some 34)], [(170, some 35)], [(4, none), (171, some 36)], [(13, none), (171, some 36)], [(172, some 37), (173, some 38), (171, some 36)], [(4, none), (171, some 36)], [(13, none), (171, some 36)], [(175, some 40), (176, some 41), (171, some 36)], [(174, some 39), (177, some 42), (171, some 36)], [(171, some 36), (178, some 43)], [(179, some 44)], [(4, none), (180, some 45)], [(4, none), (180, some 45)], [(181, some 46), (182, some 47), (180, some 45)], [(180, some 45), (183, some 48)], [(184, some 49)], [(185, some 50)], [(185, some 50), (186, some 51)], [(187, some 52)]] 54 188 (by kernel_rfl) rfl rfl (by kernel_rfl) (by kernel_rfl) ?_ ?_
          · show ∀ i, i < 54 → _
            iterate 54 (refine fls ?_ ?_)
            · exact fl0
            · intro a w1 hR hsz hs      -- 0: slot 135
              obtain ⟨h0, _⟩ := hs
              have h0 : a.tmps.getD 4 undef = .pointer (some ⟨P4, 0, none⟩) := h0
              obtain ⟨x0, x1, x2, x3, x4, x5, x6⟩ := (HX4.out.later hR).c7
              refine op_run rfl rfl (v := .agg #[.int .i64 hs, .int .i64 ho, .int .i64 hu, .int .i64 hc, .int .i64 hx, .int .i64 hq, .slice am j ch]) (w' := w1) ?_ rfl (Below.refl _ _)
              simp [execOp, Act.eval, h0, x0, x1, x2, x3, x4, x5, x6, go_sem]
            · intro a w1 hR hsz hs      -- 1: slot 136
              obtain ⟨h0, _⟩ := hs
              have h0 : a.tmps.getD 135 undef = .agg #[.int .i64 hs, .int .i64 ho, .int .i64 hu, .int .i64 hc, .int .i64 hx, .int .i64 hq, .slice am j ch] := h0
              refine op_call rfl rfl (f := 17) (args := #[.agg #[.int .i64 hs, .int .i64 ho, .int .i64 hu, .int .i64 hc, .int .i64 hx, .int .i64 hq, .slice am j ch]]) (by simp [execOp, Act.eval, resolve, h0, go_sem]) ?_
              exact calls_c (HRA.out w1 hR)
            · intro a w1 hR hsz hs      -- 2: slot 137
              obtain ⟨h0, _⟩ := hs
              have h0 : a.tmps.getD 4 undef = .pointer (some ⟨P4, 0, none⟩) := h0
              obtain ⟨x0, x1, x2, x3, x4, x5, x6⟩ := (HX4.out.later hR).c7
              refine op_run rfl rfl (v := .agg #[.int .i64 hs, .int .i64 ho, .int .i64 hu, .int .i64 hc, .int .i64 hx, .int .i64 hq, .slice am j ch]) (w' := w1) ?_ rfl (Below.refl _ _)
              simp [execOp, Act.eval, h0, x0, x1, x2, x3, x4, x5, x6, go_sem]
            · intro a w1 hR hsz hs      -- 3: slot 138
              obtain ⟨h0, _⟩ := hs
              have h0 : a.tmps.getD 137 undef = .agg #[.int .i64 hs, .int .i64 ho, .int .i64 hu, .int .i64 hc, .int .i64 hx, .int .i64 hq, .slice am j ch] := h0
              refine op_call rfl rfl (f := 18) (args := #[.agg #[.int .i64 hs, .int .i64 ho, .int .i64 hu, .int .i64 hc, .int .i64 hx, .int .i64 hq, .slice am j ch]]) (by simp [execOp, Act.eval, resolve, h0, go_sem]) ?_
              exact calls_c (HRB.out w1 hR)
            · intro a w1 hR hsz hs      -- 4: slot 139
              obtain ⟨h0, h1, _⟩ := hs
              have h0 : a.tmps.getD 136 undef = .bool RR := h0
              have h1 : a.tmps.getD 138 undef = .bool RR := h1
              refine op_run rfl rfl (v := .bool true) (w' := w1) ?_ rfl (Below.refl _ _)
              simp [execOp, Act.eval, h0, h1, go_sem]
            · intro a w1 hR hsz hs      -- 5: slot 140
              obtain ⟨h0, _⟩ := hs
              have h0 : a.tmps.getD 139 undef = .bool true := h0
              refine op_run rfl rfl (v := .bool true) (w' := w1) ?_ rfl (Below.refl _ _)
              simp [execOp, Act.eval, h0, go_sem]
            · intro a w1 hR hsz hs      -- 6: slot 141
              obtain ⟨h0, h1, _⟩ := hs
              have h0 : a.tmps.getD 4 undef = .pointer (some ⟨P4, 0, none⟩) := h0
              have h1 : a.tmps.getD 140 undef = .bool true := h1
              refine opg_run rfl rfl rfl (by rw [hsz]; decide) h1 (v := .pointer (some ⟨P4, 1, none⟩)) (w' := w1) ?_ rfl (Below.refl _ _)
              simp [execOp, Act.eval, h0, go_sem]
            · intro a w1 hR hsz hs      -- 7: slot 142
              obtain ⟨h0, h1, _⟩ := hs
              have h0 : a.tmps.getD 141 undef = .pointer (some ⟨P4, 1, none⟩) := h0
              have h1 : a.tmps.getD 140 undef = .bool true := h1
              obtain ⟨x0, x1, x2, x3, x4, x5, x6⟩ := (HX4.out.later hR).c7
              refine opg_run rfl rfl rfl (by rw [hsz]; decide) h1 (v := .agg #[.int .i64 ho, .int .i64 hu, .int .i64 hc]) (w' := w1) ?_ rfl (Below.refl _ _)
              simp [execOp, Act.eval, h0, x1, x2, x3, go_sem]
            · intro a w1 hR hsz hs      -- 8: slot 143
              obtain ⟨h0, h1, _⟩ := hs
              have h0 : a.tmps.getD 142 undef = .agg #[.int .i64 ho, .int .i64 hu, .int .i64 hc] := h0
              have h1 : a.tmps.getD 140 undef = .bool true := h1
              refine opg_call rfl rfl rfl (by rw [hsz]; decide) h1 (f := 19) (args := #[.agg #[.int .i64 ho, .int .i64 hu, .int .i64 hc]]) (by simp [execOp, Act.eval, resolve, h0, go_sem]) ?_
              exact calls_c (HSA.out w1)
            · intro a w1 hR hsz hs      -- 9: slot 144
              obtain ⟨h0, h1, _⟩ := hs
              have h0 : a.tmps.getD 4 undef = .pointer (some ⟨P4, 0, none⟩) := h0
              have h1 : a.tmps.getD 140 undef = .bool true := h1
              refine opg_run rfl rfl rfl (by rw [hsz]; decide) h1 (v := .pointer (some ⟨P4, 1, none⟩)) (w' := w1) ?_ rfl (Below.refl _ _)
              simp [execOp, Act.eval, h0, go_sem]
            · intro a w1 hR hsz hs      -- 10: slot 145
              obtain ⟨h0, h1, _⟩ := hs
              have h0 : a.tmps.getD 144 undef = .pointer (some ⟨P4, 1, none⟩) := h0
              have h1 : a.tmps.getD 140 undef = .bool true := h1
              obtain ⟨x0, x1, x2, x3, x4, x5, x6⟩ := (HX4.out.later hR).c7
              refine opg_run rfl rfl rfl (by rw [hsz]; decide) h1 (v := .agg #[.int .i64 ho, .int .i64 hu, .int .i64 hc]) (w' := w1) ?_ rfl (Below.refl _ _)
              simp [execOp, Act.eval, h0, x1, x2, x3, go_sem]
            · intro a w1 hR hsz hs      -- 11: slot 146
              obtain ⟨h0, h1, _⟩ := hs
              have h0 : a.tmps.getD 145 undef = .agg #[.int .i64 ho, .int .i64 hu, .int .i64 hc] := h0
              have h1 : a.tmps.getD 140 undef = .bool true := h1
              refine opg_call rfl rfl rfl (by rw [hsz]; decide) h1 (f := 20) (args := #[.agg #[.int .i64 ho, .int .i64 hu, .int .i64 hc]]) (by simp [execOp, Act.eval, resolve, h0, go_sem]) ?_
              exact calls_c (HSB.out w1)
            · intro a w1 hR hsz hs      -- 12: slot 147
              obtain ⟨h0, h1, h2, _⟩ := hs
              have h0 : a.tmps.getD 143 undef = .bool SB := h0
              have h1 : a.tmps.getD 146 undef = .bool SB := h1
              have h2 : a.tmps.getD 140 undef = .bool true := h2
              refine opg_run rfl rfl rfl (by rw [hsz]; decide) h2 (v := .bool true) (w' := w1) ?_ rfl (Below.refl _ _)
              simp [execOp, Act.eval, h0, h1, go_sem]
            · intro a w1 hR hsz hs      -- 13: slot 148
              obtain ⟨h0, h1, _⟩ := hs
              have h0 : a.tmps.getD 140 undef = .bool true := h0
              have h1 : a.tmps.getD 147 undef = .bool true := h1
              refine op_run rfl rfl (v := .bool true) (w' := w1) ?_ rfl (Below.refl _ _)
              simp [execOp, Act.eval, h0, h1, go_sem]
            · intro a w1 hR hsz hs      -- 14: slot 149
              obtain ⟨h0, _⟩ := hs
              have h0 : a.tmps.getD 148 undef = .bool true := h0
              refine op_run rfl rfl (v := .bool true) (w' := w1) ?_ rfl (Below.refl _ _)
              simp [execOp, Act.eval, h0, go_sem]
            · intro a w1 hR hsz hs      -- 15: slot 150
              obtain ⟨h0, h1, _⟩ := hs
              have h0 : a.tmps.getD 4 undef = .pointer (some ⟨P4, 0, none⟩) := h0
              have h1 : a.tmps.getD 149 undef = .bool true := h1
              obtain ⟨x0, x1, x2, x3, x4, x5, x6⟩ := (HX4.out.later hR).c7
              refine opg_run rfl rfl rfl (by rw [hsz]; decide) h1 (v := .agg #[.int .i64 hs, .int .i64 ho, .int .i64 hu, .int .i64 hc, .int .i64 hx, .int .i64 hq, .slice am j ch]) (w' := w1) ?_ rfl (Below.refl _ _)
              simp [execOp, Act.eval, h0, x0, x1, x2, x3, x4, x5, x6, go_sem]
            · intro a w1 hR hsz hs      -- 16: slot 151
              obtain ⟨h0, h1, _⟩ := hs
              have h0 : a.tmps.getD 150 undef = .agg #[.int .i64 hs, .int .i64 ho, .int .i64 hu, .int .i64 hc, .int .i64 hx, .int .i64 hq, .slice am j ch] := h0
              have h1 : a.tmps.getD 149 undef = .bool true := h1
              refine opg_call rfl rfl rfl (by rw [hsz]; decide) h1 (f := 22) (args := #[.agg #[.int .i64 hs, .int .i64 ho, .int .i64 hu, .int .i64 hc, .int .i64 hx, .int .i64 hq, .slice am j ch]]) (by simp [execOp, Act.eval, resolve, h0, go_sem]) ?_
              exact gm_of (seen_any ⟨hs, ho, hu, hc, hx, hq, ms⟩ am j ch w1 (HRH.out.later hR) HNN.out HN4.out) (HBZ.out.trans (hR.mono HBZ.out.size))
            · intro a w1 hR hsz hs      -- 17: slot 152
              obtain ⟨h0, h1, _⟩ := hs
              have h0 : a.tmps.getD 17 undef = .slice a17 M c17 := h0
              have h1 : a.tmps.getD 149 undef = .bool true := h1
              refine opg_run rfl rfl rfl (by rw [hsz]; decide) h1 (v := .slice a17 M c17) (w' := w1) ?_ rfl (Below.refl _ _)
              simp [execOp, Act.eval, h0, go_sem]
            · intro a w1 hR hsz hs      -- 18: slot 153
              obtain ⟨h0, h1, h2, _⟩ := hs
              obtain ⟨a0, c0, h0, r0⟩ := GOwn.row_n mkOk (show MOwn w w1 (a.tmps.getD 151 undef) (seenL ms) from h0) HML.out
              have h1 : a.tmps.getD 152 undef = .slice a17 M c17 := h1
              have h2 : a.tmps.getD 149 undef = .bool true := h2
              refine opg_call rfl rfl rfl (by rw [hsz]; decide) h2 (f := 21) (args := #[.slice a0 M c0, .slice a17 M c17]) (by simp [execOp, Act.eval, resolve, h0, h1, go_sem]) ?_
              exact calls_c (msame_refl a0 a17 M c0 c17 (seenL ms) w1 r0 (HS17.out.later hR) HML.out)
            · intro a w1 hR hsz hs      -- 19: slot 154
              obtain ⟨h0, h1, _⟩ := hs
              have h0 : a.tmps.getD 149 undef = .bool true := h0
              have h1 : a.tmps.getD 153 undef = .bool true := h1
              refine op_run rfl rfl (v := .bool true) (w' := w1) ?_ rfl (Below.refl _ _)
              simp [execOp, Act.eval, h0, h1, go_sem]
            · intro a w1 hR hsz hs      -- 20: slot 155
              obtain ⟨h0, _⟩ := hs
              have h0 : a.tmps.getD 154 undef = .bool true := h0
              refine op_run rfl rfl (v := .bool true) (w' := w1) ?_ rfl (Below.refl _ _)
              simp [execOp, Act.eval, h0, go_sem]
            · intro a w1 hR hsz hs      -- 21: slot 156
              obtain ⟨h0, h1, _⟩ := hs
              have h0 : a.tmps.getD 18 undef = .pointer (some ⟨P18, 0, none⟩) := h0
              have h1 : a.tmps.getD 155 undef = .bool true := h1
              obtain ⟨x0, x1, x2, x3⟩ := (HM18.out.later hR).c4
              refine opg_run rfl rfl rfl (by rw [hsz]; decide) h1 (v := .agg #[.int .i64 ti, .string tn, .int .i64 tz, .bool tg]) (w' := w1) ?_ rfl (Below.refl _ _)
              simp [execOp, Act.eval, h0, x0, x1, x2, x3, go_sem]
            · intro a w1 hR hsz hs      -- 22: slot 157
              obtain ⟨h0, h1, _⟩ := hs
              have h0 : a.tmps.getD 20 undef = .pointer (some ⟨P20, 0, none⟩) := h0
              have h1 : a.tmps.getD 155 undef = .bool true := h1
              obtain ⟨x0, x1, x2, x3⟩ := (HM20.out.later hR).c4
              refine opg_run rfl rfl rfl (by rw [hsz]; decide) h1 (v := .agg #[.int .i64 ti, .string tn, .int .i64 tz, .bool tg]) (w' := w1) ?_ rfl (Below.refl _ _)
              simp [execOp, Act.eval, h0, x0, x1, x2, x3, go_sem]
            · intro a w1 hR hsz hs      -- 23: slot 158
              obtain ⟨h0, h1, h2, _⟩ := hs
              have h0 : a.tmps.getD 156 undef = .agg #[.int .i64 ti, .string tn, .int .i64 tz, .bool tg] := h0
              have h1 : a.tmps.getD 157 undef = .agg #[.int .i64 ti, .string tn, .int .i64 tz, .bool tg] := h1
              have h2 : a.tmps.getD 155 undef = .bool true := h2
              have k0 := mk_same8 w1 ⟨ti, tn, tz, tg⟩
              refine opg_run rfl rfl rfl (by rw [hsz]; decide) h2 (v := .bool true) (w' := w1) ?_ rfl (Below.refl _ _)
              simp [execOp, Act.eval, h0, h1, k0, mk_guard, go_sem]
            · intro a w1 hR hsz hs      -- 24: slot 159
              obtain ⟨h0, h1, _⟩ := hs
              have h0 : a.tmps.getD 155 undef = .bool true := h0
              have h1 : a.tmps.getD 158 undef = .bool true := h1
              refine op_run rfl rfl (v := .bool true) (w' := w1) ?_ rfl (Below.refl _ _)
              simp [execOp, Act.eval, h0, h1, go_sem]
            · intro a w1 hR hsz hs      -- 25: slot 160
              obtain ⟨h0, _⟩ := hs
              have h0 : a.tmps.getD 159 undef = .bool true := h0
              refine op_run rfl rfl (v := .bool true) (w' := w1) ?_ rfl (Below.refl _ _)
              simp [execOp, Act.eval, h0, go_sem]
            · intro a w1 hR hsz hs      -- 26: slot 161
              obtain ⟨h0, h1, _⟩ := hs
              have h0 : a.tmps.getD 19 undef = .bool tb := h0
              have h1 : a.tmps.getD 160 undef = .bool true := h1
              refine opg_run rfl rfl rfl (by rw [hsz]; decide) h1 (v := .bool tb) (w' := w1) ?_ rfl (Below.refl _ _)
              simp [execOp, Act.eval, h0, go_sem]
            · intro a w1 hR hsz hs      -- 27: slot 162
              obtain ⟨h0, h1, _⟩ := hs
              have h0 : a.tmps.getD 21 undef = .bool tb := h0
              have h1 : a.tmps.getD 160 undef = .bool true := h1
              refine opg_run rfl rfl rfl (by rw [hsz]; decide) h1 (v := .bool tb) (w' := w1) ?_ rfl (Below.refl _ _)
              simp [execOp, Act.eval, h0, go_sem]
            · intro a w1 hR hsz hs      -- 28: slot 163
              obtain ⟨h0, h1, h2, _⟩ := hs
              have h0 : a.tmps.getD 161 undef = .bool tb := h0
              have h1 : a.tmps.getD 162 undef = .bool tb := h1
              have h2 : a.tmps.getD 160 undef = .bool true := h2
              refine opg_run rfl rfl rfl (by rw [hsz]; decide) h2 (v := .bool true) (w' := w1) ?_ rfl (Below.refl _ _)
              simp [execOp, Act.eval, h0, h1, go_sem]
            · intro a w1 hR hsz hs      -- 29: slot 164
              obtain ⟨h0, h1, _⟩ := hs
              have h0 : a.tmps.getD 160 undef = .bool true := h0
              have h1 : a.tmps.getD 163 undef = .bool true := h1
              refine op_run rfl rfl (v := .bool true) (w' := w1) ?_ rfl (Below.refl _ _)
              simp [execOp, Act.eval, h0, h1, go_sem]
            · intro a w1 hR hsz hs      -- 30: slot 165
              obtain ⟨h0, _⟩ := hs
              have h0 : a.tmps.getD 164 undef = .bool true := h0
              refine op_run rfl rfl (v := .bool true) (w' := w1) ?_ rfl (Below.refl _ _)
              simp [execOp, Act.eval, h0, go_sem]
            · intro a w1 hR hsz hs      -- 31: slot 166
              obtain ⟨h0, h1, _⟩ := hs
              have h0 : a.tmps.getD 4 undef = .pointer (some ⟨P4, 0, none⟩) := h0
              have h1 : a.tmps.getD 165 undef = .bool true := h1
              obtain ⟨x0, x1, x2, x3, x4, x5, x6⟩ := (HX4.out.later hR).c7
              refine opg_run rfl rfl rfl (by rw [hsz]; decide) h1 (v := .agg #[.int .i64 hs, .int .i64 ho, .int .i64 hu, .int .i64 hc, .int .i64 hx, .int .i64 hq, .slice am j ch]) (w' := w1) ?_ rfl (Below.refl _ _)
              simp [execOp, Act.eval, h0, x0, x1, x2, x3, x4, x5, x6, go_sem]
            · intro a w1 hR hsz hs      -- 32: slot 167
              obtain ⟨h0, h1, _⟩ := hs
              have h0 : a.tmps.getD 166 undef = .agg #[.int .i64 hs, .int .i64 ho, .int .i64 hu, .int .i64 hc, .int .i64 hx, .int .i64 hq, .slice am j ch] := h0
              have h1 : a.tmps.getD 165 undef = .bool true := h1
              refine opg_call rfl rfl rfl (by rw [hsz]; decide) h1 (f := 23) (args := #[.agg #[.int .i64 hs, .int .i64 ho, .int .i64 hu, .int .i64 hc, .int .i64 hx, .int .i64 hq, .slice am j ch]]) (by simp [execOp, Act.eval, resolve, h0, go_sem]) ?_
              exact calls_c (HNW.out w1 hR)
            · intro a w1 hR hsz hs      -- 33: slot 168
              obtain ⟨h0, h1, _⟩ := hs
              have h0 : a.tmps.getD 22 undef = .int .i64 NW := h0
              have h1 : a.tmps.getD 165 undef = .bool true := h1
              refine opg_run rfl rfl rfl (by rw [hsz]; decide) h1 (v := .int .i64 NW) (w' := w1) ?_ rfl (Below.refl _ _)
              simp [execOp, Act.eval, h0, go_sem]
            · intro a w1 hR hsz hs      -- 34: slot 169
              obtain ⟨h0, h1, h2, _⟩ := hs
              have h0 : a.tmps.getD 167 undef = .int .i64 NW := h0
              have h1 : a.tmps.getD 168 undef = .int .i64 NW := h1
              have h2 : a.tmps.getD 165 undef = .bool true := h2
              refine opg_run rfl rfl rfl (by rw [hsz]; decide) h2 (v := .bool true) (w' := w1) ?_ rfl (Below.refl _ _)
              simp [execOp, Act.eval, h0, h1, go_sem]
            · intro a w1 hR hsz hs      -- 35: slot 170
              obtain ⟨h0, h1, _⟩ := hs
              have h0 : a.tmps.getD 165 undef = .bool true := h0
              have h1 : a.tmps.getD 169 undef = .bool true := h1
              refine op_run rfl rfl (v := .bool true) (w' := w1) ?_ rfl (Below.refl _ _)
              simp [execOp, Act.eval, h0, h1, go_sem]
            · intro a w1 hR hsz hs      -- 36: slot 171
              obtain ⟨h0, _⟩ := hs
              have h0 : a.tmps.getD 170 undef = .bool true := h0
              refine op_run rfl rfl (v := .bool true) (w' := w1) ?_ rfl (Below.refl _ _)
              simp [execOp, Act.eval, h0, go_sem]
            · intro a w1 hR hsz hs      -- 37: slot 172
              obtain ⟨h0, h1, _⟩ := hs
              have h0 : a.tmps.getD 4 undef = .pointer (some ⟨P4, 0, none⟩) := h0
              have h1 : a.tmps.getD 171 undef = .bool true := h1
              obtain ⟨x0, x1, x2, x3, x4, x5, x6⟩ := (HX4.out.later hR).c7
              refine opg_run rfl rfl rfl (by rw [hsz]; decide) h1 (v := .agg #[.int .i64 hs, .int .i64 ho, .int .i64 hu, .int .i64 hc, .int .i64 hx, .int .i64 hq, .slice am j ch]) (w' := w1) ?_ rfl (Below.refl _ _)
              simp [execOp, Act.eval, h0, x0, x1, x2, x3, x4, x5, x6, go_sem]
            · intro a w1 hR hsz hs      -- 38: slot 173
              obtain ⟨h0, h1, _⟩ := hs
              have h0 : a.tmps.getD 13 undef = .pointer (some ⟨P13, 0, none⟩) := h0
              have h1 : a.tmps.getD 171 undef = .bool true := h1
              obtain ⟨x0, x1, x2, x3, x4, x5, x6⟩ := (HX13.out.later hR).c7
              refine opg_run rfl rfl rfl (by rw [hsz]; decide) h1 (v := .agg #[.int .i64 gs, .int .i64 go, .int .i64 gu, .int .i64 gc, .int .i64 gx, .int .i64 gq, .slice ag K cg]) (w' := w1) ?_ rfl (Below.refl _ _)
              simp [execOp, Act.eval, h0, x0, x1, x2, x3, x4, x5, x6, go_sem]
            · intro a w1 hR hsz hs      -- 39: slot 174
              obtain ⟨h0, h1, h2, _⟩ := hs
              have h0 : a.tmps.getD 172 undef = .agg #[.int .i64 hs, .int .i64 ho, .int .i64 hu, .int .i64 hc, .int .i64 hx, .int .i64 hq, .slice am j ch] := h0
              have h1 : a.tmps.getD 173 undef = .agg #[.int .i64 gs, .int .i64 go, .int .i64 gu, .int .i64 gc, .int .i64 gx, .int .i64 gq, .slice ag K cg] := h1
              have h2 : a.tmps.getD 171 undef = .bool true := h2
              refine opg_call rfl rfl rfl (by rw [hsz]; decide) h2 (f := 24) (args := #[.agg #[.int .i64 hs, .int .i64 ho, .int .i64 hu, .int .i64 hc, .int .i64 hx, .int .i64 hq, .slice am j ch], .agg #[.int .i64 gs, .int .i64 go, .int .i64 gu, .int .i64 gc, .int .i64 gx, .int .i64 gq, .slice ag K cg]]) (by simp [execOp, Act.eval, resolve, h0, h1, go_sem]) ?_
              exact calls_c (HDA.out w1 hR)
            · intro a w1 hR hsz hs      -- 40: slot 175
              obtain ⟨h0, h1, _⟩ := hs
              have h0 : a.tmps.getD 4 undef = .pointer (some ⟨P4, 0, none⟩) := h0
              have h1 : a.tmps.getD 171 undef = .bool true := h1
              obtain ⟨x0, x1, x2, x3, x4, x5, x6⟩ := (HX4.out.later hR).c7
              refine opg_run rfl rfl rfl (by rw [hsz]; decide) h1 (v := .agg #[.int .i64 hs, .int .i64 ho, .int .i64 hu, .int .i64 hc, .int .i64 hx, .int .i64 hq, .slice am j ch]) (w' := w1) ?_ rfl (Below.refl _ _)
              simp [execOp, Act.eval, h0, x0, x1, x2, x3, x4, x5, x6, go_sem]
            · intro a w1 hR hsz hs      -- 41: slot 176
              obtain ⟨h0, h1, _⟩ := hs
              have h0 : a.tmps.getD 13 undef = .pointer (some ⟨P13, 0, none⟩) := h0
              have h1 : a.tmps.getD 171 undef = .bool true := h1
              obtain ⟨x0, x1, x2, x3, x4, x5, x6⟩ := (HX13.out.later hR).c7
              refine opg_run rfl rfl rfl (by rw [hsz]; decide) h1 (v := .agg #[.int .i64 gs, .int .i64 go, .int .i64 gu, .int .i64 gc, .int .i64 gx, .int .i64 gq, .slice ag K cg]) (w' := w1) ?_ rfl (Below.refl _ _)
              simp [execOp, Act.eval, h0, x0, x1, x2, x3, x4, x5, x6, go_sem]
            · intro a w1 hR hsz hs      -- 42: slot 177
              obtain ⟨h0, h1, h2, _⟩ := hs
              have h0 : a.tmps.getD 175 undef = .agg #[.int .i64 hs, .int .i64 ho, .int .i64 hu, .int .i64 hc, .int .i64 hx, .int .i64 hq, .slice am j ch] := h0
              have h1 : a.tmps.getD 176 undef = .agg #[.int .i64 gs, .int .i64 go, .int .i64 gu, .int .i64 gc, .int .i64 gx, .int .i64 gq, .slice ag K cg] := h1
              have h2 : a.tmps.getD 171 undef = .bool true := h2
              refine opg_call rfl rfl rfl (by rw [hsz]; decide) h2 (f := 14) (args := #[.agg #[.int .i64 hs, .int .i64 ho, .int .i64 hu, .int .i64 hc, .int .i64 hx, .int .i64 hq, .slice am j ch], .agg #[.int .i64 gs, .int .i64 go, .int .i64 gu, .int .i64 gc, .int .i64 gx, .int .i64 gq, .slice ag K cg]]) (by simp [execOp, Act.eval, resolve, h0, h1, go_sem]) ?_
              exact calls_c (HDB.out w1 hR)
            · intro a w1 hR hsz hs      -- 43: slot 178
              obtain ⟨h0, h1, h2, _⟩ := hs
              have h0 : a.tmps.getD 174 undef = .bool DG := h0
              have h1 : a.tmps.getD 177 undef = .bool DG := h1
              have h2 : a.tmps.getD 171 undef = .bool true := h2
              refine opg_run rfl rfl rfl (by rw [hsz]; decide) h2 (v := .bool true) (w' := w1) ?_ rfl (Below.refl _ _)
              simp [execOp, Act.eval, h0, h1, go_sem]
            · intro a w1 hR hsz hs      -- 44: slot 179
              obtain ⟨h0, h1, _⟩ := hs
              have h0 : a.tmps.getD 171 undef = .bool true := h0
              have h1 : a.tmps.getD 178 undef = .bool true := h1
              refine op_run rfl rfl (v := .bool true) (w' := w1) ?_ rfl (Below.refl _ _)
              simp [execOp, Act.eval, h0, h1, go_sem]
            · intro a w1 hR hsz hs      -- 45: slot 180
              obtain ⟨h0, _⟩ := hs
              have h0 : a.tmps.getD 179 undef = .bool true := h0
              refine op_run rfl rfl (v := .bool true) (w' := w1) ?_ rfl (Below.refl _ _)
              simp [execOp, Act.eval, h0, go_sem]
            · intro a w1 hR hsz hs      -- 46: slot 181
              obtain ⟨h0, h1, _⟩ := hs
              have h0 : a.tmps.getD 4 undef = .pointer (some ⟨P4, 0, none⟩) := h0
              have h1 : a.tmps.getD 180 undef = .bool true := h1
              obtain ⟨x0, x1, x2, x3, x4, x5, x6⟩ := (HX4.out.later hR).c7
              refine opg_run rfl rfl rfl (by rw [hsz]; decide) h1 (v := .agg #[.int .i64 hs, .int .i64 ho, .int .i64 hu, .int .i64 hc, .int .i64 hx, .int .i64 hq, .slice am j ch]) (w' := w1) ?_ rfl (Below.refl _ _)
              simp [execOp, Act.eval, h0, x0, x1, x2, x3, x4, x5, x6, go_sem]
            · intro a w1 hR hsz hs      -- 47: slot 182
              obtain ⟨h0, h1, _⟩ := hs
              have h0 : a.tmps.getD 4 undef = .pointer (some ⟨P4, 0, none⟩) := h0
              have h1 : a.tmps.getD 180 undef = .bool true := h1
              obtain ⟨x0, x1, x2, x3, x4, x5, x6⟩ := (HX4.out.later hR).c7
              refine opg_run rfl rfl rfl (by rw [hsz]; decide) h1 (v := .agg #[.int .i64 hs, .int .i64 ho, .int .i64 hu, .int .i64 hc, .int .i64 hx, .int .i64 hq, .slice am j ch]) (w' := w1) ?_ rfl (Below.refl _ _)
              simp [execOp, Act.eval, h0, x0, x1, x2, x3, x4, x5, x6, go_sem]
            · intro a w1 hR hsz hs      -- 48: slot 183
              obtain ⟨h0, h1, h2, _⟩ := hs
              have h0 : a.tmps.getD 181 undef = .agg #[.int .i64 hs, .int .i64 ho, .int .i64 hu, .int .i64 hc, .int .i64 hx, .int .i64 hq, .slice am j ch] := h0
              have h1 : a.tmps.getD 182 undef = .agg #[.int .i64 hs, .int .i64 ho, .int .i64 hu, .int .i64 hc, .int .i64 hx, .int .i64 hq, .slice am j ch] := h1
              have h2 : a.tmps.getD 180 undef = .bool true := h2
              refine opg_call rfl rfl rfl (by rw [hsz]; decide) h2 (f := 24) (args := #[.agg #[.int .i64 hs, .int .i64 ho, .int .i64 hu, .int .i64 hc, .int .i64 hx, .int .i64 hq, .slice am j ch], .agg #[.int .i64 hs, .int .i64 ho, .int .i64 hu, .int .i64 hc, .int .i64 hx, .int .i64 hq, .slice am j ch]]) (by simp [execOp, Act.eval, resolve, h0, h1, go_sem]) ?_
              exact calls_c (HDC.out w1 hR)
            · intro a w1 hR hsz hs      -- 49: slot 184
              obtain ⟨h0, h1, _⟩ := hs
              have h0 : a.tmps.getD 180 undef = .bool true := h0
              have h1 : a.tmps.getD 183 undef = .bool true := h1
              refine op_run rfl rfl (v := .bool true) (w' := w1) ?_ rfl (Below.refl _ _)
              simp [execOp, Act.eval, h0, h1, go_sem]
            · intro a w1 hR hsz hs      -- 50: slot 185
              obtain ⟨h0, _⟩ := hs
              have h0 : a.tmps.getD 184 undef = .bool true := h0
              refine op_run rfl rfl (v := .bool true) (w' := w1) ?_ rfl (Below.refl _ _)
              simp [execOp, Act.eval, h0, go_sem]
            · intro a w1 hR hsz hs      -- 51: slot 186
              obtain ⟨h0, _⟩ := hs
              have h0 : a.tmps.getD 185 undef = .bool true := h0
              refine opg_call rfl rfl rfl (by rw [hsz]; decide) h0 (f := 8) (args := #[]) (by simp [execOp, Act.eval, resolve, go_sem]) ?_
              exact calls_c (knownH_any w1)
            · intro a w1 hR hsz hs      -- 52: slot 187
              obtain ⟨h0, h1, _⟩ := hs
              have h0 : a.tmps.getD 185 undef = .bool true := h0
              have h1 : a.tmps.getD 186 undef = .bool true := h1
              refine op_run rfl rfl (v := .bool true) (w' := w1) ?_ rfl (Below.refl _ _)
              simp [execOp, Act.eval, h0, h1, go_sem]
            · intro a w1 hR hsz hs      -- 53: slot 8
              obtain ⟨h0, _⟩ := hs
              have h0 : a.tmps.getD 187 undef = .bool true := h0
              refine op_run rfl rfl (v := .bool true) (w' := w1) ?_ rfl (Below.refl _ _)
              simp [execOp, Act.eval, h0, go_sem]
          · intro f w1 hR hv
            have e8 : f 8 = .bool true := hv 53 _ 8 rfl rfl
            clear hv
            try simp only [Exit.then]
            simp only [putAll, List.foldl_cons, List.foldl_nil, Option.getD_some, Act.put, List.setIfInBounds_toArray, List.set_cons_succ, List.set_cons_zero]
            go_wp2_with fail
            go_ret
            exact ⟨rfl, HBZ.out.trans (hR.mono HBZ.out.size)⟩
          -- END 25
theorem headerTells_walk (cs : Array Value) (h : Hd) (ab : Option Addr) (nb cb : Nat) (l : List UInt8) (nm : ByteArray) (sl : Bool) (w : World) (hh : HdE w cs.toList h) (hl : Row w ab cb l) (hln : l.length = nb) :
    Calls Try.prog 3 #[.agg cs, .slice ab nb cb, .string nm, .bool sl] w fun x w' => x = .returned (.bool true) ∧ Below w.heap.size w w' := by
  obtain ⟨am, ch, rfl, hr⟩ := hh.open
  by_cases hb : ¬ FewM h.marks ∨ 300 < nb ∨ 60 < nm.size
  · exact headerTells_known h am h.marks.length ch ab nb cb nm sl w hr rfl hb
  · exact headerTells_main h am h.marks.length ch ab nb cb l nm sl w hr rfl hl hln (Classical.not_not.1 (fun k => hb (.inl k))) (by omega) (by omega)
end Go.Proofs.Ytfjplhjlmilcfaa
