/- The law 'ChainTells', walked. -/
import Derived.Test.YtpeamfndanbhiaaChW
namespace Go.Proofs.Ytpeamfndanbhiaa
open Go.RowKit Go.Proofs
set_option linter.unusedVariables false
set_option linter.unusedSimpArgs false

set_option maxRecDepth 100000 in
set_option maxHeartbeats 6400000 in
theorem chainTells_known (a0 a1 a6 : Option Addr) (n0 c0 n1 c1 n6 c6 : Nat) (ae be seq site : Int) (w : World) (hb : 50 < n0 ∨ 50 < n1 ∨ 300 < n6) :
    Calls Try.prog 3 #[.slice a0 n0 c0, .slice a1 n1 c1, .int .i64 ae, .int .i64 be, .int .i64 seq, .int .i64 site, .slice a6 n6 c6] w fun x w' => x = .returned (.bool true) ∧ Below w.heap.size w w' := by
  rcases (show 50 < (n0 : Int) ∨ (decide (50 < (n0 : Int)) = false ∧ 50 < (n1 : Int)) ∨ (decide (50 < (n0 : Int)) = false ∧ decide (50 < (n1 : Int)) = false ∧ 300 < (n6 : Int)) by simp only [decide_eq_false_iff_not]; omega) with h | ⟨h1, h⟩ | ⟨h1, h2, h⟩
  all_goals
    clear hb
    go_enter Try.func3, Try.ntmps3
    go_wp2_with fail
    refine (known_any _).mono ?_
    rintro y w2 ⟨rfl, hb2⟩
    go_wp2_with fail
    go_ret
    exact ⟨rfl, hb2⟩
set_option maxRecDepth 100000 in
set_option maxHeartbeats 12800000 in
theorem chainTells_main (a0 a1 a6 : Option Addr) (n0 c0 n1 c1 n6 c6 : Nat) (ts us : List Tg) (p : List UInt8) (ae be seq site : Int) (w1 : World) (hr0 : TRow w1 a0 c0 ts) (hn0 : ts.length = n0) (hm0 : n0 ≤ 50) (hr1 : TRow w1 a1 c1 us) (hn1 : us.length = n1) (hm1 : n1 ≤ 50) (hr6 : Row w1 a6 c6 p) (hn6 : p.length = n6) (hm6 : n6 ≤ 300) :
    Calls Try.prog 3 #[.slice a0 n0 c0, .slice a1 n1 c1, .int .i64 ae, .int .i64 be, .int .i64 seq, .int .i64 site, .slice a6 n6 c6] w1 fun x w' => x = .returned (.bool true) ∧ Below w1.heap.size w1 w' := by
  have hd0 : decide (50 < (n0 : Int)) = false := by simp; omega
  have hd1 : decide (50 < (n1 : Int)) = false := by simp; omega
  have hd6 : decide (300 < (n6 : Int)) = false := by simp; omega
  have HA1 := Lib.hid hr0
  have HQ1 := Lib.hid hr1
  have HP1 := Lib.hid hr6
  have HAN := Lib.hid hn0
  have HQN := Lib.hid hn1
  have HPN := Lib.hid hn6
  have HB1 := Lib.hid (Below.refl w1.heap.size w1)
  obtain ⟨X, er, hX⟩ : ∃ X er, putCh ts = (X, er) := ⟨_, _, rfl⟩
  obtain ⟨xn, hxn⟩ : ∃ n, X.length = n := ⟨_, rfl⟩
  obtain ⟨G, eg, hG⟩ : ∃ G eg, getCh p = (G, eg) := ⟨_, _, rfl⟩
  obtain ⟨gn, hgn⟩ : ∃ n, G.length = n := ⟨_, rfl⟩
  obtain ⟨RR, hRR⟩ : ∃ b, rightC ts = b := ⟨_, rfl⟩
  obtain ⟨NX, hNX⟩ : ∃ b, nextC ts site = b := ⟨_, rfl⟩
  obtain ⟨OF, hOF⟩ : ∃ b, ofC ts seq = b := ⟨_, rfl⟩
  obtain ⟨CT, hCT⟩ : ∃ b, cutC ts seq = b := ⟨_, rfl⟩
  obtain ⟨cn, hcn⟩ : ∃ n, CT.length = n := ⟨_, rfl⟩
  obtain ⟨BG, hBG⟩ : ∃ b, beginsC ts ae us be = b := ⟨_, rfl⟩
  obtain ⟨CM, hCM⟩ : ∃ b, compareC ts ae us be = b := ⟨_, rfl⟩
  obtain ⟨FK, hFK⟩ : ∃ b, forkC ts ae us be = b := ⟨_, rfl⟩
  obtain ⟨SM, hSM⟩ : ∃ b, decide (ts = us) = b := ⟨_, rfl⟩
  have HX := Lib.hid hX
  have HXN := Lib.hid hxn
  have HG := Lib.hid hG
  have HGN := Lib.hid hgn
  have HRR := Lib.hid hRR
  have HNX := Lib.hid hNX
  have HOF := Lib.hid hOF
  have HCT := Lib.hid hCT
  have HCN := Lib.hid hcn
  have HBG := Lib.hid hBG
  have HCM := Lib.hid hCM
  have HFK := Lib.hid hFK
  have HSM := Lib.hid hSM
  have z1 : (er == er) = true := by simp
  have z1' : (er != er) = false := by simp
  have z2 : (eg == eg) = true := by simp
  have z2' : (eg != eg) = false := by simp
  have z3 : (RR == RR) = true := by simp
  have z3' : (RR != RR) = false := by simp
  have z4 : (NX == NX) = true := by simp
  have z4' : (NX != NX) = false := by simp
  have z5 : (OF == OF) = true := by simp
  have z5' : (OF != OF) = false := by simp
  have z6 : (BG == BG) = true := by simp
  have z7 : (CM == CM) = true := by simp
  have z8 : (FK == FK) = true := by simp
  have z9 : (SM == SM) = true := by simp
  clear hr0 hn0 hr1 hn1 hr6 hn6 hX hxn hG hgn hRR hNX hOF hCT hcn hBG hCM hFK hSM
  go_enter Try.func3, Try.ntmps3
  go_wp2_with fail
  refine (put_any a0 n0 c0 ts w1 HA1.out HAN.out).mono ?_
  rw [HX.out]
  rintro e w2 ⟨vX, rfl, oX⟩
  simp only at oX
  obtain ⟨aX, cX, rfl, rX⟩ := oX.row_n HXN.out
  have hb := oX.below
  have HX2 := Lib.hid rX
  clear oX rX
  have HB2 := Lib.hid (HB1.out.trans (hb.mono HB1.out.size))
  have HA2 := Lib.hid (HA1.out.later hb)
  have HQ2 := Lib.hid (HQ1.out.later hb)
  have HP2 := Lib.hid (HP1.out.later hb)
  clear hb
  go_wp2_with fail
  refine (rput_any a0 n0 c0 ts w2 HA2.out HAN.out).mono ?_
  rw [HX.out]
  rintro e w3 ⟨vY, rfl, oY⟩
  simp only at oY
  obtain ⟨aY, cY, rfl, rY⟩ := oY.row_n HXN.out
  have hb := oY.below
  have HY3 := Lib.hid rY
  clear oY rY
  have HB3 := Lib.hid (HB2.out.trans (hb.mono HB2.out.size))
  have HA3 := Lib.hid (HA2.out.later hb)
  have HQ3 := Lib.hid (HQ2.out.later hb)
  have HP3 := Lib.hid (HP2.out.later hb)
  have HX3 := Lib.hid (HX2.out.later hb)
  clear hb
  go_wp2_with fail
  refine (get_any a6 n6 c6 p w3 HP3.out HPN.out (by omega)).mono ?_
  unfold CGot
  rw [HG.out]
  rintro e w4 ⟨vU, rfl, oU⟩
  simp only at oU
  obtain ⟨aU, cU, rfl, rU⟩ := oU.row_n HGN.out
  have hb := oU.below
  have HU4 := Lib.hid rU
  clear oU rU
  have HB4 := Lib.hid (HB3.out.trans (hb.mono HB3.out.size))
  have HA4 := Lib.hid (HA3.out.later hb)
  have HQ4 := Lib.hid (HQ3.out.later hb)
  have HP4 := Lib.hid (HP3.out.later hb)
  have HX4 := Lib.hid (HX3.out.later hb)
  have HY4 := Lib.hid (HY3.out.later hb)
  clear hb
  go_wp2_with fail
  refine (rget_any a6 n6 c6 p w4 HP4.out HPN.out (by omega)).mono ?_
  unfold CGot
  rw [HG.out]
  rintro e w5 ⟨vV, rfl, oV⟩
  simp only at oV
  obtain ⟨aV, cV, rfl, rV⟩ := oV.row_n HGN.out
  have hb := oV.below
  have HV5 := Lib.hid rV
  clear oV rV
  have HB5 := Lib.hid (HB4.out.trans (hb.mono HB4.out.size))
  have HA5 := Lib.hid (HA4.out.later hb)
  have HQ5 := Lib.hid (HQ4.out.later hb)
  have HP5 := Lib.hid (HP4.out.later hb)
  have HX5 := Lib.hid (HX4.out.later hb)
  have HY5 := Lib.hid (HY4.out.later hb)
  have HU5 := Lib.hid (HU4.out.later hb)
  clear hb
  have q1 := conv_row_n HX5.out HXN.out
  have q2 := conv_row_n HY5.out HXN.out
  generalize (⟨X.toArray⟩ : ByteArray) = S1 at *
  have hs1 : (S1.toList == S1.toList) = true := by simp
  have hs2 : (S1.toList != S1.toList) = false := by simp
  go_wp2_with fail
  refine (same_any aU aV gn gn cU cV G G w5 HU5.out HV5.out HGN.out HGN.out).mono ?_
  rw [show decide (G = G) = true by simp]
  rintro e w6 ⟨rfl, hb⟩
  have HB6 := Lib.hid (HB5.out.trans (hb.mono HB5.out.size))
  have HA6 := Lib.hid (HA5.out.later hb)
  have HQ6 := Lib.hid (HQ5.out.later hb)
  have HP6 := Lib.hid (HP5.out.later hb)
  clear hb
  clear q1 q2 hs1 hs2
  go_wp2_with fail
  refine (right_any a0 n0 c0 ts w6 HA6.out HAN.out).mono ?_
  rw [HRR.out]
  rintro e w7 ⟨rfl, hb⟩
  have HB7 := Lib.hid (HB6.out.trans (hb.mono HB6.out.size))
  have HA7 := Lib.hid (HA6.out.later hb)
  have HQ7 := Lib.hid (HQ6.out.later hb)
  have HP7 := Lib.hid (HP6.out.later hb)
  clear hb
  go_wp2_with fail
  refine (rright_any a0 n0 c0 ts w7 HA7.out HAN.out).mono ?_
  rw [HRR.out]
  rintro e w8 ⟨rfl, hb⟩
  have HB8 := Lib.hid (HB7.out.trans (hb.mono HB7.out.size))
  have HA8 := Lib.hid (HA7.out.later hb)
  have HQ8 := Lib.hid (HQ7.out.later hb)
  have HP8 := Lib.hid (HP7.out.later hb)
  clear hb
  go_wp2_with fail
  refine (next_any a0 n0 c0 ts site w8 HA8.out HAN.out).mono ?_
  rw [HNX.out]
  rintro e w9 ⟨rfl, hb⟩
  have HB9 := Lib.hid (HB8.out.trans (hb.mono HB8.out.size))
  have HA9 := Lib.hid (HA8.out.later hb)
  have HQ9 := Lib.hid (HQ8.out.later hb)
  have HP9 := Lib.hid (HP8.out.later hb)
  clear hb
  go_wp2_with fail
  refine (rnext_any a0 n0 c0 ts site w9 HA9.out HAN.out).mono ?_
  rw [HNX.out]
  rintro e w1009 ⟨rfl, rfl⟩
  go_wp2_with fail
  refine (of_row a0 n0 c0 ts seq w9 HA9.out HAN.out).mono ?_
  rw [HOF.out]
  rintro e w10 ⟨rfl, hb⟩
  have HB10 := Lib.hid (HB9.out.trans (hb.mono HB9.out.size))
  have HA10 := Lib.hid (HA9.out.later hb)
  have HQ10 := Lib.hid (HQ9.out.later hb)
  have HP10 := Lib.hid (HP9.out.later hb)
  clear hb
  go_wp2_with fail
  refine (rof_any a0 n0 c0 ts seq w10 HA10.out HAN.out).mono ?_
  rw [HOF.out]
  rintro e w1010 ⟨rfl, rfl⟩
  go_wp2_with fail
  refine (cut_any a0 n0 c0 ts seq w10 HA10.out HAN.out (by omega)).mono ?_
  rw [HCT.out]
  rintro e w11 ⟨vC, rfl, oC⟩
  obtain ⟨aC, cC, rfl, rC⟩ := oC.row_n HCN.out
  have hb := oC.below
  have HC11 := Lib.hid rC
  clear oC rC
  have HB11 := Lib.hid (HB10.out.trans (hb.mono HB10.out.size))
  have HA11 := Lib.hid (HA10.out.later hb)
  have HQ11 := Lib.hid (HQ10.out.later hb)
  have HP11 := Lib.hid (HP10.out.later hb)
  clear hb
  go_wp2_with fail
  refine (rcut_any a0 n0 c0 ts seq w11 HA11.out HAN.out (by omega)).mono ?_
  rw [HCT.out]
  rintro e w12 ⟨vD, rfl, oD⟩
  obtain ⟨aD, cD, rfl, rD⟩ := oD.row_n HCN.out
  have hb := oD.below
  have HD12 := Lib.hid rD
  clear oD rD
  have HB12 := Lib.hid (HB11.out.trans (hb.mono HB11.out.size))
  have HA12 := Lib.hid (HA11.out.later hb)
  have HQ12 := Lib.hid (HQ11.out.later hb)
  have HP12 := Lib.hid (HP11.out.later hb)
  have HC12 := Lib.hid (HC11.out.later hb)
  clear hb
  go_wp2_with fail
  refine (same_any aC aD cn cn cC cD CT CT w12 HC12.out HD12.out HCN.out HCN.out).mono ?_
  rw [show decide (CT = CT) = true by simp]
  rintro e w13 ⟨rfl, hb⟩
  have HB13 := Lib.hid (HB12.out.trans (hb.mono HB12.out.size))
  have HA13 := Lib.hid (HA12.out.later hb)
  have HQ13 := Lib.hid (HQ12.out.later hb)
  have HP13 := Lib.hid (HP12.out.later hb)
  clear hb
  go_wp2_with fail
  refine (begins_any a0 a1 n0 n1 c0 c1 ts us ae be w13 HA13.out HQ13.out HAN.out HQN.out).mono ?_
  rw [HBG.out]
  rintro e w14 ⟨rfl, hb⟩
  have HB14 := Lib.hid (HB13.out.trans (hb.mono HB13.out.size))
  have HA14 := Lib.hid (HA13.out.later hb)
  have HQ14 := Lib.hid (HQ13.out.later hb)
  have HP14 := Lib.hid (HP13.out.later hb)
  clear hb
  go_wp2_with fail
  refine (rbegins_any a0 a1 n0 n1 c0 c1 ts us ae be w14 HA14.out HQ14.out HAN.out HQN.out).mono ?_
  rw [HBG.out]
  rintro e w15 ⟨rfl, hb⟩
  have HB15 := Lib.hid (HB14.out.trans (hb.mono HB14.out.size))
  have HA15 := Lib.hid (HA14.out.later hb)
  have HQ15 := Lib.hid (HQ14.out.later hb)
  have HP15 := Lib.hid (HP14.out.later hb)
  clear hb
  go_wp2_with fail
  refine (compare_any a0 a1 n0 n1 c0 c1 ts us ae be w15 HA15.out HQ15.out HAN.out HQN.out).mono ?_
  rw [HCM.out]
  rintro e w16 ⟨rfl, hb⟩
  have HB16 := Lib.hid (HB15.out.trans (hb.mono HB15.out.size))
  have HA16 := Lib.hid (HA15.out.later hb)
  have HQ16 := Lib.hid (HQ15.out.later hb)
  have HP16 := Lib.hid (HP15.out.later hb)
  clear hb
  go_wp2_with fail
  refine (rcompare_any a0 a1 n0 n1 c0 c1 ts us ae be w16 HA16.out HQ16.out HAN.out HQN.out).mono ?_
  rw [HCM.out]
  rintro e w17 ⟨rfl, hb⟩
  have HB17 := Lib.hid (HB16.out.trans (hb.mono HB16.out.size))
  have HA17 := Lib.hid (HA16.out.later hb)
  have HQ17 := Lib.hid (HQ16.out.later hb)
  have HP17 := Lib.hid (HP16.out.later hb)
  clear hb
  go_wp2_with fail
  refine (fork_any a0 a1 n0 n1 c0 c1 ts us ae be w17 HA17.out HQ17.out HAN.out HQN.out).mono ?_
  rw [HFK.out]
  rintro e w18 ⟨rfl, hb⟩
  have HB18 := Lib.hid (HB17.out.trans (hb.mono HB17.out.size))
  have HA18 := Lib.hid (HA17.out.later hb)
  have HQ18 := Lib.hid (HQ17.out.later hb)
  have HP18 := Lib.hid (HP17.out.later hb)
  clear hb
  go_wp2_with fail
  refine (rfork_any a0 a1 n0 n1 c0 c1 ts us ae be w18 HA18.out HQ18.out HAN.out HQN.out).mono ?_
  rw [HFK.out]
  rintro e w19 ⟨rfl, hb⟩
  have HB19 := Lib.hid (HB18.out.trans (hb.mono HB18.out.size))
  have HA19 := Lib.hid (HA18.out.later hb)
  have HQ19 := Lib.hid (HQ18.out.later hb)
  have HP19 := Lib.hid (HP18.out.later hb)
  clear hb
  go_wp2_with fail
  refine (psame_any a0 a1 n0 n1 c0 c1 ts us w19 HA19.out HQ19.out HAN.out HQN.out).mono ?_
  rw [HSM.out]
  rintro e w20 ⟨rfl, hb⟩
  have HB20 := Lib.hid (HB19.out.trans (hb.mono HB19.out.size))
  have HA20 := Lib.hid (HA19.out.later hb)
  have HQ20 := Lib.hid (HQ19.out.later hb)
  have HP20 := Lib.hid (HP19.out.later hb)
  clear hb
  go_wp2_with fail
  refine (same_any a0 a1 n0 n1 c0 c1 ts us w20 HA20.out HQ20.out HAN.out HQN.out).mono ?_
  rw [HSM.out]
  rintro e w21 ⟨rfl, hb⟩
  have HB21 := Lib.hid (HB20.out.trans (hb.mono HB20.out.size))
  have HA21 := Lib.hid (HA20.out.later hb)
  have HQ21 := Lib.hid (HQ20.out.later hb)
  have HP21 := Lib.hid (HP20.out.later hb)
  clear hb
  go_wp2_with fail
  refine (psame_any a0 a0 n0 n0 c0 c0 ts ts w21 HA21.out HA21.out HAN.out HAN.out).mono ?_
  rw [show decide (ts = ts) = true by simp]
  rintro e w22 ⟨rfl, hb⟩
  have HB22 := Lib.hid (HB21.out.trans (hb.mono HB21.out.size))
  have HA22 := Lib.hid (HA21.out.later hb)
  have HQ22 := Lib.hid (HQ21.out.later hb)
  have HP22 := Lib.hid (HP21.out.later hb)
  clear hb
  go_wp2_with fail
  refine (known_any _).mono ?_
  rintro y w99 ⟨rfl, hb⟩
  go_wp2_with fail
  go_ret
  exact ⟨rfl, HB22.out.trans (hb.mono HB22.out.size)⟩
theorem chainTells_walk (a0 a1 a6 : Option Addr) (n0 c0 n1 c1 n6 c6 : Nat) (ts us : List Tg) (p : List UInt8) (ae be seq site : Int) (w : World) (hr0 : TRow w a0 c0 ts) (hn0 : ts.length = n0) (hr1 : TRow w a1 c1 us) (hn1 : us.length = n1) (hr6 : Row w a6 c6 p) (hn6 : p.length = n6) :
    Calls Try.prog 3 #[.slice a0 n0 c0, .slice a1 n1 c1, .int .i64 ae, .int .i64 be, .int .i64 seq, .int .i64 site, .slice a6 n6 c6] w fun x w' => x = .returned (.bool true) ∧ Below w.heap.size w w' := by
  by_cases hb : 50 < n0 ∨ 50 < n1 ∨ 300 < n6
  · exact chainTells_known a0 a1 a6 n0 c0 n1 c1 n6 c6 ae be seq site w hb
  · exact chainTells_main a0 a1 a6 n0 c0 n1 c1 n6 c6 ts us p ae be seq site w hr0 hn0 (by omega) hr1 hn1 (by omega) hr6 hn6 (by omega)
end Go.Proofs.Ytpeamfndanbhiaa
