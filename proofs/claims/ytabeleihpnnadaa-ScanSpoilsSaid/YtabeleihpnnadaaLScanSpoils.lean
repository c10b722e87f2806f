/- The law 'ScanSpoils', walked. -/
import Derived.Test.YtabeleihpnnadaaScK
import Derived.Test.YtabeleihpnnadaaScL
import Derived.BigRegion
import Derived.BigQuiet
namespace Go.Proofs.Ytabeleihpnnadaa
open Go.RowKit Go.Proofs
set_option linter.unusedVariables false
set_option linter.unusedSimpArgs false
set_option linter.unnecessarySimpa false

theorem few_sbS {n : Nat} {rows : List (List UInt8)} (hn : rows.length = n) (h : n ≤ 40 ∧ ∀ l ∈ rows, l.length ≤ 1500) : SB rows := ⟨by omega, fun l hl => by have := h.2 l hl; omega⟩
theorem SB.set {Y : List (List UInt8)} (h : SB Y) {i : Nat} {y : List UInt8} (hy : y.length ≤ 10000) : SB (Y.set i y) := by
  refine ⟨by rw [List.length_set]; exact h.1, fun l hl => ?_⟩
  rcases List.mem_or_eq_of_mem_set hl with hl | rfl
  · exact h.2 l hl
  · exact hy
/-- A row's beginning is the call's own too. -/
theorem Own.cut {W0 w : World} {a : Option Addr} {m c h : Nat} {l : List UInt8} (ho : Own W0 w (.slice a m c) l) (hm : l.length = m) (hh : h ≤ m) : Own W0 w (.slice a h c) (l.take h) := by
  subst hm
  refine ⟨⟨by simp, ?_⟩, ho.2⟩
  have hl : (l.take h).length = h := by rw [List.length_take]; omega
  rcases ho.1.2 with ⟨hv, hn⟩ | ⟨g, cap, cur, hv, hb, hg, hn, hc, hs, ht⟩
  · simp only [Value.slice.injEq] at hv
    obtain ⟨rfl, _, rfl⟩ := hv
    exact .inl ⟨by rw [show h = 0 by omega], by rw [hl]; omega⟩
  · simp only [Value.slice.injEq] at hv
    obtain ⟨rfl, _, rfl⟩ := hv
    refine .inr ⟨g, c, cur, by rw [hl], hb, hg, by omega, hc, hs, ?_⟩
    rw [hl, List.map_take, ← ht, List.take_take, Nat.mul_one, Nat.mul_one, Nat.min_eq_left hh]
theorem tmod_nn {a b : Int} (ha : 0 ≤ a) : Int.tmod a b = a % b := Int.tmod_eq_emod_of_nonneg ha
set_option maxRecDepth 100000 in
set_option maxHeartbeats 12800000 in
theorem scanSpoils_walk (a : Option Addr) (n cap : Nat) (ps : List (List UInt8)) (from_ sp_ : Int) (b : Option Addr) (nt capt : Nat) (ts : List Int) (at_ from2 last : Int) (x : UInt8) (w : World) (hr : SRow w a cap ps) (hn : ps.length = n) (ht : ZRow w b capt ts) (hnt : ts.length = nt) (hat : ik at_) :
    Calls Try.prog 4 #[.slice a n cap, .int .i64 from_, .int .i64 sp_, .slice b nt capt, .int .i64 at_, .int .i64 from2, .int .i64 last, B8 x] w fun x w' => x = .returned (.bool true) ∧ Below w.heap.size w w' := by
  have HR := Lib.hid hr
  have HN := Lib.hid hn
  have HT := Lib.hid ht
  have HNT := Lib.hid hnt
  have HFEW := Lib.hid (few_any a n cap ps w hr hn)
  have hcap := hr.1
  have hcm := hr.2.1
  have hcapt := ht.1
  have hcmt := ht.2.1
  unfold maxLen at hcm hcmt
  rw [hn] at hcap
  rw [hnt] at hcapt
  unfold ik at hat
  clear hr hn ht hnt
  obtain ⟨A', hA'⟩ : ∃ z, bits .and .i64 from_ 65535 = z := ⟨_, rfl⟩
  have hAr : 0 ≤ A' ∧ A' ≤ 65535 := by rw [← hA']; exact and_range from_ 65535 (by decide)
  obtain ⟨S, hS⟩ : ∃ z, bits .and .i64 sp_ 3 = z := ⟨_, rfl⟩
  have hSr : 0 ≤ S ∧ S ≤ 3 := by rw [← hS]; exact and_range sp_ 3 (by decide)
  obtain ⟨G, hG⟩ : ∃ z, bits .and .i64 from2 15 = z := ⟨_, rfl⟩
  have hGr : 0 ≤ G ∧ G ≤ 15 := by rw [← hG]; exact and_range from2 15 (by decide)
  obtain ⟨L6, hL6⟩ : ∃ z, bits .and .i64 last 63 = z := ⟨_, rfl⟩
  have hL6r : 0 ≤ L6 ∧ L6 ≤ 63 := by rw [← hL6]; exact and_range last 63 (by decide)
  obtain ⟨F, hF⟩ : ∃ F : Nat, 1 + A' = (F : Int) := ⟨(1 + A').toNat, by omega⟩
  obtain ⟨sp, hsp⟩ : ∃ F : Nat, 1 + S = (F : Int) := ⟨(1 + S).toNat, by omega⟩
  have hF1 : 1 ≤ F ∧ F ≤ 65536 := by omega
  have hs1 : 1 ≤ sp ∧ sp ≤ 4 := by omega
  have HKN := Lib.hid (fun W => known11_any W)
  have hx8 : B8 x = .int .u8 (x.toNat : Int) := rfl
  rw [hx8]
  go_enter Try.func4, Try.ntmps4
  go_wp2_with fail
  refine HFEW.out.mono ?_
  rintro e w1 ⟨B, rfl, rfl, hB⟩
  have hbad : B = false ∨ (B = true ∧ 10 < nt) ∨ (B = true ∧ nt ≤ 10 ∧ at_ < 0) ∨ (B = true ∧ nt ≤ 10 ∧ 0 ≤ at_) := by
    cases B
    · exact .inl rfl
    · by_cases c1 : 10 < nt
      · exact .inr (.inl ⟨rfl, c1⟩)
      · by_cases c2 : at_ < 0
        · exact .inr (.inr (.inl ⟨rfl, by omega, c2⟩))
        · exact .inr (.inr (.inr ⟨rfl, by omega, by omega⟩))
  rcases hbad with rfl | ⟨rfl, h1⟩ | ⟨rfl, h1, h2⟩ | ⟨rfl, h1, h2⟩
  · clear hB
    go_wp2_with fail
    refine (HKN.out w).mono ?_
    rintro e w2 ⟨rfl, hb⟩
    have HB := Lib.hid hb
    clear hb
    go_wp2_with fail
    go_ret
    exact ⟨rfl, HB.out⟩
  · clear hB
    have hd : decide ((nt : Int) > 10) = true := decide_eq_true (by omega)
    go_wp2_with fail
    refine (HKN.out w).mono ?_
    rintro e w2 ⟨rfl, hb⟩
    have HB := Lib.hid hb
    clear hb
    go_wp2_with fail
    go_ret
    exact ⟨rfl, HB.out⟩
  · clear hB
    have hd : decide ((nt : Int) > 10) = false := decide_eq_false (by omega)
    have hd2 : decide (at_ < 0) = true := decide_eq_true h2
    go_wp2_with fail
    refine (HKN.out w).mono ?_
    rintro e w2 ⟨rfl, hb⟩
    have HB := Lib.hid hb
    clear hb
    go_wp2_with fail
    go_ret
    exact ⟨rfl, HB.out⟩
  have hd : decide ((nt : Int) > 10) = false := decide_eq_false (by omega)
  have hd2 : decide (at_ < 0) = false := decide_eq_false (by omega)
  have HSB := Lib.hid (few_sbS HN.out (hB rfl))
  have hn40 := (hB rfl).1
  clear hB
  go_wp2_with fail
  refine (rows_any a n cap F sp ps w HR.out HN.out HSB.out hF1.1 (by omega) hs1.1 hs1.2).mono ?_
  rintro e w1 ⟨g, rfl, o1⟩
  have HY0 : Hid (SB (rowsP sp (ensF F ps)) ∧ (rowsP sp (ensF F ps)).length = sp) := Lib.hid ⟨rowsP_SB hs1.2 (by rw [ensF_len, HN.out]; omega) ensF_short, rowsP_len _ _⟩
  have HO1 := Lib.hid o1
  generalize rowsP sp (ensF F ps) = Y0 at *
  clear o1 hA' hS hF hsp
  go_wp2_with fail
  go_loopw [18] (fun i wr => ∃ (j : Nat) (Y : List (List UInt8)), i = .int .i64 j ∧ j ≤ sp ∧ SOwn w wr g sp Y ∧ Hid (SB Y ∧ Y.length = sp)) (fun i _ => sp - (intOf i).toNat)
  case atStart => exact ⟨0, Y0, rfl, by omega, HO1.out, HY0⟩
  case round =>
    obtain ⟨j, Y, rfl, hj, o, HY⟩ := hrel
    have HO := Lib.hid o
    clear o
    by_cases hgo : j < sp ∧ j < nt
    · have hjs : (j : Int) < sp := by omega
      have hjs2 : decide ((j : Int) < sp) = true := decide_eq_true hjs
      have hjt : (j : Int) < nt := by omega
      have hjt2 : decide ((j : Int) < nt) = true := decide_eq_true hjt
      obtain ⟨y, hy⟩ : ∃ y, Y[j]? = some y := ⟨Y[j]'(by have := HY.out.2; omega), List.getElem?_eq_getElem _⟩
      have hyl := HY.out.1.2 y (List.mem_of_getElem? hy)
      obtain ⟨z, hz⟩ : ∃ l, ts[j]? = some l := ⟨ts[j]'(by have := HNT.out; omega), List.getElem?_eq_getElem _⟩
      obtain ⟨u, hu, hfz, ou, hune⟩ := HO.out.at hy
      obtain ⟨m, hm⟩ : ∃ x, y.length = x := ⟨_, rfl⟩
      obtain ⟨aR, cR, rfl, rR⟩ := ou.row_n hm
      obtain ⟨b5, o5, rfl, q0⟩ := (HT.out.later HO.out.below).at hz
      rw [hm] at hyl
      obtain ⟨C, hC⟩ : ∃ c, bits .and .i64 z 255 = c := ⟨_, rfl⟩
      have hCr : 0 ≤ C ∧ C ≤ 255 := by rw [← hC]; exact and_range z 255 (by decide)
      obtain ⟨q, hq⟩ : ∃ q : Nat, C % ((m : Int) + 1) = q := ⟨(C % ((m : Int) + 1)).toNat, by have := Int.emod_nonneg C (show ((m : Int) + 1) ≠ 0 by omega); omega⟩
      have hqm : q ≤ m := by have := Int.emod_lt_of_pos C (show 0 < ((m : Int) + 1) by omega); omega
      obtain ⟨h, hh⟩ : ∃ h, m - q = h := ⟨_, rfl⟩
      have hhm : h ≤ m := by omega
      have HSL := fun W => run_slB (W := W) (hi := h) rR hm hhm
      have HP := Lib.hid (HO.out.put hy hu (w' := wr) ⟨rfl, rfl, rfl, Nat.le_refl _, fun _ _ _ => rfl⟩ (ou.cut hm hhm) (.inl (by cases aR <;> rfl)))
      have HYN : Hid (SB (Y.set j (y.take h)) ∧ (Y.set j (y.take h)).length = sp) := Lib.hid ⟨HY.out.1.set (by rw [List.length_take]; omega), by rw [List.length_set]; exact HY.out.2⟩
      have hw1 : IntKind.i64.wrap ((m : Int) + 1) = (m : Int) + 1 := by rw [IntKind.wrap_i64]; omega
      have hw2 : C.tmod ((m : Int) + 1) = (q : Int) := by rw [tmod_nn hCr.1, hq]
      have hw3 : IntKind.i64.wrap ((m : Int) - (q : Int)) = (h : Int) := by rw [IntKind.wrap_i64]; omega
      have hw4 : (m : Int) - (q : Int) = (h : Int) := by omega
      have hfz2 : wr.frozen? ⟨g, j, none⟩ = false := hfz
      clear hfz hy hz ou hune rR hm hgo
      go_upto_region 8 with fail
      go_region
      all_goals
        have HP2 := Lib.hid (HP.out.later (Below.refl _ _).drew)
        clear HSL hw1 hw2 hw3 hw4 hu q0 hfz2
        go_wp2_with fail
        go_roundw
        case rel => exact ⟨j + 1, _, by go_num, by omega, HP2.out, HYN⟩
        case measure => simp [intOf]; omega
    · obtain ⟨K, hK, hKs⟩ : ∃ K : Nat, at_ % (sp : Int) = K ∧ K < sp := by
        have h1 := Int.emod_nonneg at_ (show ((sp : Nat) : Int) ≠ 0 by omega)
        have h2 := Int.emod_lt_of_pos at_ (show 0 < ((sp : Nat) : Int) by omega)
        exact ⟨(at_ % (sp : Int)).toNat, by omega, by omega⟩
      obtain ⟨FV, hFV⟩ : ∃ z, (F : Int) + G - 4 = z := ⟨_, rfl⟩
      have hFVr : -3 ≤ FV ∧ FV ≤ 70000 := by omega
      obtain ⟨LA, hLA⟩ : ∃ z, (F : Int) + L6 - 2 = z := ⟨_, rfl⟩
      have hLAr : -1 ≤ LA ∧ LA ≤ 70000 := by omega
      have hgo2 : (¬ (j : Int) < sp) ∨ ((j : Int) < sp ∧ ¬ (j : Int) < nt) := by omega
      obtain ⟨w4, hw4⟩ : ∃ W, W = wr := ⟨_, rfl⟩
      subst hw4
      obtain ⟨y, hy⟩ : ∃ y, Y[K]? = some y := ⟨Y[K]'(by have := HY.out.2; omega), List.getElem?_eq_getElem _⟩
      have hyl := HY.out.1.2 y (List.mem_of_getElem? hy)
      obtain ⟨u, hu, hfz, ou, hune⟩ := HO.out.at hy
      obtain ⟨m, hm⟩ : ∃ x, y.length = x := ⟨_, rfl⟩
      obtain ⟨aR, cR, rfl, rR⟩ := ou.row_n hm
      rw [hm] at hyl
      have HYY := Lib.hid hy
      have HOU := Lib.hid ou
      have HM := Lib.hid hm
      clear hgo hy hfz ou hune rR hm
      rcases hgo2 with hjs | ⟨hjs, hjt⟩
      all_goals
        go_upto_region 10 with fail
        try rw [hK]
        go_upto_if 92 with (fail)
        go_cut [] (fun wx => ∃ Y', Hid (SOwn w wx g sp Y') ∧ Hid (SB Y' ∧ Y'.length = sp))
        case first =>
          by_cases hm0 : m = 0
          · have hmd : decide ((m : Int) > 0) = false := decide_eq_false (by omega)
            go_wp2_with fail
            go_meet
            exact ⟨Y, HO, HY⟩
          · have hmd : decide ((m : Int) > 0) = true := decide_eq_true (by omega)
            obtain ⟨g2, cg, hag, _, _⟩ := HOU.out.at HM.out (by omega)
            cases hag
            obtain ⟨V, hV⟩ : ∃ V, at_ / (sp : Int) = V := ⟨_, rfl⟩
            have hV0 : 0 ≤ V := by rw [← hV]; exact Int.ediv_nonneg h2 (by omega)
            have hVm : V ≤ at_ := by rw [← hV]; exact Int.ediv_le_self _ h2
            have hq1 : at_.tdiv (sp : Int) = V := by rw [Int.tdiv_eq_ediv_of_nonneg h2, hV]
            obtain ⟨J, hJ, hJm⟩ : ∃ J : Nat, V % (m : Int) = J ∧ J < m := by
              have h1 := Int.emod_nonneg V (show ((m : Nat) : Int) ≠ 0 by omega)
              have h2 := Int.emod_lt_of_pos V (show 0 < ((m : Nat) : Int) by omega)
              exact ⟨(V % (m : Int)).toNat, by omega, by omega⟩
            have hq2 : V.tmod (m : Int) = (J : Int) := by rw [tmod_nn hV0, hJ]
            have hq3 : IntKind.i64.wrap V = V := by rw [IntKind.wrap_i64]; omega
            obtain ⟨ub, hub⟩ : ∃ v, y[J]? = some v := ⟨y[J]'(by have := HM.out; omega), List.getElem?_eq_getElem _⟩
            have fc := HOU.out.cellAt HM.out hub
            have fr := HOU.out.frozenAt HM.out J
            have HPK := Lib.hid (HO.out.poke HYY.out hu HM.out J (ub ^^^ x))
            have HYN : Hid (SB (Y.set K (y.set J (ub ^^^ x))) ∧ (Y.set K (y.set J (ub ^^^ x))).length = sp) := Lib.hid ⟨HY.out.1.set (by rw [List.length_set, HM.out]; exact hyl), by rw [List.length_set]; exact HY.out.2⟩
            have hu8 := ub.toNat_lt
            have hux := u8_xor ub x
            unfold B8 at fc HPK
            rw [UInt8.toNat_xor] at HPK hux
            clear hub
            go_upto_region 11 with fail
            go_region
            all_goals
              have HPD := Lib.hid (HPK.out.later (Below.refl _ _).drew)
              clear hq1 hq2 hq3 hux fc fr hu
              go_wp2_with fail
              go_meet
              exact ⟨_, HPD, HYN⟩
        case rest =>
          clear HO HY HYY HOU HM hu hK hKs hyl
          obtain ⟨X, HO, HX⟩ := hcut
          obtain ⟨w5, hw5⟩ : ∃ W, W = wc := ⟨_, rfl⟩
          subst hw5
          have HS5 := Lib.hid (HO.out.srow (by omega))
          have HB5 := Lib.hid HO.out.below
          clear HO
          go_wp2_with fail
          refine (ends_any _ sp sp X LA w5 HS5.out HX.out.2 HX.out.1).mono ?_
          rintro e w6 ⟨v6, rfl, o6⟩
          have hz : (endsZ X LA).length = sp := by rw [endsZ_len, HX.out.2]
          obtain ⟨a6, c6, rfl, r6⟩ := o6.row_n inOk hz
          have HZ6 := Lib.hid r6.zrow
          have HZL := Lib.hid hz
          have HS6 := Lib.hid (HS5.out.later o6.below)
          have HB6 := Lib.hid (HB5.out.trans (o6.below.mono HB5.out.size))
          have hzc := HZ6.out.1
          have hzm := HZ6.out.2.1
          unfold maxLen at hzm
          rw [hz] at hzc
          clear o6 r6 hz
          go_wp2_with fail
          go_loopw [21, 22] (fun t i wr => ∃ (q : Nat) (T : Bool), i = .int .i64 q ∧ t = .bool T ∧ q ≤ sp ∧ Below w6.heap.size w6 wr ∧ Hid (T = tornS (X.take q) LA)) (fun _ i _ => sp - (intOf i).toNat)
          case atStart => exact ⟨0, false, rfl, rfl, by omega, Below.refl _ _, Lib.hid rfl⟩
          case round =>
            obtain ⟨q, T, rfl, rfl, hq, hb, HTQ⟩ := hrel
            have HBR := Lib.hid hb
            clear hb
            by_cases hqs : (q : Int) < sp
            · have hqs2 : decide ((q : Int) < sp) = true := decide_eq_true hqs
              obtain ⟨y, hy⟩ : ∃ y, X[q]? = some y := ⟨X[q]'(by have := HX.out.2; omega), List.getElem?_eq_getElem _⟩
              have hyl := HX.out.1.2 y (List.mem_of_getElem? hy)
              have hzq : (endsZ X LA)[q]? = some ((endA y LA : Nat) : Int) := by unfold endsZ endsS; rw [List.getElem?_map, List.getElem?_map, hy]; rfl
              have HTS : Hid (tornS (X.take (q + 1)) LA = (T || decide (endA y LA < y.length))) := Lib.hid (by
                obtain ⟨h1, h2⟩ := List.getElem?_eq_some_iff.1 hy
                rw [HTQ.out]
                unfold tornS
                rw [List.take_succ_eq_append_getElem h1, h2, List.any_append]; simp)
              obtain ⟨b7, o7, a7, c7, ea, p0, _⟩ := (HS6.out.later HBR.out).at hy
              cases ea
              obtain ⟨bz, oz, rfl, z0⟩ := (HZ6.out.later HBR.out).at hzq
              obtain ⟨E, hE⟩ : ∃ x, endA y LA = x := ⟨_, rfl⟩
              obtain ⟨m9, hm9⟩ : ∃ x, y.length = x := ⟨_, rfl⟩
              rw [hE] at z0 HTS
              rw [hm9] at p0 hyl HTS
              simp only [Nat.zero_add] at p0
              have hdd : decide ((E : Int) < (m9 : Int)) = decide (E < m9) := by
                by_cases c : E < m9
                · rw [decide_eq_true c, decide_eq_true (by omega)]
                · rw [decide_eq_false c, decide_eq_false (by omega)]
              obtain ⟨D, hD⟩ : ∃ D, decide (E < m9) = D := ⟨_, rfl⟩
              rw [hD] at hdd HTS
              have HDD := Lib.hid hD
              clear hy hzq hE hm9 hD hdd
              cases T with
              | true =>
                rw [Bool.true_or] at HTS
                go_upto_region 19 with fail
                go_quiet (fail)
                go_wp2_with fail
                go_roundw
                case rel => exact ⟨q + 1, true, by go_num, rfl, by omega, HBR.out.trans ((below_drewN _ _).mono HBR.out.size), Lib.hid HTS.out.symm⟩
                case measure => simp [intOf]; omega
              | false =>
                rw [Bool.false_or] at HTS
                go_upto_region 19 with fail
                go_quiet (fail)
                go_wp2_with fail
                go_roundw
                case rel => exact ⟨q + 1, D, by go_num, congrArg Value.bool HDD.out, by omega, HBR.out.trans ((below_drewN _ _).mono HBR.out.size), Lib.hid HTS.out.symm⟩
                case measure => simp [intOf]; omega
            · have hqs2 : decide ((q : Int) < sp) = false := decide_eq_false hqs
              have HTE : Hid (tornS X LA = T) := Lib.hid (by rw [HTQ.out, List.take_of_length_le (by rw [HX.out.2]; omega)])
              obtain ⟨w7, hw7⟩ : ∃ W, W = wr := ⟨_, rfl⟩
              subst hw7
              have HS7 := Lib.hid (HS6.out.later HBR.out)
              have HZ7 := Lib.hid (HZ6.out.later HBR.out)
              have HB7 := Lib.hid (HB6.out.trans (HBR.out.mono HB6.out.size))
              have hTT : (T == T) = true := by simp
              clear HTQ HS6 HZ6 HBR
              go_wp2_with fail
              refine (merge_any _ sp sp X FV w7 HS7.out HX.out.2 HX.out.1 (by omega) (by omega)).mono ?_
              rintro e w8 ⟨v8, rfl, o8⟩
              obtain ⟨N, hN⟩ : ∃ N, (mergeS X FV).length = N := ⟨_, rfl⟩
              obtain ⟨a8, c8, rfl⟩ := o8.val enT_ok hN
              have HE8 := Lib.hid (o8.row enT_ok en_rel (fromJ_new _)).erow.2
              have HB8 := Lib.hid (HB7.out.trans (o8.below.mono HB7.out.size))
              have HS8 := Lib.hid (HS7.out.later o8.below)
              have HZ8 := Lib.hid (HZ7.out.later o8.below)
              clear o8
              go_wp2_with fail
              refine (rmerge_any _ sp sp X FV w8 HS8.out HX.out.2 HX.out.1 (by omega)).mono ?_
              rintro e w9 ⟨v9, rfl, o9⟩
              obtain ⟨a9, c9, rfl⟩ := o9.val enT_ok hN
              have HE9 := Lib.hid (o9.row enT_ok en_rel (fromJ_new _)).erow.2
              have HE8' := Lib.hid (HE8.out.later o9.below)
              have HB9 := Lib.hid (HB8.out.trans (o9.below.mono HB8.out.size))
              have HS9 := Lib.hid (HS8.out.later o9.below)
              have HZ9 := Lib.hid (HZ8.out.later o9.below)
              have HSM := Lib.hid (esame_list a8 a9 N N c8 c9 _ _ w9 HE8'.out HE9.out hN hN)
              rw [decide_eq_true rfl] at HSM
              clear o9 hN
              go_wp2_with fail
              refine HSM.out.mono ?_
              rintro e w10 ⟨rfl, b10⟩
              have HB10 := Lib.hid (HB9.out.trans (b10.mono HB9.out.size))
              have HS10 := Lib.hid (HS9.out.later b10)
              have HZ10 := Lib.hid (HZ9.out.later b10)
              clear b10 HSM HE8 HE9 HE8'
              go_wp2_with fail
              refine (rends_any _ sp sp X LA w10 HS10.out HX.out.2 HX.out.1).mono ?_
              rintro e w11 ⟨v11, rfl, o11⟩
              obtain ⟨a11, c11, rfl, r11⟩ := o11.row_n inOk HZL.out
              have HZS := Lib.hid (zsame_any a6 a11 sp sp c6 c11 _ _ w11 (HZ10.out.later o11.below) r11.zrow HZL.out HZL.out)
              rw [decide_eq_true rfl] at HZS
              have HB11 := Lib.hid (HB10.out.trans (o11.below.mono HB10.out.size))
              have HS11 := Lib.hid (HS10.out.later o11.below)
              clear o11 r11 HZ10
              go_wp2_with fail
              refine HZS.out.mono ?_
              rintro e w12 ⟨rfl, b12⟩
              have HB12 := Lib.hid (HB11.out.trans (b12.mono HB11.out.size))
              have HS12 := Lib.hid (HS11.out.later b12)
              clear b12 HZS
              go_wp2_with fail
              refine (first_any _ sp sp X w12 HS12.out HX.out.2 HX.out.1).mono ?_
              rintro e w13 ⟨rfl, b13⟩
              have HB13 := Lib.hid (HB12.out.trans (b13.mono HB12.out.size))
              have HS13 := Lib.hid (HS12.out.later b13)
              clear b13
              go_wp2_with fail
              refine (rfirst_any _ sp sp X w13 HS13.out HX.out.2 HX.out.1).mono ?_
              rintro e w14 ⟨rfl, b14⟩
              have HB14 := Lib.hid (HB13.out.trans (b14.mono HB13.out.size))
              have HS14 := Lib.hid (HS13.out.later b14)
              have HTC := Lib.hid (torn_any _ sp sp X LA w14 HS14.out HX.out.2 HX.out.1)
              rw [HTE.out] at HTC
              have hfq : (firstS X == firstS X) = true := by simp
              clear b14
              generalize firstS X = FS at *
              go_wp2_with fail
              refine HTC.out.mono ?_
              rintro e w15 ⟨rfl, b15⟩
              have HB15 := Lib.hid (HB14.out.trans (b15.mono HB14.out.size))
              clear b15 HTC
              go_wp2_with fail
              refine (HKN.out w15).mono ?_
              rintro e w16 ⟨rfl, b16⟩
              have HB16 := Lib.hid (HB15.out.trans (b16.mono HB15.out.size))
              clear b16
              go_wp2_with fail
              go_ret
              exact ⟨rfl, HB16.out⟩
end Go.Proofs.Ytabeleihpnnadaa
