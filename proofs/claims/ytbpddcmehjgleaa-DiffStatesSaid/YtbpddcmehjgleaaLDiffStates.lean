/- The law 'DiffStates', walked. -/
import Derived.Test.YtbpddcmehjgleaaGDd
import Derived.Test.YtbpddcmehjgleaaGMe
namespace Go.Proofs.Ytbpddcmehjgleaa
open Go.RowKit Go.Proofs
set_option linter.unusedVariables false
set_option linter.unusedSimpArgs false
set_option linter.unnecessarySimpa false

theorem calls_sames {f : FuncId} {args : Array Value} {w : World} {l u : List Ev} (h : Calls Try.prog f args w fun e w' => e = .returned (.bool (decide (l = u))) ∧ Below w.heap.size w w') (e : l = u) : Calls Try.prog f args w fun e w' => e = .returned (.bool true) ∧ Below w.heap.size w w' := by
  rw [decide_eq_true e] at h; exact h
set_option maxRecDepth 100000 in
set_option maxHeartbeats 12800000 in
theorem diffStates_walk (d1 v1 : Value) (s : Sx) (d2 v2 : Value) (t : Sx) (w : World) (hs : StA allJ w d1 v1 s) (ht : StA allJ w d2 v2 t) :
    Calls Try.prog 5 #[.agg #[d1, v1], .agg #[d2, v2]] w fun x w' => x = .returned (.bool true) ∧ Below w.heap.size w w' := by
  obtain ⟨a1, c1, a2, c2, rfl, rfl, rd, rs⟩ := hs.open
  obtain ⟨a3, c3, a4, c4, rfl, rfl, td, ts⟩ := ht.open
  obtain ⟨hl1, hl2⟩ := rs.lim
  obtain ⟨hl3, hl4⟩ := ts.lim
  have hld1 := rd.lim rfl
  have hld2 := td.lim rfl
  obtain ⟨X2, X3, B3⟩ := two_recsS w #[.slice a1 s.data.length c1, .slice a2 s.snaps.length c2] #[.slice a3 t.data.length c3, .slice a4 t.snaps.length c4] 32 32
  obtain ⟨wo, hw1⟩ : ∃ W, ((w.alloc (.cells #[.slice a1 s.data.length c1, .slice a2 s.snaps.length c2] 32)).alloc (.cells #[.slice a3 t.data.length c3, .slice a4 t.snaps.length c4] 32)) = W := ⟨_, rfl⟩
  rw [hw1] at X2 X3 B3
  obtain ⟨nd, hnd⟩ : ∃ z, s.data.length = z := ⟨_, rfl⟩
  obtain ⟨ns, hns⟩ : ∃ z, s.snaps.length = z := ⟨_, rfl⟩
  obtain ⟨md, hmd⟩ : ∃ z, t.data.length = z := ⟨_, rfl⟩
  obtain ⟨ms, hms⟩ : ∃ z, t.snaps.length = z := ⟨_, rfl⟩
  simp only [hnd, hns, hmd, hms] at X2 X3 hw1 hs ht hl1 hl3 hld1 hld2 ⊢
  have HX2 := Lib.hid X2
  have HX3 := Lib.hid X3
  have HB := Lib.hid B3
  have HS := Lib.hid (hs.later B3)
  have HT := Lib.hid (ht.later B3)
  have HRS := Lib.hid (show QO allJ wo (.slice a2 ns c2) s.snaps from (hs.later B3).snaps)
  have HTS := Lib.hid (show QO allJ wo (.slice a4 ms c4) t.snaps from (ht.later B3).snaps)
  have HND := Lib.hid hnd
  have HNS := Lib.hid hns
  have HMD := Lib.hid hmd
  have HMS := Lib.hid hms
  clear X2 X3 B3 rd rs td ts hs ht hnd hns hmd hms
  go_enter Try.func5, Try.ntmps5
  go_upto_region 1 with fail
  try rw [hw1]
  clear hw1
  obtain ⟨X, hX⟩ : ∃ X, w.heap.size = X := ⟨_, rfl⟩
  simp only [hX] at HX2 HX3 ⊢
  have HXS := Lib.hid hX
  clear hX
  obtain ⟨x0, x1⟩ := HX2.out.c2
  obtain ⟨y0, y1⟩ := HX3.out.c2
  go_wp2_with fail
  go_loopw [5] (fun i wr => ∃ j : Nat, i = .int .i64 j ∧ j ≤ ns ∧ j ≤ 20 ∧ wr = wo ∧ Hid (∀ k, k < j → ∀ o, s.snaps[k]? = some o → o.data.length ≤ 600 ∧ o.name.length ≤ 40)) (fun i _ => ns - (intOf i).toNat)
  case atStart => exact ⟨0, rfl, by omega, by omega, rfl, Lib.hid (fun k h => by omega)⟩
  case round =>
    obtain ⟨j, rfl, hjj, hj20j, hwr, HA1⟩ := hrel
    have hwr2 : wo = wr := hwr.symm
    clear hwr
    subst hwr2
    by_cases h1 : (j : Int) < ns
    · have hd1 : decide ((j : Int) < (ns : Int)) = true := decide_eq_true h1
      by_cases h2 : (j : Int) < 20
      · have hjj : j < ns := by omega
        have hjz : ¬ (j : Int) < 0 := by omega
        obtain ⟨e, he⟩ : ∃ e, s.snaps[j]? = some e := ⟨s.snaps[j]'(by have := HNS.out; omega), List.getElem?_eq_getElem _⟩
        obtain ⟨b1, f1, N1, e1, k1, hb1, p0, p1, hN1, hN2, hrr⟩ := HRS.out.o2 he
        have hsz : e.name.length = N1.size := by rw [← hN1]; exact Array.length_toList
        have hlc := hrr.lim rfl
        have HMO : Hid (e.data.length ≤ 600 ∧ N1.size ≤ 40 → ∀ k, k < j + 1 → ∀ o, s.snaps[k]? = some o → o.data.length ≤ 600 ∧ o.name.length ≤ 40) := Lib.hid fun h k hk o ho => by
          by_cases c : k = j
          · subst c; rw [he] at ho; cases ho; exact ⟨h.1, by rw [hsz]; exact h.2⟩
          · exact HA1.out k (by omega) o ho
        obtain ⟨L1, hL1⟩ : ∃ z, e.data.length = z := ⟨_, rfl⟩
        rw [hL1] at p1 HMO hlc
        subst hb1
        clear he hN1 hsz hrr hL1
        by_cases hL : L1 ≤ 600
        · have hd3 : decide ((L1 : Int) > 600) = false := decide_eq_false (by omega)
          by_cases hZ : N1.size ≤ 40
          · have hd4 : decide ((N1.size : Int) > 40) = false := decide_eq_false (by omega)
            have HA2 := Lib.hid (HMO.out ⟨hL, hZ⟩)
            go_wp2_with fail
            go_roundw
            case rel => exact ⟨j + 1, by go_num, by omega, by omega, trivial, HA2⟩
            case measure => simp [intOf]; omega
          · have hd4 : decide ((N1.size : Int) > 40) = true := decide_eq_true (by omega)
            go_wp2_with fail
            refine (known15_any _).mono ?_
            rintro e wk ⟨rfl, bk⟩
            have HBk := Lib.hid (HB.out.trans (bk.mono HB.out.size))
            clear bk
            go_wp2_with fail
            go_ret
            exact ⟨rfl, HBk.out⟩
        · have hd3 : decide ((L1 : Int) > 600) = true := decide_eq_true (by omega)
          go_wp2_with fail
          refine (known15_any _).mono ?_
          rintro e wk ⟨rfl, bk⟩
          have HBk := Lib.hid (HB.out.trans (bk.mono HB.out.size))
          clear bk
          go_wp2_with fail
          go_ret
          exact ⟨rfl, HBk.out⟩
      · have hd2 : decide ((j : Int) < 20) = false := decide_eq_false (by omega)
        have HBIGns : Hid (12 < ns) := Lib.hid (by omega)
        go_wp2_with fail
        go_loopw [6] (fun i wr => ∃ j : Nat, i = .int .i64 j ∧ j ≤ ms ∧ j ≤ 20 ∧ wr = wo ∧ Hid (∀ k, k < j → ∀ o, t.snaps[k]? = some o → o.data.length ≤ 600 ∧ o.name.length ≤ 40)) (fun i _ => ms - (intOf i).toNat)
        case atStart => exact ⟨0, rfl, by omega, by omega, rfl, Lib.hid (fun k h => by omega)⟩
        case round =>
          obtain ⟨q2, rfl, hjq2, hj20q2, hwr, HA2'⟩ := hrel
          have hwr2 : wo = wr := hwr.symm
          clear hwr
          subst hwr2
          by_cases h1 : (q2 : Int) < ms
          · have hd1 : decide ((q2 : Int) < (ms : Int)) = true := decide_eq_true h1
            by_cases h2 : (q2 : Int) < 20
            · have hjj : q2 < ms := by omega
              have hjz : ¬ (q2 : Int) < 0 := by omega
              obtain ⟨e, he⟩ : ∃ e, t.snaps[q2]? = some e := ⟨t.snaps[q2]'(by have := HMS.out; omega), List.getElem?_eq_getElem _⟩
              obtain ⟨b1, f1, N1, e1, k1, hb1, p0, p1, hN1, hN2, hrr⟩ := HTS.out.o2 he
              have hsz : e.name.length = N1.size := by rw [← hN1]; exact Array.length_toList
              have hlc := hrr.lim rfl
              have HMO : Hid (e.data.length ≤ 600 ∧ N1.size ≤ 40 → ∀ k, k < q2 + 1 → ∀ o, t.snaps[k]? = some o → o.data.length ≤ 600 ∧ o.name.length ≤ 40) := Lib.hid fun h k hk o ho => by
                by_cases c : k = q2
                · subst c; rw [he] at ho; cases ho; exact ⟨h.1, by rw [hsz]; exact h.2⟩
                · exact HA2'.out k (by omega) o ho
              obtain ⟨L1, hL1⟩ : ∃ z, e.data.length = z := ⟨_, rfl⟩
              rw [hL1] at p1 HMO hlc
              subst hb1
              clear he hN1 hsz hrr hL1
              by_cases hL : L1 ≤ 600
              · have hd3 : decide ((L1 : Int) > 600) = false := decide_eq_false (by omega)
                by_cases hZ : N1.size ≤ 40
                · have hd4 : decide ((N1.size : Int) > 40) = false := decide_eq_false (by omega)
                  have HA2 := Lib.hid (HMO.out ⟨hL, hZ⟩)
                  go_wp2_with fail
                  go_roundw
                  case rel => exact ⟨q2 + 1, by go_num, by omega, by omega, trivial, HA2⟩
                  case measure => simp [intOf]; omega
                · have hd4 : decide ((N1.size : Int) > 40) = true := decide_eq_true (by omega)
                  go_wp2_with fail
                  refine (known15_any _).mono ?_
                  rintro e wk ⟨rfl, bk⟩
                  have HBk := Lib.hid (HB.out.trans (bk.mono HB.out.size))
                  clear bk
                  go_wp2_with fail
                  go_ret
                  exact ⟨rfl, HBk.out⟩
              · have hd3 : decide ((L1 : Int) > 600) = true := decide_eq_true (by omega)
                go_wp2_with fail
                refine (known15_any _).mono ?_
                rintro e wk ⟨rfl, bk⟩
                have HBk := Lib.hid (HB.out.trans (bk.mono HB.out.size))
                clear bk
                go_wp2_with fail
                go_ret
                exact ⟨rfl, HBk.out⟩
            · have hd2 : decide ((q2 : Int) < 20) = false := decide_eq_false (by omega)
              have HBIGms : Hid (12 < ms) := Lib.hid (by omega)
              by_cases g1 : (nd : Int) > 600
              · have gd1 : decide ((nd : Int) > 600) = true := decide_eq_true g1
                go_wp2_with fail
                refine (known15_any _).mono ?_
                rintro e wk ⟨rfl, bk⟩
                have HBk := Lib.hid (HB.out.trans (bk.mono HB.out.size))
                clear bk
                go_wp2_with fail
                go_ret
                exact ⟨rfl, HBk.out⟩
              have gd1 : decide ((nd : Int) > 600) = false := decide_eq_false g1
              by_cases g2 : (md : Int) > 600
              · have gd2 : decide ((md : Int) > 600) = true := decide_eq_true g2
                go_wp2_with fail
                refine (known15_any _).mono ?_
                rintro e wk ⟨rfl, bk⟩
                have HBk := Lib.hid (HB.out.trans (bk.mono HB.out.size))
                clear bk
                go_wp2_with fail
                go_ret
                exact ⟨rfl, HBk.out⟩
              have gd2 : decide ((md : Int) > 600) = false := decide_eq_false g2
              have gd3 : decide ((ns : Int) > 12) = true := decide_eq_true (by have := HBIGns.out; omega)
              go_wp2_with fail
              refine (known15_any _).mono ?_
              rintro e wk ⟨rfl, bk⟩
              have HBk := Lib.hid (HB.out.trans (bk.mono HB.out.size))
              clear bk
              go_wp2_with fail
              go_ret
              exact ⟨rfl, HBk.out⟩
          · have hd1 : decide ((q2 : Int) < (ms : Int)) = false := decide_eq_false h1
            have hjms : q2 = ms := by omega
            subst hjms
            by_cases g1 : (nd : Int) > 600
            · have gd1 : decide ((nd : Int) > 600) = true := decide_eq_true g1
              go_wp2_with fail
              refine (known15_any _).mono ?_
              rintro e wk ⟨rfl, bk⟩
              have HBk := Lib.hid (HB.out.trans (bk.mono HB.out.size))
              clear bk
              go_wp2_with fail
              go_ret
              exact ⟨rfl, HBk.out⟩
            have gd1 : decide ((nd : Int) > 600) = false := decide_eq_false g1
            by_cases g2 : (md : Int) > 600
            · have gd2 : decide ((md : Int) > 600) = true := decide_eq_true g2
              go_wp2_with fail
              refine (known15_any _).mono ?_
              rintro e wk ⟨rfl, bk⟩
              have HBk := Lib.hid (HB.out.trans (bk.mono HB.out.size))
              clear bk
              go_wp2_with fail
              go_ret
              exact ⟨rfl, HBk.out⟩
            have gd2 : decide ((md : Int) > 600) = false := decide_eq_false g2
            have gd3 : decide ((ns : Int) > 12) = true := decide_eq_true (by have := HBIGns.out; omega)
            go_wp2_with fail
            refine (known15_any _).mono ?_
            rintro e wk ⟨rfl, bk⟩
            have HBk := Lib.hid (HB.out.trans (bk.mono HB.out.size))
            clear bk
            go_wp2_with fail
            go_ret
            exact ⟨rfl, HBk.out⟩
    · have hd1 : decide ((j : Int) < (ns : Int)) = false := decide_eq_false h1
      have hjns : j = ns := by omega
      subst hjns
      go_wp2_with fail
      go_loopw [6] (fun i wr => ∃ j : Nat, i = .int .i64 j ∧ j ≤ ms ∧ j ≤ 20 ∧ wr = wo ∧ Hid (∀ k, k < j → ∀ o, t.snaps[k]? = some o → o.data.length ≤ 600 ∧ o.name.length ≤ 40)) (fun i _ => ms - (intOf i).toNat)
      case atStart => exact ⟨0, rfl, by omega, by omega, rfl, Lib.hid (fun k h => by omega)⟩
      case round =>
        obtain ⟨q2, rfl, hjq2, hj20q2, hwr, HA2'⟩ := hrel
        have hwr2 : wo = wr := hwr.symm
        clear hwr
        subst hwr2
        by_cases h1 : (q2 : Int) < ms
        · have hd1 : decide ((q2 : Int) < (ms : Int)) = true := decide_eq_true h1
          by_cases h2 : (q2 : Int) < 20
          · have hjj : q2 < ms := by omega
            have hjz : ¬ (q2 : Int) < 0 := by omega
            obtain ⟨e, he⟩ : ∃ e, t.snaps[q2]? = some e := ⟨t.snaps[q2]'(by have := HMS.out; omega), List.getElem?_eq_getElem _⟩
            obtain ⟨b1, f1, N1, e1, k1, hb1, p0, p1, hN1, hN2, hrr⟩ := HTS.out.o2 he
            have hsz : e.name.length = N1.size := by rw [← hN1]; exact Array.length_toList
            have hlc := hrr.lim rfl
            have HMO : Hid (e.data.length ≤ 600 ∧ N1.size ≤ 40 → ∀ k, k < q2 + 1 → ∀ o, t.snaps[k]? = some o → o.data.length ≤ 600 ∧ o.name.length ≤ 40) := Lib.hid fun h k hk o ho => by
              by_cases c : k = q2
              · subst c; rw [he] at ho; cases ho; exact ⟨h.1, by rw [hsz]; exact h.2⟩
              · exact HA2'.out k (by omega) o ho
            obtain ⟨L1, hL1⟩ : ∃ z, e.data.length = z := ⟨_, rfl⟩
            rw [hL1] at p1 HMO hlc
            subst hb1
            clear he hN1 hsz hrr hL1
            by_cases hL : L1 ≤ 600
            · have hd3 : decide ((L1 : Int) > 600) = false := decide_eq_false (by omega)
              by_cases hZ : N1.size ≤ 40
              · have hd4 : decide ((N1.size : Int) > 40) = false := decide_eq_false (by omega)
                have HA2 := Lib.hid (HMO.out ⟨hL, hZ⟩)
                go_wp2_with fail
                go_roundw
                case rel => exact ⟨q2 + 1, by go_num, by omega, by omega, trivial, HA2⟩
                case measure => simp [intOf]; omega
              · have hd4 : decide ((N1.size : Int) > 40) = true := decide_eq_true (by omega)
                go_wp2_with fail
                refine (known15_any _).mono ?_
                rintro e wk ⟨rfl, bk⟩
                have HBk := Lib.hid (HB.out.trans (bk.mono HB.out.size))
                clear bk
                go_wp2_with fail
                go_ret
                exact ⟨rfl, HBk.out⟩
            · have hd3 : decide ((L1 : Int) > 600) = true := decide_eq_true (by omega)
              go_wp2_with fail
              refine (known15_any _).mono ?_
              rintro e wk ⟨rfl, bk⟩
              have HBk := Lib.hid (HB.out.trans (bk.mono HB.out.size))
              clear bk
              go_wp2_with fail
              go_ret
              exact ⟨rfl, HBk.out⟩
          · have hd2 : decide ((q2 : Int) < 20) = false := decide_eq_false (by omega)
            have HBIGms : Hid (12 < ms) := Lib.hid (by omega)
            by_cases g1 : (nd : Int) > 600
            · have gd1 : decide ((nd : Int) > 600) = true := decide_eq_true g1
              go_wp2_with fail
              refine (known15_any _).mono ?_
              rintro e wk ⟨rfl, bk⟩
              have HBk := Lib.hid (HB.out.trans (bk.mono HB.out.size))
              clear bk
              go_wp2_with fail
              go_ret
              exact ⟨rfl, HBk.out⟩
            have gd1 : decide ((nd : Int) > 600) = false := decide_eq_false g1
            by_cases g2 : (md : Int) > 600
            · have gd2 : decide ((md : Int) > 600) = true := decide_eq_true g2
              go_wp2_with fail
              refine (known15_any _).mono ?_
              rintro e wk ⟨rfl, bk⟩
              have HBk := Lib.hid (HB.out.trans (bk.mono HB.out.size))
              clear bk
              go_wp2_with fail
              go_ret
              exact ⟨rfl, HBk.out⟩
            have gd2 : decide ((md : Int) > 600) = false := decide_eq_false g2
            by_cases g3 : (j : Int) > 12
            · have gd3 : decide ((j : Int) > 12) = true := decide_eq_true g3
              go_wp2_with fail
              refine (known15_any _).mono ?_
              rintro e wk ⟨rfl, bk⟩
              have HBk := Lib.hid (HB.out.trans (bk.mono HB.out.size))
              clear bk
              go_wp2_with fail
              go_ret
              exact ⟨rfl, HBk.out⟩
            have gd3 : decide ((j : Int) > 12) = false := decide_eq_false g3
            have gd4 : decide ((ms : Int) > 12) = true := decide_eq_true (by have := HBIGms.out; omega)
            go_wp2_with fail
            refine (known15_any _).mono ?_
            rintro e wk ⟨rfl, bk⟩
            have HBk := Lib.hid (HB.out.trans (bk.mono HB.out.size))
            clear bk
            go_wp2_with fail
            go_ret
            exact ⟨rfl, HBk.out⟩
        · have hd1 : decide ((q2 : Int) < (ms : Int)) = false := decide_eq_false h1
          have hjms : q2 = ms := by omega
          subst hjms
          by_cases g1 : (nd : Int) > 600
          · have gd1 : decide ((nd : Int) > 600) = true := decide_eq_true g1
            go_wp2_with fail
            refine (known15_any _).mono ?_
            rintro e wk ⟨rfl, bk⟩
            have HBk := Lib.hid (HB.out.trans (bk.mono HB.out.size))
            clear bk
            go_wp2_with fail
            go_ret
            exact ⟨rfl, HBk.out⟩
          have gd1 : decide ((nd : Int) > 600) = false := decide_eq_false g1
          by_cases g2 : (md : Int) > 600
          · have gd2 : decide ((md : Int) > 600) = true := decide_eq_true g2
            go_wp2_with fail
            refine (known15_any _).mono ?_
            rintro e wk ⟨rfl, bk⟩
            have HBk := Lib.hid (HB.out.trans (bk.mono HB.out.size))
            clear bk
            go_wp2_with fail
            go_ret
            exact ⟨rfl, HBk.out⟩
          have gd2 : decide ((md : Int) > 600) = false := decide_eq_false g2
          by_cases g3 : (j : Int) > 12
          · have gd3 : decide ((j : Int) > 12) = true := decide_eq_true g3
            go_wp2_with fail
            refine (known15_any _).mono ?_
            rintro e wk ⟨rfl, bk⟩
            have HBk := Lib.hid (HB.out.trans (bk.mono HB.out.size))
            clear bk
            go_wp2_with fail
            go_ret
            exact ⟨rfl, HBk.out⟩
          have gd3 : decide ((j : Int) > 12) = false := decide_eq_false g3
          by_cases g4 : (q2 : Int) > 12
          · have gd4 : decide ((q2 : Int) > 12) = true := decide_eq_true g4
            go_wp2_with fail
            refine (known15_any _).mono ?_
            rintro e wk ⟨rfl, bk⟩
            have HBk := Lib.hid (HB.out.trans (bk.mono HB.out.size))
            clear bk
            go_wp2_with fail
            go_ret
            exact ⟨rfl, HBk.out⟩
          have gd4 : decide ((q2 : Int) > 12) = false := decide_eq_false g4
          have HM1 : Hid (MayS s) := Lib.hid ⟨by rw [HND.out]; omega, by rw [HNS.out]; omega, fun o ho => by
            obtain ⟨i, hi⟩ := List.mem_iff_getElem?.1 ho
            exact HA1.out i (by have := (List.getElem?_eq_some_iff.1 hi).1; rw [HNS.out] at this; omega) o hi⟩
          have HM2 : Hid (MayS t) := Lib.hid ⟨by rw [HMD.out]; omega, by rw [HMS.out]; omega, fun o ho => by
            obtain ⟨i, hi⟩ := List.mem_iff_getElem?.1 ho
            exact HA2'.out i (by have := (List.getElem?_eq_some_iff.1 hi).1; rw [HMS.out] at this; omega) o hi⟩
          obtain ⟨WST, hW⟩ : ∃ z, wayS s t = z := ⟨_, rfl⟩
          obtain ⟨NST, hN⟩ : ∃ z, WST.length = z := ⟨_, rfl⟩
          have HWST := Lib.hid hW
          have HNST := Lib.hid hN
          clear hW hN
          go_upto_region 13 with fail
          clear x0 x1 y0 y1 gd1 gd2 gd3 gd4 g1 g2 g3 g4
          -- REG S13
          refine wp_region_tab (L := [cV (.agg #[.slice a1 nd c1, .slice a2 j c2]), cV (.agg #[.slice a3 md c3, .slice a4 q2 c4]), weV WST NST, cV (.agg #[.slice a1 nd c1, .slice a2 j c2]), cV (.agg #[.slice a3 md c3, .slice a4 q2 c4]), weV WST NST, cV (.bool true), cV (.bool true), cV (.bool true), cV (.bool true), cV (.bool true)]) [[(2, none)], [(3, none)], [(90, some 0), (91, some 1)], [(2, none)], [(3, none)], [(93, some 3), (94, some 4)], [(92, some 2), (95, some 5)], [(96, some 6)], [(97, some 7)], [(97, some 7), (98, some 8)], [(99, some 9)]] 11 100 (by kernel_rfl) rfl rfl (by kernel_rfl) (by kernel_rfl) ?_ ?_
          · show ∀ i, i < 11 → _
            iterate 11 (refine fls ?_ ?_)
            · exact fl0
            · intro a w1 hR hsz hs      -- 0: slot 90
              obtain ⟨h0, _⟩ := hs
              have h0 : a.tmps.getD 2 undef = .pointer (some ⟨X, 0, none⟩) := h0
              obtain ⟨k0, k1⟩ := (HX2.out.later hR).c2
              refine op_run rfl rfl (v := .agg #[.slice a1 nd c1, .slice a2 j c2]) (w' := w1) ?_ rfl (Below.refl _ _)
              simp [execOp, Act.eval, h0, k0, k1, go_sem]
            · intro a w1 hR hsz hs      -- 1: slot 91
              obtain ⟨h0, _⟩ := hs
              have h0 : a.tmps.getD 3 undef = .pointer (some ⟨X + 1, 0, none⟩) := h0
              obtain ⟨k0, k1⟩ := (HX3.out.later hR).c2
              refine op_run rfl rfl (v := .agg #[.slice a3 md c3, .slice a4 q2 c4]) (w' := w1) ?_ rfl (Below.refl _ _)
              simp [execOp, Act.eval, h0, k0, k1, go_sem]
            · intro a w1 hR hsz hs      -- 2: slot 92
              obtain ⟨h0, h1, _⟩ := hs
              have h0 : a.tmps.getD 90 undef = .agg #[.slice a1 nd c1, .slice a2 j c2] := h0
              have h1 : a.tmps.getD 91 undef = .agg #[.slice a3 md c3, .slice a4 q2 c4] := h1
              refine op_call rfl rfl (f := 18) (args := #[.agg #[.slice a1 nd c1, .slice a2 j c2], .agg #[.slice a3 md c3, .slice a4 q2 c4]]) (by simp [execOp, Act.eval, resolve, h0, h1, go_sem]) ?_
              exact calls_we (pway15_any _ _ _ _ s t allJ allJ w1 (HS.out.later hR) (HT.out.later hR) HM1.out HM2.out) HWST.out HNST.out
            · intro a w1 hR hsz hs      -- 3: slot 93
              obtain ⟨h0, _⟩ := hs
              have h0 : a.tmps.getD 2 undef = .pointer (some ⟨X, 0, none⟩) := h0
              obtain ⟨k0, k1⟩ := (HX2.out.later hR).c2
              refine op_run rfl rfl (v := .agg #[.slice a1 nd c1, .slice a2 j c2]) (w' := w1) ?_ rfl (Below.refl _ _)
              simp [execOp, Act.eval, h0, k0, k1, go_sem]
            · intro a w1 hR hsz hs      -- 4: slot 94
              obtain ⟨h0, _⟩ := hs
              have h0 : a.tmps.getD 3 undef = .pointer (some ⟨X + 1, 0, none⟩) := h0
              obtain ⟨k0, k1⟩ := (HX3.out.later hR).c2
              refine op_run rfl rfl (v := .agg #[.slice a3 md c3, .slice a4 q2 c4]) (w' := w1) ?_ rfl (Below.refl _ _)
              simp [execOp, Act.eval, h0, k0, k1, go_sem]
            · intro a w1 hR hsz hs      -- 5: slot 95
              obtain ⟨h0, h1, _⟩ := hs
              have h0 : a.tmps.getD 93 undef = .agg #[.slice a1 nd c1, .slice a2 j c2] := h0
              have h1 : a.tmps.getD 94 undef = .agg #[.slice a3 md c3, .slice a4 q2 c4] := h1
              refine op_call rfl rfl (f := 19) (args := #[.agg #[.slice a1 nd c1, .slice a2 j c2], .agg #[.slice a3 md c3, .slice a4 q2 c4]]) (by simp [execOp, Act.eval, resolve, h0, h1, go_sem]) ?_
              exact calls_we (rway15_any _ _ _ _ s t allJ allJ w1 (HS.out.later hR) (HT.out.later hR)) HWST.out HNST.out
            · intro a w1 hR hsz hs      -- 6: slot 96
              obtain ⟨h0, h1, _⟩ := hs
              obtain ⟨a0, c0, e0, q0⟩ := (show ∃ p q, a.tmps.getD 92 undef = .slice p NST q ∧ QE allJ w1 (.slice p NST q) WST from h0); have h0 : a.tmps.getD 92 undef = .slice a0 NST c0 := e0
              obtain ⟨a1, c1, e1, q1⟩ := (show ∃ p q, a.tmps.getD 95 undef = .slice p NST q ∧ QE allJ w1 (.slice p NST q) WST from h1); have h1 : a.tmps.getD 95 undef = .slice a1 NST c1 := e1
              refine op_call rfl rfl (f := 11) (args := #[.slice a0 NST c0, .slice a1 NST c1]) (by simp [execOp, Act.eval, resolve, h0, h1, go_sem]) ?_
              exact calls_c (calls_sames (rsames15_any a0 a1 NST NST c0 c1 WST WST allJ allJ w1 q0 q1 HNST.out HNST.out) rfl)
            · intro a w1 hR hsz hs      -- 7: slot 97
              obtain ⟨h0, _⟩ := hs
              have h0 : a.tmps.getD 96 undef = .bool true := h0
              refine op_run rfl rfl (v := .bool true) (w' := w1) ?_ rfl (Below.refl _ _)
              simp [execOp, Act.eval, h0, go_sem]
            · intro a w1 hR hsz hs      -- 8: slot 98
              obtain ⟨h0, _⟩ := hs
              have h0 : a.tmps.getD 97 undef = .bool true := h0
              refine opg_call rfl rfl rfl (by rw [hsz]; decide) h0 (f := 10) (args := #[]) (by simp [execOp, Act.eval, resolve, go_sem]) ?_
              exact calls_c (known15_any w1)
            · intro a w1 hR hsz hs      -- 9: slot 99
              obtain ⟨h0, h1, _⟩ := hs
              have h0 : a.tmps.getD 97 undef = .bool true := h0
              have h1 : a.tmps.getD 98 undef = .bool true := h1
              refine op_run rfl rfl (v := .bool true) (w' := w1) ?_ rfl (Below.refl _ _)
              simp [execOp, Act.eval, h0, h1, go_sem]
            · intro a w1 hR hsz hs      -- 10: slot 4
              obtain ⟨h0, _⟩ := hs
              have h0 : a.tmps.getD 99 undef = .bool true := h0
              refine op_run rfl rfl (v := .bool true) (w' := w1) ?_ rfl (Below.refl _ _)
              simp [execOp, Act.eval, h0, go_sem]
          intro f w1 hR hv
          have e4 : f 4 = .bool true := hv 10 _ 4 rfl rfl
          clear hv
          try simp only [Exit.then]
          simp only [putAll, List.foldl_cons, List.foldl_nil, Option.getD_some, Act.put, List.setIfInBounds_toArray, List.set_cons_succ, List.set_cons_zero, e4]
          have HB9 := Lib.hid (HB.out.trans (hR.mono HB.out.size))
          clear hR e4
          -- END S13
          go_wp2_with fail
          go_ret
          exact ⟨rfl, HB9.out⟩
end Go.Proofs.Ytbpddcmehjgleaa
