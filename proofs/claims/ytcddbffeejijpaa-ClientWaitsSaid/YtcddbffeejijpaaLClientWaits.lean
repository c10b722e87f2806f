/- The law 'ClientWaits', walked. -/
import Derived.Test.YtcddbffeejijpaaCuK
import Derived.Test.YtcddbffeejijpaaCuLaw
import Derived.Test.YtcddbffeejijpaaZi
namespace Go.Proofs.Ytcddbffeejijpaa
open Go.RowKit Go.Proofs
set_option linter.unusedVariables false
set_option linter.unusedSimpArgs false
set_option linter.unnecessarySimpa false

theorem any_take {α : Type} {ts : List α} {j : Nat} {t : α} (f : α → Bool) (h : ts[j]? = some t) : (ts.take (j + 1)).any f = ((ts.take j).any f || f t) := by
  obtain ⟨hl, rfl⟩ := List.getElem?_eq_some_iff.1 h
  rw [List.take_succ_eq_append_getElem hl, List.any_append]
  simp
set_option maxRecDepth 100000 in
set_option maxHeartbeats 6400000 in
theorem clientWaits_known (a0 : Option Addr) (n c0 : Nat) (i p : Int) (w : World) (hb : 40 < n) :
    Calls Try.prog 6 #[.slice a0 n c0, .int .i64 i, .int .i64 p] w fun x w' => x = .returned (.bool true) ∧ Below w.heap.size w w' := by
  have h : 40 < (n : Int) := by omega
  clear hb
  go_enter Try.func6, Try.ntmps6
  go_wp2_with fail
  refine (knownU_any _).mono ?_
  rintro y w2 ⟨rfl, hb2⟩
  go_wp2_with fail
  go_ret
  exact ⟨rfl, hb2⟩
set_option maxRecDepth 100000 in
set_option maxHeartbeats 25600000 in
theorem clientWaits_main (a0 : Option Addr) (n c0 : Nat) (zs : List Ac) (idn posn : Int) (w : World) (hr : GRow acT w a0 c0 zs) (hn : zs.length = n) (hn2 : n ≤ 40) :
    Calls Try.prog 6 #[.slice a0 n c0, .int .i64 idn, .int .i64 posn] w fun x w' => x = .returned (.bool true) ∧ Below w.heap.size w w' := by
  have hd1 : decide (40 < (n : Int)) = false := by simp; omega
  have HR := Lib.hid hr
  have HN := Lib.hid hn
  have hc1 := hr.1
  rw [hn] at hc1
  have hcm : c0 ≤ 9223372036854775807 := by have := hr.2.1; unfold maxLen at this; omega
  clear hr hn
  go_enter Try.func6, Try.ntmps6
  go_wp2_with fail
  go_loopw [7, 8, 9, 10, 11] (fun va i _ _ _ wr => ∃ (j : Nat) (us : List Cu), i = .int .i64 j ∧ j ≤ n ∧ Hid (COwn w wr va us) ∧ Hid (CuOk us)) (fun _ i _ _ _ _ => n - (intOf i).toNat)
  case atStart => exact ⟨0, [], rfl, by omega, Lib.hid (GOwn.nil _ w), Lib.hid cuOk_nil⟩
  case round =>
    obtain ⟨j, us, rfl, hj, hO, hG⟩ := hrel
    obtain ⟨m, hm⟩ : ∃ m, us.length = m := ⟨_, rfl⟩
    obtain ⟨a4, c4, rfl, r4⟩ := hO.out.row_n cuOk hm
    have hm4 : m ≤ 4 := by rw [← hm]; exact hG.out.1
    have hmc := r4.1
    rw [hm] at hmc
    have hcm4 : c4 ≤ 9223372036854775807 := by have := r4.2.1; unfold maxLen at this; omega
    have HM := Lib.hid hm
    have HR4 := Lib.hid r4
    have HB := Lib.hid hO.out.below
    clear hm r4
    by_cases hjn : (j : Int) < n
    · obtain ⟨t, ht⟩ : ∃ t, zs[j]? = some t := ⟨zs[j]'(by have := HN.out; omega), List.getElem?_eq_getElem _⟩
      obtain ⟨b0, o0, rfl, p0, p1, p2, p3⟩ := (HR.out.later HB.out).a4 ht
      have HTB : Hid (Ac.B t) := Lib.hid (HR.out.b ht)
      clear ht
      obtain ⟨tw, ti, tp, tf⟩ := t
      have hba : Below wr.heap.size wr (wr.alloc (.cells #[.int .i64 tw, .int .i64 ti, .int .i64 tp, .bool tf] 25)) := (Below.refl _ _).alloc (Nat.le_refl _) _
      have HBA := Lib.hid hba
      have HX := Lib.hid (RecAt.new wr #[.int .i64 tw, .int .i64 ti, .int .i64 tp, .bool tf] 25)
      clear hba
      go_upto_region 8 with fail
      clear p0 p1 p2 p3
      generalize (wr.alloc (.cells #[.int .i64 tw, .int .i64 ti, .int .i64 tp, .bool tf] 25)) = w2 at *
      obtain ⟨p4, hp4⟩ : ∃ x, wr.heap.size = x := ⟨_, rfl⟩
      rw [hp4] at HX HBA ⊢
      have HP4 := Lib.hid hp4
      clear hp4
      obtain ⟨x0, x1, x2, x3⟩ := HX.out.c4U
      have f4 := fun k => HX.out.frozen k
      obtain ⟨d, hd⟩ : ∃ d, bits .and .i64 ti 3 = d := ⟨_, rfl⟩
      have hd3 : 0 ≤ d ∧ d ≤ 3 := by rw [← hd]; exact and_range ti 3 (by decide)
      obtain ⟨q, hq⟩ : ∃ d, bits .and .i64 tp 65535 = d := ⟨_, rfl⟩
      have hq3 : 0 ≤ q ∧ q ≤ 65535 := by rw [← hq]; exact and_range tp 65535 (by decide)
      obtain ⟨k, hk⟩ : ∃ k, 1 + d = k := ⟨_, rfl⟩
      go_upto_region 9 with fail
      have HX3 := Lib.hid ((HX.out.set 1 (.int .i64 k)).set 2 (.int .i64 q))
      simp only [List.setIfInBounds_toArray, List.set_cons_zero, List.set_cons_succ] at HX3
      have HBB := Lib.hid ((HBA.out.setCell (p := ⟨p4, 1, none⟩) (Nat.le_refl _) (.int .i64 k)).setCell (p := ⟨p4, 2, none⟩) (Nat.le_refl _) (.int .i64 q))
      clear x0 x1 x2 x3 f4 HX HBA hd hq
      generalize ((w2.setCell ⟨p4, 1, none⟩ (.int .i64 k)).setCell ⟨p4, 2, none⟩ (.int .i64 q)) = w3 at *
      have HBW : Hid (Below wr.heap.size wr w3) := Lib.hid (by rw [HP4.out]; exact HBB.out)
      have HB3 := Lib.hid (HB.out.trans (HBW.out.mono HB.out.size))
      have HR43 := Lib.hid (HR4.out.later HBW.out)
      have HK := one_any a4 m c4 us ⟨tw, k, q, tf⟩ w3 HR43.out HM.out ⟨HTB.out.1, by unfold W64; simp only; omega, by unfold W64; simp only; omega⟩
      have hok := actU_ok (ts := us) (k := k) (p := q) (b := tf) (kindA_le tw)
      obtain ⟨⟨rs, re⟩, hre⟩ : ∃ r, actU us (kindA tw) k q tf = r := ⟨_, rfl⟩
      simp only at HK
      rw [hre] at HK hok
      have HK := Lib.hid HK
      have HOK : Hid (CuOk rs) := Lib.hid hok
      clear hre hok
      obtain ⟨x0, x1, x2, x3⟩ := HX3.out.c4U
      go_wp2_with fail
      refine HK.out.mono ?_
      rintro e w4 ⟨v4, rfl, o4⟩
      simp only at o4
      have HO4 : Hid (COwn w w4 v4 rs) := Lib.hid (o4.back HB3.out)
      have HO0 := Lib.hid (hO.out.later (HBW.out.trans (o4.below.mono HBW.out.size)))
      clear o4 x0 x1 x2 x3 HK
      by_cases he : re = 0
      · have he0 : (re == 0) = true := by simpa using he
        clear he
        go_wp2_with fail
        go_roundw
        case rel => exact ⟨j + 1, rs, by go_num, by omega, HO4, HOK⟩
        case measure => simp [intOf]; omega
      · have he0 : (re == 0) = false := by simpa using he
        clear he
        go_wp2_with fail
        go_roundw
        case rel => exact ⟨j + 1, us, by go_num, by omega, HO0, hG⟩
        case measure => simp [intOf]; omega
    · obtain ⟨⟨nS, ok⟩, hs⟩ : ∃ r, slowU us = r := ⟨_, rfl⟩
      have HSI := slow_is us
      rw [hs] at HSI
      have HSI := Lib.hid HSI
      have HS1 := uslow_any a4 m c4 us wr HR4.out HM.out
      rw [hs] at HS1
      have HS1 := Lib.hid HS1
      have HSO : Hid (us.any (fun t => !t.off) = ok) := Lib.hid (by rw [← slow_some, hs])
      have HSE := Lib.hid hs
      clear hs
      go_wp2_with fail
      refine HS1.out.mono ?_
      rintro e w5 ⟨rfl, hb5⟩
      simp only
      have HB5 := Lib.hid (HB.out.trans (hb5.mono HB.out.size))
      have HR5 := Lib.hid (HR4.out.later hb5)
      clear hb5 HS1
      go_wp2_with fail
      go_loop [14, 15, 16] (fun at' so i => ∃ (j : Nat) (at1 s : Bool), i = .int .i64 j ∧ at' = .bool at1 ∧ so = .bool s ∧ j ≤ m ∧ Hid ((us.take j).any (fun t => !t.off) = s) ∧ Hid ((us.take j).any (fun t => !t.off && (t.pos == nS)) = at1)) (fun _ _ i => m - (intOf i).toNat)
      case atStart => exact ⟨0, false, false, rfl, rfl, rfl, by omega, Lib.hid rfl, Lib.hid rfl⟩
      case round =>
        obtain ⟨i, at1, s, rfl, rfl, rfl, hi, hS, hA⟩ := hrel
        by_cases him : (i : Int) < m
        · obtain ⟨t, ht⟩ : ∃ t, us[i]? = some t := ⟨us[i]'(by have := HM.out; omega), List.getElem?_eq_getElem _⟩
          obtain ⟨b1, o1, rfl, p0, p1, p2⟩ := HR5.out.c3 ht
          have HT1 := any_take (fun t : Cu => !t.off) ht
          have HT2 := any_take (fun t : Cu => !t.off && (t.pos == nS)) ht
          rw [hS.out] at HT1
          rw [hA.out] at HT2
          have HT1 := Lib.hid HT1
          have HT2 := Lib.hid HT2
          have HLE : Hid (t.off = false → nS ≤ t.pos) := Lib.hid (fun h => (HSI.out.1 t (List.mem_of_getElem? ht) h).2)
          clear ht
          obtain ⟨ti, tp, tf⟩ := t
          simp only at p0 p1 p2
          cases tf with
          | true =>
            have e1 : Hid ((us.take (i + 1)).any (fun t => !t.off) = s) := Lib.hid (by rw [HT1.out]; simp)
            have e2 : Hid ((us.take (i + 1)).any (fun t => !t.off && (t.pos == nS)) = at1) := Lib.hid (by rw [HT2.out]; simp)
            cases s <;> cases at1
            all_goals
              go_wp2_with fail
              go_round
              case rel => exact ⟨i + 1, _, _, by go_num, rfl, rfl, by omega, e1, e2⟩
              case measure => simp [intOf]; omega
          | false =>
            have hlt : decide (tp < nS) = false := by have := HLE.out rfl; simp only at this; simp; omega
            have e1 : Hid ((us.take (i + 1)).any (fun t => !t.off) = true) := Lib.hid (by rw [HT1.out]; simp)
            cases heq : (tp == nS) with
            | true =>
              have e2 : Hid ((us.take (i + 1)).any (fun t => !t.off && (t.pos == nS)) = true) := Lib.hid (by rw [HT2.out]; simp only [heq]; simp)
              cases s <;> cases at1
              all_goals
                go_wp2_with fail
                go_round
                case rel => exact ⟨i + 1, _, _, by go_num, rfl, rfl, by omega, e1, e2⟩
                case measure => simp [intOf]; omega
            | false =>
              have e2 : Hid ((us.take (i + 1)).any (fun t => !t.off && (t.pos == nS)) = at1) := Lib.hid (by rw [HT2.out]; simp only [heq]; simp)
              cases s <;> cases at1
              all_goals
                go_wp2_with fail
                go_round
                case rel => exact ⟨i + 1, _, _, by go_num, rfl, rfl, by omega, e1, e2⟩
                case measure => simp [intOf]; omega
        · have HIM : Hid (i = m) := Lib.hid (by omega)
          have HTA : Hid (us.take i = us) := Lib.hid (List.take_of_length_le (by rw [HIM.out, HM.out]; exact Nat.le_refl _))
          have hs2 : s = ok := by rw [← HSO.out, ← hS.out, HTA.out]
          have hat : ok = true → at1 = true := fun h => by
            obtain ⟨t, h1, h2, h3⟩ := HSI.out.2.1 h
            rw [← hA.out, HTA.out, List.any_eq_true]
            exact ⟨t, h1, by rw [h2, h3]; simp⟩
          subst hs2
          obtain ⟨d, hd⟩ : ∃ d, bits .and .i64 idn 3 = d := ⟨_, rfl⟩
          have hd3 : 0 ≤ d ∧ d ≤ 3 := by rw [← hd]; exact and_range idn 3 (by decide)
          obtain ⟨P, hP⟩ : ∃ d, bits .and .i64 posn 1048575 = d := ⟨_, rfl⟩
          have hP3 : 0 ≤ P ∧ P ≤ 1048575 := by rw [← hP]; exact and_range posn 1048575 (by decide)
          obtain ⟨k, hk⟩ : ∃ k, 1 + d = k := ⟨_, rfl⟩
          have hk4 : 1 ≤ k ∧ k ≤ 4 := by omega
          have hww : IntKind.i64.wrap k = k := by rw [IntKind.wrap_i64]; omega
          have HC1 := ucommit_any a4 m c4 us k P true w5 HR5.out HM.out (by unfold W64; omega)
          have HC2 := fun W (h : Below w5.heap.size w5 W) => uturn_any a4 m c4 us k 0 true W (HR5.out.later h) HM.out
          have hzz : (s == s) = true := by simp
          have hzz2 : (s != s) = false := by simp
          rcases commit_is (b := true) hG.out (show IdOk k by unfold IdOk; omega) (show PosOk P by unfold PosOk; omega) with ⟨x, t, hxt, h2, h3⟩ | ⟨h2, h3⟩
          · have hcs := commit_slow (p := P) hxt
            have hts := turn_slow hxt
            obtain ⟨bs, hbs⟩ : ∃ bs, us.set x (t.moved P) = bs := ⟨_, rfl⟩
            obtain ⟨cs, hcs2⟩ : ∃ cs, us.set x (t.turned true) = cs := ⟨_, rfl⟩
            rw [h2, hbs] at HC1
            have HC2' : Hid (∀ W, Below w5.heap.size w5 W → Calls Try.prog 24 #[.slice a4 m c4, .int .i64 k, .bool true] W (UAct (cs, 0) W)) := Lib.hid (fun W h => by have := HC2 W h; rw [h3, hcs2] at this; exact this)
            have HC1 := Lib.hid HC1
            have HLB : Hid (bs.length = m) := Lib.hid (by rw [← hbs, List.length_set, HM.out])
            have HLC : Hid (cs.length = m) := Lib.hid (by rw [← hcs2, List.length_set, HM.out])
            rw [HSE.out, hbs] at hcs
            rw [HSE.out, hcs2] at hts
            simp only at hcs hts
            obtain ⟨nB, hsb⟩ : ∃ nB, slowU bs = (nB, s) := ⟨(slowU bs).1, by rw [← hcs.1]⟩
            obtain ⟨⟨nC, okC⟩, hsc⟩ : ∃ r, slowU cs = r := ⟨_, rfl⟩
            rw [hsb] at hcs
            rw [hsc] at hts
            simp only at hcs hts
            have hnb := hcs.2
            have hlt1 : decide (nB < nS) = false := by simp; omega
            have HSB := Lib.hid hsb
            have HSC := Lib.hid hsc
            clear HC2 h2 h3 hxt hbs hcs2 hsb hsc hG
            rcases (show (s = false ∧ at1 = false) ∨ (s = false ∧ at1 = true) ∨ (s = true ∧ at1 = true) by cases s <;> cases at1 <;> simp_all) with ⟨rfl, rfl⟩ | ⟨rfl, rfl⟩ | ⟨rfl, rfl⟩
            all_goals
              cases okC
            all_goals
              clear hat
              have hge : decide (nS ≤ nC) = true ∨ True := .inr trivial
              clear hge
            all_goals
              first
                | (have hge : decide (nS ≤ nC) = true := by have := hts rfl; simpa using this
                   clear hts)
                | clear hts
            all_goals
              go_wp2_with fail
              refine HC1.out.mono ?_
              rintro e w6 ⟨v6, rfl, o6⟩
              simp only at o6
              obtain ⟨a6, c6, rfl, r6⟩ := o6.row_n cuOk HLB.out
              have HB6 := Lib.hid (HB5.out.trans (o6.below.mono HB5.out.size))
              have HW6 := Lib.hid o6.below
              have HS6 := uslow_any a6 m c6 bs w6 r6 HLB.out
              rw [HSB.out] at HS6
              have HS6 := Lib.hid HS6
              clear o6 r6
              go_wp2_with fail
              refine HS6.out.mono ?_
              rintro e w7 ⟨rfl, hb7⟩
              have HB7 := Lib.hid (HB6.out.trans (hb7.mono HB6.out.size))
              have HW7 := Lib.hid (HW6.out.trans (hb7.mono HW6.out.size))
              clear hb7 HS6
              go_wp2_with fail
              refine (HC2'.out w7 HW7.out).mono ?_
              rintro e w8 ⟨v8, rfl, o8⟩
              simp only at o8
              obtain ⟨a8, c8, rfl, r8⟩ := o8.row_n cuOk HLC.out
              have HB8 := Lib.hid (HB7.out.trans (o8.below.mono HB7.out.size))
              have HS8 := uslow_any a8 m c8 cs w8 r8 HLC.out
              rw [HSC.out] at HS8
              have HS8 := Lib.hid HS8
              clear o8 r8
              go_wp2_with fail
              refine HS8.out.mono ?_
              rintro e w9 ⟨rfl, hb9⟩
              have HB9 := Lib.hid (HB8.out.trans (hb9.mono HB8.out.size))
              clear hb9 HS8
              go_wp2_with (go_at_call 8; refine (knownU_any _).mono ?_; rintro y w11 ⟨rfl, hb11⟩)
              go_ret
              exact ⟨rfl, HB9.out.trans (hb11.mono HB9.out.size)⟩
          · rw [h2] at HC1
            have HC2' : Hid (∀ W, Below w5.heap.size w5 W → Calls Try.prog 24 #[.slice a4 m c4, .int .i64 k, .bool true] W (UAct ([], 4) W)) := Lib.hid (fun W h => by have := HC2 W h; rw [h3] at this; exact this)
            have HC1 := Lib.hid HC1
            clear HC2 h2 h3 hG
            rcases (show (s = false ∧ at1 = false) ∨ (s = false ∧ at1 = true) ∨ (s = true ∧ at1 = true) by cases s <;> cases at1 <;> simp_all) with ⟨rfl, rfl⟩ | ⟨rfl, rfl⟩ | ⟨rfl, rfl⟩
            all_goals
              clear hat
              go_wp2_with fail
              refine HC1.out.mono ?_
              rintro e w6 ⟨v6, rfl, o6⟩
              simp only at o6
              obtain ⟨a6, c6, rfl, r6⟩ := o6.row_n cuOk (n := 0) rfl
              have HB6 := Lib.hid (HB5.out.trans (o6.below.mono HB5.out.size))
              have HW6 := Lib.hid o6.below
              have HS6 := uslow_any a6 0 c6 [] w6 r6 rfl
              rw [slow_nil] at HS6
              have HS6 := Lib.hid HS6
              clear o6 r6
              go_wp2_with fail
              refine HS6.out.mono ?_
              rintro e w7 ⟨rfl, hb7⟩
              have HB7 := Lib.hid (HB6.out.trans (hb7.mono HB6.out.size))
              have HW7 := Lib.hid (HW6.out.trans (hb7.mono HW6.out.size))
              clear hb7 HS6
              go_wp2_with fail
              refine (HC2'.out w7 HW7.out).mono ?_
              rintro e w8 ⟨v8, rfl, o8⟩
              simp only at o8
              obtain ⟨a8, c8, rfl, r8⟩ := o8.row_n cuOk (n := 0) rfl
              have HB8 := Lib.hid (HB7.out.trans (o8.below.mono HB7.out.size))
              have HS8 := uslow_any a8 0 c8 [] w8 r8 rfl
              rw [slow_nil] at HS8
              have HS8 := Lib.hid HS8
              clear o8 r8
              go_wp2_with fail
              refine HS8.out.mono ?_
              rintro e w9 ⟨rfl, hb9⟩
              have HB9 := Lib.hid (HB8.out.trans (hb9.mono HB8.out.size))
              clear hb9 HS8
              go_wp2_with (go_at_call 8; refine (knownU_any _).mono ?_; rintro y w11 ⟨rfl, hb11⟩)
              go_ret
              exact ⟨rfl, HB9.out.trans (hb11.mono HB9.out.size)⟩
theorem clientWaits_walk (a0 : Option Addr) (n c0 : Nat) (zs : List Ac) (idn posn : Int) (w : World) (hr : GRow acT w a0 c0 zs) (hn : zs.length = n) :
    Calls Try.prog 6 #[.slice a0 n c0, .int .i64 idn, .int .i64 posn] w fun x w' => x = .returned (.bool true) ∧ Below w.heap.size w w' := by
  by_cases hb : 40 < n
  · exact clientWaits_known a0 n c0 idn posn w hb
  · exact clientWaits_main a0 n c0 zs idn posn w hr hn (by omega)
end Go.Proofs.Ytcddbffeejijpaa
