/- Scans: the document's Ends, First, Same. -/
import Derived.Test.YtabeleihpnnadaaScB
import Derived.Test.YtabeleihpnnadaaEnS
namespace Go.Proofs.Ytabeleihpnnadaa
open Go.RowKit Go.Proofs
set_option linter.unusedVariables false
set_option linter.unusedSimpArgs false
set_option linter.unnecessarySimpa false

set_option maxRecDepth 20000 in
set_option maxHeartbeats 6400000 in
theorem rends_any (a : Option Addr) (n cap : Nat) (rows : List (List UInt8)) (last : Int) (w : World) (hr : SRow w a cap rows) (hn : rows.length = n) (hb : SB rows) :
    Calls Try.prog 15 #[.slice a n cap, .int .i64 last] w fun e w' => ∃ v, e = .returned v ∧ GOwn inT w w' v (endsZ rows last) := by
  have HR := Lib.hid hr
  have HN := Lib.hid hn
  have HB := Lib.hid hb
  have hn100 : n ≤ 100 := by have := hb.1; omega
  clear hr hn hb
  go_enter Try.func15, Try.ntmps15
  go_wp2_with fail
  go_loopw [5, 6] (fun v i wr => ∃ (j : Nat) (zs : List Int), i = .int .i64 j ∧ j ≤ n ∧ zs.length = j ∧ GOwn inT w wr v zs ∧ Hid (zs = endsZ (rows.take j) last)) (fun _ i _ => n - (intOf i).toNat)
  case atStart => exact ⟨0, [], rfl, by omega, rfl, GOwn.nil' (Below.refl _ _), Lib.hid rfl⟩
  case round =>
    obtain ⟨j, zs, rfl, hj, hzs, o, HE⟩ := hrel
    by_cases hjn : (j : Int) < n
    · have hjn2 : decide ((j : Int) < n) = true := decide_eq_true hjn
      obtain ⟨l, hl⟩ : ∃ l, rows[j]? = some l := ⟨rows[j]'(by have := HN.out; omega), List.getElem?_eq_getElem _⟩
      obtain ⟨wo, hwo⟩ : ∃ W, W = wr := ⟨_, rfl⟩
      subst hwo
      obtain ⟨b1, o1, a1, c1, rfl, p0, R1⟩ := (HR.out.later o.below).at hl
      have hll := HB.out.2 l (List.mem_of_getElem? hl)
      have HS := Lib.hid (endsZ_snoc hl last)
      have hel := endA_le l last
      obtain ⟨m, hm⟩ : ∃ m, l.length = m := ⟨_, rfl⟩
      have HM := Lib.hid hm
      have HER : Hid (endA l last = endF (m + 1) l 0 last) := Lib.hid (by rw [← hm]; rfl)
      rw [hm] at p0 hll hel
      have HR1 := Lib.hid R1
      obtain ⟨E, hE⟩ : ∃ E, endA l last = E := ⟨_, rfl⟩
      rw [hE] at hel HS HER
      have HO := Lib.hid o
      have HP0 : Hid (∀ W, Below wo.heap.size wo W → W.cell? ⟨b1, o1 + j, none⟩ = some (.slice a1 m c1)) := Lib.hid fun W hb => by rw [hb.cell (World.block_lt_of_cell? _ _ p0)]; exact p0
      clear hl hm hE R1 o p0
      go_wp2_with fail
      go_loopw [7] (fun q wr => ∃ (p : Nat), q = .int .i64 p ∧ p ≤ m ∧ Below wo.heap.size wo wr ∧ Hid (E = endF (m + 1) l p last)) (fun q _ => m - (intOf q).toNat)
      case atStart => exact ⟨0, rfl, by omega, Below.refl _ _, HER⟩
      case round =>
        obtain ⟨p, rfl, hp, hb2, HF⟩ := hrel
        have HB2 := Lib.hid hb2
        have p0 := HP0.out _ hb2
        have hpl : p ≤ l.length := by have := HM.out; omega
        clear hb2
        by_cases hpm : (p : Int) < m
        · have hpm2 : decide ((p : Int) < m) = true := decide_eq_true hpm
          have HK := Lib.hid (rtake_any a1 m c1 l p wr (HR1.out.later HB2.out) HM.out (by omega) (by omega) (by omega))
          rcases takeM_two (l.drop p) with ⟨c, h1, hc⟩ | ⟨e, h1, h2, h3⟩
          · rw [takeA_err hpl h1 hc] at HK
            have HPE : Hid (E = p) := Lib.hid (by rw [HF.out, endF_no]; rw [h1]; exact fun x => hc x.1)
            have hcb : (c == 0) = false := beq_eq_false_iff_ne.2 hc
            have hcb2 : (c != 0) = true := by simp [bne, hcb]
            clear h1 HF
            go_wp2_with fail
            refine HK.out.mono ?_
            rintro e1 w1 ⟨a, cc, rfl, hr1, hb1, hx1⟩
            unfold entV noE
            simp only [List.length_nil]
            have HB1 := Lib.hid (HB2.out.trans (hb1.mono HB2.out.size))
            have HO2 := Lib.hid ((HO.out.later HB1.out).later ((Below.refl _ _).alloc (Nat.le_refl _) (.cells #[.int .i64 0, .int .i64 0, .slice a 0 cc] 38)))
            have HIB : inB (p : Int) := by unfold inB; omega
            clear HK hb1 hx1 hr1
            go_upto_region 8 with fail
            generalize (w1.alloc (.cells #[.int .i64 0, .int .i64 0, .slice a 0 cc] 38)) = w2 at *
            generalize w1.heap.size = X at *
            go_wp2_with (at_builtin; refine wp_gone inOk rfl _ _ rfl rfl u5 zs rfl w HO2.out (p : Int) HIB rfl rfl (by omega) ?_; intro v9 w9 o9 _ _)
            go_roundw
            case rel => exact ⟨j + 1, zs ++ [(p : Int)], by go_num, by omega, by simp; omega, o9, Lib.hid (by rw [HS.out, HE.out, HPE.out])⟩
            case measure => simp [intOf]; omega
          · rw [takeA_ok hpl h1] at HK
            have hri := rightE_iff.1 h2
            obtain ⟨L, hL⟩ : ∃ L, e.data.length = L := ⟨_, rfl⟩
            have HL := Lib.hid hL
            rw [hL] at h1 h3 hri
            rw [List.length_drop, HM.out] at h3
            have HGO : Hid (e.seq ≤ last → E = endF (m + 1) l (p + (L + 22)) last) := Lib.hid fun c => by
              rw [HF.out, ← HM.out]; exact endA_step hpl h1 c
            have HNO : Hid (¬ e.seq ≤ last → E = p) := Lib.hid fun c => by rw [HF.out, endF_no]; rw [h1]; exact fun x => c x.2
            obtain ⟨Q, hQ⟩ : ∃ Q, p + (L + 22) = Q := ⟨_, rfl⟩
            rw [hL, hQ] at HK
            rw [hQ] at HGO
            clear h1 h2 hL hpl HF
            by_cases hc : e.seq ≤ last
            · have hcd : decide (e.seq > last) = false := decide_eq_false (by omega)
              have HF2 := Lib.hid (HGO.out hc)
              go_wp2_with fail
              refine HK.out.mono ?_
              rintro e1 w1 ⟨a, cc, rfl, hr1, hb1, hx1⟩
              unfold entV
              simp only
              rw [HL.out]
              have HB1 := Lib.hid (HB2.out.trans (hb1.mono HB2.out.size))
              clear HK hb1 hx1 hr1
              generalize e.seq = T at *
              generalize e.tag = T2 at *
              go_wp2_with fail
              go_roundw
              case rel => exact ⟨Q, rfl, by omega, HB1.out.alloc HB1.out.size _, HF2⟩
              case measure => simp [intOf]; omega
            · have hcd : decide (e.seq > last) = true := decide_eq_true (by omega)
              have HPE := Lib.hid (HNO.out hc)
              go_wp2_with fail
              refine HK.out.mono ?_
              rintro e1 w1 ⟨a, cc, rfl, hr1, hb1, hx1⟩
              unfold entV
              simp only
              rw [HL.out]
              have HB1 := Lib.hid (HB2.out.trans (hb1.mono HB2.out.size))
              have HO2 := Lib.hid ((HO.out.later HB1.out).later ((Below.refl _ _).alloc (Nat.le_refl _) (.cells #[.int .i64 e.tag, .int .i64 e.seq, .slice a L cc] 38)))
              have HIB : inB (p : Int) := by unfold inB; omega
              have HE2 := Lib.hid (RecAt.new w1 #[.int .i64 e.tag, .int .i64 e.seq, .slice a L cc] 38)
              clear HK hb1 hx1 hr1
              go_upto_region 8 with fail
              generalize (w1.alloc (.cells #[.int .i64 e.tag, .int .i64 e.seq, .slice a L cc] 38)) = w2 at *
              generalize w1.heap.size = X at *
              generalize e.seq = T at *
              generalize e.tag = T2 at *
              obtain ⟨k0, k1, k2⟩ := HE2.out.c3
              go_wp2_with (at_builtin; refine wp_gone inOk rfl _ _ rfl rfl u5 zs rfl w HO2.out (p : Int) HIB rfl rfl (by omega) ?_; intro v9 w9 o9 _ _)
              go_roundw
              case rel => exact ⟨j + 1, zs ++ [(p : Int)], by go_num, by omega, by simp; omega, o9, Lib.hid (by rw [HS.out, HE.out, HPE.out])⟩
              case measure => simp [intOf]; omega
        · have hpm2 : decide ((p : Int) < m) = false := decide_eq_false hpm
          have HPE : Hid (E = p) := Lib.hid (by rw [HF.out, endF_no]; rw [takeM_nil (by rw [List.length_drop, HM.out]; omega)]; simp)
          have HO2 := Lib.hid (HO.out.later HB2.out)
          have HIB : inB (p : Int) := by unfold inB; omega
          clear HF
          go_wp2_with (at_builtin; refine wp_gone inOk rfl _ _ rfl rfl u5 zs rfl w HO2.out (p : Int) HIB rfl rfl (by omega) ?_; intro v9 w9 o9 _ _)
          go_roundw
          case rel => exact ⟨j + 1, zs ++ [(p : Int)], by go_num, by omega, by simp; omega, o9, Lib.hid (by rw [HS.out, HE.out, HPE.out])⟩
          case measure => simp [intOf]; omega
    · have hjn2 : decide ((j : Int) < n) = false := decide_eq_false hjn
      have HF : Hid (zs = endsZ rows last) := Lib.hid (by rw [HE.out, List.take_of_length_le (by have := HN.out; omega)])
      go_wp2_with fail
      go_ret
      exact ⟨_, rfl, by rw [← HF.out]; exact o⟩

set_option maxRecDepth 20000 in
set_option maxHeartbeats 6400000 in
theorem rfirst_any (a : Option Addr) (n cap : Nat) (rows : List (List UInt8)) (w : World) (hr : SRow w a cap rows) (hn : rows.length = n) (hb : SB rows) :
    Calls Try.prog 17 #[.slice a n cap] w fun e w' => e = .returned (.int .i64 (firstS rows)) ∧ Below w.heap.size w w' := by
  have HR := Lib.hid hr
  have HN := Lib.hid hn
  have HB := Lib.hid hb
  have HFS : Hid (firstS rows = minL (entsS rows)) := Lib.hid rfl
  have hn100 : n ≤ 100 := by have := hb.1; omega
  clear hr hn hb
  go_enter Try.func17, Try.ntmps17
  go_wp2_with fail
  go_loopw [3, 4] (fun q i wr => ∃ (j : Nat) (z : Int), i = .int .i64 j ∧ q = .int .i64 z ∧ j ≤ n ∧ 0 ≤ z ∧ z ≤ 1099511627776 ∧ Below w.heap.size w wr ∧ Hid (z = minL (entsS (rows.take j)))) (fun _ i _ => n - (intOf i).toNat)
  case atStart => exact ⟨0, 0, rfl, rfl, by omega, by omega, by omega, Below.refl _ _, Lib.hid rfl⟩
  case round =>
    obtain ⟨j, z, rfl, rfl, hj, hz0, hz1, hbw, HZ⟩ := hrel
    have HBW := Lib.hid hbw
    clear hbw
    by_cases hjn : (j : Int) < n
    · have hjn2 : decide ((j : Int) < n) = true := decide_eq_true hjn
      obtain ⟨l, hl⟩ : ∃ l, rows[j]? = some l := ⟨rows[j]'(by have := HN.out; omega), List.getElem?_eq_getElem _⟩
      obtain ⟨wo, hwo⟩ : ∃ W, W = wr := ⟨_, rfl⟩
      subst hwo
      obtain ⟨b1, o1, a1, c1, rfl, p0, R1⟩ := (HR.out.later HBW.out).at hl
      have hll := HB.out.2 l (List.mem_of_getElem? hl)
      have HS : Hid (minL (entsS (rows.take (j + 1))) = (allA l).1.foldl minE z) := Lib.hid (by rw [entsS_snoc hl, minL_app, HZ.out])
      have HRI := Lib.hid (allA_right l)
      have hal := allA_len l
      obtain ⟨m, hm⟩ : ∃ m, l.length = m := ⟨_, rfl⟩
      rw [hm] at p0 hll hal
      have HK := Lib.hid (rall_new a1 m c1 l wo R1 hm (by omega))
      obtain ⟨es, hes⟩ : ∃ es, (allA l).1 = es := ⟨_, rfl⟩
      rw [hes] at HK HS HRI hal
      clear hl hm hes R1
      go_wp2_with fail
      refine HK.out.mono ?_
      rintro e1 w1 ⟨v1, rfl, o1⟩
      obtain ⟨N, hN⟩ : ∃ N, es.length = N := ⟨_, rfl⟩
      rw [hN] at hal
      have HNN := Lib.hid hN
      obtain ⟨a2, c2, rfl⟩ := o1.val enT_ok hN
      have HO := Lib.hid (o1.row enT_ok en_rel (fromJ_new _)).erow.2
      have HB1 := Lib.hid (HBW.out.trans (o1.below.mono HBW.out.size))
      have hcap := HO.out.1
      rw [hN] at hcap
      clear o1 HK hN p0
      go_wp2_with fail
      go_loopw [3, 7] (fun q i wr => ∃ (k : Nat) (y : Int), i = .int .i64 k ∧ q = .int .i64 y ∧ k ≤ N ∧ 0 ≤ y ∧ y ≤ 1099511627776 ∧ w1 = wr ∧ Hid (y = (es.take k).foldl minE z)) (fun _ i _ => N - (intOf i).toNat)
      case atStart => exact ⟨0, z, rfl, rfl, by omega, by omega, by omega, rfl, Lib.hid rfl⟩
      case round =>
        obtain ⟨k, y, rfl, rfl, hk, hy0, hy1, rfl, HY⟩ := hrel
        by_cases hkn : (k : Int) < N
        · have hkn2 : decide ((k : Int) < N) = true := decide_eq_true hkn
          have hkl : k < es.length := by have := HNN.out; omega
          obtain ⟨e, he⟩ : ∃ e, es[k]? = some e := ⟨es[k], List.getElem?_eq_getElem _⟩
          have hri := rightE_iff.1 (HRI.out e (List.mem_of_getElem? he))
          obtain ⟨b3, o3, a3, c3, rfl, p0, p1, p2, R3⟩ := HO.out.at he
          have HS2 : Hid ((es.take (k + 1)).foldl minE z = minE y e) := Lib.hid (by
            rw [List.take_succ_eq_append_getElem hkl, (List.getElem?_eq_some_iff.1 he).2, List.foldl_append, HY.out]; rfl)
          have HRG := Lib.hid (minE_range (m := y) (e := e) ⟨hy0, hy1⟩ ⟨hri.2.2.1, hri.2.2.2.1⟩)
          have hme : minE y e = if y = 0 ∨ e.seq < y then e.seq else y := rfl
          have HME := Lib.hid hme
          clear he R3 hri hme hkl
          generalize e.data.length = L at *
          generalize minE y e = M at *
          generalize e.seq = T at *
          generalize e.tag = T2 at *
          by_cases hz : y = 0
          · have hzd : (y == 0) = true := by simp [hz]
            have HM : Hid (M = T) := Lib.hid (by rw [HME.out, if_pos (.inl hz)])
            clear hz
            go_wp2_with fail
            go_roundw
            case rel => exact ⟨k + 1, T, by go_num, rfl, by omega, by have := HRG.out; have := HM.out; omega, by have := HRG.out; have := HM.out; omega, trivial, Lib.hid (by rw [HS2.out, HM.out])⟩
            case measure => simp [intOf]; omega
          · have hzd : (y == 0) = false := by simp [hz]
            by_cases ht : T < y
            · have htd : decide (T < y) = true := decide_eq_true ht
              have HM : Hid (M = T) := Lib.hid (by rw [HME.out, if_pos (.inr ht)])
              clear hz
              go_wp2_with fail
              go_roundw
              case rel => exact ⟨k + 1, T, by go_num, rfl, by omega, by have := HRG.out; have := HM.out; omega, by have := HRG.out; have := HM.out; omega, trivial, Lib.hid (by rw [HS2.out, HM.out])⟩
              case measure => simp [intOf]; omega
            · have htd : decide (T < y) = false := decide_eq_false ht
              have HM : Hid (M = y) := Lib.hid (by rw [HME.out, if_neg (by omega)])
              clear hz
              go_wp2_with fail
              go_roundw
              case rel => exact ⟨k + 1, y, by go_num, rfl, by omega, by omega, by omega, trivial, Lib.hid (by rw [HS2.out, HM.out])⟩
              case measure => simp [intOf]; omega
        · have hkn2 : decide ((k : Int) < N) = false := decide_eq_false hkn
          have HYF : Hid (y = minL (entsS (rows.take (j + 1)))) := Lib.hid (by rw [HS.out, HY.out, List.take_of_length_le (by have := HNN.out; omega)])
          go_wp2_with fail
          go_roundw
          case rel => exact ⟨j + 1, y, by go_num, rfl, by omega, by omega, by omega, HB1.out, HYF⟩
          case measure => simp [intOf]; omega
    · have hjn2 : decide ((j : Int) < n) = false := decide_eq_false hjn
      have HZF : Hid (firstS rows = z) := Lib.hid (by rw [HFS.out, HZ.out, List.take_of_length_le (by have := HN.out; omega)])
      go_wp2_with fail
      go_ret
      exact ⟨by rw [HZF.out]; rfl, HBW.out⟩

set_option maxRecDepth 20000 in
set_option maxHeartbeats 3200000 in
theorem zsame_any (a1 a2 : Option Addr) (n m c1 c2 : Nat) (xs ys : List Int) (w : World) (h1 : ZRow w a1 c1 xs) (h2 : ZRow w a2 c2 ys) (hn : xs.length = n) (hm : ys.length = m) :
    Calls Try.prog 13 #[.slice a1 n c1, .slice a2 m c2] w fun e w' => e = .returned (.bool (decide (xs = ys))) ∧ Below w.heap.size w w' := by
  have H1 := Lib.hid h1
  have H2 := Lib.hid h2
  have HN := Lib.hid hn
  have HM := Lib.hid hm
  have hc1 := h1.1
  have hc2 := h2.1
  rw [hn] at hc1
  rw [hm] at hc2
  have hcm1 : c1 ≤ 9223372036854775807 := by have := h1.2.1; unfold maxLen at this; omega
  have hcm2 : c2 ≤ 9223372036854775807 := by have := h2.2.1; unfold maxLen at this; omega
  clear h1 h2 hn hm
  by_cases hnm : n = m
  · subst hnm
    have hq : ((n : Int) != (n : Int)) = false := by simp
    go_enter Try.func13, Try.ntmps13
    go_wp2_with fail
    go_loopw [5] (fun i wr => ∃ j : Nat, i = .int .i64 j ∧ j ≤ n ∧ Below w.heap.size w wr ∧ Hid (∀ k, k < j → xs[k]? = ys[k]?)) (fun i _ => n - (intOf i).toNat)
    case atStart => exact ⟨0, rfl, by omega, Below.refl _ _, Lib.hid (fun k h => by omega)⟩
    case round =>
      obtain ⟨j, rfl, hj, hb, HA⟩ := hrel
      have HB := Lib.hid hb
      clear hb
      by_cases hjn : (j : Int) < n
      · obtain ⟨x, hx⟩ : ∃ e, xs[j]? = some e := ⟨xs[j]'(by have := HN.out; omega), List.getElem?_eq_getElem _⟩
        obtain ⟨y, hy⟩ : ∃ u, ys[j]? = some u := ⟨ys[j]'(by have := HM.out; omega), List.getElem?_eq_getElem _⟩
        obtain ⟨b1, o1, rfl, p0⟩ := (H1.out.later HB.out).at hx
        obtain ⟨b2, o2, rfl, q0⟩ := (H2.out.later HB.out).at hy
        have HNO : Hid (x ≠ y → decide (xs = ys) = false) := Lib.hid fun h => sameG_no (j := j) (by rw [hx, hy]; simpa using h)
        have HYE : Hid (x = y → ∀ k, k < j + 1 → xs[k]? = ys[k]?) := Lib.hid fun h k hk => by
          by_cases c : k = j
          · subst c; rw [hx, hy, h]
          · exact HA.out k (by omega)
        clear hx hy
        by_cases hxy : x = y
        · have HA2 := Lib.hid (HYE.out hxy)
          have hd : (x != y) = false := by simp [hxy]
          have hd2 : (x == y) = true := by simp [hxy]
          clear hxy
          go_upto_region 6 with fail
          go_quiet (fail)
          go_wp2_with fail
          go_roundw
          case rel => exact ⟨j + 1, by go_num, by omega, HB.out.trans ((below_drewN _ _).mono HB.out.size), HA2⟩
          case measure => simp [intOf]; omega
        · have HF := Lib.hid (HNO.out hxy)
          have hd : (x != y) = true := by simp [hxy]
          have hd2 : (x == y) = false := by simp [hxy]
          clear hxy
          go_upto_region 6 with fail
          go_quiet (fail)
          go_wp2_with fail
          go_ret
          exact ⟨ret_bool HF.out.symm, HB.out.trans ((below_drewN _ _).mono HB.out.size)⟩
      · have : j = n := by omega
        subst this
        have HF := Lib.hid (sameG_yes HN.out HM.out HA.out)
        go_wp2_with fail
        go_ret
        exact ⟨ret_bool HF.out.symm, HB.out⟩
  · have hq : ((n : Int) != (m : Int)) = true := by simp; omega
    have HF : Hid (decide (xs = ys) = false) := Lib.hid (by rw [decide_eq_false_iff_not]; intro e; rw [e, HM.out] at HN; exact hnm HN.out.symm)
    clear hnm
    go_enter Try.func13, Try.ntmps13
    go_wp2_with fail
    go_ret
    exact ⟨ret_bool HF.out.symm, Below.refl _ _⟩
end Go.Proofs.Ytabeleihpnnadaa
