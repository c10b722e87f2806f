/- The law 'ScanCuts', walked. -/
import Derived.Test.YtabeleihpnnadaaScK
import Derived.Test.YtabeleihpnnadaaScL
import Derived.Deep.RegionLaw
import Derived.BigQuiet
namespace Go.Proofs.Ytabeleihpnnadaa
open Go.RowKit Go.Proofs
set_option linter.unusedVariables false
set_option linter.unusedSimpArgs false
set_option linter.unnecessarySimpa false

theorem few_sbC {n : Nat} {rows : List (List UInt8)} (hn : rows.length = n) (h : n ≤ 40 ∧ ∀ l ∈ rows, l.length ≤ 1500) : SB rows := ⟨by omega, fun l hl => by have := h.2 l hl; omega⟩
/-- Row i is its entries' frames, and what isn't one. -/
def CutAt (sp : Nat) (es : List En) (i : Nat) (y : List UInt8) : Prop := ∃ t, y = rowL (dealE (sp : Int) es (i : Int)) ++ t ∧ (allA y).2 = (rowL (dealE (sp : Int) es (i : Int))).length
def CutOk (sp : Nat) (es : List En) (Y : List (List UInt8)) : Prop := Y.length = sp ∧ ∀ (i : Nat) y, Y[i]? = some y → CutAt sp es i y
theorem CutAt.self {sp : Nat} {es : List En} (hes : ∀ e ∈ es, e.right = true) (i : Nat) : CutAt sp es i (rowL (dealE (sp : Int) es (i : Int))) :=
  ⟨[], by simp, by rw [all_rowA fun e he => hes e (dealE_mem he)]⟩
theorem CutOk.start {sp : Nat} {es : List En} (hes : ∀ e ∈ es, e.right = true) : CutOk sp es (rowsP sp es) := by
  refine ⟨rowsP_len _ _, fun i y h => ?_⟩
  have hi := (List.getElem?_eq_some_iff.1 h).1
  rw [rowsP_len] at hi
  rw [rowsP_get hi] at h
  cases h
  exact CutAt.self hes i
theorem CutOk.set {sp : Nat} {es : List En} {Y : List (List UInt8)} (h : CutOk sp es Y) {i : Nat} {y : List UInt8} (hy : CutAt sp es i y) : CutOk sp es (Y.set i y) := by
  refine ⟨by rw [List.length_set]; exact h.1, fun j z hz => ?_⟩
  by_cases e : i = j
  · subst e
    have hi := (List.getElem?_eq_some_iff.1 hz).1
    rw [List.length_set] at hi
    rw [List.getElem?_set_self hi] at hz
    cases hz; exact hy
  · rw [List.getElem?_set_ne e] at hz
    exact h.2 j z hz
theorem CutAt.all {sp : Nat} {es : List En} (hes : ∀ e ∈ es, e.right = true) {i : Nat} {y : List UInt8} (h : CutAt sp es i y) : (allA y).1 = dealE (sp : Int) es (i : Int) := by
  obtain ⟨t, rfl, h2⟩ := h
  rw [all_rowT (fun e he => hes e (dealE_mem he)) h2]
theorem CutAt.no {sp : Nat} {es : List En} (hes : ∀ e ∈ es, e.right = true) {i : Nat} {t : List UInt8} (h : (allA (rowL (dealE (sp : Int) es (i : Int)) ++ t)).2 = (rowL (dealE (sp : Int) es (i : Int))).length) : (takeM t).2.2 ≠ 0 := by
  intro c
  generalize hd : dealE (sp : Int) es (i : Int) = d at *
  have hde : ∀ e ∈ d, e.right = true := fun e he => hes e (dealE_mem (by rw [hd]; exact he))
  have hm := rowL_min d
  have ht : 1 ≤ t.length := by
    rcases Nat.eq_zero_or_pos t.length with h0 | h0
    · rw [takeM_nil h0] at c; simp at c
    · exact h0
  obtain ⟨f, hf⟩ : ∃ f, (rowL d ++ t).length + 1 = d.length + (f + 1) := ⟨(rowL d ++ t).length - d.length, by rw [List.length_append]; omega⟩
  have h1 := all_more d hde t [] (f + 1)
  rw [List.nil_append, List.length_nil, Nat.zero_add] at h1
  unfold allA at h
  rw [hf, h1] at h
  simp only at h
  obtain ⟨e, h2, h3, h4⟩ : ∃ e, takeM t = (e, e.data.length + 22, 0) ∧ e.right = true ∧ e.data.length + 22 ≤ t.length := by
    rcases takeM_two t with ⟨c2, h5, h6⟩ | h5
    · rw [h5] at c; exact absurd c h6
    · exact h5
  have hdr : (rowL d ++ t).drop (rowL d).length = t := List.drop_left
  rw [allF_go (n := e.data.length + 22) (e := e) (by rw [hdr]; exact h2)] at h
  have := allF_le f (rowL d ++ t) ((rowL d).length + (e.data.length + 22))
  simp only at h
  omega
theorem CutAt.ends {sp : Nat} {es : List En} (hr : Rising es) (hes : ∀ e ∈ es, e.right = true) {i : Nat} {y : List UInt8} (h : CutAt sp es i y) (last : Int) : endA y last = (rowL (dealE (sp : Int) (es.filter (leE last)) (i : Int))).length ∧ y.take (endA y last) = rowL (dealE (sp : Int) (es.filter (leE last)) (i : Int)) := by
  obtain ⟨t, rfl, h2⟩ := h
  have hsw : (dealE (sp : Int) es (i : Int)).filter (leE last) = dealE (sp : Int) (es.filter (leE last)) (i : Int) := by
    unfold dealE; rw [List.filter_filter, List.filter_filter]
    congr 1; funext e; rw [Bool.and_comm]
  have h3 := end_rising (dealE_rising (sp := (sp : Int)) (k := (i : Int)) hr) (fun e he => hes e (dealE_mem he)) (CutAt.no hes h2) last
  obtain ⟨h5, h6⟩ := tw_filter (last := last) (dealE_rising (sp := (sp : Int)) (k := (i : Int)) hr)
  rw [h3, hsw]
  refine ⟨rfl, ?_⟩
  have e1 : dealE (sp : Int) es (i : Int) = dealE (sp : Int) (es.filter (leE last)) (i : Int) ++ (dealE (sp : Int) es (i : Int)).dropWhile (leE last) := by
    rw [← hsw, ← h5]; exact (List.takeWhile_append_dropWhile).symm
  rw [e1, rowL_app, List.append_assoc, ← hsw, List.take_left]
theorem Runs.le {F : Nat} {es : List En} (h : Runs F es) {l6 : Nat} {K : Nat} (hK : K = min es.length l6) : es.filter (leE ((F : Int) + l6 - 1)) = es.take K := by
  subst hK
  have e1 : es = es.take (min es.length l6) ++ es.drop (min es.length l6) := (List.take_append_drop _ _).symm
  have ha : (es.take (min es.length l6)).filter (leE ((F : Int) + l6 - 1)) = es.take (min es.length l6) := by
    rw [List.filter_eq_self]
    intro e he
    obtain ⟨i, hi⟩ := List.mem_iff_getElem?.1 he
    have hlt := (List.getElem?_eq_some_iff.1 hi).1
    rw [List.length_take] at hlt
    rw [List.getElem?_take, if_pos (by omega)] at hi
    have := h i e hi
    unfold leE; rw [decide_eq_true_eq]; omega
  have hb : (es.drop (min es.length l6)).filter (leE ((F : Int) + l6 - 1)) = [] := by
    rw [List.filter_eq_nil_iff]
    intro e he
    obtain ⟨i, hi⟩ := List.mem_iff_getElem?.1 he
    rw [List.getElem?_drop] at hi
    have hlt := (List.getElem?_eq_some_iff.1 hi).1
    have := h _ e hi
    unfold leE; rw [decide_eq_true_eq]; omega
  conv => lhs; rw [e1, List.filter_append, ha, hb, List.append_nil]
theorem CutOk.merge {sp : Nat} {es : List En} {Y : List (List UInt8)} (h : CutOk sp es Y) (hes : ∀ e ∈ es, e.right = true) : entsS Y = entsS (rowsP sp es) := by
  have h1 : Y.map (fun y => (allA y).1) = (rowsP sp es).map (fun y => (allA y).1) := by
    apply List.ext_getElem?
    intro i
    rw [List.getElem?_map, List.getElem?_map]
    by_cases hi : i < sp
    · obtain ⟨y, hy⟩ : ∃ y, Y[i]? = some y := ⟨_, List.getElem?_eq_getElem (by rw [h.1]; exact hi)⟩
      rw [hy, rowsP_get hi]
      simp only [Option.map_some]
      rw [(h.2 i y hy).all hes, (CutAt.self hes i).all hes]
    · rw [List.getElem?_eq_none (by rw [h.1]; omega), List.getElem?_eq_none (by rw [rowsP_len]; omega)]
  unfold entsS
  rw [List.flatMap_def, List.flatMap_def, h1]
theorem CutOk.mergeS {sp : Nat} {es : List En} {Y : List (List UInt8)} (h : CutOk sp es Y) (hes : ∀ e ∈ es, e.right = true) (s : Int) : mergeS Y s = mergeS (rowsP sp es) s := by
  rw [mergeS_eq, mergeS_eq, h.merge hes]
theorem roT_okC : (rawT 1 34 22).Ok := rawT_ok (by decide) Try.underlying22 info_by (by decide) rfl
def BsR : Rel (List UInt8) := fun J w cs l => ∃ v, cs = [v] ∧ BJ J w v l
theorem bs_rel : RelOk BsR where
  keep := fun {J w w' cs t} h hb hs => by
    obtain ⟨v, h1, h2⟩ := h
    exact ⟨v, h1, h2.keep hb hs⟩
  weak := fun {J J' w cs t} h hj => by
    obtain ⟨v, h1, h2⟩ := h
    exact ⟨v, h1, h2.weak hj⟩
theorem NRow.srow {J : Nat → Prop} {w : World} {a : Option Addr} {n cap : Nat} {ls : List (List UInt8)} (h : NRow J 1 34 22 BsR w (.slice a n cap) ls) : ls.length = n ∧ SRow w a cap ls := by
  obtain ⟨css, a', cap', hv, h1, h2, h3⟩ := h
  simp only [Value.slice.injEq] at hv
  obtain ⟨rfl, rfl, rfl⟩ := hv
  refine ⟨rfl, by rw [← h3.1]; exact h1.1, h1.2.1, h1.2.2.1, fun x hx i e he => ?_⟩
  obtain ⟨c, hc, v, hcv, a1, c1, rfl, hr, _⟩ := h3.at he
  obtain ⟨hs, hk⟩ := h1.2.2.2.2 x hx i c hc
  have k0 := hk 0 (.slice a1 e.length c1) (by show c.1[0]? = _; rw [hcv]; rfl)
  exact ⟨hs, a1, c1, by simpa using k0, hr⟩
set_option maxRecDepth 100000 in
set_option maxHeartbeats 12800000 in
theorem scanCuts_walk (a : Option Addr) (n cap : Nat) (ps : List (List UInt8)) (from_ sp_ last : Int) (b : Option Addr) (nt capt : Nat) (ts : List (List UInt8)) (w : World) (hr : SRow w a cap ps) (hn : ps.length = n) (ht : SRow w b capt ts) (hnt : ts.length = nt) :
    Calls Try.prog 6 #[.slice a n cap, .int .i64 from_, .int .i64 sp_, .int .i64 last, .slice b nt capt] w fun x w' => x = .returned (.bool true) ∧ Below w.heap.size w w' := by
  have HR := Lib.hid hr
  have HN := Lib.hid hn
  have HT := Lib.hid ht
  have HNT := Lib.hid hnt
  have HFEW := Lib.hid (few_any a n cap ps w hr hn)
  have HFEW2 := Lib.hid (few_any b nt capt ts w ht hnt)
  have hcap := hr.1
  have hcm := hr.2.1
  have hcapt := ht.1
  have hcmt := ht.2.1
  unfold maxLen at hcm hcmt
  rw [hn] at hcap
  rw [hnt] at hcapt
  clear hr hn ht hnt
  obtain ⟨A', hA'⟩ : ∃ z, bits .and .i64 from_ 65535 = z := ⟨_, rfl⟩
  have hAr : 0 ≤ A' ∧ A' ≤ 65535 := by rw [← hA']; exact and_range from_ 65535 (by decide)
  obtain ⟨S, hS⟩ : ∃ z, bits .and .i64 sp_ 3 = z := ⟨_, rfl⟩
  have hSr : 0 ≤ S ∧ S ≤ 3 := by rw [← hS]; exact and_range sp_ 3 (by decide)
  have h63 : 0 ≤ bits .and .i64 last 63 ∧ bits .and .i64 last 63 ≤ 63 := and_range last 63 (by decide)
  obtain ⟨l6, hl6⟩ : ∃ z : Nat, bits .and .i64 last 63 = z := ⟨(bits .and .i64 last 63).toNat, by omega⟩
  have hl6r : l6 ≤ 63 := by omega
  clear h63
  obtain ⟨F, hF⟩ : ∃ F : Nat, 1 + A' = (F : Int) := ⟨(1 + A').toNat, by omega⟩
  obtain ⟨sp, hsp⟩ : ∃ F : Nat, 1 + S = (F : Int) := ⟨(1 + S).toNat, by omega⟩
  have hF1 : 1 ≤ F ∧ F ≤ 65536 := by omega
  have hs1 : 1 ≤ sp ∧ sp ≤ 4 := by omega
  have HKN := Lib.hid (fun W => known11_any W)
  go_enter Try.func6, Try.ntmps6
  go_wp2_with fail
  refine HFEW.out.mono ?_
  rintro e w1 ⟨B, rfl, rfl, hB⟩
  cases B with
  | false =>
    clear hB
    go_wp2_with fail
    refine (HKN.out w).mono ?_
    rintro e w2 ⟨rfl, hb⟩
    have HB := Lib.hid hb
    clear hb
    go_wp2_with fail
    go_ret
    exact ⟨rfl, HB.out⟩
  | true =>
  have HSB := Lib.hid (few_sbC HN.out (hB rfl))
  have hn40 := (hB rfl).1
  clear hB
  go_wp2_with fail
  refine HFEW2.out.mono ?_
  rintro e w1 ⟨B, rfl, rfl, hB⟩
  cases B with
  | false =>
    clear hB
    go_wp2_with fail
    refine (HKN.out w).mono ?_
    rintro e w2 ⟨rfl, hb⟩
    have HB := Lib.hid hb
    clear hb
    go_wp2_with fail
    go_ret
    exact ⟨rfl, HB.out⟩
  | true =>
  have HTB := Lib.hid (hB rfl).2
  have hnt40 := (hB rfl).1
  clear hB
  go_wp2_with fail
  refine (rows_any a n cap F sp ps w HR.out HN.out HSB.out hF1.1 (by omega) hs1.1 hs1.2).mono ?_
  rintro e w1 ⟨g, rfl, o1⟩
  obtain ⟨es, hes⟩ : ∃ es, ensF F ps = es := ⟨_, rfl⟩
  rw [hes] at o1
  have HEL : Hid (es.length = n) := Lib.hid (by rw [← hes, ensF_len, HN.out])
  have HRI : Hid (∀ e ∈ es, e.right = true) := Lib.hid (by rw [← hes]; exact ensF_right hF1.1 (by rw [HN.out]; omega))
  have HRU : Hid (Runs F es) := Lib.hid (by rw [← hes]; exact Runs.ens F ps)
  have HSH : Hid (∀ e ∈ es, e.data.length ≤ 40) := Lib.hid (by rw [← hes]; exact ensF_short)
  have HY0 : Hid (CutOk sp es (rowsP sp es) ∧ SB (rowsP sp es) ∧ ∀ i, 0 ≤ i → i < sp → (rowsP sp es)[i]? = some (rowL (dealE (sp : Int) es (i : Int)))) := Lib.hid ⟨CutOk.start HRI.out, rowsP_SB hs1.2 (by rw [HEL.out]; omega) HSH.out, fun i _ h => rowsP_get h⟩
  have HO1 := Lib.hid o1
  clear o1 hes hA' hS hF hsp
  go_wp2_with fail
  go_loopw [12] (fun i wr => ∃ (j : Nat) (Y : List (List UInt8)), i = .int .i64 j ∧ j ≤ sp ∧ SOwn w wr g sp Y ∧ Hid (CutOk sp es Y ∧ SB Y ∧ ∀ i, j ≤ i → i < sp → Y[i]? = some (rowL (dealE (sp : Int) es (i : Int))))) (fun i _ => sp - (intOf i).toNat)
  case atStart => exact ⟨0, rowsP sp es, rfl, by omega, HO1.out, HY0⟩
  case round =>
    obtain ⟨j, Y, rfl, hj, o, HY⟩ := hrel
    have HO := Lib.hid o
    clear o
    by_cases hgo : j < sp ∧ j < nt
    · have hjs : (j : Int) < sp := by omega
      have hjs2 : decide ((j : Int) < sp) = true := decide_eq_true hjs
      have hjt : (j : Int) < nt := by omega
      have hjt2 : decide ((j : Int) < nt) = true := decide_eq_true hjt
      have hm1 := HY.out.2.2 j (Nat.le_refl j) hgo.1
      obtain ⟨t, ht⟩ : ∃ l, ts[j]? = some l := ⟨ts[j]'(by have := HNT.out; omega), List.getElem?_eq_getElem _⟩
      have htl := HTB.out t (List.mem_of_getElem? ht)
      have HRL : Hid ((rowL (dealE (sp : Int) es (j : Int))).length ≤ 2480) := Lib.hid (by
        have h1 := dealE_short (sp := (sp : Int)) (es := es) (k := (j : Int)) HSH.out
        have h2 := HEL.out
        omega)
      obtain ⟨u, hu, hfz, ou, hune⟩ := HO.out.at hm1
      obtain ⟨NR, hNR⟩ : ∃ x, (rowL (dealE (sp : Int) es (j : Int))).length = x := ⟨_, rfl⟩
      obtain ⟨aR, cR, rfl, hrR⟩ := ou.row_n hNR
      obtain ⟨b5, o5, a5, c5, rfl, q0, R5⟩ := (HT.out.later HO.out.below).at ht
      obtain ⟨N5, hN5⟩ : ∃ x, t.length = x := ⟨_, rfl⟩
      rw [hN5] at q0 htl
      obtain ⟨L9, hL9⟩ : ∃ x, (rowL (dealE (sp : Int) es (j : Int)) ++ t).length = x := ⟨_, rfl⟩
      have HL9b : Hid (L9 ≤ 3980) := Lib.hid (by rw [← hL9, List.length_append]; have := HRL.out; omega)
      have HD := Lib.hid (HO.out.later (Below.refl wr.heap.size wr).drew)
      have HM1 := Lib.hid hm1
      have HU := Lib.hid hu
      have HOU := Lib.hid (ou.later (Below.refl wr.heap.size wr).drew)
      have HUNE := Lib.hid hune
      have HR5 := Lib.hid (R5.later (Below.refl wr.heap.size wr).drew)
      have HN5 := Lib.hid hN5
      have HL9 := Lib.hid hL9
      have HNR := Lib.hid hNR
      have HLL : Hid ((rowL (dealE (sp : Int) es (j : Int))).length + t.length ≤ 140737488355328) := Lib.hid (by have := HRL.out; omega)
      have HCS : Hid ((allA (rowL (dealE (sp : Int) es (j : Int)) ++ t)).2 = NR → CutOk sp es (Y.set j (rowL (dealE (sp : Int) es (j : Int)) ++ t)) ∧ SB (Y.set j (rowL (dealE (sp : Int) es (j : Int)) ++ t)) ∧ ∀ i, j + 1 ≤ i → i < sp → (Y.set j (rowL (dealE (sp : Int) es (j : Int)) ++ t))[i]? = some (rowL (dealE (sp : Int) es (i : Int)))) := Lib.hid fun h => by
        refine ⟨HY.out.1.set ⟨t, rfl, by rw [HNR.out]; exact h⟩, ⟨by rw [List.length_set]; exact HY.out.2.1.1, fun l hl => ?_⟩, fun i h1 h2 => ?_⟩
        · rcases List.mem_or_eq_of_mem_set hl with hl | rfl
          · exact HY.out.2.1.2 l hl
          · rw [HL9.out]; have := HL9b.out; omega
        · rw [List.getElem?_set_ne (by omega)]; exact HY.out.2.2 i (by omega) h2
      have HYS : Hid ((Y.set j (rowL (dealE (sp : Int) es (j : Int)) ++ t))[j]? = some (rowL (dealE (sp : Int) es (j : Int)) ++ t)) := Lib.hid (List.getElem?_set_self (by rw [HY.out.1.1]; exact hgo.1))
      obtain ⟨R, hR⟩ : ∃ l, rowL (dealE (sp : Int) es (j : Int)) = l := ⟨_, rfl⟩
      rw [hR] at HM1 HOU HLL HCS HYS HL9
      clear hm1 hfz ou hune ht R5 hNR hN5 hL9 hrR HNR HRL hR hgo
      go_upto_region 9 with fail
      go_region_law (refine step_bapp (by rfl) (.tmp 62) (.tmp 66) (by rfl) _ R (by rfl) w HOU.out a5 c5 N5 t HR5.out HN5.out (by rfl) HLL.out ?_; intro v9 w9 o9 gr hb9; obtain ⟨hc9, hf9⟩ := HD.out.grown_at HM1.out HU.out gr HUNE.out; obtain ⟨a9, c9, rfl, -⟩ := o9.row_n HL9.out)
      all_goals
        have HP := Lib.hid (HD.out.put HM1.out HU.out gr o9 (by rcases hb9 with h | h; exact .inl h; exact .inr (.inr h)))
        clear o9 gr hb9 hc9 hf9 hu q0
        generalize (w9.setCell ⟨g, j, none⟩ (.slice a9 L9 c9)) = w5 at *
        obtain ⟨u6, hu6, _, ou6, _⟩ := HP.out.at HYS.out
        obtain ⟨a6, c6, rfl, r6⟩ := ou6.row_n HL9.out
        have HK := Lib.hid (rall_new a6 L9 c6 (R ++ t) w5 r6 HL9.out (by have := HL9b.out; omega))
        obtain ⟨Q, hQ⟩ : ∃ x, (allA (R ++ t)).2 = x := ⟨_, rfl⟩
        rw [hQ] at HK HCS
        clear ou6 r6 hQ
        go_wp2_with fail
        refine HK.out.mono ?_
        rintro e w6 ⟨v6, rfl, o6⟩
        have HP6 := Lib.hid (HP.out.later o6.below)
        clear o6 HK
        by_cases hq : Q = NR
        · have hqb : ((Q : Int) != (NR : Int)) = false := by simp [hq]
          have HYN := Lib.hid (HCS.out hq)
          clear hq
          go_wp2_with fail
          go_roundw
          case rel => exact ⟨j + 1, _, by go_num, by omega, HP6.out, HYN⟩
          case measure => simp [intOf]; omega
        · have hqb : ((Q : Int) != (NR : Int)) = true := by simp; omega
          have HB6 := Lib.hid HP6.out.below
          go_wp2_with fail
          refine (HKN.out w6).mono ?_
          rintro e w7 ⟨rfl, hb⟩
          have HB7 := Lib.hid (HB6.out.trans (hb.mono HB6.out.size))
          clear hb
          go_wp2_with fail
          go_ret
          exact ⟨rfl, HB7.out⟩
    · obtain ⟨LA, hLA⟩ : ∃ z, (F : Int) + (l6 : Int) - 1 = z := ⟨_, rfl⟩
      obtain ⟨L1, hL1⟩ : ∃ z, LA - (F : Int) = z := ⟨_, rfl⟩
      have hL2 : L1 + 1 = (l6 : Int) := by omega
      have hL1r : -1 ≤ L1 ∧ L1 ≤ 62 := by omega
      have HL1 := Lib.hid hL1
      have HL2 := Lib.hid hL2
      clear hL1 hL2
      obtain ⟨K, hK⟩ : ∃ K, min n l6 = K := ⟨_, rfl⟩
      have HFL : Hid (es.filter (leE LA) = es.take K) := Lib.hid (by rw [← hLA]; exact HRU.out.le (by rw [HEL.out, hK]))
      obtain ⟨C, hC⟩ : ∃ C, rowsP sp (es.take K) = C := ⟨_, rfl⟩
      have HC := Lib.hid hC
      have HCL : Hid (C.length = sp) := Lib.hid (by rw [← hC, rowsP_len])
      have HKL : Hid ((es.take K).length = K) := Lib.hid (by rw [List.length_take, HEL.out]; omega)
      have HCT : Hid (∀ (i : Nat) y, Y[i]? = some y → endA y LA ≤ y.length ∧ C[i]? = some (y.take (endA y LA)) ∧ C.take (i + 1) = C.take i ++ [y.take (endA y LA)]) := Lib.hid fun i y hy => by
        have hi : i < sp := by rw [← HY.out.1.1]; exact (List.getElem?_eq_some_iff.1 hy).1
        have h1 := ((HY.out.1.2 i y hy).ends HRU.out.rising HRI.out LA).2
        rw [HFL.out] at h1
        have h2 : C[i]? = some (y.take (endA y LA)) := by rw [← hC, rowsP_get hi, h1]
        obtain ⟨h3, h4⟩ := List.getElem?_eq_some_iff.1 h2
        exact ⟨endA_le y LA, h2, by rw [List.take_succ_eq_append_getElem h3, h4]⟩
      have HCB : Hid (SB C) := Lib.hid (by
        rw [← hC]
        exact rowsP_SB hs1.2 (by rw [HKL.out]; omega) fun e he => HSH.out e (List.mem_of_mem_take he))
      have HTN : Hid (tornS C LA = false) := Lib.hid (by
        rw [← hC]
        refine torn_rowsB hs1.1 (List.Pairwise.sublist (List.take_sublist _ _) HRU.out.rising) (fun e he => HRI.out e (List.mem_of_mem_take he)) _ ⟨fun h => (by cases h), fun ⟨e, he, h2⟩ => ?_⟩
        rw [← HFL.out] at he
        have := of_decide_eq_true (List.mem_filter.1 he).2
        omega)
      have HMA : Hid (mergeS Y (F : Int) = es) := Lib.hid (by
        rw [HY.out.1.mergeS HRI.out]
        have := HRU.out.merge hs1.1 HRI.out (k := 0) (Nat.zero_le _)
        simpa using this)
      have HMC : Hid (mergeS C (F : Int) = es.take K) := Lib.hid (by
        rw [← hC]
        have h1 : Runs F (es.take K) := fun i e h => by
          rw [List.getElem?_take] at h
          split at h
          · exact HRU.out i e h
          · cases h
        have := h1.merge hs1.1 (fun e he => HRI.out e (List.mem_of_mem_take he)) (k := 0) (Nat.zero_le _)
        simpa using this)
      obtain ⟨w4, hw4⟩ : ∃ W, W = wr := ⟨_, rfl⟩
      subst hw4
      have HSY := Lib.hid (HO.out.srow (by omega))
      have HB4 := Lib.hid HO.out.below
      have hss : ((sp : Int) != (sp : Int)) = false := by simp
      have HKmin : Hid (min (n : Int) (l6 : Int) = (K : Int)) := Lib.hid (by omega)
      have hKn : K ≤ n := by omega
      have HKC : Hid ((l6 < n ∧ K = l6) ∨ (¬ l6 < n ∧ K = n)) := Lib.hid (by omega)
      have Hl60 : Hid (max (l6 : Int) 0 = (l6 : Int)) := Lib.hid (by omega)
      have HENDS := Lib.hid (ends_any _ sp sp Y LA w4 HSY.out HY.out.1.1 HY.out.2.1)
      have hgo2 : (¬ (j : Int) < sp) ∨ ((j : Int) < sp ∧ ¬ (j : Int) < nt) := by omega
      clear hC hK hgo
      rcases hgo2 with hjs | ⟨hjs, hjt⟩
      all_goals
        go_wp2_with fail
        clear hLA hl6
        refine HENDS.out.mono ?_
        rintro e w5 ⟨v5, rfl, o5⟩
        have hz : (endsZ Y LA).length = sp := by rw [endsZ_len, HY.out.1.1]
        obtain ⟨a5, c5, rfl, r5⟩ := o5.row_n inOk hz
        have HZ5 := Lib.hid r5.zrow
        have HO5 := Lib.hid (HO.out.later o5.below)
        have HSY5 := Lib.hid (HSY.out.later o5.below)
        have HB5 := Lib.hid (HB4.out.trans (o5.below.mono HB4.out.size))
        have hzc := HZ5.out.1
        have hzm := HZ5.out.2.1
        unfold maxLen at hzm
        rw [hz] at hzc
        clear o5 r5 hz
        go_wp2_with fail
        go_loopw [17, 18] (fun v i wr => ∃ (q : Nat), i = .int .i64 q ∧ q ≤ sp ∧ NOwn (fun _ => True) 1 34 22 BsR w5 wr v (C.take q)) (fun _ i _ => sp - (intOf i).toNat)
        case atStart => exact ⟨0, rfl, by omega, NOwn.nil' (Below.refl _ _)⟩
        case round =>
          obtain ⟨q, rfl, hq, o7⟩ := hrel
          have HO7 := Lib.hid o7
          clear o7
          by_cases hqs : (q : Int) < sp
          · have hqs2 : decide ((q : Int) < sp) = true := decide_eq_true hqs
            obtain ⟨y, hy⟩ : ∃ y, Y[q]? = some y := ⟨Y[q]'(by have := HY.out.1.1; omega), List.getElem?_eq_getElem _⟩
            obtain ⟨hle, hcq, hct⟩ := HCT.out q y hy
            have HCTQ := Lib.hid hct
            have hzq : (endsZ Y LA)[q]? = some ((endA y LA : Nat) : Int) := by unfold endsZ endsS; rw [List.getElem?_map, List.getElem?_map, hy]; rfl
            have hyl := HY.out.2.1.2 y (List.mem_of_getElem? hy)
            obtain ⟨u, hu, _, ou, _⟩ := HO5.out.at hy
            obtain ⟨NY, hNY⟩ : ∃ x, y.length = x := ⟨_, rfl⟩
            obtain ⟨aR, cR, rfl, rR⟩ := ou.row_n hNY
            have hlt := fun x (hx : aR = some x) => (ou.1.lt x.block (by rw [hx]; rfl)).2
            obtain ⟨bz, oz, ea, z0⟩ := (HZ5.out.later HO7.out.below).at hzq
            cases ea
            obtain ⟨E, hE⟩ : ∃ x, endA y LA = x := ⟨_, rfl⟩
            rw [hE] at hle HCTQ z0
            rw [hNY] at hle hyl
            have hu2 : wr.cell? _ = _ := (HO7.out.below.cell (World.block_lt_of_cell? _ _ hu)).trans hu
            have HRR := Lib.hid (rR.later HO7.out.below)
            have HYL : Hid ((y.take E).length = E) := Lib.hid (by rw [List.length_take, hNY, Nat.min_eq_left hle])
            have HEN : Hid (∀ W, Below wr.heap.size wr W → BsR (lessJ (fun _ => True) u17) W [.slice aR E cR] (y.take E)) := Lib.hid fun W hb => ⟨_, rfl, aR, cR, by rw [HYL.out], (HRR.out.later hb).take E, fun x hx => ⟨Nat.lt_of_lt_of_le (hlt x hx) (Nat.le_trans HO7.out.below.size hb.size), trivial, fun hh => by
              have h5 := (HO7.out.lt hh.symm).1
              have h6 := hlt x hx
              omega⟩⟩
            have HU2 : Hid (∀ W, Below wr.heap.size wr W → W.cell? ⟨g, q, none⟩ = some (.slice aR NY cR)) := Lib.hid fun W hb => (hb.cell (World.block_lt_of_cell? _ _ hu2)).trans hu2
            have HZ2 : Hid (∀ W, Below wr.heap.size wr W → W.cell? ⟨bz, oz + q, none⟩ = some (.int .i64 (E : Nat))) := Lib.hid fun W hb => (hb.cell (World.block_lt_of_cell? _ _ z0)).trans z0
            have HSL := fun W => run_slB (W := W) (hi := E) rR hNY hle
            have hE0 : decide ((E : Int) < 0) = false := decide_eq_false (by omega)
            have hE1 : decide ((E : Int) > (NY : Int)) = false := decide_eq_false (by omega)
            have hE2 : decide ((NY : Int) < (E : Int)) = false := decide_eq_false (by omega)
            have HIB : ∀ x ∈ (#[Value.slice aR E cR] : Array Value).toList, x.oneCell' = true := by intro x hx; simp only [List.mem_cons, List.not_mem_nil, or_false] at hx; subst hx; rfl
            have HLN : Hid ((C.take q).length + 1 ≤ 1000000) := Lib.hid (by rw [List.length_take, HCL.out]; omega)
            clear hy hcq hct hzq ou hu hE hNY rR hlt HRR
            go_upto_region 21 with fail
            go_quiet (fail)
            have hbD := below_drewN (B := wr.heap.size) wr nq
            generalize (wr.drewN nq) = wD at *
            have hu3 := HU2.out wD hbD
            have z3 := HZ2.out wD hbD
            have hbE := hbD.trans ((Below.refl wD.heap.size wD).drew.mono hbD.size)
            have HEN2 := Lib.hid (HEN.out _ hbE)
            have HOD := Lib.hid (HO7.out.later bs_rel hbE)
            clear hbD hbE hu2 z0 HEN HU2 HZ2
            go_wp2_with fail
            go_upto_region 23 with fail
            go_region_law (refine step_non roT_okC bs_rel (by rfl) (.tmp 117) (.tmp 127) (by rfl) rfl u17 (C.take q) (by rfl) w5 HOD.out (y.take E) HEN2.out rfl HIB (by rfl) HLN.out ?_; intro v9 w9 o9 gr)
            all_goals
              rw [← HCTQ.out] at o9
              have HO9 := Lib.hid o9
              clear o9 gr
              go_wp2_with fail
              go_roundw
              case rel => exact ⟨q + 1, by go_num, by omega, HO9.out⟩
              case measure => simp [intOf]; omega
          · have hqs2 : decide ((q : Int) < sp) = false := decide_eq_false hqs
            have hqe : q = sp := by omega
            have HFU : Hid (C.take q = C) := Lib.hid (List.take_of_length_le (by rw [HCL.out]; omega))
            rw [HFU.out] at HO7
            obtain ⟨w6, hw6⟩ : ∃ W, W = wr := ⟨_, rfl⟩
            subst hw6
            obtain ⟨a8, c8, rfl⟩ := HO7.out.val roT_okC HCL.out
            have HS8 := Lib.hid (HO7.out.row roT_okC bs_rel (fun _ _ => trivial)).srow.2
            have HB8 := Lib.hid (HB5.out.trans (HO7.out.below.mono HB5.out.size))
            have HSY8 := Lib.hid (HSY5.out.later HO7.out.below)
            clear HO7 HFU hqe
            go_wp2_with fail
            refine (merge_any _ sp sp Y (F : Int) w6 HSY8.out HY.out.1.1 HY.out.2.1 (by omega) (by omega)).mono ?_
            rw [HMA.out]
            rintro e w7 ⟨v7, rfl, o7⟩
            obtain ⟨a9, c9, rfl⟩ := o7.val enT_ok HEL.out
            have HE9 := Lib.hid (o7.row enT_ok en_rel (fromJ_new _)).erow.2
            have HS9 := Lib.hid (HS8.out.later o7.below)
            have HB9 := Lib.hid (HB8.out.trans (o7.below.mono HB8.out.size))
            have hc9 := HE9.out.1
            have hac9 := HE9.out.2.2.1
            rw [HEL.out] at hc9
            clear o7
            go_wp2_with fail
            refine (merge_any a8 sp c8 C (F : Int) w7 HS9.out HCL.out HCB.out (by omega) (by omega)).mono ?_
            rw [HMC.out]
            rintro e w8 ⟨v8, rfl, o8⟩
            obtain ⟨a10, c10, rfl⟩ := o8.val enT_ok HKL.out
            have HE10 := Lib.hid (o8.row enT_ok en_rel (fromJ_new _)).erow.2
            have HE9' := Lib.hid ((HE9.out.later o8.below).take K)
            have HS10 := Lib.hid (HS9.out.later o8.below)
            have HB10 := Lib.hid (HB9.out.trans (o8.below.mono HB9.out.size))
            have HTC := Lib.hid (torn_any a8 sp c8 C LA w8 HS10.out HCL.out HCB.out)
            rw [HTN.out] at HTC
            have hnn : ((n : Int) == (n : Int)) = true := by simp
            have hKK : ((K : Int) == (K : Int)) = true := by simp
            have HSL9 := fun W => run_slG enT_ok (W := W) (a := a9) (n := n) (cap := c9) (hi := K) (S := 26) rfl hac9 hc9 hKn
            clear o8
            rcases HKC.out with ⟨hlt, hKe⟩ | ⟨hlt, hKe⟩
            all_goals
              subst hKe
              have hL1 := HL1.out
              have hL2 := HL2.out
              have hl60 := Hl60.out
              go_upto_region 26 with fail
              clear hL1 hL2 hl60 hlt
              go_wp2_with fail
              refine HTC.out.mono ?_
              rintro e w9 ⟨rfl, b9⟩
              have HB11 := Lib.hid (HB10.out.trans (b9.mono HB10.out.size))
              have HSM := Lib.hid (esame_list a10 a9 K K c10 c9 _ _ w9 (HE10.out.later b9) (HE9'.out.later b9) HKL.out HKL.out)
              rw [decide_eq_true rfl] at HSM
              clear b9 HTC
              go_wp2_with fail
              refine HSM.out.mono ?_
              rintro e w10 ⟨rfl, b10⟩
              have HB12 := Lib.hid (HB11.out.trans (b10.mono HB11.out.size))
              clear b10 HSM
              go_wp2_with fail
              refine (HKN.out w10).mono ?_
              rintro e w11 ⟨rfl, b11⟩
              have HB13 := Lib.hid (HB12.out.trans (b11.mono HB12.out.size))
              clear b11
              go_wp2_with fail
              go_ret
              exact ⟨rfl, HB13.out⟩
end Go.Proofs.Ytabeleihpnnadaa
