/- Scans: few; the program's Ends, Torn, First; the document's Ends, First, Same. -/
import Derived.Test.YtabeleihpnnadaaScA
namespace Go.Proofs.Ytabeleihpnnadaa
open Go.RowKit Go.Proofs
set_option linter.unusedVariables false
set_option linter.unusedSimpArgs false
set_option linter.unnecessarySimpa false

/-- What few answers. -/
def FewP (n : Nat) (rows : List (List UInt8)) (w : World) (e : Ending) (w' : World) : Prop := ∃ B, e = .returned (.bool B) ∧ w = w' ∧ (B = true → n ≤ 40 ∧ ∀ l ∈ rows, l.length ≤ 1500)
theorem SB.take {rows : List (List UInt8)} (h : SB rows) {j : Nat} {l : List UInt8} (hl : rows[j]? = some l) : l.length ≤ 10000 := h.2 l (List.mem_of_getElem? hl)
set_option maxRecDepth 20000 in
set_option maxHeartbeats 3200000 in
theorem few_any (a : Option Addr) (n cap : Nat) (rows : List (List UInt8)) (w : World) (hr : SRow w a cap rows) (hn : rows.length = n) :
    Calls Try.prog 8 #[.slice a n cap] w fun e w' => FewP n rows w e w' := by
  have HR := Lib.hid hr
  have HN := Lib.hid hn
  have hcap : n ≤ 9223372036854775807 := by have h1 := hr.1; have h2 := hr.2.1; unfold maxLen at h2; omega
  clear hr hn
  go_enter Try.func8, Try.ntmps8
  go_wp2_with fail
  go_loopw [3, 4] (fun q i wr => ∃ (j : Nat) (z : Int), i = .int .i64 j ∧ q = .int .i64 z ∧ j ≤ n ∧ w = wr ∧ Hid (∀ k l, k < j → rows[k]? = some l → l.length ≤ 1500)) (fun _ i _ => n - (intOf i).toNat)
  case atStart => exact ⟨0, 0, rfl, rfl, by omega, rfl, Lib.hid (fun k l h => by omega)⟩
  case round =>
    obtain ⟨j, z, rfl, rfl, hj, rfl, HA⟩ := hrel
    by_cases hjn : (j : Int) < n
    · obtain ⟨l, hl⟩ : ∃ l, rows[j]? = some l := ⟨rows[j]'(by have := HN.out; omega), List.getElem?_eq_getElem _⟩
      obtain ⟨b1, o1, a1, c1, rfl, p0, R1⟩ := HR.out.at hl
      obtain ⟨m, hm⟩ : ∃ m, l.length = m := ⟨_, rfl⟩
      rw [hm] at p0
      by_cases hc : m ≤ 1500
      · have hcd : decide ((m : Int) > 1500) = false := decide_eq_false (by omega)
        have HA2 : Hid (∀ k l, k < j + 1 → rows[k]? = some l → l.length ≤ 1500) := Lib.hid (fun k u hk hu => by
          by_cases e : k = j
          · subst e; rw [hl] at hu; cases hu; omega
          · exact HA.out k u (by omega) hu)
        clear hl hm R1
        go_wp2_with fail
        go_roundw
        case rel => exact ⟨j + 1, _, by go_num, rfl, by omega, trivial, HA2⟩
        case measure => simp [intOf]; omega
      · have hcd : decide ((m : Int) > 1500) = true := decide_eq_true (by omega)
        clear hl hm R1
        go_wp2_with fail
        go_ret
        exact ⟨false, rfl, rfl, fun h => by cases h⟩
    · have HF : Hid (∀ l ∈ rows, l.length ≤ 1500) := Lib.hid (fun l hl => by
        obtain ⟨k, hk⟩ := List.mem_iff_getElem?.1 hl
        exact HA.out k l (by have := (List.getElem?_eq_some_iff.1 hk).1; have := HN.out; omega) hk)
      by_cases hc : n ≤ 40
      · have hcd : decide ((n : Int) ≤ 40) = true := decide_eq_true (by omega)
        go_wp2_with fail
        go_ret
        exact ⟨_, rfl, rfl, fun h => ⟨hc, HF.out⟩⟩
      · have hcd : decide ((n : Int) ≤ 40) = false := decide_eq_false (by omega)
        go_wp2_with fail
        go_ret
        exact ⟨_, rfl, rfl, fun h => by cases h⟩

def endsZ (rows : List (List UInt8)) (last : Int) : List Int := (endsS rows last).map fun k : Nat => (k : Int)
theorem endsZ_snoc {rows : List (List UInt8)} {j : Nat} {l : List UInt8} (h : rows[j]? = some l) (last : Int) : endsZ (rows.take (j + 1)) last = endsZ (rows.take j) last ++ [((endA l last : Nat) : Int)] := by
  obtain ⟨hj, rfl⟩ := List.getElem?_eq_some_iff.1 h
  unfold endsZ endsS
  rw [List.take_succ_eq_append_getElem hj, List.map_append, List.map_append]
  simp
theorem endsZ_len (rows : List (List UInt8)) (last : Int) : (endsZ rows last).length = rows.length := by simp [endsZ, endsS]
set_option maxRecDepth 20000 in
set_option maxHeartbeats 3200000 in
theorem ends_any (a : Option Addr) (n cap : Nat) (rows : List (List UInt8)) (last : Int) (w : World) (hr : SRow w a cap rows) (hn : rows.length = n) (hb : SB rows) :
    Calls Try.prog 14 #[.slice a n cap, .int .i64 last] w fun e w' => ∃ v, e = .returned v ∧ GOwn inT w w' v (endsZ rows last) := by
  have HR := Lib.hid hr
  have HN := Lib.hid hn
  have HB := Lib.hid hb
  have hn100 : n ≤ 100 := by have := hb.1; omega
  clear hr hn hb
  go_enter Try.func14, Try.ntmps14
  go_wp2_with fail
  go_loopw [5, 10] (fun v i wr => ∃ (j : Nat) (zs : List Int), i = .int .i64 j ∧ j ≤ n ∧ zs.length = j ∧ GOwn inT w wr v zs ∧ Hid (zs = endsZ (rows.take j) last)) (fun _ i _ => n - (intOf i).toNat)
  case atStart => exact ⟨0, [], rfl, by omega, rfl, GOwn.nil' (Below.refl _ _), Lib.hid rfl⟩
  case round =>
    obtain ⟨j, zs, rfl, hj, hzs, o, HE⟩ := hrel
    by_cases hjn : (j : Int) < n
    · obtain ⟨l, hl⟩ : ∃ l, rows[j]? = some l := ⟨rows[j]'(by have := HN.out; omega), List.getElem?_eq_getElem _⟩
      obtain ⟨b1, o1, a1, c1, rfl, p0, R1⟩ := (HR.out.later o.below).at hl
      have hll := HB.out.2 l (List.mem_of_getElem? hl)
      have HS := Lib.hid (endsZ_snoc hl last)
      have hel := endA_le l last
      obtain ⟨m, hm⟩ : ∃ m, l.length = m := ⟨_, rfl⟩
      rw [hm] at p0 hll hel
      have HK := Lib.hid (end_any a1 m c1 l last wr R1 hm (by omega))
      obtain ⟨E, hE⟩ : ∃ E, endA l last = E := ⟨_, rfl⟩
      rw [hE] at HK hel HS
      clear hl hm hE R1
      have HO := Lib.hid o
      clear o
      go_wp2_with fail
      refine HK.out.mono ?_
      rintro e1 w1 ⟨rfl, hb1⟩
      have HO1 := Lib.hid (HO.out.later hb1)
      have HIB : inB (E : Int) := by unfold inB; omega
      clear HO hb1 p0 HK
      go_wp2_with (at_builtin; refine wp_gone inOk rfl _ _ rfl rfl u5 zs rfl w HO1.out (E : Int) HIB rfl rfl (by omega) ?_; intro v9 w9 o9 _ _)
      go_roundw
      case rel => exact ⟨j + 1, zs ++ [(E : Int)], by go_num, by omega, by simp; omega, o9, Lib.hid (by rw [HS.out, HE.out])⟩
      case measure => simp [intOf]; omega
    · have HF : Hid (zs = endsZ rows last) := Lib.hid (by rw [HE.out, List.take_of_length_le (by have := HN.out; omega)])
      go_wp2_with fail
      go_ret
      exact ⟨_, rfl, by rw [← HF.out]; exact o⟩

theorem tornS_yes {rows : List (List UInt8)} {j : Nat} {l : List UInt8} {last : Int} (h : rows[j]? = some l) (h2 : endA l last < l.length) : tornS rows last = true := by
  unfold tornS; rw [List.any_eq_true]; exact ⟨l, List.mem_of_getElem? h, by simpa using h2⟩
theorem tornS_no {rows : List (List UInt8)} {last : Int} (h : ∀ (k : Nat) l, rows[k]? = some l → ¬ endA l last < l.length) : tornS rows last = false := by
  unfold tornS; rw [List.any_eq_false]
  intro l hl
  obtain ⟨k, hk⟩ := List.mem_iff_getElem?.1 hl
  simpa using h k l hk
set_option maxRecDepth 20000 in
set_option maxHeartbeats 3200000 in
theorem torn_any (a : Option Addr) (n cap : Nat) (rows : List (List UInt8)) (last : Int) (w : World) (hr : SRow w a cap rows) (hn : rows.length = n) (hb : SB rows) :
    Calls Try.prog 19 #[.slice a n cap, .int .i64 last] w fun e w' => e = .returned (.bool (tornS rows last)) ∧ Below w.heap.size w w' := by
  have HR := Lib.hid hr
  have HN := Lib.hid hn
  have HB := Lib.hid hb
  have hn100 : n ≤ 100 := by have := hb.1; omega
  clear hr hn hb
  go_enter Try.func19, Try.ntmps19
  go_wp2_with fail
  go_loopw [9] (fun i wr => ∃ (j : Nat), i = .int .i64 j ∧ j ≤ n ∧ Below w.heap.size w wr ∧ Hid (∀ (k : Nat) l, k < j → rows[k]? = some l → ¬ endA l last < l.length)) (fun i _ => n - (intOf i).toNat)
  case atStart => exact ⟨0, rfl, by omega, Below.refl _ _, Lib.hid (fun k l h => by omega)⟩
  case round =>
    obtain ⟨j, rfl, hj, hbw, HA⟩ := hrel
    have HBW := Lib.hid hbw
    clear hbw
    by_cases hjn : (j : Int) < n
    · obtain ⟨l, hl⟩ : ∃ l, rows[j]? = some l := ⟨rows[j]'(by have := HN.out; omega), List.getElem?_eq_getElem _⟩
      obtain ⟨b1, o1, a1, c1, rfl, p0, R1⟩ := (HR.out.later HBW.out).at hl
      have hll := HB.out.2 l (List.mem_of_getElem? hl)
      have hel := endA_le l last
      have HY : Hid (endA l last < l.length → tornS rows last = true) := Lib.hid (tornS_yes hl)
      have HA2 : Hid (¬ endA l last < l.length → ∀ (k : Nat) u, k < j + 1 → rows[k]? = some u → ¬ endA u last < u.length) := Lib.hid (fun hc k u hk hu => by
        by_cases e : k = j
        · subst e; rw [hl] at hu; cases hu; exact hc
        · exact HA.out k u (by omega) hu)
      obtain ⟨m, hm⟩ : ∃ m, l.length = m := ⟨_, rfl⟩
      rw [hm] at p0 hll hel HY HA2
      have HK := Lib.hid (end_any a1 m c1 l last wr R1 hm (by omega))
      obtain ⟨E, hE⟩ : ∃ E, endA l last = E := ⟨_, rfl⟩
      rw [hE] at HK hel HY HA2
      clear hl hm hE R1
      by_cases hc : E < m
      · have hcd : decide ((m : Int) > E) = true := decide_eq_true (by omega)
        have HF := Lib.hid (HY.out hc)
        go_wp2_with fail
        refine HK.out.mono ?_
        rintro e1 w1 ⟨rfl, hb1⟩
        have HB1 := Lib.hid (HBW.out.trans (hb1.mono HBW.out.size))
        clear hb1 p0 HK
        go_wp2_with fail
        go_ret
        exact ⟨by rw [HF.out]; rfl, HB1.out⟩
      · have hcd : decide ((m : Int) > E) = false := decide_eq_false (by omega)
        have HF := Lib.hid (HA2.out hc)
        go_wp2_with fail
        refine HK.out.mono ?_
        rintro e1 w1 ⟨rfl, hb1⟩
        have HB1 := Lib.hid (HBW.out.trans (hb1.mono HBW.out.size))
        clear hb1 p0 HK
        go_wp2_with fail
        go_roundw
        case rel => exact ⟨j + 1, by go_num, by omega, HB1.out, HF⟩
        case measure => simp [intOf]; omega
    · have HF : Hid (tornS rows last = false) := Lib.hid (tornS_no fun k l hk => HA.out k l (by have := (List.getElem?_eq_some_iff.1 hk).1; have := HN.out; omega) hk)
      go_wp2_with fail
      go_ret
      exact ⟨by rw [HF.out]; rfl, HBW.out⟩

/-! ### the least number -/
def minL (es : List En) : Int := es.foldl minE 0
theorem minL_snoc {es : List En} {j : Nat} {e : En} (h : es[j]? = some e) : minL (es.take (j + 1)) = minE (minL (es.take j)) e := by
  obtain ⟨hj, rfl⟩ := List.getElem?_eq_some_iff.1 h
  unfold minL
  rw [List.take_succ_eq_append_getElem hj, List.foldl_append]; rfl
theorem minL_app (es us : List En) : minL (es ++ us) = us.foldl minE (minL es) := by unfold minL; rw [List.foldl_append]
theorem minE_range {m : Int} {e : En} (h : 0 ≤ m ∧ m ≤ 1099511627776) (h2 : 1 ≤ e.seq ∧ e.seq ≤ 1099511627776) : 0 ≤ minE m e ∧ minE m e ≤ 1099511627776 := by unfold minE; split <;> omega
set_option maxRecDepth 20000 in
set_option maxHeartbeats 3200000 in
theorem first_any (a : Option Addr) (n cap : Nat) (rows : List (List UInt8)) (w : World) (hr : SRow w a cap rows) (hn : rows.length = n) (hb : SB rows) :
    Calls Try.prog 16 #[.slice a n cap] w fun e w' => e = .returned (.int .i64 (firstS rows)) ∧ Below w.heap.size w w' := by
  have HK := Lib.hid (entries_any a n cap rows w hr hn hb)
  have HF : Hid (firstS rows = minL (entsS rows)) := Lib.hid rfl
  have HRI := Lib.hid (entsS_right rows)
  have hel := entsS_len hb.2 n
  rw [List.take_of_length_le (by omega)] at hel
  have hn100 : n ≤ 100 := by have := hb.1; omega
  generalize entsS rows = es at *
  clear hr hn hb
  go_enter Try.func16, Try.ntmps16
  go_wp2_with fail
  refine HK.out.mono ?_
  rintro e1 w1 ⟨v1, rfl, o1⟩
  obtain ⟨N, hN⟩ : ∃ N, es.length = N := ⟨_, rfl⟩
  rw [hN] at hel
  have HN := Lib.hid hN
  obtain ⟨a2, c2, rfl⟩ := o1.val enT_ok hN
  have HO := Lib.hid (o1.row enT_ok en_rel (fromJ_new _)).erow.2
  have HB := Lib.hid o1.below
  have hcap := HO.out.1
  rw [hN] at hcap
  clear o1 HK hN
  go_wp2_with fail
  go_loopw [3, 9] (fun q i wr => ∃ (j : Nat) (z : Int), i = .int .i64 j ∧ q = .int .i64 z ∧ j ≤ N ∧ 0 ≤ z ∧ z ≤ 1099511627776 ∧ Below w1.heap.size w1 wr ∧ Hid (z = minL (es.take j))) (fun _ i _ => N - (intOf i).toNat)
  case atStart => exact ⟨0, 0, rfl, rfl, by omega, by omega, by omega, Below.refl _ _, Lib.hid rfl⟩
  case round =>
    obtain ⟨j, z, rfl, rfl, hj, hz0, hz1, hbw, HZ⟩ := hrel
    have HBW := Lib.hid hbw
    clear hbw
    by_cases hjn : (j : Int) < N
    · obtain ⟨e, he⟩ : ∃ e, es[j]? = some e := ⟨es[j]'(by have := HN.out; omega), List.getElem?_eq_getElem _⟩
      have hri := rightE_iff.1 (HRI.out e (List.mem_of_getElem? he))
      obtain ⟨b3, o3, a3, c3, rfl, p0, p1, p2, R3⟩ := (HO.out.later HBW.out).at he
      have HS := Lib.hid (minL_snoc he)
      have HRG := Lib.hid (minE_range (m := z) (e := e) ⟨hz0, hz1⟩ ⟨hri.2.2.1, hri.2.2.2.1⟩)
      rw [← HZ.out] at HS
      have hsq := hri.2.2.1
      have hme : minE z e = if z = 0 ∨ e.seq < z then e.seq else z := rfl
      have HME := Lib.hid hme
      clear he R3 hri hme
      generalize e.data.length = L at *
      generalize minE z e = M at *
      generalize e.seq = T at *
      generalize e.tag = T2 at *
      by_cases hz : z = 0
      · have hzd : (z == 0) = true := by simp [hz]
        have HM : Hid (M = T) := Lib.hid (by rw [HME.out, if_pos (.inl hz)])
        clear hz
        go_wp2_with fail
        go_roundw
        case rel => exact ⟨j + 1, T, by go_num, rfl, by omega, by omega, by have := HRG.out; have := HM.out; omega, HBW.out.alloc HBW.out.size _, Lib.hid (by rw [HS.out, HM.out])⟩
        case measure => simp [intOf]; omega
      · have hzd : (z == 0) = false := by simp [hz]
        by_cases ht : T < z
        · have htd : decide (T < z) = true := decide_eq_true ht
          have HM : Hid (M = T) := Lib.hid (by rw [HME.out, if_pos (.inr ht)])
          clear hz
          go_wp2_with fail
          go_roundw
          case rel => exact ⟨j + 1, T, by go_num, rfl, by omega, by omega, by omega, HBW.out.alloc HBW.out.size _, Lib.hid (by rw [HS.out, HM.out])⟩
          case measure => simp [intOf]; omega
        · have htd : decide (T < z) = false := decide_eq_false ht
          have HM : Hid (M = z) := Lib.hid (by rw [HME.out, if_neg (by omega)])
          clear hz
          go_wp2_with fail
          go_roundw
          case rel => exact ⟨j + 1, z, by go_num, rfl, by omega, by omega, by omega, HBW.out.alloc HBW.out.size _, Lib.hid (by rw [HS.out, HM.out])⟩
          case measure => simp [intOf]; omega
    · have HZF : Hid (firstS rows = z) := Lib.hid (by rw [HF.out, HZ.out, List.take_of_length_le (by have := HN.out; omega)])
      go_wp2_with fail
      go_ret
      exact ⟨by rw [HZF.out]; rfl, HB.out.trans (HBW.out.mono HB.out.size)⟩
end Go.Proofs.Ytabeleihpnnadaa
