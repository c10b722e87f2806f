/- Rows of entries that are alike: the document's own. -/
import Derived.Test.YtabeleihpnnadaaFrX
import Derived.Test.YtabeleihpnnadaaBy
namespace Go.Proofs.Ytabeleihpnnadaa
open Go.RowKit Go.Proofs
set_option linter.unusedVariables false
set_option linter.unusedSimpArgs false
set_option linter.unnecessarySimpa false

theorem en_eq_iff (e u : En) : decide (e = u) = ((e.tag == u.tag) && ((e.seq == u.seq) && decide (e.data = u.data))) := by
  obtain ⟨a, b, c⟩ := e
  obtain ⟨a', b', c'⟩ := u
  simp only [En.mk.injEq]
  by_cases h1 : a = a' <;> by_cases h2 : b = b' <;> simp [h1, h2]
theorem sameG_no {α : Type} [DecidableEq α] {a b : List α} {j : Nat} (h : a[j]? ≠ b[j]?) : decide (a = b) = false := by
  rw [decide_eq_false_iff_not]; intro e; exact h (by rw [e])
theorem sameG_yes {α : Type} [DecidableEq α] {a b : List α} {n : Nat} (ha : a.length = n) (hb : b.length = n) (h : ∀ j, j < n → a[j]? = b[j]?) : decide (a = b) = true := by
  rw [decide_eq_true_eq]
  apply List.ext_getElem?
  intro i
  by_cases hi : i < n
  · exact h i hi
  · rw [List.getElem?_eq_none (by omega), List.getElem?_eq_none (by omega)]
theorem sbeq_dec (x y : List UInt8) : ((⟨x.toArray⟩ : ByteArray).toList == (⟨y.toArray⟩ : ByteArray).toList) = decide (x = y) := by
  by_cases h : x = y
  · subst h; simp
  · rw [sbeq_no (fun e => h (bytes_eq.1 e)), decide_eq_false h]
theorem en_no {es us : List En} {j : Nat} {e u : En} (h1 : es[j]? = some e) (h2 : us[j]? = some u) (h : decide (e = u) = false) : decide (es = us) = false :=
  sameG_no (j := j) (by rw [h1, h2]; intro c; rw [Option.some.inj c] at h; simp at h)
theorem en_more {es us : List En} {j : Nat} {e u : En} (h1 : es[j]? = some e) (h2 : us[j]? = some u) (h : decide (e = u) = true) (ha : ∀ k, k < j → es[k]? = us[k]?) : ∀ k, k < j + 1 → es[k]? = us[k]? := fun k hk => by
  by_cases c : k = j
  · subst c; rw [h1, h2, of_decide_eq_true h]
  · exact ha k (by omega)
set_option maxRecDepth 20000 in
set_option maxHeartbeats 6400000 in
theorem esame_list (a1 a2 : Option Addr) (n m c1 c2 : Nat) (es us : List En) (w : World) (h1 : ERow w a1 c1 es) (h2 : ERow w a2 c2 us) (hn : es.length = n) (hm : us.length = m) :
    Calls Try.prog 10 #[.slice a1 n c1, .slice a2 m c2] w fun e w' => e = .returned (.bool (decide (es = us))) ∧ Below w.heap.size w w' := by
  have H1 := Lib.hid h1
  have H2 := Lib.hid h2
  have HN := Lib.hid hn
  have HM := Lib.hid hm
  have hc1 := h1.1
  have hc2 := h2.1
  rw [hn] at hc1
  rw [hm] at hc2
  have hcm1 : c1 ≤ 9223372036854775807 := by have := h1.2.1; unfold maxLen at this; omega
  have hcm2 : c2 ≤ 9223372036854775807 := by have := h2.2.1; unfold maxLen at this; omega
  clear h1 h2 hn hm
  by_cases hnm : n = m
  · subst hnm
    have hq : ((n : Int) != (n : Int)) = false := by simp
    go_enter Try.func10, Try.ntmps10
    go_wp2_with fail
    go_loopw [5] (fun i wr => ∃ j : Nat, i = .int .i64 j ∧ j ≤ n ∧ Below w.heap.size w wr ∧ Hid (∀ k, k < j → es[k]? = us[k]?)) (fun i _ => n - (intOf i).toNat)
    case atStart => exact ⟨0, rfl, by omega, Below.refl _ _, Lib.hid (fun k h => by omega)⟩
    case round =>
      obtain ⟨j, rfl, hj, hb, HA⟩ := hrel
      have HB := Lib.hid hb
      clear hb
      by_cases hjn : (j : Int) < n
      · obtain ⟨e, he⟩ : ∃ e, es[j]? = some e := ⟨es[j]'(by have := HN.out; omega), List.getElem?_eq_getElem _⟩
        obtain ⟨u, hu⟩ : ∃ u, us[j]? = some u := ⟨us[j]'(by have := HM.out; omega), List.getElem?_eq_getElem _⟩
        obtain ⟨b1, o1, d1, k1, rfl, p0, p1, p2, R1⟩ := (H1.out.later HB.out).at he
        obtain ⟨b2, o2, d2, k2, rfl, q0, q1, q2, R2⟩ := (H2.out.later HB.out).at hu
        have HC1 := fun nq => conv_row (R1.later (below_drewN wr nq))
        have HC2 := fun nq => conv_row (R2.later (below_drewN wr nq))
        have HNO := Lib.hid (en_no he hu)
        have HYE := Lib.hid (fun h => en_more he hu h HA.out)
        rw [en_eq_iff] at HNO HYE
        rw [← sbeq_dec] at HNO HYE
        clear he hu R1 R2
        generalize (⟨e.data.toArray⟩ : ByteArray) = S1 at *
        generalize (⟨u.data.toArray⟩ : ByteArray) = S2 at *
        generalize e.tag = T1 at *
        generalize u.tag = T2 at *
        generalize e.seq = Z1 at *
        generalize u.seq = Z2 at *
        generalize e.data.length = L1 at *
        generalize u.data.length = L2 at *
        cases et : (T1 == T2) with
        | false =>
          rw [et] at HNO
          have etn : (T1 != T2) = true := by simp [bne, et]
          go_upto_region 6 with fail
          go_quiet (fail)
          clear HC1 HC2
          go_wp2_with fail
          go_ret
          exact ⟨ret_bool (HNO.out (by simp)).symm, HB.out.trans ((below_drewN _ _).mono HB.out.size)⟩
        | true =>
          have etn : (T1 != T2) = false := by simp [bne, et]
          rw [et] at HNO HYE
          cases ez : (Z1 == Z2) with
          | false =>
            rw [ez] at HNO
            have ezn : (Z1 != Z2) = true := by simp [bne, ez]
            go_upto_region 6 with fail
            go_quiet (fail)
            clear HC1 HC2
            go_wp2_with fail
            go_ret
            exact ⟨ret_bool (HNO.out (by simp)).symm, HB.out.trans ((below_drewN _ _).mono HB.out.size)⟩
          | true =>
            have ezn : (Z1 != Z2) = false := by simp [bne, ez]
            rw [ez] at HNO HYE
            cases es' : (S1.toList == S2.toList) with
            | false =>
              rw [es'] at HNO
              go_upto_region 6 with fail
              go_quiet (fail)
              clear HC1 HC2
              go_wp2_with fail
              go_ret
              exact ⟨ret_bool (HNO.out (by simp)).symm, HB.out.trans ((below_drewN _ _).mono HB.out.size)⟩
            | true =>
              rw [es'] at HYE
              have HA2 := Lib.hid (HYE.out (by simp))
              go_upto_region 6 with fail
              go_quiet (fail)
              clear HC1 HC2
              go_wp2_with fail
              go_roundw
              case rel => exact ⟨j + 1, by go_num, by omega, HB.out.trans ((below_drewN _ _).mono HB.out.size), HA2⟩
              case measure => simp [intOf]; omega
      · have : j = n := by omega
        subst this
        have HF := Lib.hid (sameG_yes HN.out HM.out HA.out)
        go_wp2_with fail
        go_ret
        exact ⟨ret_bool HF.out.symm, HB.out⟩
  · have hq : ((n : Int) != (m : Int)) = true := by simp; omega
    have HF : Hid (decide (es = us) = false) := Lib.hid (by rw [decide_eq_false_iff_not]; intro e; rw [e, HM.out] at HN; exact hnm HN.out.symm)
    clear hnm
    go_enter Try.func10, Try.ntmps10
    go_wp2_with fail
    go_ret
    exact ⟨ret_bool HF.out.symm, Below.refl _ _⟩

end Go.Proofs.Ytabeleihpnnadaa
