/- The document's own Same of rows of numbers. -/
import Derived.Test.YtikbhekcpddoeaaInts
import Derived.Test.YtikbhekcpddoeaaZi
import Derived.Test.YtikbhekcpddoeaaSameG
import Derived.BigQuiet
import Derived.Deep.QuietTactic
import Derived.Deep.DeepCutAuto
namespace Go.Proofs.Ytikbhekcpddoeaa
open Go.RowKit Go.Proofs
set_option linter.unusedVariables false
set_option linter.unusedSimpArgs false
set_option linter.unnecessarySimpa false

set_option maxRecDepth 20000 in
set_option maxHeartbeats 3200000 in
theorem zsame_any (a1 a2 : Option Addr) (n m c1 c2 : Nat) (xs ys : List Int) (w : World) (h1 : ZRow w a1 c1 xs) (h2 : ZRow w a2 c2 ys) (hn : xs.length = n) (hm : ys.length = m) :
    Calls Try.prog 11 #[.slice a1 n c1, .slice a2 m c2] w fun e w' => e = .returned (.bool (decide (xs = ys))) ∧ Below w.heap.size w w' := by
  have H1 := Lib.hid h1
  have H2 := Lib.hid h2
  have HN := Lib.hid hn
  have HM := Lib.hid hm
  have hc1 := h1.1
  have hc2 := h2.1
  rw [hn] at hc1
  rw [hm] at hc2
  have hcm1 : c1 ≤ 9223372036854775807 := by have := h1.2.1; unfold maxLen at this; omega
  have hcm2 : c2 ≤ 9223372036854775807 := by have := h2.2.1; unfold maxLen at this; omega
  clear h1 h2 hn hm
  by_cases hnm : n = m
  · subst hnm
    have hq : ((n : Int) != (n : Int)) = false := by simp
    go_enter Try.func11, Try.ntmps11
    go_wp2_with fail
    go_loopw [5] (fun i wr => ∃ j : Nat, i = .int .i64 j ∧ j ≤ n ∧ Below w.heap.size w wr ∧ Hid (∀ k, k < j → xs[k]? = ys[k]?)) (fun i _ => n - (intOf i).toNat)
    case atStart => exact ⟨0, rfl, by omega, Below.refl _ _, Lib.hid (fun k h => by omega)⟩
    case round =>
      obtain ⟨j, rfl, hj, hb, HA⟩ := hrel
      have HB := Lib.hid hb
      clear hb
      by_cases hjn : (j : Int) < n
      · obtain ⟨x, hx⟩ : ∃ e, xs[j]? = some e := ⟨xs[j]'(by have := HN.out; omega), List.getElem?_eq_getElem _⟩
        obtain ⟨y, hy⟩ : ∃ u, ys[j]? = some u := ⟨ys[j]'(by have := HM.out; omega), List.getElem?_eq_getElem _⟩
        obtain ⟨b1, o1, rfl, p0⟩ := (H1.out.later HB.out).at hx
        obtain ⟨b2, o2, rfl, q0⟩ := (H2.out.later HB.out).at hy
        have HNO : Hid (x ≠ y → decide (xs = ys) = false) := Lib.hid fun h => sameG_no (j := j) (by rw [hx, hy]; simpa using h)
        have HYE : Hid (x = y → ∀ k, k < j + 1 → xs[k]? = ys[k]?) := Lib.hid fun h k hk => by
          by_cases c : k = j
          · subst c; rw [hx, hy, h]
          · exact HA.out k (by omega)
        clear hx hy
        by_cases hxy : x = y
        · have HA2 := Lib.hid (HYE.out hxy)
          have hd : (x != y) = false := by simp [hxy]
          have hd2 : (x == y) = true := by simp [hxy]
          clear hxy
          go_upto_region 6 with fail
          go_quiet (fail)
          go_wp2_with fail
          go_roundw
          case rel => exact ⟨j + 1, by go_num, by omega, HB.out.trans ((below_drewN _ _).mono HB.out.size), HA2⟩
          case measure => simp [intOf]; omega
        · have HF := Lib.hid (HNO.out hxy)
          have hd : (x != y) = true := by simp [hxy]
          have hd2 : (x == y) = false := by simp [hxy]
          clear hxy
          go_upto_region 6 with fail
          go_quiet (fail)
          go_wp2_with fail
          go_ret
          exact ⟨ret_bool HF.out.symm, HB.out.trans ((below_drewN _ _).mono HB.out.size)⟩
      · have : j = n := by omega
        subst this
        have HF := Lib.hid (sameG_yes HN.out HM.out HA.out)
        go_wp2_with fail
        go_ret
        exact ⟨ret_bool HF.out.symm, HB.out⟩
  · have hq : ((n : Int) != (m : Int)) = true := by simp; omega
    have HF : Hid (decide (xs = ys) = false) := Lib.hid (by rw [decide_eq_false_iff_not]; intro e; rw [e, HM.out] at HN; exact hnm HN.out.symm)
    clear hnm
    go_enter Try.func11, Try.ntmps11
    go_wp2_with fail
    go_ret
    exact ⟨ret_bool HF.out.symm, Below.refl _ _⟩
end Go.Proofs.Ytikbhekcpddoeaa
