/- Events: names, what may be: the contracts of package event and of the document's own. -/
import Derived.Test.YtiahifpbofkimaaGA
import Derived.Test.YtiahifpbofkimaaRv
import Derived.Test.YtiahifpbofkimaaGE
import Derived.Test.YtiahifpbofkimaaGC
import Derived.Test.YtiahifpbofkimaaGD
import Derived.Test.YtiahifpbofkimaaRd
import Derived.Test.YtiahifpbofkimaaInts
import Derived.Deep.QuietTactic
import Derived.BigQuiet
namespace Go.Proofs.Ytiahifpbofkimaa
open Go.RowKit
set_option linter.unusedVariables false
set_option linter.unusedSimpArgs false


/-! ### names -/
theorem nameC_at {u : UInt8} {n : Nat} (h : u.toNat = n) : nameC u = ((decide (97 ≤ n) && decide (n ≤ 122)) || (decide (48 ≤ n) && decide (n ≤ 57)) || n == 45) := by
  unfold nameC; rw [h]
theorem nameOk_stop {l : List UInt8} {k : Nat} {u : UInt8} (hu : l[k]? = some u) (h : nameC u = false) : nameOk l = false := by
  have : l.all nameC = false := by
    rw [List.all_eq_false]
    exact ⟨u, List.mem_of_getElem? hu, by simp [h]⟩
  simp [nameOk, this]
theorem all_step {l : List UInt8} {k : Nat} {u : UInt8} (h : (l.take k).all nameC = true) (hu : l[k]? = some u) (hc : nameC u = true) : (l.take (k + 1)).all nameC = true := by
  obtain ⟨hk, rfl⟩ := List.getElem?_eq_some_iff.1 hu
  rw [List.take_succ_eq_append_getElem hk, List.all_append, h]
  simp [hc]
theorem nameOk_end {l : List UInt8} (h : (l.take l.length).all nameC = true) : nameOk l = (decide (1 ≤ l.length) && decide (l.length ≤ 12)) := by
  rw [List.take_length] at h; simp [nameOk, h]
theorem nameOk_wide {l : List UInt8} (h : l.length < 1 ∨ 12 < l.length) : nameOk l = false := by
  simp only [nameOk, Bool.and_eq_false_iff, decide_eq_false_iff_not]; omega

set_option maxHeartbeats 1000000 in
theorem nameByte_any (u : UInt8) (w : World) : Calls Try.prog 93 #[.int .u8 (u.toNat : Nat)] w fun e w' => e = .returned (.bool (nameC u)) ∧ w = w' := by
  have hlt : u.toNat < 256 := u.toNat_lt
  obtain ⟨n, hn⟩ : ∃ n, u.toNat = n := ⟨_, rfl⟩
  rw [nameC_at hn]
  rw [hn] at hlt ⊢
  clear hn
  rcases (show n < 45 ∨ n = 45 ∨ (45 < n ∧ n < 48) ∨ (48 ≤ n ∧ n ≤ 57) ∨ (57 < n ∧ n < 97) ∨ (97 ≤ n ∧ n ≤ 122) ∨ 122 < n by omega) with h | h | h | h | h | h | h
  all_goals
    go_enter Try.func93, Try.ntmps93
    go_wp2_with fail
    go_ret
    refine ⟨ret_bool ?_, rfl⟩
    all_goals (first | rfl | (rw [Bool.eq_iff_iff]; simp; omega))

set_option maxHeartbeats 1000000 in
theorem name_any (s : ByteArray) (w : World) (hs : s.size ≤ 9223372036854775807) : Calls Try.prog 81 #[.string s] w fun e w' => e = .returned (.bool (nameOk s.data.toList)) ∧ w = w' := by
  have hsz : s.data.toList.length = s.size := Array.length_toList
  rcases (show s.size < 1 ∨ 12 < s.size ∨ (1 ≤ s.size ∧ s.size ≤ 12) by omega) with h | h | h
  · rw [nameOk_wide (by omega)]
    go_enter Try.func81, Try.ntmps81
    go_wp2_with fail
    go_ret
    exact ⟨rfl, rfl⟩
  · rw [nameOk_wide (by omega)]
    go_enter Try.func81, Try.ntmps81
    go_wp2_with fail
    go_ret
    exact ⟨rfl, rfl⟩
  · go_enter Try.func81, Try.ntmps81
    go_wp2_with fail
    go_loop [14] (fun i => ∃ k : Nat, k ≤ s.size ∧ i = .int .i64 k ∧ (s.data.toList.take k).all nameC = true) (fun i => s.size - (intOf i).toNat)
    case atStart => exact ⟨0, Nat.zero_le _, rfl, rfl⟩
    case round =>
      obtain ⟨k, hk, rfl, hall⟩ := hrel
      have HA := Lib.hid hall
      clear hall
      by_cases hlt : k < s.size
      · have hu : s.data.toList[k]? = some s[k] := by
          rw [List.getElem?_eq_getElem (by omega)]; rfl
        cases hc : nameC s[k] with
        | true =>
          have HS := Lib.hid (all_step HA.out hu hc)
          have HC := Lib.hid hc
          clear hu hc
          go_wp2_with (go_at_call 93; refine (nameByte_any s[k] _).mono ?_; rw [HC.out]; rintro e w1 ⟨rfl, rfl⟩)
          go_round
          case rel => exact ⟨k + 1, by omega, by go_num, HS.out⟩
          case measure => simp [intOf]; omega
        | false =>
          have HS := Lib.hid (nameOk_stop hu hc)
          have HC := Lib.hid hc
          clear hu hc
          go_wp2_with (go_at_call 93; refine (nameByte_any s[k] _).mono ?_; rw [HC.out]; rintro e w1 ⟨rfl, rfl⟩)
          go_ret
          exact ⟨ret_bool HS.out.symm, rfl⟩
      · have hks : k = s.size := by omega
        have HS : Hid (nameOk s.data.toList = true) := by
          have h1 := HA.out
          rw [hks, ← hsz] at h1
          exact Lib.hid (by rw [nameOk_end h1, hsz]; simp; omega)
        clear hks
        go_wp2_with fail
        go_ret
        exact ⟨ret_bool HS.out.symm, rfl⟩
set_option maxHeartbeats 3200000 in
theorem rname_any (s : ByteArray) (w : World) (hs : s.size ≤ 9223372036854775807) : Calls Try.prog 95 #[.string s] w fun e w' => e = .returned (.bool (nameOk s.data.toList)) ∧ w = w' := by
  have hsz : s.data.toList.length = s.size := Array.length_toList
  go_enter Try.func95, Try.ntmps95
  go_wp2_with fail
  go_loop [3] (fun i => ∃ k : Nat, k ≤ s.size ∧ i = .int .i64 k ∧ (s.data.toList.take k).all nameC = true) (fun i => s.size - (intOf i).toNat)
  case atStart => exact ⟨0, Nat.zero_le _, rfl, rfl⟩
  case round =>
    obtain ⟨k, hk, rfl, hall⟩ := hrel
    have HA := Lib.hid hall
    clear hall
    by_cases hlt : k < s.size
    · have hu : s.data.toList[k]? = some s[k] := by
        rw [List.getElem?_eq_getElem (by omega)]; rfl
      have HU := Lib.hid hu
      have hb : s[k].toNat < 256 := s[k].toNat_lt
      clear hu
      have HN := Lib.hid (nameC_at (u := s[k]) rfl)
      rcases (show s[k].toNat < 45 ∨ s[k].toNat = 45 ∨ (45 < s[k].toNat ∧ s[k].toNat < 48) ∨ (48 ≤ s[k].toNat ∧ s[k].toNat ≤ 57) ∨ (57 < s[k].toNat ∧ s[k].toNat < 97) ∨ (97 ≤ s[k].toNat ∧ s[k].toNat ≤ 122) ∨ 122 < s[k].toNat by omega) with h | h | h | h | h | h | h
      all_goals
       go_wp2_with fail
       all_goals first
        | (exfalso; rename_i q; simp at q; omega)
        | (have HS := Lib.hid (all_step HA.out HU.out (by rw [HN.out]; simp; omega))
           go_round
           case rel => exact ⟨k + 1, by omega, by go_num, HS.out⟩
           case measure => simp [intOf]; omega)
        | (have HS := Lib.hid (nameOk_stop HU.out (by rw [HN.out]; simp; omega))
           go_ret
           exact ⟨ret_bool HS.out.symm, rfl⟩)
    · have hks : k = s.size := by omega
      have HS : Hid (nameOk s.data.toList = (decide (1 ≤ s.size) && decide (s.size ≤ 12))) := by
        have h1 := HA.out
        rw [hks, ← hsz] at h1
        exact Lib.hid (by rw [nameOk_end h1, hsz])
      clear hks
      rcases (show s.size < 1 ∨ 12 < s.size ∨ (1 ≤ s.size ∧ s.size ≤ 12) by omega) with h | h | h
      all_goals
        go_wp2_with fail
        go_ret
        exact ⟨ret_bool (by rw [HS.out]; first | rfl | (rw [Bool.eq_iff_iff]; simp; omega)), rfl⟩

/-! ### runs of bytes within the image -/
def withinM (o n m : Int) : Bool := decide (0 ≤ o ∧ 1 ≤ n ∧ n ≤ m ∧ o ≤ 512 - n)
theorem withinM_iff {o n m : Int} : withinM o n m = true ↔ 0 ≤ o ∧ 1 ≤ n ∧ n ≤ m ∧ o ≤ 512 - n := by unfold withinM; exact decide_eq_true_iff
theorem withinM_no {o n m : Int} (h : ¬ (0 ≤ o ∧ 1 ≤ n ∧ n ≤ m ∧ o ≤ 512 - n)) : withinM o n m = false := by unfold withinM; exact decide_eq_false h
theorem within_no {o n : Int} (h : ¬ (0 ≤ o ∧ 1 ≤ n ∧ n ≤ 512 ∧ o ≤ 512 - n)) : within o n = false := by unfold within; exact decide_eq_false h
/-! ### which are the same -/
end Go.Proofs.Ytiahifpbofkimaa
