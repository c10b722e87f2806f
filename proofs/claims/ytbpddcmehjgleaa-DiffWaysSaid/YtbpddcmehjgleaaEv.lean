/- Events: names, what may be: the contracts of package event and of the document's own. -/
import Derived.Test.YtbpddcmehjgleaaEvPlain
import Derived.Test.YtbpddcmehjgleaaRv
import Derived.Test.YtbpddcmehjgleaaBy
import Derived.Test.YtbpddcmehjgleaaPhase
import Derived.Test.YtbpddcmehjgleaaRec
import Derived.Test.YtbpddcmehjgleaaRd
import Derived.Test.YtbpddcmehjgleaaInts
import Derived.Deep.QuietTactic
import Derived.BigQuiet
namespace Go.Proofs.Ytbpddcmehjgleaa
open Go.RowKit
set_option linter.unusedVariables false
set_option linter.unusedSimpArgs false


/-! ### names -/
theorem nameC_at {u : UInt8} {n : Nat} (h : u.toNat = n) : nameC u = ((decide (97 ≤ n) && decide (n ≤ 122)) || (decide (48 ≤ n) && decide (n ≤ 57)) || n == 45) := by
  unfold nameC; rw [h]
theorem nameOk_stop {l : List UInt8} {k : Nat} {u : UInt8} (hu : l[k]? = some u) (h : nameC u = false) : nameOk l = false := by
  have : l.all nameC = false := by
    rw [List.all_eq_false]
    exact ⟨u, List.mem_of_getElem? hu, by simp [h]⟩
  simp [nameOk, this]
theorem all_step {l : List UInt8} {k : Nat} {u : UInt8} (h : (l.take k).all nameC = true) (hu : l[k]? = some u) (hc : nameC u = true) : (l.take (k + 1)).all nameC = true := by
  obtain ⟨hk, rfl⟩ := List.getElem?_eq_some_iff.1 hu
  rw [List.take_succ_eq_append_getElem hk, List.all_append, h]
  simp [hc]
theorem nameOk_end {l : List UInt8} (h : (l.take l.length).all nameC = true) : nameOk l = (decide (1 ≤ l.length) && decide (l.length ≤ 12)) := by
  rw [List.take_length] at h; simp [nameOk, h]
theorem nameOk_wide {l : List UInt8} (h : l.length < 1 ∨ 12 < l.length) : nameOk l = false := by
  simp only [nameOk, Bool.and_eq_false_iff, decide_eq_false_iff_not]; omega

set_option maxHeartbeats 1000000 in
theorem nameByte_any (u : UInt8) (w : World) : Calls Try.prog 61 #[.int .u8 (u.toNat : Nat)] w fun e w' => e = .returned (.bool (nameC u)) ∧ w = w' := by
  have hlt : u.toNat < 256 := u.toNat_lt
  obtain ⟨n, hn⟩ : ∃ n, u.toNat = n := ⟨_, rfl⟩
  rw [nameC_at hn]
  rw [hn] at hlt ⊢
  clear hn
  rcases (show n < 45 ∨ n = 45 ∨ (45 < n ∧ n < 48) ∨ (48 ≤ n ∧ n ≤ 57) ∨ (57 < n ∧ n < 97) ∨ (97 ≤ n ∧ n ≤ 122) ∨ 122 < n by omega) with h | h | h | h | h | h | h
  all_goals
    go_enter Try.func61, Try.ntmps61
    go_wp2_with fail
    go_ret
    refine ⟨ret_bool ?_, rfl⟩
    all_goals (first | rfl | (rw [Bool.eq_iff_iff]; simp; omega))

set_option maxHeartbeats 1000000 in
theorem name_any (s : ByteArray) (w : World) (hs : s.size ≤ 9223372036854775807) : Calls Try.prog 52 #[.string s] w fun e w' => e = .returned (.bool (nameOk s.data.toList)) ∧ w = w' := by
  have hsz : s.data.toList.length = s.size := Array.length_toList
  rcases (show s.size < 1 ∨ 12 < s.size ∨ (1 ≤ s.size ∧ s.size ≤ 12) by omega) with h | h | h
  · rw [nameOk_wide (by omega)]
    go_enter Try.func52, Try.ntmps52
    go_wp2_with fail
    go_ret
    exact ⟨rfl, rfl⟩
  · rw [nameOk_wide (by omega)]
    go_enter Try.func52, Try.ntmps52
    go_wp2_with fail
    go_ret
    exact ⟨rfl, rfl⟩
  · go_enter Try.func52, Try.ntmps52
    go_wp2_with fail
    go_loop [14] (fun i => ∃ k : Nat, k ≤ s.size ∧ i = .int .i64 k ∧ (s.data.toList.take k).all nameC = true) (fun i => s.size - (intOf i).toNat)
    case atStart => exact ⟨0, Nat.zero_le _, rfl, rfl⟩
    case round =>
      obtain ⟨k, hk, rfl, hall⟩ := hrel
      have HA := Lib.hid hall
      clear hall
      by_cases hlt : k < s.size
      · have hu : s.data.toList[k]? = some s[k] := by
          rw [List.getElem?_eq_getElem (by omega)]; rfl
        cases hc : nameC s[k] with
        | true =>
          have HS := Lib.hid (all_step HA.out hu hc)
          have HC := Lib.hid hc
          clear hu hc
          go_wp2_with (go_at_call 61; refine (nameByte_any s[k] _).mono ?_; rw [HC.out]; rintro e w1 ⟨rfl, rfl⟩)
          go_round
          case rel => exact ⟨k + 1, by omega, by go_num, HS.out⟩
          case measure => simp [intOf]; omega
        | false =>
          have HS := Lib.hid (nameOk_stop hu hc)
          have HC := Lib.hid hc
          clear hu hc
          go_wp2_with (go_at_call 61; refine (nameByte_any s[k] _).mono ?_; rw [HC.out]; rintro e w1 ⟨rfl, rfl⟩)
          go_ret
          exact ⟨ret_bool HS.out.symm, rfl⟩
      · have hks : k = s.size := by omega
        have HS : Hid (nameOk s.data.toList = true) := by
          have h1 := HA.out
          rw [hks, ← hsz] at h1
          exact Lib.hid (by rw [nameOk_end h1, hsz]; simp; omega)
        clear hks
        go_wp2_with fail
        go_ret
        exact ⟨ret_bool HS.out.symm, rfl⟩
set_option maxHeartbeats 3200000 in
theorem rname_any (s : ByteArray) (w : World) (hs : s.size ≤ 9223372036854775807) : Calls Try.prog 54 #[.string s] w fun e w' => e = .returned (.bool (nameOk s.data.toList)) ∧ w = w' := by
  have hsz : s.data.toList.length = s.size := Array.length_toList
  go_enter Try.func54, Try.ntmps54
  go_wp2_with fail
  go_loop [3] (fun i => ∃ k : Nat, k ≤ s.size ∧ i = .int .i64 k ∧ (s.data.toList.take k).all nameC = true) (fun i => s.size - (intOf i).toNat)
  case atStart => exact ⟨0, Nat.zero_le _, rfl, rfl⟩
  case round =>
    obtain ⟨k, hk, rfl, hall⟩ := hrel
    have HA := Lib.hid hall
    clear hall
    by_cases hlt : k < s.size
    · have hu : s.data.toList[k]? = some s[k] := by
        rw [List.getElem?_eq_getElem (by omega)]; rfl
      have HU := Lib.hid hu
      have hb : s[k].toNat < 256 := s[k].toNat_lt
      clear hu
      have HN := Lib.hid (nameC_at (u := s[k]) rfl)
      rcases (show s[k].toNat < 45 ∨ s[k].toNat = 45 ∨ (45 < s[k].toNat ∧ s[k].toNat < 48) ∨ (48 ≤ s[k].toNat ∧ s[k].toNat ≤ 57) ∨ (57 < s[k].toNat ∧ s[k].toNat < 97) ∨ (97 ≤ s[k].toNat ∧ s[k].toNat ≤ 122) ∨ 122 < s[k].toNat by omega) with h | h | h | h | h | h | h
      all_goals
       go_wp2_with fail
       all_goals first
        | (exfalso; rename_i q; simp at q; omega)
        | (have HS := Lib.hid (all_step HA.out HU.out (by rw [HN.out]; simp; omega))
           go_round
           case rel => exact ⟨k + 1, by omega, by go_num, HS.out⟩
           case measure => simp [intOf]; omega)
        | (have HS := Lib.hid (nameOk_stop HU.out (by rw [HN.out]; simp; omega))
           go_ret
           exact ⟨ret_bool HS.out.symm, rfl⟩)
    · have hks : k = s.size := by omega
      have HS : Hid (nameOk s.data.toList = (decide (1 ≤ s.size) && decide (s.size ≤ 12))) := by
        have h1 := HA.out
        rw [hks, ← hsz] at h1
        exact Lib.hid (by rw [nameOk_end h1, hsz])
      clear hks
      rcases (show s.size < 1 ∨ 12 < s.size ∨ (1 ≤ s.size ∧ s.size ≤ 12) by omega) with h | h | h
      all_goals
        go_wp2_with fail
        go_ret
        exact ⟨ret_bool (by rw [HS.out]; first | rfl | (rw [Bool.eq_iff_iff]; simp; omega)), rfl⟩

/-! ### runs of bytes within the image -/
def withinM (o n m : Int) : Bool := decide (0 ≤ o ∧ 1 ≤ n ∧ n ≤ m ∧ o ≤ 512 - n)
theorem withinM_iff {o n m : Int} : withinM o n m = true ↔ 0 ≤ o ∧ 1 ≤ n ∧ n ≤ m ∧ o ≤ 512 - n := by unfold withinM; exact decide_eq_true_iff
theorem withinM_no {o n m : Int} (h : ¬ (0 ≤ o ∧ 1 ≤ n ∧ n ≤ m ∧ o ≤ 512 - n)) : withinM o n m = false := by unfold withinM; exact decide_eq_false h
theorem within_no {o n : Int} (h : ¬ (0 ≤ o ∧ 1 ≤ n ∧ n ≤ 512 ∧ o ≤ 512 - n)) : within o n = false := by unfold within; exact decide_eq_false h
set_option maxHeartbeats 1000000 in
theorem evwithin_any (o n m : Int) (w : World) (hm : m ≤ 512) : Calls Try.prog 57 #[.int .i64 o, .int .i64 n, .int .i64 m] w fun e w' => e = .returned (.bool (withinM o n m)) ∧ w = w' := by
  by_cases h : 0 ≤ o ∧ 1 ≤ n ∧ n ≤ m ∧ o ≤ 512 - n
  · rw [withinM_iff.2 h]
    obtain ⟨h1, h2, h3, h4⟩ := h
    go_enter Try.func57, Try.ntmps57
    go_wp2_with fail
    go_ret
    exact ⟨ret_bool (by first | rfl | (simp; omega)), rfl⟩
  · rw [withinM_no h]
    rcases (show n < 1 ∨ (1 ≤ n ∧ m < n) ∨ (1 ≤ n ∧ n ≤ m ∧ o < 0) ∨ (1 ≤ n ∧ n ≤ m ∧ 0 ≤ o ∧ 512 - n < o) by omega) with h | h | h | h
    all_goals
      go_enter Try.func57, Try.ntmps57
      go_wp2_with fail
      go_ret
      exact ⟨ret_bool (by first | rfl | (simp; omega)), rfl⟩
set_option maxHeartbeats 1000000 in
theorem rwithin_any (o n : Int) (w : World) : Calls Try.prog 60 #[.int .i64 o, .int .i64 n] w fun e w' => e = .returned (.bool (within o n)) ∧ w = w' := by
  by_cases h : 0 ≤ o ∧ 1 ≤ n ∧ n ≤ 512 ∧ o ≤ 512 - n
  · rw [within_iff.2 h]
    obtain ⟨h1, h2, h3, h4⟩ := h
    go_enter Try.func60, Try.ntmps60
    go_wp2_with fail
    go_ret
    exact ⟨ret_bool (by first | rfl | (simp; omega)), rfl⟩
  · rw [within_no h]
    rcases (show o < 0 ∨ (0 ≤ o ∧ n < 1) ∨ (1 ≤ n ∧ 512 < n ∧ 0 ≤ o) ∨ (1 ≤ n ∧ n ≤ 512 ∧ 0 ≤ o ∧ 512 - n < o) by omega) with h | h | h | h
    all_goals
      go_enter Try.func60, Try.ntmps60
      go_wp2_with fail
      go_ret
      exact ⟨ret_bool (by first | rfl | (simp; omega)), rfl⟩

/-! ### which are the same -/
set_option maxHeartbeats 1000000 in
theorem esame_any (k1 o1 m1 k2 o2 m2 : Int) (a1 a2 : Option Addr) (n1 n2 c1 c2 : Nat) (s1 s2 : ByteArray) (l1 l2 : List UInt8) (w : World) (h1 : Row w a1 c1 l1) (h2 : Row w a2 c2 l2) (hn1 : l1.length = n1) (hn2 : l2.length = n2)
    (B : Bool) (hB : B = true ↔ k1 = k2 ∧ o1 = o2 ∧ m1 = m2 ∧ s1 = s2 ∧ l1 = l2) :
    Calls Try.prog 58 #[.agg #[.int .i64 k1, .int .i64 o1, .int .i64 m1, .slice a1 n1 c1, .string s1], .agg #[.int .i64 k2, .int .i64 o2, .int .i64 m2, .slice a2 n2 c2, .string s2]] w fun e w' => e = .returned (.bool B) ∧ Below w.heap.size w w' := by
  have HB := Lib.hid hB
  clear hB
  have HL1 := Lib.hid h1
  have HL2 := Lib.hid h2
  have HN1 := Lib.hid hn1
  have HN2 := Lib.hid hn2
  have HW : Hid (Below w.heap.size w ((w.alloc (.cells #[.int .i64 k1, .int .i64 o1, .int .i64 m1, .slice a1 n1 c1, .string s1] 46)).alloc (.cells #[.int .i64 k2, .int .i64 o2, .int .i64 m2, .slice a2 n2 c2, .string s2] 46))) :=
    Lib.hid (((Below.refl _ _).alloc (Nat.le_refl _) _).alloc (by simp) _)
  clear h1 h2 hn1 hn2
  have hno : ¬ (k1 = k2 ∧ o1 = o2 ∧ m1 = m2 ∧ s1 = s2 ∧ l1 = l2) → B = false := fun h => by
    cases B with
    | false => rfl
    | true => exact absurd (HB.out.1 rfl) h
  have HNO := Lib.hid hno
  clear hno
  by_cases hk : k1 = k2
  · subst hk
    by_cases ho : o1 = o2
    · subst ho
      by_cases hm : m1 = m2
      · subst hm
        by_cases hs : s1 = s2
        · subst hs
          have HF : Hid (decide (l1 = l2) = B) := Lib.hid (by rw [Bool.eq_iff_iff, HB.out]; simp)
          clear HB HNO
          have e1 : (k1 == k1) = true := by simp
          have e2 : (o1 == o1) = true := by simp
          have e3 : (m1 == m1) = true := by simp
          have e4 : (s1.toList == s1.toList) = true := by simp
          go_enter Try.func58, Try.ntmps58
          go_wp2_with (go_at_call 40; refine (equal_any _ _ _ _ _ _ l1 l2 _ (HL1.out.later HW.out) (HL2.out.later HW.out) HN1.out HN2.out).mono ?_; rw [HF.out]; rintro e w3 ⟨rfl, rfl⟩)
          go_ret
          exact ⟨rfl, HW.out⟩
        · have hBf := HNO.out (by simp [hs])
          subst hBf
          have hs2 := sbeq_no hs
          clear hs HB HNO
          have e1 : (k1 == k1) = true := by simp
          have e2 : (o1 == o1) = true := by simp
          have e3 : (m1 == m1) = true := by simp
          go_enter Try.func58, Try.ntmps58
          go_wp2_with fail
          go_ret
          exact ⟨rfl, HW.out⟩
      · have hBf := HNO.out (by simp [hm])
        subst hBf
        have hm2 : (m1 == m2) = false := by simpa using hm
        clear hm HB HNO
        have e1 : (k1 == k1) = true := by simp
        have e2 : (o1 == o1) = true := by simp
        go_enter Try.func58, Try.ntmps58
        go_wp2_with fail
        go_ret
        exact ⟨rfl, HW.out⟩
    · have hBf := HNO.out (by simp [ho])
      subst hBf
      have ho2 : (o1 == o2) = false := by simpa using ho
      clear ho HB HNO
      have e1 : (k1 == k1) = true := by simp
      go_enter Try.func58, Try.ntmps58
      go_wp2_with fail
      go_ret
      exact ⟨rfl, HW.out⟩
  · have hBf := HNO.out (by simp [hk])
    subst hBf
    have hk2 : (k1 == k2) = false := by simpa using hk
    clear hk HB HNO
    go_enter Try.func58, Try.ntmps58
    go_wp2_with fail
    go_ret
    exact ⟨rfl, HW.out⟩
set_option maxHeartbeats 1000000 in
theorem rsame_any (k1 o1 m1 k2 o2 m2 : Int) (a1 a2 : Option Addr) (n1 n2 c1 c2 : Nat) (s1 s2 : ByteArray) (l1 l2 : List UInt8) (w : World) (h1 : Row w a1 c1 l1) (h2 : Row w a2 c2 l2) (hn1 : l1.length = n1) (hn2 : l2.length = n2)
    (B : Bool) (hB : B = true ↔ k1 = k2 ∧ o1 = o2 ∧ m1 = m2 ∧ s1 = s2 ∧ l1 = l2) :
    Calls Try.prog 27 #[.agg #[.int .i64 k1, .int .i64 o1, .int .i64 m1, .slice a1 n1 c1, .string s1], .agg #[.int .i64 k2, .int .i64 o2, .int .i64 m2, .slice a2 n2 c2, .string s2]] w fun e w' => e = .returned (.bool B) ∧ Below w.heap.size w w' := by
  have HB := Lib.hid hB
  clear hB
  have HL1 := Lib.hid h1
  have HL2 := Lib.hid h2
  have HN1 := Lib.hid hn1
  have HN2 := Lib.hid hn2
  have HW : Hid (Below w.heap.size w ((w.alloc (.cells #[.int .i64 k1, .int .i64 o1, .int .i64 m1, .slice a1 n1 c1, .string s1] 46)).alloc (.cells #[.int .i64 k2, .int .i64 o2, .int .i64 m2, .slice a2 n2 c2, .string s2] 46))) :=
    Lib.hid (((Below.refl _ _).alloc (Nat.le_refl _) _).alloc (by simp) _)
  clear h1 h2 hn1 hn2
  have hno : ¬ (k1 = k2 ∧ o1 = o2 ∧ m1 = m2 ∧ s1 = s2 ∧ l1 = l2) → B = false := fun h => by
    cases B with
    | false => rfl
    | true => exact absurd (HB.out.1 rfl) h
  have HNO := Lib.hid hno
  clear hno
  by_cases hk : k1 = k2
  · subst hk
    by_cases ho : o1 = o2
    · subst ho
      by_cases hm : m1 = m2
      · subst hm
        have q1 := conv_row_n (HL1.out.later HW.out) HN1.out
        have q2 := conv_row_n (HL2.out.later HW.out) HN2.out
        have HX : Hid (((⟨l1.toArray⟩ : ByteArray) = ⟨l2.toArray⟩) ↔ l1 = l2) := Lib.hid bytes_eq
        generalize (⟨l1.toArray⟩ : ByteArray) = S1 at *
        generalize (⟨l2.toArray⟩ : ByteArray) = S2 at *
        have e1 : (k1 == k1) = true := by simp
        have e2 : (o1 == o1) = true := by simp
        have e3 : (m1 == m1) = true := by simp
        by_cases hl : l1 = l2
        · obtain rfl := HX.out.2 hl
          have e4 : (S1.toList == S1.toList) = true := by simp
          have HF : Hid ((s1.toList == s2.toList) = B) := Lib.hid (by rw [Bool.eq_iff_iff, sbeq_iff, HB.out]; simp [hl])
          clear hl HB HNO HX
          go_enter Try.func27, Try.ntmps27
          go_wp2_with fail
          go_ret
          exact ⟨ret_bool HF.out, HW.out⟩
        · have hBf := HNO.out (by simp [hl])
          subst hBf
          have hs2 := sbeq_no (fun h => hl (HX.out.1 h))
          clear hl HB HNO HX
          go_enter Try.func27, Try.ntmps27
          go_wp2_with fail
          go_ret
          exact ⟨rfl, HW.out⟩
      · have hBf := HNO.out (by simp [hm])
        subst hBf
        have hm2 : (m1 == m2) = false := by simpa using hm
        clear hm HB HNO
        have e1 : (k1 == k1) = true := by simp
        have e2 : (o1 == o1) = true := by simp
        go_enter Try.func27, Try.ntmps27
        go_wp2_with fail
        go_ret
        exact ⟨rfl, HW.out⟩
    · have hBf := HNO.out (by simp [ho])
      subst hBf
      have ho2 : (o1 == o2) = false := by simpa using ho
      clear ho HB HNO
      have e1 : (k1 == k1) = true := by simp
      go_enter Try.func27, Try.ntmps27
      go_wp2_with fail
      go_ret
      exact ⟨rfl, HW.out⟩
  · have hBf := HNO.out (by simp [hk])
    subst hBf
    have hk2 : (k1 == k2) = false := by simpa using hk
    clear hk HB HNO
    go_enter Try.func27, Try.ntmps27
    go_wp2_with fail
    go_ret
    exact ⟨rfl, HW.out⟩
end Go.Proofs.Ytbpddcmehjgleaa
