/- Events: Plain, Span; what is put: package event's and the document's own. -/
import Derived.Test.YtbpddcmehjgleaaEvQ
import Derived.Test.YtbpddcmehjgleaaPut
import Derived.Deep.RegionWith
namespace Go.Proofs.Ytbpddcmehjgleaa
open Go.RowKit
set_option linter.unusedVariables false
set_option linter.unusedSimpArgs false

theorem plain_yes {k o m : Int} {l s : List UInt8} (h : k = 1 ∨ k = 2 ∨ k = 3) : (Ev.mk k o m l s).plain = (Ev.mk k o m l s).right := by
  unfold Ev.plain; simp only; rw [decide_eq_true h, Bool.and_true]
theorem plain_no {k o m : Int} {l s : List UInt8} (h : ¬ (k = 1 ∨ k = 2 ∨ k = 3)) : (Ev.mk k o m l s).plain = false := by
  unfold Ev.plain; simp only; rw [decide_eq_false h, Bool.and_false]
theorem right_bool (e : Ev) : e.right = true ∨ e.right = false := by cases e.right <;> simp

theorem span_no {e : Ev} (h : e.plain = false) : spanA e = (0, 0) := by unfold spanA; rw [if_neg (by rw [h]; simp)]
theorem span_yes {e : Ev} (h : e.plain = true) : spanA e = (e.off, if e.kind = 1 then (e.data.length : Int) else e.len) := by unfold spanA; rw [if_pos h]
theorem plain_kind {e : Ev} (h : e.plain = true) : e.kind = 1 ∨ e.kind = 2 ∨ e.kind = 3 := by
  unfold Ev.plain at h; rw [Bool.and_eq_true, decide_eq_true_eq] at h; exact h.2
section
variable (k o m : Int) (a : Option Addr) (n c : Nat) (l : List UInt8) (s : ByteArray) (w : World)
set_option maxHeartbeats 1000000 in
theorem eplain_any (hr : Row w a c l) (hn : l.length = n) (hs : s.size ≤ 9223372036854775807) :
    Calls Try.prog 62 #[.agg #[.int .i64 k, .int .i64 o, .int .i64 m, .slice a n c, .string s]] w fun e w' => e = .returned (.bool (Ev.plain ⟨k, o, m, l, s.data.toList⟩)) ∧ Below w.heap.size w w' := by
  have HW : Hid (Below w.heap.size w (w.alloc (.cells #[.int .i64 k, .int .i64 o, .int .i64 m, .slice a n c, .string s] 46))) := Lib.hid ((Below.refl _ _).alloc (Nat.le_refl _) _)
  have HR := Lib.hid (hr.later HW.out)
  have HN := Lib.hid hn
  clear hr hn
  by_cases h : k = 1 ∨ k = 2 ∨ k = 3
  · rw [plain_yes h]
    generalize HE : (Ev.mk k o m l s.data.toList).right = B
    have HB := Lib.hid HE
    clear HE
    rcases h with rfl | rfl | rfl
    all_goals
      go_enter Try.func62, Try.ntmps62
      go_wp2_with (go_at_call 45; refine (eright_any _ _ _ _ _ _ _ _ _ HR.out HN.out hs).mono ?_; rw [HB.out]; rintro e w1 ⟨rfl, hb1⟩)
      go_ret
      exact ⟨rfl, HW.out.trans (hb1.mono HW.out.size)⟩
  · rw [plain_no h]
    have t1 : (k == 1) = false := by simp; omega
    have t2 : (k == 2) = false := by simp; omega
    have t3 : (k == 3) = false := by simp; omega
    clear h
    go_enter Try.func62, Try.ntmps62
    go_wp2_with fail
    go_ret
    exact ⟨rfl, HW.out⟩
set_option maxHeartbeats 1000000 in
theorem rplain_any (hr : Row w a c l) (hn : l.length = n) (hs : s.size ≤ 9223372036854775807) :
    Calls Try.prog 43 #[.agg #[.int .i64 k, .int .i64 o, .int .i64 m, .slice a n c, .string s]] w fun e w' => e = .returned (.bool (Ev.plain ⟨k, o, m, l, s.data.toList⟩)) ∧ Below w.heap.size w w' := by
  have HW : Hid (Below w.heap.size w (w.alloc (.cells #[.int .i64 k, .int .i64 o, .int .i64 m, .slice a n c, .string s] 46))) := Lib.hid ((Below.refl _ _).alloc (Nat.le_refl _) _)
  have HX := Lib.hid (RecAt.new w #[.int .i64 k, .int .i64 o, .int .i64 m, .slice a n c, .string s] 46)
  have HR := Lib.hid (hr.later HW.out)
  have HN := Lib.hid hn
  clear hr hn
  by_cases h : k = 1 ∨ k = 2 ∨ k = 3
  · rw [plain_yes h]
    rcases right_bool (Ev.mk k o m l s.data.toList) with HE | HE
    all_goals
      rw [HE]
      have HB := Lib.hid HE
      clear HE
      rcases h with rfl | rfl | rfl
      all_goals
        go_enter Try.func43, Try.ntmps43
        go_wp2_with (go_at_call 47; refine (evrright_any _ _ _ _ _ _ _ _ _ HR.out HN.out hs).mono ?_; rw [HB.out]; rintro e w1 ⟨rfl, hb1⟩; have x0 := (HX.out.later hb1).cell (i := 0) rfl)
        go_ret
        exact ⟨rfl, HW.out.trans (hb1.mono HW.out.size)⟩
  · rw [plain_no h]
    have t1 : (k == 1) = false := by simp; omega
    have t2 : (k == 2) = false := by simp; omega
    have t3 : (k == 3) = false := by simp; omega
    clear h
    rcases right_bool (Ev.mk k o m l s.data.toList) with HE | HE
    all_goals
      have HB := Lib.hid HE
      clear HE
      go_enter Try.func43, Try.ntmps43
      go_wp2_with (go_at_call 47; refine (evrright_any _ _ _ _ _ _ _ _ _ HR.out HN.out hs).mono ?_; rw [HB.out]; rintro e w1 ⟨rfl, hb1⟩; have x0 := (HX.out.later hb1).cell (i := 0) rfl)
      go_ret
      exact ⟨rfl, HW.out.trans (hb1.mono HW.out.size)⟩
set_option maxHeartbeats 1000000 in
theorem espan_any (hr : Row w a c l) (hn : l.length = n) (hs : s.size ≤ 9223372036854775807) :
    Calls Try.prog 55 #[.agg #[.int .i64 k, .int .i64 o, .int .i64 m, .slice a n c, .string s]] w fun e w' => e = .returned (.tuple #[.int .i64 (spanA ⟨k, o, m, l, s.data.toList⟩).1, .int .i64 (spanA ⟨k, o, m, l, s.data.toList⟩).2]) ∧ Below w.heap.size w w' := by
  have HW : Hid (Below w.heap.size w (w.alloc (.cells #[.int .i64 k, .int .i64 o, .int .i64 m, .slice a n c, .string s] 46))) := Lib.hid ((Below.refl _ _).alloc (Nat.le_refl _) _)
  have HX := Lib.hid (RecAt.new w #[.int .i64 k, .int .i64 o, .int .i64 m, .slice a n c, .string s] 46)
  have HR := Lib.hid (hr.later HW.out)
  have HN := Lib.hid hn
  clear hr hn
  cases hp : (Ev.mk k o m l s.data.toList).plain with
  | false =>
    rw [span_no hp]
    have HB := Lib.hid hp
    clear hp
    go_enter Try.func55, Try.ntmps55
    go_wp2_with (go_at_call 62; refine (eplain_any _ _ _ _ _ _ _ _ _ HR.out HN.out hs).mono ?_; rw [HB.out]; rintro e w1 ⟨rfl, hb1⟩)
    go_ret2
    exact ⟨rfl, HW.out.trans (hb1.mono HW.out.size)⟩
  | true =>
    have hsp := span_yes hp
    rw [hsp]
    have HB := Lib.hid hp
    rcases plain_kind hp with rfl | rfl | rfl
    all_goals
      clear hp hsp
      go_enter Try.func55, Try.ntmps55
      go_wp2_with (go_at_call 62; refine (eplain_any _ _ _ _ _ _ _ _ _ HR.out HN.out hs).mono ?_; rw [HB.out]; rintro e w1 ⟨rfl, hb1⟩; have x0 := (HX.out.later hb1).cell (i := 0) rfl; have x1 := (HX.out.later hb1).cell (i := 1) rfl; have x2 := (HX.out.later hb1).cell (i := 2) rfl; have x3 := (HX.out.later hb1).cell (i := 3) rfl)
      go_quiet (fail)
      go_wp2_with fail
      go_ret2
      refine ⟨?_, (HW.out.trans (hb1.mono HW.out.size)).trans ((below_drewN _ _).mono (HW.out.trans (hb1.mono HW.out.size)).size)⟩
      first | rfl | (rw [← HN.out]; rfl) | (simp [← HN.out])
set_option maxHeartbeats 1000000 in
theorem rspan_any (hr : Row w a c l) (hn : l.length = n) (hs : s.size ≤ 9223372036854775807) :
    Calls Try.prog 25 #[.agg #[.int .i64 k, .int .i64 o, .int .i64 m, .slice a n c, .string s]] w fun e w' => e = .returned (.tuple #[.int .i64 (spanA ⟨k, o, m, l, s.data.toList⟩).1, .int .i64 (spanA ⟨k, o, m, l, s.data.toList⟩).2]) ∧ Below w.heap.size w w' := by
  have HW : Hid (Below w.heap.size w (w.alloc (.cells #[.int .i64 k, .int .i64 o, .int .i64 m, .slice a n c, .string s] 46))) := Lib.hid ((Below.refl _ _).alloc (Nat.le_refl _) _)
  have HX := Lib.hid (RecAt.new w #[.int .i64 k, .int .i64 o, .int .i64 m, .slice a n c, .string s] 46)
  have HR := Lib.hid (hr.later HW.out)
  have HN := Lib.hid hn
  clear hr hn
  cases hp : (Ev.mk k o m l s.data.toList).plain with
  | false =>
    rw [span_no hp]
    have HB := Lib.hid hp
    clear hp
    go_enter Try.func25, Try.ntmps25
    go_wp2_with (go_at_call 43; refine (rplain_any _ _ _ _ _ _ _ _ _ HR.out HN.out hs).mono ?_; rw [HB.out]; rintro e w1 ⟨rfl, hb1⟩)
    go_ret2
    exact ⟨rfl, HW.out.trans (hb1.mono HW.out.size)⟩
  | true =>
    have hsp := span_yes hp
    rw [hsp]
    have HB := Lib.hid hp
    rcases plain_kind hp with rfl | rfl | rfl
    all_goals
      clear hp hsp
      go_enter Try.func25, Try.ntmps25
      go_wp2_with (go_at_call 43; refine (rplain_any _ _ _ _ _ _ _ _ _ HR.out HN.out hs).mono ?_; rw [HB.out]; rintro e w1 ⟨rfl, hb1⟩; have x0 := (HX.out.later hb1).cell (i := 0) rfl; have x1 := (HX.out.later hb1).cell (i := 1) rfl; have x2 := (HX.out.later hb1).cell (i := 2) rfl; have x3 := (HX.out.later hb1).cell (i := 3) rfl)
      go_quiet (fail)
      go_wp2_with fail
      go_ret2
      refine ⟨?_, (HW.out.trans (hb1.mono HW.out.size)).trans ((below_drewN _ _).mono (HW.out.trans (hb1.mono HW.out.size)).size)⟩
      first | rfl | (rw [← HN.out]; rfl) | (simp [← HN.out])
end
end Go.Proofs.Ytbpddcmehjgleaa
