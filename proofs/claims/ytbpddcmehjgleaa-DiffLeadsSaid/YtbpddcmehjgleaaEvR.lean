/- Events: which may be: package event's Right, the document's RightEvent, Plain, Span. -/
import Derived.Test.YtbpddcmehjgleaaEv
namespace Go.Proofs.Ytbpddcmehjgleaa
open Go.RowKit
set_option linter.unusedVariables false
set_option linter.unusedSimpArgs false

/-! ### an event that may be, by its kind -/
theorem right_w {o m : Int} {l s : List UInt8} : (Ev.mk 1 o m l s).right = (withinM o l.length 64 && decide (m = 0 ∧ s = [])) := by
  rw [Bool.eq_iff_iff, right_iff, Bool.and_eq_true, withinM_iff, decide_eq_true_iff]
  simp only [Ev.Ok, within_iff]
  constructor
  · rintro (⟨_, h1, h2, h3, h4⟩ | ⟨h, _⟩ | ⟨h, _⟩ | ⟨h, _⟩ | ⟨h, _⟩)
    · exact ⟨by omega, h3, h4⟩
    all_goals omega
  · rintro ⟨h1, h2, h3⟩
    exact .inl ⟨trivial, by omega, by omega, h2, h3⟩
theorem right_d {k o m : Int} {l s : List UInt8} (hk : k = 2 ∨ k = 3) : (Ev.mk k o m l s).right = (withinM o m 512 && decide (l = [] ∧ s = [])) := by
  rw [Bool.eq_iff_iff, right_iff, Bool.and_eq_true, withinM_iff, decide_eq_true_iff]
  simp only [Ev.Ok, within_iff]
  constructor
  · rintro (⟨h, _⟩ | ⟨_, h1, h2, h3⟩ | ⟨h, _⟩ | ⟨h, _⟩ | ⟨h, _⟩)
    · omega
    · exact ⟨by omega, h1, h3⟩
    all_goals omega
  · rintro ⟨h1, h2, h3⟩
    exact .inr (.inl ⟨hk, h2, by omega, h3⟩)
theorem right_r {o m : Int} {l s : List UInt8} : (Ev.mk 4 o m l s).right = (decide (0 ≤ m ∧ m ≤ 512) && decide (o = 0 ∧ l = [] ∧ s = [])) := by
  rw [Bool.eq_iff_iff, right_iff, Bool.and_eq_true, decide_eq_true_iff, decide_eq_true_iff]
  simp only [Ev.Ok]
  constructor
  · rintro (⟨h, _⟩ | ⟨h, _⟩ | ⟨h, h1, h2, h3, h4, h5⟩ | ⟨h, _⟩ | ⟨h, _⟩)
    · omega
    · omega
    · exact ⟨⟨h3, h4⟩, h2, h1, h5⟩
    all_goals omega
  · rintro ⟨⟨h1, h2⟩, h3, h4, h5⟩
    exact .inr (.inr (.inl ⟨trivial, h4, h3, h1, h2, h5⟩))
theorem right_n {k o m : Int} {l s : List UInt8} (hk : k = 5 ∨ k = 6 ∨ k = 7) : (Ev.mk k o m l s).right = (nameOk s && decide (o = 0 ∧ m = 0 ∧ l = [])) := by
  rw [Bool.eq_iff_iff, right_iff, Bool.and_eq_true, decide_eq_true_iff]
  simp only [Ev.Ok]
  constructor
  · rintro (⟨h, _⟩ | ⟨h, _⟩ | ⟨h, _⟩ | ⟨h, h1, h2, h3, h4⟩ | ⟨h, _⟩)
    · omega
    · omega
    · omega
    · exact ⟨h4, h2, h3, h1⟩
    all_goals omega
  · rintro ⟨h1, h3, h4, h5⟩
    exact .inr (.inr (.inr (.inl ⟨hk, h5, h3, h4, h1⟩)))
theorem right_f {o m : Int} {l s : List UInt8} : (Ev.mk 8 o m l s).right = decide (o = 0 ∧ m = 0 ∧ l = [] ∧ s = []) := by
  rw [Bool.eq_iff_iff, right_iff, decide_eq_true_iff]
  simp only [Ev.Ok]
  constructor
  · rintro (⟨h, _⟩ | ⟨h, _⟩ | ⟨h, _⟩ | ⟨h, _⟩ | ⟨h, h1, h2, h3, h4⟩)
    · omega
    · omega
    · omega
    · omega
    · exact ⟨h2, h3, h1, h4⟩
  · rintro ⟨h1, h3, h4, h5⟩
    exact .inr (.inr (.inr (.inr ⟨trivial, h4, h1, h3, h5⟩)))
theorem right_x {k o m : Int} {l s : List UInt8} (hk : k < 1 ∨ 8 < k) : (Ev.mk k o m l s).right = false := by
  cases h : (Ev.mk k o m l s).right with
  | false => rfl
  | true => have := right_kind h; simp only at this; omega
theorem data_nil {s : ByteArray} : s.data.toList = [] ↔ s = ⟨#[]⟩ := by
  constructor
  · intro h; cases s; simp at h; rw [h]
  · rintro rfl; rfl

/-! ### package event's -/
section
variable (o m : Int) (a : Option Addr) (n c : Nat) (l : List UInt8) (s : ByteArray) (w : World)
/-- 'Same' of an event and one with fewer fields. -/
theorem esame_of (k o2 m2 : Int) (a2 : Option Addr) (n2 c2 : Nat) (l2 : List UInt8) (s2 : ByteArray) {W : World} (hr : Row W a c l) (hn : l.length = n) (hr2 : Row W a2 c2 l2) (hn2 : l2.length = n2) (P : Prop) [Decidable P]
    (hP : P ↔ o = o2 ∧ m = m2 ∧ s = s2 ∧ l = l2) :
    Calls Try.prog 58 #[.agg #[.int .i64 k, .int .i64 o, .int .i64 m, .slice a n c, .string s], .agg #[.int .i64 k, .int .i64 o2, .int .i64 m2, .slice a2 n2 c2, .string s2]] W fun e w' => e = .returned (.bool (decide P)) ∧ Below W.heap.size W w' :=
  esame_any k o m k o2 m2 a a2 n n2 c c2 s s2 l l2 W hr hr2 hn hn2 _ (by rw [decide_eq_true_iff, hP]; simp)

set_option maxHeartbeats 1000000 in
theorem eright_w (hr : Row w a c l) (hn : l.length = n) (hs : s.size ≤ 9223372036854775807) :
    Calls Try.prog 45 #[.agg #[.int .i64 1, .int .i64 o, .int .i64 m, .slice a n c, .string s]] w fun e w' => e = .returned (.bool (Ev.right ⟨1, o, m, l, s.data.toList⟩)) ∧ Below w.heap.size w w' := by
  have HW : Hid (Below w.heap.size w (w.alloc (.cells #[.int .i64 1, .int .i64 o, .int .i64 m, .slice a n c, .string s] 46))) := Lib.hid ((Below.refl _ _).alloc (Nat.le_refl _) _)
  have HR := Lib.hid (hr.later HW.out)
  have HN := Lib.hid hn
  have HE : Hid ((Ev.mk 1 o m l s.data.toList).right = (withinM o n 64 && decide (m = 0 ∧ s.data.toList = []))) := Lib.hid (by rw [right_w, hn])
  rw [HE.out]
  clear hr hn HE
  cases hb : withinM o n 64 with
  | false =>
    have HB := Lib.hid hb
    clear hb
    go_enter Try.func45, Try.ntmps45
    go_wp2_with (go_at_call 57; refine (evwithin_any _ _ _ _ (by omega)).mono ?_; rw [HB.out]; rintro e w1 ⟨rfl, rfl⟩)
    go_ret
    exact ⟨ret_bool (by first | rfl | simp), HW.out⟩
  | true =>
    have HB := Lib.hid hb
    clear hb
    go_enter Try.func45, Try.ntmps45
    go_wp2_with (first
        | (go_at_call 57; refine (evwithin_any _ _ _ _ (by omega)).mono ?_; rw [HB.out]; rintro e w1 ⟨rfl, rfl⟩)
        | (go_at_call 58; refine (esame_of o m a n c l s 1 o 0 a n c l ⟨#[]⟩ HR.out HN.out HR.out HN.out (m = 0 ∧ s.data.toList = []) (by (try simp only [data_nil]); constructor <;> intro h <;> simp_all)).mono ?_; rintro e w2 ⟨rfl, hb2⟩)
      )
    go_ret
    exact ⟨ret_bool (by first | rfl | simp), HW.out.trans (hb2.mono HW.out.size)⟩
set_option maxHeartbeats 1000000 in
theorem eright_d2 (hr : Row w a c l) (hn : l.length = n) (hs : s.size ≤ 9223372036854775807) :
    Calls Try.prog 45 #[.agg #[.int .i64 2, .int .i64 o, .int .i64 m, .slice a n c, .string s]] w fun e w' => e = .returned (.bool (Ev.right ⟨2, o, m, l, s.data.toList⟩)) ∧ Below w.heap.size w w' := by
  have HW : Hid (Below w.heap.size w (w.alloc (.cells #[.int .i64 2, .int .i64 o, .int .i64 m, .slice a n c, .string s] 46))) := Lib.hid ((Below.refl _ _).alloc (Nat.le_refl _) _)
  have HR := Lib.hid (hr.later HW.out)
  have HN := Lib.hid hn
  have HE : Hid ((Ev.mk 2 o m l s.data.toList).right = (withinM o m 512 && decide (l = [] ∧ s.data.toList = []))) := Lib.hid (right_d (by omega))
  rw [HE.out]
  clear hr hn HE
  cases hb : withinM o m 512 with
  | false =>
    have HB := Lib.hid hb
    clear hb
    go_enter Try.func45, Try.ntmps45
    go_wp2_with (go_at_call 57; refine (evwithin_any _ _ _ _ (by omega)).mono ?_; rw [HB.out]; rintro e w1 ⟨rfl, rfl⟩)
    go_ret
    exact ⟨ret_bool (by first | rfl | simp), HW.out⟩
  | true =>
    have HB := Lib.hid hb
    clear hb
    go_enter Try.func45, Try.ntmps45
    go_wp2_with (first
        | (go_at_call 57; refine (evwithin_any _ _ _ _ (by omega)).mono ?_; rw [HB.out]; rintro e w1 ⟨rfl, rfl⟩)
        | (go_at_call 58; refine (esame_of o m a n c l s 2 o m none 0 0 [] ⟨#[]⟩ HR.out HN.out (Row.none _) rfl (l = [] ∧ s.data.toList = []) (by (try simp only [data_nil]); constructor <;> intro h <;> simp_all)).mono ?_; rintro e w2 ⟨rfl, hb2⟩)
      )
    go_ret
    exact ⟨ret_bool (by first | rfl | simp), HW.out.trans (hb2.mono HW.out.size)⟩
set_option maxHeartbeats 1000000 in
theorem eright_d3 (hr : Row w a c l) (hn : l.length = n) (hs : s.size ≤ 9223372036854775807) :
    Calls Try.prog 45 #[.agg #[.int .i64 3, .int .i64 o, .int .i64 m, .slice a n c, .string s]] w fun e w' => e = .returned (.bool (Ev.right ⟨3, o, m, l, s.data.toList⟩)) ∧ Below w.heap.size w w' := by
  have HW : Hid (Below w.heap.size w (w.alloc (.cells #[.int .i64 3, .int .i64 o, .int .i64 m, .slice a n c, .string s] 46))) := Lib.hid ((Below.refl _ _).alloc (Nat.le_refl _) _)
  have HR := Lib.hid (hr.later HW.out)
  have HN := Lib.hid hn
  have HE : Hid ((Ev.mk 3 o m l s.data.toList).right = (withinM o m 512 && decide (l = [] ∧ s.data.toList = []))) := Lib.hid (right_d (by omega))
  rw [HE.out]
  clear hr hn HE
  cases hb : withinM o m 512 with
  | false =>
    have HB := Lib.hid hb
    clear hb
    go_enter Try.func45, Try.ntmps45
    go_wp2_with (go_at_call 57; refine (evwithin_any _ _ _ _ (by omega)).mono ?_; rw [HB.out]; rintro e w1 ⟨rfl, rfl⟩)
    go_ret
    exact ⟨ret_bool (by first | rfl | simp), HW.out⟩
  | true =>
    have HB := Lib.hid hb
    clear hb
    go_enter Try.func45, Try.ntmps45
    go_wp2_with (first
        | (go_at_call 57; refine (evwithin_any _ _ _ _ (by omega)).mono ?_; rw [HB.out]; rintro e w1 ⟨rfl, rfl⟩)
        | (go_at_call 58; refine (esame_of o m a n c l s 3 o m none 0 0 [] ⟨#[]⟩ HR.out HN.out (Row.none _) rfl (l = [] ∧ s.data.toList = []) (by (try simp only [data_nil]); constructor <;> intro h <;> simp_all)).mono ?_; rintro e w2 ⟨rfl, hb2⟩)
      )
    go_ret
    exact ⟨ret_bool (by first | rfl | simp), HW.out.trans (hb2.mono HW.out.size)⟩
set_option maxHeartbeats 1000000 in
theorem eright_n5 (hr : Row w a c l) (hn : l.length = n) (hs : s.size ≤ 9223372036854775807) :
    Calls Try.prog 45 #[.agg #[.int .i64 5, .int .i64 o, .int .i64 m, .slice a n c, .string s]] w fun e w' => e = .returned (.bool (Ev.right ⟨5, o, m, l, s.data.toList⟩)) ∧ Below w.heap.size w w' := by
  have HW : Hid (Below w.heap.size w (w.alloc (.cells #[.int .i64 5, .int .i64 o, .int .i64 m, .slice a n c, .string s] 46))) := Lib.hid ((Below.refl _ _).alloc (Nat.le_refl _) _)
  have HR := Lib.hid (hr.later HW.out)
  have HN := Lib.hid hn
  have HE : Hid ((Ev.mk 5 o m l s.data.toList).right = (nameOk s.data.toList && decide (o = 0 ∧ m = 0 ∧ l = []))) := Lib.hid (right_n (by omega))
  rw [HE.out]
  clear hr hn HE
  cases hb : nameOk s.data.toList with
  | false =>
    have HB := Lib.hid hb
    clear hb
    go_enter Try.func45, Try.ntmps45
    go_wp2_with (go_at_call 52; refine (name_any _ _ (by omega)).mono ?_; rw [HB.out]; rintro e w1 ⟨rfl, rfl⟩)
    go_ret
    exact ⟨ret_bool (by first | rfl | simp), HW.out⟩
  | true =>
    have HB := Lib.hid hb
    clear hb
    go_enter Try.func45, Try.ntmps45
    go_wp2_with (first
        | (go_at_call 52; refine (name_any _ _ (by omega)).mono ?_; rw [HB.out]; rintro e w1 ⟨rfl, rfl⟩)
        | (go_at_call 58; refine (esame_of o m a n c l s 5 0 0 none 0 0 [] s HR.out HN.out (Row.none _) rfl (o = 0 ∧ m = 0 ∧ l = []) (by (try simp only [data_nil]); constructor <;> intro h <;> simp_all)).mono ?_; rintro e w2 ⟨rfl, hb2⟩)
      )
    go_ret
    exact ⟨ret_bool (by first | rfl | simp), HW.out.trans (hb2.mono HW.out.size)⟩
set_option maxHeartbeats 1000000 in
theorem eright_n6 (hr : Row w a c l) (hn : l.length = n) (hs : s.size ≤ 9223372036854775807) :
    Calls Try.prog 45 #[.agg #[.int .i64 6, .int .i64 o, .int .i64 m, .slice a n c, .string s]] w fun e w' => e = .returned (.bool (Ev.right ⟨6, o, m, l, s.data.toList⟩)) ∧ Below w.heap.size w w' := by
  have HW : Hid (Below w.heap.size w (w.alloc (.cells #[.int .i64 6, .int .i64 o, .int .i64 m, .slice a n c, .string s] 46))) := Lib.hid ((Below.refl _ _).alloc (Nat.le_refl _) _)
  have HR := Lib.hid (hr.later HW.out)
  have HN := Lib.hid hn
  have HE : Hid ((Ev.mk 6 o m l s.data.toList).right = (nameOk s.data.toList && decide (o = 0 ∧ m = 0 ∧ l = []))) := Lib.hid (right_n (by omega))
  rw [HE.out]
  clear hr hn HE
  cases hb : nameOk s.data.toList with
  | false =>
    have HB := Lib.hid hb
    clear hb
    go_enter Try.func45, Try.ntmps45
    go_wp2_with (go_at_call 52; refine (name_any _ _ (by omega)).mono ?_; rw [HB.out]; rintro e w1 ⟨rfl, rfl⟩)
    go_ret
    exact ⟨ret_bool (by first | rfl | simp), HW.out⟩
  | true =>
    have HB := Lib.hid hb
    clear hb
    go_enter Try.func45, Try.ntmps45
    go_wp2_with (first
        | (go_at_call 52; refine (name_any _ _ (by omega)).mono ?_; rw [HB.out]; rintro e w1 ⟨rfl, rfl⟩)
        | (go_at_call 58; refine (esame_of o m a n c l s 6 0 0 none 0 0 [] s HR.out HN.out (Row.none _) rfl (o = 0 ∧ m = 0 ∧ l = []) (by (try simp only [data_nil]); constructor <;> intro h <;> simp_all)).mono ?_; rintro e w2 ⟨rfl, hb2⟩)
      )
    go_ret
    exact ⟨ret_bool (by first | rfl | simp), HW.out.trans (hb2.mono HW.out.size)⟩
set_option maxHeartbeats 1000000 in
theorem eright_n7 (hr : Row w a c l) (hn : l.length = n) (hs : s.size ≤ 9223372036854775807) :
    Calls Try.prog 45 #[.agg #[.int .i64 7, .int .i64 o, .int .i64 m, .slice a n c, .string s]] w fun e w' => e = .returned (.bool (Ev.right ⟨7, o, m, l, s.data.toList⟩)) ∧ Below w.heap.size w w' := by
  have HW : Hid (Below w.heap.size w (w.alloc (.cells #[.int .i64 7, .int .i64 o, .int .i64 m, .slice a n c, .string s] 46))) := Lib.hid ((Below.refl _ _).alloc (Nat.le_refl _) _)
  have HR := Lib.hid (hr.later HW.out)
  have HN := Lib.hid hn
  have HE : Hid ((Ev.mk 7 o m l s.data.toList).right = (nameOk s.data.toList && decide (o = 0 ∧ m = 0 ∧ l = []))) := Lib.hid (right_n (by omega))
  rw [HE.out]
  clear hr hn HE
  cases hb : nameOk s.data.toList with
  | false =>
    have HB := Lib.hid hb
    clear hb
    go_enter Try.func45, Try.ntmps45
    go_wp2_with (go_at_call 52; refine (name_any _ _ (by omega)).mono ?_; rw [HB.out]; rintro e w1 ⟨rfl, rfl⟩)
    go_ret
    exact ⟨ret_bool (by first | rfl | simp), HW.out⟩
  | true =>
    have HB := Lib.hid hb
    clear hb
    go_enter Try.func45, Try.ntmps45
    go_wp2_with (first
        | (go_at_call 52; refine (name_any _ _ (by omega)).mono ?_; rw [HB.out]; rintro e w1 ⟨rfl, rfl⟩)
        | (go_at_call 58; refine (esame_of o m a n c l s 7 0 0 none 0 0 [] s HR.out HN.out (Row.none _) rfl (o = 0 ∧ m = 0 ∧ l = []) (by (try simp only [data_nil]); constructor <;> intro h <;> simp_all)).mono ?_; rintro e w2 ⟨rfl, hb2⟩)
      )
    go_ret
    exact ⟨ret_bool (by first | rfl | simp), HW.out.trans (hb2.mono HW.out.size)⟩
set_option maxHeartbeats 1000000 in
theorem eright_f (hr : Row w a c l) (hn : l.length = n) (hs : s.size ≤ 9223372036854775807) :
    Calls Try.prog 45 #[.agg #[.int .i64 8, .int .i64 o, .int .i64 m, .slice a n c, .string s]] w fun e w' => e = .returned (.bool (Ev.right ⟨8, o, m, l, s.data.toList⟩)) ∧ Below w.heap.size w w' := by
  have HW : Hid (Below w.heap.size w (w.alloc (.cells #[.int .i64 8, .int .i64 o, .int .i64 m, .slice a n c, .string s] 46))) := Lib.hid ((Below.refl _ _).alloc (Nat.le_refl _) _)
  have HR := Lib.hid (hr.later HW.out)
  have HN := Lib.hid hn
  have HE : Hid ((Ev.mk 8 o m l s.data.toList).right = decide (o = 0 ∧ m = 0 ∧ l = [] ∧ s.data.toList = [])) := Lib.hid right_f
  rw [HE.out]
  clear hr hn HE
  go_enter Try.func45, Try.ntmps45
  go_wp2_with (go_at_call 58; refine (esame_of o m a n c l s 8 0 0 none 0 0 [] ⟨#[]⟩ HR.out HN.out (Row.none _) rfl (o = 0 ∧ m = 0 ∧ l = [] ∧ s.data.toList = []) (by (try simp only [data_nil]); constructor <;> intro h <;> simp_all)).mono ?_; rintro e w2 ⟨rfl, hb2⟩)
  go_ret
  exact ⟨ret_bool (by first | rfl | simp), HW.out.trans (hb2.mono HW.out.size)⟩
set_option maxHeartbeats 1000000 in
theorem eright_r (hr : Row w a c l) (hn : l.length = n) (hs : s.size ≤ 9223372036854775807) :
    Calls Try.prog 45 #[.agg #[.int .i64 4, .int .i64 o, .int .i64 m, .slice a n c, .string s]] w fun e w' => e = .returned (.bool (Ev.right ⟨4, o, m, l, s.data.toList⟩)) ∧ Below w.heap.size w w' := by
  have HW : Hid (Below w.heap.size w (w.alloc (.cells #[.int .i64 4, .int .i64 o, .int .i64 m, .slice a n c, .string s] 46))) := Lib.hid ((Below.refl _ _).alloc (Nat.le_refl _) _)
  have HR := Lib.hid (hr.later HW.out)
  have HN := Lib.hid hn
  have HE : Hid ((Ev.mk 4 o m l s.data.toList).right = (decide (0 ≤ m ∧ m ≤ 512) && decide (o = 0 ∧ l = [] ∧ s.data.toList = []))) := Lib.hid right_r
  rw [HE.out]
  clear hr hn HE
  rcases (show m < 0 ∨ 512 < m ∨ (0 ≤ m ∧ m ≤ 512) by omega) with h | h | h
  · rw [show decide (0 ≤ m ∧ m ≤ 512) = false by simp; omega, Bool.false_and]
    go_enter Try.func45, Try.ntmps45
    go_wp2_with fail
    go_ret
    exact ⟨ret_bool (by first | rfl | simp), HW.out⟩
  · rw [show decide (0 ≤ m ∧ m ≤ 512) = false by simp; omega, Bool.false_and]
    go_enter Try.func45, Try.ntmps45
    go_wp2_with fail
    go_ret
    exact ⟨ret_bool (by first | rfl | simp), HW.out⟩
  · rw [show decide (0 ≤ m ∧ m ≤ 512) = true by simp; omega, Bool.true_and]
    go_enter Try.func45, Try.ntmps45
    go_wp2_with (go_at_call 58; refine (esame_of o m a n c l s 4 0 m none 0 0 [] ⟨#[]⟩ HR.out HN.out (Row.none _) rfl (o = 0 ∧ l = [] ∧ s.data.toList = []) (by (try simp only [data_nil]); constructor <;> intro h <;> simp_all)).mono ?_; rintro e w2 ⟨rfl, hb2⟩)
    go_ret
    exact ⟨ret_bool (by first | rfl | simp), HW.out.trans (hb2.mono HW.out.size)⟩
set_option maxHeartbeats 1000000 in
theorem eright_x (k : Int) (hk : k < 1 ∨ 8 < k) (hr : Row w a c l) (hn : l.length = n) (hs : s.size ≤ 9223372036854775807) :
    Calls Try.prog 45 #[.agg #[.int .i64 k, .int .i64 o, .int .i64 m, .slice a n c, .string s]] w fun e w' => e = .returned (.bool (Ev.right ⟨k, o, m, l, s.data.toList⟩)) ∧ Below w.heap.size w w' := by
  have HW : Hid (Below w.heap.size w (w.alloc (.cells #[.int .i64 k, .int .i64 o, .int .i64 m, .slice a n c, .string s] 46))) := Lib.hid ((Below.refl _ _).alloc (Nat.le_refl _) _)
  have HR := Lib.hid (hr.later HW.out)
  have HN := Lib.hid hn
  have HE : Hid ((Ev.mk k o m l s.data.toList).right = false) := Lib.hid (right_x hk)
  rw [HE.out]
  clear hr hn HE
  have t1 : (k == 1) = false := by simp; omega
  have t2 : (k == 2) = false := by simp; omega
  have t3 : (k == 3) = false := by simp; omega
  have t4 : (k == 4) = false := by simp; omega
  have t5 : (k == 5) = false := by simp; omega
  have t6 : (k == 6) = false := by simp; omega
  have t7 : (k == 7) = false := by simp; omega
  have t8 : (k == 8) = false := by simp; omega
  clear hk
  go_enter Try.func45, Try.ntmps45
  go_wp2_with fail
  go_ret
  exact ⟨ret_bool (by first | rfl | simp), HW.out⟩
theorem eright_any (k : Int) (hr : Row w a c l) (hn : l.length = n) (hs : s.size ≤ 9223372036854775807) :
    Calls Try.prog 45 #[.agg #[.int .i64 k, .int .i64 o, .int .i64 m, .slice a n c, .string s]] w fun e w' => e = .returned (.bool (Ev.right ⟨k, o, m, l, s.data.toList⟩)) ∧ Below w.heap.size w w' := by
  rcases (show k = 1 ∨ k = 2 ∨ k = 3 ∨ k = 4 ∨ k = 5 ∨ k = 6 ∨ k = 7 ∨ k = 8 ∨ (k < 1 ∨ 8 < k) by omega) with rfl | rfl | rfl | rfl | rfl | rfl | rfl | rfl | h
  · exact eright_w o m a n c l s w hr hn hs
  · exact eright_d2 o m a n c l s w hr hn hs
  · exact eright_d3 o m a n c l s w hr hn hs
  · exact eright_r o m a n c l s w hr hn hs
  · exact eright_n5 o m a n c l s w hr hn hs
  · exact eright_n6 o m a n c l s w hr hn hs
  · exact eright_n7 o m a n c l s w hr hn hs
  · exact eright_f o m a n c l s w hr hn hs
  · exact eright_x o m a n c l s w k h hr hn hs
end
end Go.Proofs.Ytbpddcmehjgleaa
