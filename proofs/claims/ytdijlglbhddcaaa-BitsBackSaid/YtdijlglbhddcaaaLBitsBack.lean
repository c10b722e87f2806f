/- The law BitsBack, walked. -/
import Derived.Test.YtdijlglbhddcaaaKnown
namespace Go.Proofs.Ytdijlglbhddcaaa
open Go.RowKit
set_option linter.unusedVariables false

theorem wf_i64b {n : Int} (h : (Lit.int .i64 n).wf = true) : -9223372036854775808 ≤ n ∧ n ≤ 9223372036854775807 := by
  simp [Lit.wf, IntKind.min, IntKind.max, IntKind.signed, IntKind.bits] at h; omega
theorem wf_u64b {n : Int} (h : (Lit.int .u64 n).wf = true) : ∃ m : Nat, n = m ∧ m < 18446744073709551616 := by
  simp [Lit.wf, IntKind.min, IntKind.max, IntKind.signed, IntKind.bits] at h
  exact ⟨n.toNat, by omega, by omega⟩

/-! ### what is put is got -/
theorem get_put (l r : List UInt8) (n W : Nat) (h1 : 1 ≤ W) (h8 : W ≤ 8) : getA (l ++ putL n W ++ r) l.length W = (n % 256 ^ W, true) := by
  unfold getA
  have hl := putL_len n W
  rw [if_pos (by simp; omega)]
  congr 1
  rw [Int.toNat_natCast, Int.toNat_natCast, List.append_assoc, List.drop_left, List.take_left' hl, getL_putL]
theorem get_var (l r : List UInt8) (k : Nat) (hk : k < 9223372036854775808) : gvA (l ++ varL k ++ r) l.length = some (k, (varL k).length) := by
  unfold gvA
  rw [if_pos (by simp; omega), Int.toNat_natCast, List.append_assoc, List.drop_left]
  exact getV_varL hk r
theorem get_cut (l : List UInt8) (k : Nat) : gvA ((l ++ varL k).take (l.length + (varL k).length - 1)) l.length = none := by
  have hp := varL_pos k
  have e : ((l ++ varL k).take (l.length + (varL k).length - 1)).drop l.length = (varL k).dropLast := by
    rw [List.drop_take, List.drop_left, List.dropLast_eq_take]; congr 1; omega
  unfold gvA
  split
  · rw [Int.toNat_natCast, e]
    exact varL_dropLast k 9 0 0
  · rfl
theorem text_gv (l r s : List UInt8) (hs : s.length < 9223372036854775808) : gvA (l ++ textL s ++ r) l.length = some (s.length, (varL s.length).length) := by
  have := get_var l (s ++ r) s.length hs
  unfold textL
  rw [← this]; congr 1; simp
theorem get_text (l r s : List UInt8) (hs : s.length < 9223372036854775808) : gtA (l ++ textL s ++ r) l.length s.length = some (s, l.length + (textL s).length) := by
  unfold gtA
  rw [text_gv l r s hs]
  have hlen : (textL s).length = (varL s.length).length + s.length := by simp [textL]
  simp only [Int.toNat_natCast]
  rw [if_pos (by simp [hlen]; omega)]
  congr 2
  · have : l ++ textL s ++ r = (l ++ varL s.length) ++ (s ++ r) := by simp [textL]
    rw [this, show l.length + (varL s.length).length = (l ++ varL s.length).length by simp, List.drop_left, List.take_left]
  · rw [hlen]; omega
theorem get_long (l s : List UInt8) (hs : s.length < 9223372036854775808) : gtA (l ++ textL s) l.length ((s.length : Int) - 1) = none := by
  have := text_gv l [] s hs
  rw [List.append_nil] at this
  unfold gtA
  rw [this]
  simp only []
  rw [if_neg (by omega)]
theorem mask_and (n W : Nat) (hn : n < 18446744073709551616) (h8 : W ≤ 8) : bits .and .u64 (n : Int) ((maskN (8 * (W : Int)) : Nat) : Int) = ((n % 256 ^ W : Nat) : Int) := by
  rw [u64_and_nat _ _ hn (maskN_lt _)]
  unfold maskN
  rw [Nat.and_two_pow_sub_one_eq_mod]
  have : heldN (8 * (W : Int)) = 8 * W := by unfold heldN; omega
  rw [this, Nat.pow_mul]

set_option maxRecDepth 100000 in
set_option maxHeartbeats 1600000 in
theorem back_known (a0 a1 : Option Addr) (m0 cap0 m1 cap1 : Nat) (n : Int) (W k : Int) (s : ByteArray) (w : World) (hb : 100 < m0 ∨ 100 < m1 ∨ 200 < s.size ∨ W < 1 ∨ 8 < W ∨ k < 0) :
    Calls Try.prog 5 #[.slice a0 m0 cap0, .slice a1 m1 cap1, .int .u64 n, .int .i64 W, .int .i64 k, .string s] w fun e w' => e = .returned (.bool true) ∧ Below w.heap.size w w' := by
  rcases (show 100 < m0 ∨ (m0 ≤ 100 ∧ 100 < m1) ∨ (m0 ≤ 100 ∧ m1 ≤ 100 ∧ 200 < s.size) ∨ (m0 ≤ 100 ∧ m1 ≤ 100 ∧ s.size ≤ 200 ∧ W < 1) ∨ (m0 ≤ 100 ∧ m1 ≤ 100 ∧ s.size ≤ 200 ∧ 1 ≤ W ∧ 8 < W) ∨ (m0 ≤ 100 ∧ m1 ≤ 100 ∧ s.size ≤ 200 ∧ 1 ≤ W ∧ W ≤ 8 ∧ k < 0) by omega) with h | h | h | h | h | h
  all_goals
    clear hb
    go_enter Try.func5, Try.ntmps5
    go_wp2_with fail
    refine (known_any _).mono ?_
    rintro e w1 ⟨rfl, hb⟩
    go_wp2
    go_ret
    exact ⟨rfl, hb⟩

set_option maxRecDepth 100000 in
set_option maxHeartbeats 3200000 in
theorem back_walk (a0 a1 : Option Addr) (m0 cap0 m1 cap1 : Nat) (l0 l1 : List UInt8) (n W k : Nat) (s : ByteArray) (w : World) (hr0 : Row w a0 cap0 l0) (hr1 : Row w a1 cap1 l1) (hl0 : l0.length = m0) (hl1 : l1.length = m1)
    (hn : n < 18446744073709551616) (hk : k < 9223372036854775808) (h0 : m0 ≤ 100) (h1 : m1 ≤ 100) (hs : s.size ≤ 200) (hW1 : 1 ≤ W) (hW8 : W ≤ 8) :
    Calls Try.prog 5 #[.slice a0 m0 cap0, .slice a1 m1 cap1, .int .u64 n, .int .i64 W, .int .i64 k, .string s] w fun e w' => e = .returned (.bool true) ∧ Below w.heap.size w w' := by
  obtain ⟨S, hS⟩ : ∃ S, s.data.toList = S := ⟨_, rfl⟩
  have hS2 : S.length = s.size := by rw [← hS]; rfl
  have HS := Lib.hid hS
  clear hS
  have HS2 := Lib.hid hS2
  clear hS2
  have HL0 := Lib.hid hl0
  have HL1 := Lib.hid hl1
  clear hl0 hl1
  obtain ⟨V, hV⟩ : ∃ V, (varL k).length = V := ⟨_, rfl⟩
  obtain ⟨T, hT⟩ : ∃ T, (textL S).length = T := ⟨_, rfl⟩
  have hV9 : V ≤ 9 := by rw [← hV]; exact varL_nine hk
  have hV1 : 1 ≤ V := by rw [← hV]; exact varL_pos k
  have hT2 : T ≤ 300 := by rw [← hT]; have := HS2.out; have := varL_nine (n := S.length) (by omega); simp [textL]; omega
  have HV := Lib.hid hV
  have HT := Lib.hid hT
  clear hV hT
  go_enter Try.func5, Try.ntmps5
  go_wp2_with fail
  refine (put_any a0 m0 cap0 l0 n W w hr0 HL0.out (by omega) hn).mono ?_
  rintro e w1 ⟨v1, rfl, o1⟩
  have e1 : putA l0 n W = l0 ++ putL n W := by unfold putA; rw [if_pos ⟨by omega, by omega⟩]; rfl
  rw [e1] at o1
  clear e1
  obtain ⟨b1, c1, rfl, r1⟩ := o1.row_n (n := m0 + W) (by have := HL0.out; rw [List.length_append, putL_len]; omega)
  have q1 := o1.below
  clear o1
  go_wp2_with fail
  refine (var_any a0 m0 cap0 l0 k w1 (hr0.later q1) HL0.out (by omega) (by omega)).mono ?_
  rintro e w2 ⟨v2, rfl, o2⟩
  rw [Int.toNat_natCast] at o2
  obtain ⟨b2, c2, rfl, r2⟩ := o2.row_n (n := m0 + V) (by have := HL0.out; have := HV.out; rw [List.length_append]; omega)
  have q2 := o2.below
  have t2 := q1.trans (q2.mono q1.size)
  clear o2
  go_wp2_with fail
  refine (text_any a0 m0 cap0 l0 s w2 (hr0.later t2) HL0.out (by omega) (by omega)).mono ?_
  rintro e w3 ⟨v3, rfl, o3⟩
  rw [HS.out] at o3
  obtain ⟨b3, c3, rfl, r3⟩ := o3.row_n (n := m0 + T) (by have := HL0.out; have := HT.out; rw [List.length_append]; omega)
  have q3 := o3.below
  have t3 := t2.trans (q3.mono t2.size)
  clear o3
  have r1' := (r1.later q2).later q3
  have r2' := r2.later q3
  clear r1 r2 q1 q2 q3 t2
  have he := own_empty (Below.refl w3.heap.size w3)
  go_wp2_with (first
    | (at_builtin; refine wp_row rfl (.tmp 67) (.tmp 68) rfl _ _ rfl w3 he b1 c1 (m0 + W) _ (r1'.later ((Below.refl _ _).alloc (Nat.le_refl _) _)) (by have := HL0.out; rw [List.length_append, putL_len]; omega) rfl (by have := HL0.out; simp [putL_len]; omega) ?_; intro v4 w4 o4)
    | (at_builtin; refine wp_row rfl (.tmp 69) (.tmp 70) rfl _ _ rfl w3 o4 a1 cap1 m1 l1 ((hr1.later t3).later o4.below) HL1.out rfl (by have := HL0.out; have := HL1.out; simp [putL_len]; omega) ?_; intro v5 w5 o5; obtain ⟨b5, c5, rfl, r5⟩ := o5.row_n (n := m0 + W + m1) (by have := HL0.out; have := HL1.out; simp [putL_len]; omega)))
  have t5 := t3.trans (o5.below.mono t3.size)
  have r2'' := r2'.later o5.below
  have r3'' := r3.later o5.below
  clear he o4 o5 r2' r3 r1'
  rw [List.nil_append] at r5
  refine (get_any b5 (m0 + W + m1) c5 _ m0 W w5 r5 (by have := HL0.out; have := HL1.out; simp [putL_len]; omega) (by omega) (by omega) (by omega) (by omega) (by omega)).mono ?_
  rintro e w6 ⟨rfl, rfl⟩
  have g1 : getA (l0 ++ putL n W ++ l1) m0 W = (n % 256 ^ W, true) := by rw [← HL0.out]; exact get_put l0 l1 n W hW1 hW8
  rw [g1]
  clear g1 r5
  have he := own_empty (Below.refl w5.heap.size w5)
  go_wp2_with (first
    | (at_builtin; refine wp_row rfl (.tmp 79) (.tmp 80) rfl _ _ rfl w5 he b2 c2 (m0 + V) _ (r2''.later ((Below.refl _ _).alloc (Nat.le_refl _) _)) (by have := HL0.out; have := HV.out; rw [List.length_append]; omega) rfl (by have := HL0.out; have := HV.out; simp; omega) ?_; intro v7 w7 o7)
    | (at_builtin; refine wp_row rfl (.tmp 81) (.tmp 82) rfl _ _ rfl w5 o7 a1 cap1 m1 l1 ((hr1.later t5).later o7.below) HL1.out rfl (by have := HL0.out; have := HL1.out; have := HV.out; simp; omega) ?_; intro v8 w8 o8; obtain ⟨b8, c8, rfl, r8⟩ := o8.row_n (n := m0 + V + m1) (by have := HL0.out; have := HL1.out; have := HV.out; simp; omega)))
  have t8 := t5.trans (o8.below.mono t5.size)
  have r2 := r2''.later o8.below
  have r3 := r3''.later o8.below
  clear he o7 o8 r2'' r3''
  rw [List.nil_append] at r8
  refine (getvar_any b8 (m0 + V + m1) c8 _ m0 w8 r8 (by have := HL0.out; have := HL1.out; have := HV.out; simp; omega) (by omega) (by omega) (by omega)).mono ?_
  rintro e w9 ⟨rfl, rfl⟩
  have g2 : getVA (l0 ++ varL k ++ l1) m0 = ((k : Int), (m0 : Int) + V, true) := by
    have := get_var l0 l1 k hk
    rw [HL0.out, HV.out] at this
    exact getVA_some this
  rw [g2]
  clear g2 r8
  have he := own_empty (Below.refl w8.heap.size w8)
  simp only [Got3]
  go_wp2_with (first
    | (at_builtin; refine wp_row rfl (.tmp 91) (.tmp 92) rfl _ _ rfl w8 he b3 c3 (m0 + T) _ (r3.later ((Below.refl _ _).alloc (Nat.le_refl _) _)) (by have := HL0.out; have := HT.out; rw [List.length_append]; omega) rfl (by have := HL0.out; have := HT.out; simp; omega) ?_; intro v10 w10 o10)
    | (at_builtin; refine wp_row rfl (.tmp 93) (.tmp 94) rfl _ _ rfl w8 o10 a1 cap1 m1 l1 ((hr1.later t8).later o10.below) HL1.out rfl (by have := HL0.out; have := HL1.out; have := HT.out; simp; omega) ?_; intro v11 w11 o11; obtain ⟨b11, c11, rfl, r11⟩ := o11.row_n (n := m0 + T + m1) (by have := HL0.out; have := HL1.out; have := HT.out; simp; omega)))
  have t11 := t8.trans (o11.below.mono t8.size)
  have r2' := r2.later o11.below
  have r3' := r3.later o11.below
  clear he o10 o11 r2 r3
  rw [List.nil_append] at r11
  refine (gettext_any b11 (m0 + T + m1) c11 _ m0 _ w11 r11 (by have := HL0.out; have := HL1.out; have := HT.out; simp; omega) (by omega) (by omega) (by omega)).mono ?_
  rintro e w12 ⟨rfl, rfl⟩
  have g3 : GotT (gtA (l0 ++ textL S ++ l1) m0 s.size) = .tuple #[.string s, .int .i64 ((m0 : Int) + T), .bool true] := by
    have := get_text l0 l1 S (by have := HS2.out; omega)
    rw [HL0.out, HT.out, HS2.out] at this
    rw [this, ← HS.out]
    simp [GotT]
  rw [g3]
  clear g3 r11
  have hc2 : m0 + V ≤ c2 := by have := r2'.1; have := HL0.out; have := HV.out; simp at *; omega
  obtain ⟨bb, off, rfl, hc⟩ := r2'.at (by have := HV.out; simp; omega)
  clear hc
  have r2c := r2'.take (m0 + V - 1)
  clear r2'
  go_wp2_with fail
  refine (getvar_any (some ⟨bb, off, none⟩) (m0 + V - 1) c2 _ m0 w11 r2c (by have := HL0.out; have := HV.out; simp; omega) (by omega) (by omega) (by omega)).mono ?_
  rintro e w13 ⟨rfl, rfl⟩
  have g4 : getVA ((l0 ++ varL k).take (m0 + V - 1)) m0 = (0, 0, false) := by
    have := get_cut l0 k
    rw [HL0.out, HV.out] at this
    exact getVA_none this
  rw [g4]
  clear g4 r2c
  simp only [Got3]
  go_wp2_with fail
  refine (gettext_any b3 (m0 + T) c3 _ m0 _ w11 r3' (by have := HL0.out; have := HT.out; simp; omega) (by omega) (by omega) (by omega)).mono ?_
  rintro e w14 ⟨rfl, rfl⟩
  have g5 : gtA (l0 ++ textL S) m0 ((s.size : Int) - 1) = none := by
    have := get_long l0 S (by have := HS2.out; omega)
    rw [HL0.out, HS2.out] at this
    exact this
  rw [g5]
  clear g5 r3'
  simp only [GotT]
  go_wp2_with fail
  refine (mask_any _ w11).mono ?_
  rintro e w15 ⟨rfl, rfl⟩
  have hm := mask_and n W hn hW8
  go_wp2_with fail
  refine (known_any w11).mono ?_
  rintro e w16 ⟨rfl, hb⟩
  go_wp2
  go_ret
  exact ⟨rfl, t11.trans (hb.mono t11.size)⟩

theorem bitsBack_walk (a0 : Option Addr) (cap0 : Nat) (l0 : List UInt8) (a1 : Option Addr) (cap1 : Nat) (l1 : List UInt8) (n W k : Int) (s : ByteArray) (w : World) (hr0 : Row w a0 cap0 l0) (hr1 : Row w a1 cap1 l1)
    (w2 : (Lit.int .u64 n).wf = true) (w3 : (Lit.int .i64 W).wf = true) (w4 : (Lit.int .i64 k).wf = true) (w5 : s.size ≤ maxLen) :
    Calls Try.prog 5 #[.slice a0 l0.length cap0, .slice a1 l1.length cap1, .int .u64 n, .int .i64 W, .int .i64 k, .string s] w fun e w' => e = .returned (.bool true) ∧ Below w.heap.size w w' := by
  obtain ⟨n, rfl, hn⟩ := wf_u64b w2
  have hW := wf_i64b w3
  have hk := wf_i64b w4
  by_cases hb : 100 < l0.length ∨ 100 < l1.length ∨ 200 < s.size ∨ W < 1 ∨ 8 < W ∨ k < 0
  · exact back_known a0 a1 _ cap0 _ cap1 n W k s w hb
  · obtain ⟨W, rfl⟩ := Int.eq_ofNat_of_zero_le (show 0 ≤ W by omega)
    obtain ⟨k, rfl⟩ := Int.eq_ofNat_of_zero_le (show 0 ≤ k by omega)
    exact back_walk a0 a1 _ cap0 _ cap1 l0 l1 n W k s w hr0 hr1 rfl rfl hn (by omega) (by omega) (by omega) (by omega) (by omega) (by omega)
end Go.Proofs.Ytdijlglbhddcaaa
