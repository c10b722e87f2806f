/- The law CrcJoins, walked. -/
import Derived.Test.YtbndfegepdefnaaCrcKnown
namespace Go.Proofs.Ytbndfegepdefnaa
open Go.RowKit
set_option linter.unusedVariables false

theorem join_row (l r : List UInt8) (n : Int) (h : r.length = n) (h2 : n ≤ 1048576) : joinB (crcL l) (crcL r) n = crcL (l ++ r) := by
  unfold joinB crcL
  rw [bv_append, join_eq, bv_len, show (min (max n 0) 1048576).toNat = r.length by omega]
theorem join_none (c : W32) : joinB c 0#32 0 = c := by
  unfold joinB; rw [BitVec.xor_zero]; rfl
theorem none_join (c : W32) (n : Int) : joinB 0#32 c n = c := by
  unfold joinB; rw [stepN_zero, BitVec.zero_xor]

set_option maxRecDepth 100000 in
set_option maxHeartbeats 1600000 in
theorem joins_known (a0 a1 a2 : Option Addr) (m0 cap0 m1 cap1 m2 cap2 : Nat) (w : World) (hb : 150 < m0 ∨ 150 < m1 ∨ 150 < m2) :
    Calls Try.prog 6 #[.slice a0 m0 cap0, .slice a1 m1 cap1, .slice a2 m2 cap2] w fun e w' => e = .returned (.bool true) ∧ Below w.heap.size w w' := by
  rcases (show 150 < m0 ∨ (m0 ≤ 150 ∧ 150 < m1) ∨ (m0 ≤ 150 ∧ m1 ≤ 150 ∧ 150 < m2) by omega) with h | h | h
  all_goals
    clear hb
    go_enter Try.func6, Try.ntmps6
    go_wp2_with fail
    refine (crc_known _).mono ?_
    rintro e w1 ⟨rfl, hb⟩
    go_wp2
    go_ret
    exact ⟨rfl, hb⟩

set_option maxRecDepth 100000 in
set_option maxHeartbeats 3200000 in
theorem joins_walk (a0 a1 a2 : Option Addr) (m0 cap0 m1 cap1 m2 cap2 : Nat) (l0 l1 l2 : List UInt8) (w : World) (hr0 : Row w a0 cap0 l0) (hr1 : Row w a1 cap1 l1) (hr2 : Row w a2 cap2 l2)
    (hl0 : l0.length = m0) (hl1 : l1.length = m1) (hl2 : l2.length = m2) (h0 : m0 ≤ 150) (h1 : m1 ≤ 150) (h2 : m2 ≤ 150) :
    Calls Try.prog 6 #[.slice a0 m0 cap0, .slice a1 m1 cap1, .slice a2 m2 cap2] w fun e w' => e = .returned (.bool true) ∧ Below w.heap.size w w' := by
  have J1 := Lib.hid (join_row l0 l1 m1 (by omega) (by omega))
  have J2 := Lib.hid (join_row l1 l2 m2 (by omega) (by omega))
  have J3 := Lib.hid (join_row (l0 ++ l1) l2 m2 (by omega) (by omega))
  have J4 : Hid (joinB (crcL l0) (crcL (l1 ++ l2)) ((m1 : Int) + m2) = crcL (l0 ++ l1 ++ l2)) := by
    rw [List.append_assoc]; exact Lib.hid (join_row l0 (l1 ++ l2) _ (by simp; omega) (by omega))
  have HL0 := Lib.hid hl0
  have HL1 := Lib.hid hl1
  have HL2 := Lib.hid hl2
  clear hl0 hl1 hl2
  have he := own_empty (Below.refl w.heap.size w)
  go_enter Try.func6, Try.ntmps6
  go_wp2_with (first
    | (at_builtin; refine wp_row rfl (.tmp 25) (.tmp 26) rfl _ _ rfl w he a0 cap0 m0 l0 (hr0.later ((Below.refl _ _).alloc (Nat.le_refl _) _)) HL0.out rfl (by have := HL0.out; simp; omega) ?_; intro v1 w1 o1)
    | (at_builtin; refine wp_row rfl (.tmp 27) (.tmp 28) rfl _ _ rfl w o1 a1 cap1 m1 l1 (hr1.later o1.below) HL1.out rfl (by have := HL0.out; have := HL1.out; simp; omega) ?_; intro v2 w2 o2
       rw [List.nil_append] at o2
       obtain ⟨b2, c2, rfl, r2⟩ := o2.row_n (n := m0 + m1) (by have := HL0.out; have := HL1.out; simp; omega)
       have t2 := o2.below
       clear he o1 o2
       have he := own_empty (Below.refl w2.heap.size w2))
    | (at_builtin; refine wp_row rfl (.tmp 30) (.tmp 31) rfl _ _ rfl w2 he b2 c2 (m0 + m1) (l0 ++ l1) (r2.later ((Below.refl _ _).alloc (Nat.le_refl _) _)) (by have := HL0.out; have := HL1.out; simp; omega) rfl (by have := HL0.out; have := HL1.out; simp; omega) ?_; intro v3 w3 o3)
    | (at_builtin; refine wp_row rfl (.tmp 32) (.tmp 33) rfl _ _ rfl w2 o3 a2 cap2 m2 l2 ((hr2.later t2).later o3.below) HL2.out rfl (by have := HL0.out; have := HL1.out; have := HL2.out; simp; omega) ?_; intro v4 w4 o4
       rw [List.nil_append] at o4
       obtain ⟨b4, c4, rfl, r4⟩ := o4.row_n (n := m0 + m1 + m2) (by have := HL0.out; have := HL1.out; have := HL2.out; simp; omega)
       have t4 := t2.trans (o4.below.mono t2.size)
       have r2' := r2.later o4.below
       clear he o3 o4 r2))
  have s0 := hr0.later t4
  have s1 := hr1.later t4
  have s2 := hr2.later t4
  clear hr0 hr1 hr2 t2
  -- x
  refine (of_any a0 m0 cap0 l0 w4 s0 HL0.out (by omega)).mono ?_
  rintro e w5 ⟨rfl, rfl⟩
  go_wp2_with fail
  refine (of_any a1 m1 cap1 l1 w4 s1 HL1.out (by omega)).mono ?_
  rintro e w5 ⟨rfl, rfl⟩
  go_wp2_with fail
  refine (join_any (crcL l0) (crcL l1) m1 w4 (by omega) (by omega)).mono ?_
  rw [J1.out]
  rintro e w5 ⟨rfl, rfl⟩
  -- y
  go_wp2_with fail
  refine (of_any a1 m1 cap1 l1 w4 s1 HL1.out (by omega)).mono ?_
  rintro e w5 ⟨rfl, rfl⟩
  go_wp2_with fail
  refine (of_any a2 m2 cap2 l2 w4 s2 HL2.out (by omega)).mono ?_
  rintro e w5 ⟨rfl, rfl⟩
  go_wp2_with fail
  refine (join_any (crcL l1) (crcL l2) m2 w4 (by omega) (by omega)).mono ?_
  rw [J2.out]
  rintro e w5 ⟨rfl, rfl⟩
  -- x == Of(ab)
  go_wp2_with fail
  refine (of_any b2 (m0 + m1) c2 (l0 ++ l1) w4 r2' (by have := HL0.out; have := HL1.out; simp; omega) (by omega)).mono ?_
  rintro e w5 ⟨rfl, rfl⟩
  go_wp2_with fail
  refine (of_any a2 m2 cap2 l2 w4 s2 HL2.out (by omega)).mono ?_
  rintro e w5 ⟨rfl, rfl⟩
  go_wp2_with fail
  refine (join_any (crcL (l0 ++ l1)) (crcL l2) m2 w4 (by omega) (by omega)).mono ?_
  rw [J3.out]
  rintro e w5 ⟨rfl, rfl⟩
  go_wp2_with fail
  refine (of_any b4 (m0 + m1 + m2) c4 (l0 ++ l1 ++ l2) w4 r4 (by have := HL0.out; have := HL1.out; have := HL2.out; simp; omega) (by omega)).mono ?_
  rintro e w5 ⟨rfl, rfl⟩
  go_wp2_with fail
  refine (of_any a0 m0 cap0 l0 w4 s0 HL0.out (by omega)).mono ?_
  rintro e w5 ⟨rfl, rfl⟩
  go_wp2_with fail
  refine (join_any (crcL l0) (crcL (l1 ++ l2)) ((m1 : Int) + m2) w4 (by omega) (by omega)).mono ?_
  rw [J4.out]
  rintro e w5 ⟨rfl, rfl⟩
  go_wp2_with fail
  refine (of_any b4 (m0 + m1 + m2) c4 (l0 ++ l1 ++ l2) w4 r4 (by have := HL0.out; have := HL1.out; have := HL2.out; simp; omega) (by omega)).mono ?_
  rintro e w5 ⟨rfl, rfl⟩
  go_wp2_with fail
  refine (of_any a0 m0 cap0 l0 w4 s0 HL0.out (by omega)).mono ?_
  rintro e w5 ⟨rfl, rfl⟩
  go_wp2_with fail
  refine (join_any (crcL l0) 0#32 0 w4 (by omega) (by omega)).mono ?_
  rw [join_none]
  rintro e w5 ⟨rfl, rfl⟩
  go_wp2_with fail
  refine (of_any a0 m0 cap0 l0 w4 s0 HL0.out (by omega)).mono ?_
  rintro e w5 ⟨rfl, rfl⟩
  go_wp2_with fail
  refine (of_any a0 m0 cap0 l0 w4 s0 HL0.out (by omega)).mono ?_
  rintro e w5 ⟨rfl, rfl⟩
  go_wp2_with fail
  refine (join_any 0#32 (crcL l0) m0 w4 (by omega) (by omega)).mono ?_
  rw [none_join]
  rintro e w5 ⟨rfl, rfl⟩
  go_wp2_with fail
  refine (of_any a0 m0 cap0 l0 w4 s0 HL0.out (by omega)).mono ?_
  rintro e w5 ⟨rfl, rfl⟩
  go_wp2_with fail
  refine (crc_known _).mono ?_
  rintro e w5 ⟨rfl, hb⟩
  go_wp2
  go_ret
  exact ⟨rfl, t4.trans (hb.mono t4.size)⟩

theorem crcJoins_walk (a0 : Option Addr) (cap0 : Nat) (l0 : List UInt8) (a1 : Option Addr) (cap1 : Nat) (l1 : List UInt8) (a2 : Option Addr) (cap2 : Nat) (l2 : List UInt8) (w : World) (hr0 : Row w a0 cap0 l0) (hr1 : Row w a1 cap1 l1) (hr2 : Row w a2 cap2 l2) :
    Calls Try.prog 6 #[.slice a0 l0.length cap0, .slice a1 l1.length cap1, .slice a2 l2.length cap2] w fun e w' => e = .returned (.bool true) ∧ Below w.heap.size w w' := by
  by_cases hb : 150 < l0.length ∨ 150 < l1.length ∨ 150 < l2.length
  · exact joins_known a0 a1 a2 _ cap0 _ cap1 _ cap2 w hb
  · exact joins_walk a0 a1 a2 _ cap0 _ cap1 _ cap2 l0 l1 l2 w hr0 hr1 hr2 rfl rfl rfl (by omega) (by omega) (by omega)
end Go.Proofs.Ytbndfegepdefnaa
