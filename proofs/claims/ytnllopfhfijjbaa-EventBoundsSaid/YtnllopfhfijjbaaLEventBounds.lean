/- The law 'EventBounds', walked. -/
import Derived.Test.YtnllopfhfijjbaaEvO
namespace Go.Proofs.Ytnllopfhfijjbaa
open Go.RowKit
set_option linter.unusedVariables false
set_option linter.unusedSimpArgs false

theorem and63 (n : Int) : ∃ q : Nat, bits .and .i64 n 63 = q ∧ q < 64 := by
  have e : (BitVec.ofInt 64 n &&& BitVec.ofInt 64 63).toNat < 64 := by
    rw [BitVec.toNat_and]
    exact Nat.lt_of_le_of_lt Nat.and_le_right (by decide)
  refine ⟨(BitVec.ofInt 64 n &&& BitVec.ofInt 64 63).toNat, ?_, e⟩
  show IntKind.i64.wrap (((BitVec.ofInt 64 n &&& BitVec.ofInt 64 63).toNat : Nat) : Int) = _
  exact i64_small _ (by omega)
/-- Right of an event of bytes that are nought. -/
theorem right_at (k o m : Int) (a : Option Addr) (n c : Nat) (w : World) (hr : Row w a c (List.replicate n 0)) (hn2 : n ≤ 100) (B : Bool) (hB : (Ev.mk k o m (List.replicate n 0) []).right = B) :
    Calls Try.prog 16 #[.agg #[.int .i64 k, .int .i64 o, .int .i64 m, .slice a n c, .string ⟨#[]⟩]] w fun e w' => e = .returned (.bool B) ∧ Below w.heap.size w w' := by
  have h := eright_any o m a n c (List.replicate n 0) ⟨#[]⟩ w k hr (by simp) (by decide)
  rw [show (⟨#[]⟩ : ByteArray).data.toList = [] from rfl, hB] at h
  exact h
theorem run_zeros (w : World) (n : Nat) (hn : n ≤ 1000) : ∃ w', (Instr.makeSlice 22 (.int .i64 (n : Int)) (.int .i64 (n : Int))).run Try.prog w = .ok (.slice (some ⟨w.heap.size, 0, none⟩) n n) w' ∧
    Row w' (some ⟨w.heap.size, 0, none⟩) n (List.replicate n 0) ∧ Below w.heap.size w w' := by
  obtain ⟨i0, hi, hz0, hz1, hz2⟩ := info_parts info_u8
  obtain ⟨w', h1, h2, h3⟩ := run_make_full (P := Try.prog) w w.heap.size 22 5 i0 (.int .u8 0) 1 Try.underlying22 hi hz0 hz1 .i64 .i64 n (by rw [hz2]; omega) (by unfold maxLen; omega) (Nat.le_refl _)
  have e : (madeCells (Value.int IntKind.u8 0).cells (n * 1)).toList = (List.replicate n (0 : UInt8)).map B8 := by
    rw [show (Value.int IntKind.u8 0).cells = #[.int .u8 0] from rfl, toList_madeCells_one, List.map_replicate, Nat.mul_one]; rfl
  rw [e] at h2
  have hb : Below w.heap.size w w' := (Below.refl _ _).grown h3 (Nat.le_refl _) (fun k hk => by cases hk)
  have o : Own w w' (.slice (some ⟨w.heap.size, 0, none⟩) n n) (List.replicate n 0) := ⟨by rw [List.length_replicate]; exact h2, hb⟩
  obtain ⟨aa, cc, hv, r⟩ := o.row_n (n := n) (by simp)
  cases hv
  exact ⟨w', h1, r, hb⟩
set_option maxRecDepth 100000 in
set_option maxHeartbeats 3200000 in
theorem eventBounds_walk (a0 : Int) (a1 : Bool) (w : World) (w0 : (Lit.int .i64 a0).wf = true) :
    Calls Try.prog 7 #[.int .i64 a0, .bool a1] w fun x w' => x = .returned (.bool true) ∧ Below w.heap.size w w' := by
  obtain ⟨N, hN, hN2⟩ := and63 a0
  obtain ⟨W, hW⟩ : ∃ W, (decide (0 < N) && !a1) = W := ⟨_, rfl⟩
  obtain ⟨off, ho⟩ : ∃ off : Int, off = 512 - N + (if a1 then 1 else 0) := ⟨_, rfl⟩
  have b1 : Hid ((Ev.mk 1 off 0 (List.replicate N 0) []).right = W) := Lib.hid (by
    rw [right_w, ← hW, ho, Bool.eq_iff_iff]; cases a1 <;> simp [withinM_iff] <;> omega)
  have b3 : Hid ((Ev.mk 3 off N (List.replicate 0 0) []).right = W) := Lib.hid (by
    rw [right_d (by omega), ← hW, ho, Bool.eq_iff_iff]; cases a1 <;> simp [withinM_iff] <;> omega)
  have b2 : Hid ((Ev.mk 2 off N (List.replicate 0 0) []).right = W) := Lib.hid (by
    rw [right_d (by omega), ← hW, ho, Bool.eq_iff_iff]; cases a1 <;> simp [withinM_iff] <;> omega)
  have d1 : Hid ((Ev.mk 1 0 0 (List.replicate 64 0) []).right = true) := Lib.hid (by rw [right_w, Bool.eq_iff_iff]; simp [withinM_iff])
  have d2 : Hid ((Ev.mk 1 0 0 (List.replicate 65 0) []).right = false) := Lib.hid (by rw [right_w, Bool.eq_iff_iff]; simp [withinM_iff])
  have e1 : Hid ((Ev.mk 4 0 512 (List.replicate 0 0) []).right = true) := Lib.hid (by rw [right_r]; simp)
  have e2 : Hid ((Ev.mk 4 0 513 (List.replicate 0 0) []).right = false) := Lib.hid (by rw [right_r]; simp)
  clear w0
  rcases (show N < 1 ∨ 0 < N by omega) with h0 | h0
  all_goals
    first
    | rw [show decide (0 < N) = false by simp; omega] at hW
    | rw [show decide (0 < N) = true by simp; omega] at hW
  all_goals
    cases a1
  all_goals
    simp only [Bool.false_eq_true, if_false, if_true, Int.add_zero] at ho
    subst ho
    subst hW
    simp only [Bool.not_false, Bool.not_true, Bool.and_true, Bool.and_false] at b1 b2 b3
    go_enter Try.func7, Try.ntmps7
    go_wp2_with (at_make; refine wp_zeros rfl _ _ rfl w (Below.refl _ _) _ _ _ _ N rfl rfl rfl rfl (by omega) ?_; intro w1 o1 hb1)
    obtain ⟨aa, cc, hv, r1⟩ := o1.row_n (n := N) (by simp)
    cases hv
    have HB1 := Lib.hid hb1
    clear o1 hb1
    refine (right_at 1 _ 0 _ N N _ r1 (by omega) _ b1.out).mono ?_
    rintro e w2 ⟨rfl, hb2⟩
    have HB2 := Lib.hid (HB1.out.trans (hb2.mono HB1.out.size))
    clear hb2
    go_wp2_with fail
    refine (right_at 3 _ _ none 0 0 w2 (Row.none _) (by omega) _ b3.out).mono ?_
    rintro e w3 ⟨rfl, hb3⟩
    have HB3 := Lib.hid (HB2.out.trans (hb3.mono HB2.out.size))
    clear hb3
    go_wp2_with fail
    refine (right_at 2 _ _ none 0 0 w3 (Row.none _) (by omega) _ b2.out).mono ?_
    rintro e w4 ⟨rfl, hb4⟩
    have HB4 := Lib.hid (HB3.out.trans (hb4.mono HB3.out.size))
    clear hb4
    obtain ⟨w5, hz5, r5, hb5⟩ := run_zeros w4 64 (by omega)
    have hz5 : (Instr.makeSlice 22 (.int .i64 64) (.int .i64 64)).run Try.prog w4 = .ok (.slice (some ⟨w4.heap.size, 0, none⟩) 64 64) w5 := hz5
    have HB5 := Lib.hid (HB4.out.trans (hb5.mono HB4.out.size))
    clear hb5
    go_wp2_with fail
    refine (right_at 1 0 0 _ 64 64 _ r5 (by omega) true d1.out).mono ?_
    rintro e w6 ⟨rfl, hb6⟩
    have HB6 := Lib.hid (HB5.out.trans (hb6.mono HB5.out.size))
    clear hb6
    obtain ⟨w7, hz7, r7, hb7⟩ := run_zeros w6 65 (by omega)
    have hz7 : (Instr.makeSlice 22 (.int .i64 65) (.int .i64 65)).run Try.prog w6 = .ok (.slice (some ⟨w6.heap.size, 0, none⟩) 65 65) w7 := hz7
    have HB7 := Lib.hid (HB6.out.trans (hb7.mono HB6.out.size))
    clear hb7 hz5
    go_wp2_with fail
    refine (right_at 1 0 0 _ 65 65 _ r7 (by omega) false d2.out).mono ?_
    rintro e w8 ⟨rfl, hb8⟩
    have HB8 := Lib.hid (HB7.out.trans (hb8.mono HB7.out.size))
    clear hb8
    clear hz7
    go_wp2_with fail
    refine (right_at 4 0 512 none 0 0 w8 (Row.none _) (by omega) true e1.out).mono ?_
    rintro e w9 ⟨rfl, hb9⟩
    have HB9 := Lib.hid (HB8.out.trans (hb9.mono HB8.out.size))
    clear hb9
    go_wp2_with fail
    refine (right_at 4 0 513 none 0 0 w9 (Row.none _) (by omega) false e2.out).mono ?_
    rintro e w10 ⟨rfl, hb10⟩
    have HB10 := Lib.hid (HB9.out.trans (hb10.mono HB9.out.size))
    clear hb10
    go_wp2_with (go_at_call 8; refine (known_any _).mono ?_; rintro e w11 ⟨rfl, hb11⟩)
    go_ret
    exact ⟨rfl, HB10.out.trans (hb11.mono HB10.out.size)⟩
end Go.Proofs.Ytnllopfhfijjbaa
