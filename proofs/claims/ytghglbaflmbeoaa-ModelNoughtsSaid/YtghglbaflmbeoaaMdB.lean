/- Images: the document's own New, Check, Read. -/
import Derived.Test.YtghglbaflmbeoaaMdA
namespace Go.Proofs.Ytghglbaflmbeoaa
open Go.RowKit Go.Proofs
set_option linter.unusedVariables false
set_option linter.unusedSimpArgs false
set_option linter.unnecessarySimpa false

abbrev zeroSt : Array Value := #[.slice none 0 0, .slice none 0 0]
theorem info_st : (Try.prog.info? 28).map (·.size) = some 2 := by kernel_rfl
theorem heldM_eq (n : Int) : min (max n 0) 512 = ((heldM n : Nat) : Int) := by unfold heldM; omega
theorem heldM_le (n : Int) : heldM n ≤ 512 := by unfold heldM; omega
set_option maxRecDepth 20000 in
set_option maxHeartbeats 3200000 in
theorem rnew14_any (size : Int) (J : Nat → Prop) (w : World) (hJ : NewJ J w) :
    Calls Try.prog 13 #[.int .i64 size] w fun e w' => ∃ d v, e = .returned (.agg #[d, v]) ∧ StA J w' d v (newM size) ∧ Below w.heap.size w w' := by
  have HB0 := Lib.hid ((Below.refl w.heap.size w).alloc (Nat.le_refl _) (.cells zeroSt 28))
  have HX0 := Lib.hid (RecAt.new w zeroSt 28)
  obtain ⟨w1, hw1⟩ : ∃ W, w.alloc (.cells zeroSt 28) = W := ⟨_, rfl⟩
  rw [hw1] at HX0 HB0
  have HHE := Lib.hid (fun W => rheld_any size 0 512 (by omega) W)
  rw [heldM_eq] at HHE
  have hH5 := heldM_le size
  have HNEW : Hid (newM size = ⟨List.replicate (heldM size) 0, []⟩) := Lib.hid rfl
  obtain ⟨H, hH⟩ : ∃ H, heldM size = H := ⟨_, rfl⟩
  rw [hH] at HHE hH5 HNEW
  clear hH
  have HJ := Lib.hid hJ
  clear hJ
  go_enter Try.func13, Try.ntmps13
  go_upto_region 1 with fail
  try rw [hw1]
  clear hw1
  obtain ⟨X, hX⟩ : ∃ X, w.heap.size = X := ⟨_, rfl⟩
  rw [hX] at HX0 ⊢
  have HXS := Lib.hid hX
  clear hX
  go_wp2_with fail
  refine (HHE.out w1).mono ?_
  rintro e w2 ⟨rfl, rfl⟩
  go_wp2_with (first | (refine wp_zeros rfl _ _ rfl w1 (Below.refl _ _) .i64 .i64 H H H rfl rfl rfl rfl (by omega) ?_; intro w3 o3 b3) | (refine wpList_rec rfl rfl X zeroSt #[.slice (some ⟨w1.heap.size, 0, none⟩) H H, .slice none 0 0] rfl rfl (HX0.out.later b3) rfl (by kernel_rfl) (by kernel_rfl) ?_; intro w4 r1 r2 r3 r4))
  refine bodyPost_ret (results_c rfl rfl r1 Try.underlying28 rfl (by kernel_rfl)) rfl ?_
  have hb3 : Below w.heap.size w w3 := HB0.out.trans (b3.mono HB0.out.size)
  have hX1 := HXS.out
  refine ⟨_, _, rfl, ?_, hb3.grown r4 hb3.size (fun q e => by cases e; exact Nat.le_of_eq HXS.out)⟩
  rw [HNEW.out]
  have hq : BQ (newB w1) w3 (.slice (some ⟨w1.heap.size, 0, none⟩) H H) (List.replicate H 0) := BQ.own o3 (fun b h => h)
  have hX2 := HX0.out.lt
  refine ⟨(hq.keep (fun b hb hj => r3 b (fun e => ?_)) (Nat.le_of_eq r2.symm)).weak fun b _ hj => HJ.out b ?_, QRow.nil _ _⟩
  · subst e; unfold newB at hj; omega
  · have := HB0.out.size; unfold newB at hj; omega

/-! ### Check -/
theorem check_no {s : Sx} {e : Ev} (h : e.right = false) : checkM s e = 1 := by unfold checkM; rw [if_pos h]
theorem check_plain {s : Sx} {e : Ev} (h : e.right = true) (hk : e.kind = 1 ∨ e.kind = 2 ∨ e.kind = 3) : checkM s e = if (s.data.length : Int) < (spanA e).1 + (spanA e).2 then 3 else 0 := by unfold checkM; rw [if_neg (by rw [h]; simp), if_pos hk]
theorem check_snap {s : Sx} {e : Ev} (h : e.right = true) (hk : e.kind = 5) : checkM s e = if 0 ≤ findO s.snaps e.name then 5 else if 8 ≤ s.snaps.length then 6 else 0 := by
  unfold checkM; rw [if_neg (by rw [h]; simp), if_neg (by omega), if_pos hk, findO_isSome]; simp
theorem check_name {s : Sx} {e : Ev} (h : e.right = true) (hk : e.kind = 6 ∨ e.kind = 7) : checkM s e = if 0 ≤ findO s.snaps e.name then 0 else 4 := by
  unfold checkM; rw [if_neg (by rw [h]; simp), if_neg (by omega), if_neg (by omega), if_pos hk, findO_isSome]; simp
theorem check_rest {s : Sx} {e : Ev} (h : e.right = true) (hk : e.kind = 4 ∨ e.kind = 8) : checkM s e = 0 := by
  unfold checkM; rw [if_neg (by rw [h]; simp), if_neg (by omega), if_neg (by omega), if_neg (by omega)]
theorem span_le {e : Ev} (h : e.right = true) (hk : e.kind = 1 ∨ e.kind = 2 ∨ e.kind = 3) : 0 ≤ (spanA e).1 ∧ (spanA e).1 ≤ 512 ∧ 0 ≤ (spanA e).2 ∧ (spanA e).2 ≤ 512 := by
  have hR := right_iff.1 h
  rcases hk with hk | hk
  · rw [span_1 h hk]
    rcases hR with r | r | r | r | r <;> first | omega | (have := within_iff.1 r.2.2.1; simp only; omega)
  · rw [span_2 h hk]
    rcases hR with r | r | r | r | r <;> first | omega | (have := within_iff.1 r.2.2.1; simp only; omega)
section
variable (d v : Value) (s : Sx) (o m : Int) (a : Option Addr) (n c : Nat) (l : List UInt8) (T : ByteArray) (J : Nat → Prop) (w : World)
set_option maxRecDepth 20000 in
set_option maxHeartbeats 3200000 in
theorem rcheck14_p1 (h : StA J w d v s) (hr : Row w a c l) (hn : l.length = n) (hT : T.size ≤ 9223372036854775807) :
    Calls Try.prog 15 #[.agg #[d, v], .agg #[.int .i64 1, .int .i64 o, .int .i64 m, .slice a n c, .string T]] w fun e w' => e = .returned (.int .i64 (checkM s ⟨1, o, m, l, T.data.toList⟩)) ∧ Below w.heap.size w w' := by
  obtain ⟨a1, c1, a2, c2, rfl, rfl, rd, rs⟩ := h.open
  obtain ⟨CK, hCK⟩ : ∃ z, checkM s ⟨1, o, m, l, T.data.toList⟩ = z := ⟨_, rfl⟩
  rw [hCK]
  have HCK := Lib.hid hCK
  clear hCK
  obtain ⟨X2, X3, B3⟩ := two_recsS w #[.slice a1 s.data.length c1, .slice a2 s.snaps.length c2] #[.int .i64 1, .int .i64 o, .int .i64 m, .slice a n c, .string T] 28 33
  obtain ⟨w1, hw1⟩ : ∃ W, ((w.alloc (.cells #[.slice a1 s.data.length c1, .slice a2 s.snaps.length c2] 28)).alloc (.cells #[.int .i64 1, .int .i64 o, .int .i64 m, .slice a n c, .string T] 33)) = W := ⟨_, rfl⟩
  rw [hw1] at X2 X3 B3
  obtain ⟨nd, hnd⟩ : ∃ z, s.data.length = z := ⟨_, rfl⟩
  obtain ⟨ns, hns⟩ : ∃ z, s.snaps.length = z := ⟨_, rfl⟩
  rw [hnd] at X2 hw1 ⊢
  rw [hns] at X2 hw1 rs ⊢
  have HX2 := Lib.hid X2
  have HX3 := Lib.hid X3
  have HB3 := Lib.hid B3
  have HRS := Lib.hid (rs.later od_rel B3)
  have hndc : nd ≤ 9223372036854775807 := by have := rd.1; have := rd.2.1; unfold maxLen at this; omega
  have hnsc : ns ≤ 9223372036854775807 := by obtain ⟨_, h1, h2, _⟩ := rs.cap; unfold maxLen at h2; omega
  have HRE := Lib.hid (evrright_any o m a n c l T w1 1 (hr.later B3) hn hT)
  have HSP := Lib.hid (fun W (hb : Below w1.heap.size w1 W) => rspan_any 1 o m a n c l T W ((hr.later B3).later hb) hn hT)
  clear X2 X3 B3 rd rs hr hn h
  obtain ⟨x0, x1⟩ := HX2.out.c2
  obtain ⟨y0, y1, y2, y3, y4⟩ := HX3.out.c5
  go_enter Try.func15, Try.ntmps15
  go_upto_region 1 with fail
  try rw [hw1]
  clear hw1
  obtain ⟨X, hX⟩ : ∃ X, w.heap.size = X := ⟨_, rfl⟩
  simp only [hX] at HX2 HX3 x0 x1 y0 y1 y2 y3 y4 ⊢
  have HXS := Lib.hid hX
  clear hX
  go_wp2_with fail
  refine HRE.out.mono ?_
  rintro e w2 ⟨rfl, b2⟩
  have HB2 := Lib.hid (HB3.out.trans (b2.mono HB3.out.size))
  have HX22 := Lib.hid (HX2.out.later b2)
  have HX32 := Lib.hid (HX3.out.later b2)
  have HR2 := Lib.hid (HRS.out.later od_rel b2)
  have HSP2 := Lib.hid (HSP.out w2 b2)
  clear b2 x0 x1 y0 y1 y2 y3 y4 HSP HRE HRS
  obtain ⟨x0, x1⟩ := HX22.out.c2
  obtain ⟨y0, y1, y2, y3, y4⟩ := HX32.out.c5
  cases hR : Ev.right ⟨1, o, m, l, T.data.toList⟩ with
  | false =>
    have HF := Lib.hid (HCK.out.symm.trans (check_no hR))
    clear hR
    go_wp2_with fail
    go_ret
    rw [HF.out]
    exact ⟨rfl, HB2.out⟩
  | true =>
    have hs := span_le hR (by simp)
    have HF := Lib.hid (HCK.out.symm.trans (check_plain hR (by simp)))
    rw [hnd] at HF
    obtain ⟨p, hp⟩ : ∃ z, (spanA ⟨1, o, m, l, T.data.toList⟩).1 = z := ⟨_, rfl⟩
    obtain ⟨q, hq⟩ : ∃ z, (spanA ⟨1, o, m, l, T.data.toList⟩).2 = z := ⟨_, rfl⟩
    rw [hp, hq] at HSP2 hs HF
    have hw : wrap64 (p + q) = p + q := IntWalk.wrap64_in _ (by omega)
    clear hR hp hq
    go_wp2_with fail
    refine HSP2.out.mono ?_
    rintro e w3 ⟨rfl, b3⟩
    have HB4 := Lib.hid (HB2.out.trans (b3.mono HB2.out.size))
    obtain ⟨z0, z1⟩ := (HX22.out.later b3).c2
    clear b3 x0 x1 y0 y1 y2 y3 y4
    by_cases hlt : (nd : Int) < p + q
    · rw [if_pos hlt] at HF
      go_wp2_with fail
      go_ret
      rw [HF.out]
      exact ⟨rfl, HB4.out⟩
    · rw [if_neg hlt] at HF
      go_wp2_with fail
      go_ret
      rw [HF.out]
      exact ⟨rfl, HB4.out⟩
set_option maxRecDepth 20000 in
set_option maxHeartbeats 3200000 in
theorem rcheck14_p2 (h : StA J w d v s) (hr : Row w a c l) (hn : l.length = n) (hT : T.size ≤ 9223372036854775807) :
    Calls Try.prog 15 #[.agg #[d, v], .agg #[.int .i64 2, .int .i64 o, .int .i64 m, .slice a n c, .string T]] w fun e w' => e = .returned (.int .i64 (checkM s ⟨2, o, m, l, T.data.toList⟩)) ∧ Below w.heap.size w w' := by
  obtain ⟨a1, c1, a2, c2, rfl, rfl, rd, rs⟩ := h.open
  obtain ⟨CK, hCK⟩ : ∃ z, checkM s ⟨2, o, m, l, T.data.toList⟩ = z := ⟨_, rfl⟩
  rw [hCK]
  have HCK := Lib.hid hCK
  clear hCK
  obtain ⟨X2, X3, B3⟩ := two_recsS w #[.slice a1 s.data.length c1, .slice a2 s.snaps.length c2] #[.int .i64 2, .int .i64 o, .int .i64 m, .slice a n c, .string T] 28 33
  obtain ⟨w1, hw1⟩ : ∃ W, ((w.alloc (.cells #[.slice a1 s.data.length c1, .slice a2 s.snaps.length c2] 28)).alloc (.cells #[.int .i64 2, .int .i64 o, .int .i64 m, .slice a n c, .string T] 33)) = W := ⟨_, rfl⟩
  rw [hw1] at X2 X3 B3
  obtain ⟨nd, hnd⟩ : ∃ z, s.data.length = z := ⟨_, rfl⟩
  obtain ⟨ns, hns⟩ : ∃ z, s.snaps.length = z := ⟨_, rfl⟩
  rw [hnd] at X2 hw1 ⊢
  rw [hns] at X2 hw1 rs ⊢
  have HX2 := Lib.hid X2
  have HX3 := Lib.hid X3
  have HB3 := Lib.hid B3
  have HRS := Lib.hid (rs.later od_rel B3)
  have hndc : nd ≤ 9223372036854775807 := by have := rd.1; have := rd.2.1; unfold maxLen at this; omega
  have hnsc : ns ≤ 9223372036854775807 := by obtain ⟨_, h1, h2, _⟩ := rs.cap; unfold maxLen at h2; omega
  have HRE := Lib.hid (evrright_any o m a n c l T w1 2 (hr.later B3) hn hT)
  have HSP := Lib.hid (fun W (hb : Below w1.heap.size w1 W) => rspan_any 2 o m a n c l T W ((hr.later B3).later hb) hn hT)
  clear X2 X3 B3 rd rs hr hn h
  obtain ⟨x0, x1⟩ := HX2.out.c2
  obtain ⟨y0, y1, y2, y3, y4⟩ := HX3.out.c5
  go_enter Try.func15, Try.ntmps15
  go_upto_region 1 with fail
  try rw [hw1]
  clear hw1
  obtain ⟨X, hX⟩ : ∃ X, w.heap.size = X := ⟨_, rfl⟩
  simp only [hX] at HX2 HX3 x0 x1 y0 y1 y2 y3 y4 ⊢
  have HXS := Lib.hid hX
  clear hX
  go_wp2_with fail
  refine HRE.out.mono ?_
  rintro e w2 ⟨rfl, b2⟩
  have HB2 := Lib.hid (HB3.out.trans (b2.mono HB3.out.size))
  have HX22 := Lib.hid (HX2.out.later b2)
  have HX32 := Lib.hid (HX3.out.later b2)
  have HR2 := Lib.hid (HRS.out.later od_rel b2)
  have HSP2 := Lib.hid (HSP.out w2 b2)
  clear b2 x0 x1 y0 y1 y2 y3 y4 HSP HRE HRS
  obtain ⟨x0, x1⟩ := HX22.out.c2
  obtain ⟨y0, y1, y2, y3, y4⟩ := HX32.out.c5
  cases hR : Ev.right ⟨2, o, m, l, T.data.toList⟩ with
  | false =>
    have HF := Lib.hid (HCK.out.symm.trans (check_no hR))
    clear hR
    go_wp2_with fail
    go_ret
    rw [HF.out]
    exact ⟨rfl, HB2.out⟩
  | true =>
    have hs := span_le hR (by simp)
    have HF := Lib.hid (HCK.out.symm.trans (check_plain hR (by simp)))
    rw [hnd] at HF
    obtain ⟨p, hp⟩ : ∃ z, (spanA ⟨2, o, m, l, T.data.toList⟩).1 = z := ⟨_, rfl⟩
    obtain ⟨q, hq⟩ : ∃ z, (spanA ⟨2, o, m, l, T.data.toList⟩).2 = z := ⟨_, rfl⟩
    rw [hp, hq] at HSP2 hs HF
    have hw : wrap64 (p + q) = p + q := IntWalk.wrap64_in _ (by omega)
    clear hR hp hq
    go_wp2_with fail
    refine HSP2.out.mono ?_
    rintro e w3 ⟨rfl, b3⟩
    have HB4 := Lib.hid (HB2.out.trans (b3.mono HB2.out.size))
    obtain ⟨z0, z1⟩ := (HX22.out.later b3).c2
    clear b3 x0 x1 y0 y1 y2 y3 y4
    by_cases hlt : (nd : Int) < p + q
    · rw [if_pos hlt] at HF
      go_wp2_with fail
      go_ret
      rw [HF.out]
      exact ⟨rfl, HB4.out⟩
    · rw [if_neg hlt] at HF
      go_wp2_with fail
      go_ret
      rw [HF.out]
      exact ⟨rfl, HB4.out⟩
set_option maxRecDepth 20000 in
set_option maxHeartbeats 3200000 in
theorem rcheck14_p3 (h : StA J w d v s) (hr : Row w a c l) (hn : l.length = n) (hT : T.size ≤ 9223372036854775807) :
    Calls Try.prog 15 #[.agg #[d, v], .agg #[.int .i64 3, .int .i64 o, .int .i64 m, .slice a n c, .string T]] w fun e w' => e = .returned (.int .i64 (checkM s ⟨3, o, m, l, T.data.toList⟩)) ∧ Below w.heap.size w w' := by
  obtain ⟨a1, c1, a2, c2, rfl, rfl, rd, rs⟩ := h.open
  obtain ⟨CK, hCK⟩ : ∃ z, checkM s ⟨3, o, m, l, T.data.toList⟩ = z := ⟨_, rfl⟩
  rw [hCK]
  have HCK := Lib.hid hCK
  clear hCK
  obtain ⟨X2, X3, B3⟩ := two_recsS w #[.slice a1 s.data.length c1, .slice a2 s.snaps.length c2] #[.int .i64 3, .int .i64 o, .int .i64 m, .slice a n c, .string T] 28 33
  obtain ⟨w1, hw1⟩ : ∃ W, ((w.alloc (.cells #[.slice a1 s.data.length c1, .slice a2 s.snaps.length c2] 28)).alloc (.cells #[.int .i64 3, .int .i64 o, .int .i64 m, .slice a n c, .string T] 33)) = W := ⟨_, rfl⟩
  rw [hw1] at X2 X3 B3
  obtain ⟨nd, hnd⟩ : ∃ z, s.data.length = z := ⟨_, rfl⟩
  obtain ⟨ns, hns⟩ : ∃ z, s.snaps.length = z := ⟨_, rfl⟩
  rw [hnd] at X2 hw1 ⊢
  rw [hns] at X2 hw1 rs ⊢
  have HX2 := Lib.hid X2
  have HX3 := Lib.hid X3
  have HB3 := Lib.hid B3
  have HRS := Lib.hid (rs.later od_rel B3)
  have hndc : nd ≤ 9223372036854775807 := by have := rd.1; have := rd.2.1; unfold maxLen at this; omega
  have hnsc : ns ≤ 9223372036854775807 := by obtain ⟨_, h1, h2, _⟩ := rs.cap; unfold maxLen at h2; omega
  have HRE := Lib.hid (evrright_any o m a n c l T w1 3 (hr.later B3) hn hT)
  have HSP := Lib.hid (fun W (hb : Below w1.heap.size w1 W) => rspan_any 3 o m a n c l T W ((hr.later B3).later hb) hn hT)
  clear X2 X3 B3 rd rs hr hn h
  obtain ⟨x0, x1⟩ := HX2.out.c2
  obtain ⟨y0, y1, y2, y3, y4⟩ := HX3.out.c5
  go_enter Try.func15, Try.ntmps15
  go_upto_region 1 with fail
  try rw [hw1]
  clear hw1
  obtain ⟨X, hX⟩ : ∃ X, w.heap.size = X := ⟨_, rfl⟩
  simp only [hX] at HX2 HX3 x0 x1 y0 y1 y2 y3 y4 ⊢
  have HXS := Lib.hid hX
  clear hX
  go_wp2_with fail
  refine HRE.out.mono ?_
  rintro e w2 ⟨rfl, b2⟩
  have HB2 := Lib.hid (HB3.out.trans (b2.mono HB3.out.size))
  have HX22 := Lib.hid (HX2.out.later b2)
  have HX32 := Lib.hid (HX3.out.later b2)
  have HR2 := Lib.hid (HRS.out.later od_rel b2)
  have HSP2 := Lib.hid (HSP.out w2 b2)
  clear b2 x0 x1 y0 y1 y2 y3 y4 HSP HRE HRS
  obtain ⟨x0, x1⟩ := HX22.out.c2
  obtain ⟨y0, y1, y2, y3, y4⟩ := HX32.out.c5
  cases hR : Ev.right ⟨3, o, m, l, T.data.toList⟩ with
  | false =>
    have HF := Lib.hid (HCK.out.symm.trans (check_no hR))
    clear hR
    go_wp2_with fail
    go_ret
    rw [HF.out]
    exact ⟨rfl, HB2.out⟩
  | true =>
    have hs := span_le hR (by simp)
    have HF := Lib.hid (HCK.out.symm.trans (check_plain hR (by simp)))
    rw [hnd] at HF
    obtain ⟨p, hp⟩ : ∃ z, (spanA ⟨3, o, m, l, T.data.toList⟩).1 = z := ⟨_, rfl⟩
    obtain ⟨q, hq⟩ : ∃ z, (spanA ⟨3, o, m, l, T.data.toList⟩).2 = z := ⟨_, rfl⟩
    rw [hp, hq] at HSP2 hs HF
    have hw : wrap64 (p + q) = p + q := IntWalk.wrap64_in _ (by omega)
    clear hR hp hq
    go_wp2_with fail
    refine HSP2.out.mono ?_
    rintro e w3 ⟨rfl, b3⟩
    have HB4 := Lib.hid (HB2.out.trans (b3.mono HB2.out.size))
    obtain ⟨z0, z1⟩ := (HX22.out.later b3).c2
    clear b3 x0 x1 y0 y1 y2 y3 y4
    by_cases hlt : (nd : Int) < p + q
    · rw [if_pos hlt] at HF
      go_wp2_with fail
      go_ret
      rw [HF.out]
      exact ⟨rfl, HB4.out⟩
    · rw [if_neg hlt] at HF
      go_wp2_with fail
      go_ret
      rw [HF.out]
      exact ⟨rfl, HB4.out⟩
set_option maxRecDepth 20000 in
set_option maxHeartbeats 3200000 in
theorem rcheck14_r4 (h : StA J w d v s) (hr : Row w a c l) (hn : l.length = n) (hT : T.size ≤ 9223372036854775807) :
    Calls Try.prog 15 #[.agg #[d, v], .agg #[.int .i64 4, .int .i64 o, .int .i64 m, .slice a n c, .string T]] w fun e w' => e = .returned (.int .i64 (checkM s ⟨4, o, m, l, T.data.toList⟩)) ∧ Below w.heap.size w w' := by
  obtain ⟨a1, c1, a2, c2, rfl, rfl, rd, rs⟩ := h.open
  obtain ⟨CK, hCK⟩ : ∃ z, checkM s ⟨4, o, m, l, T.data.toList⟩ = z := ⟨_, rfl⟩
  rw [hCK]
  have HCK := Lib.hid hCK
  clear hCK
  obtain ⟨X2, X3, B3⟩ := two_recsS w #[.slice a1 s.data.length c1, .slice a2 s.snaps.length c2] #[.int .i64 4, .int .i64 o, .int .i64 m, .slice a n c, .string T] 28 33
  obtain ⟨w1, hw1⟩ : ∃ W, ((w.alloc (.cells #[.slice a1 s.data.length c1, .slice a2 s.snaps.length c2] 28)).alloc (.cells #[.int .i64 4, .int .i64 o, .int .i64 m, .slice a n c, .string T] 33)) = W := ⟨_, rfl⟩
  rw [hw1] at X2 X3 B3
  obtain ⟨nd, hnd⟩ : ∃ z, s.data.length = z := ⟨_, rfl⟩
  obtain ⟨ns, hns⟩ : ∃ z, s.snaps.length = z := ⟨_, rfl⟩
  rw [hnd] at X2 hw1 ⊢
  rw [hns] at X2 hw1 rs ⊢
  have HX2 := Lib.hid X2
  have HX3 := Lib.hid X3
  have HB3 := Lib.hid B3
  have HRS := Lib.hid (rs.later od_rel B3)
  have hndc : nd ≤ 9223372036854775807 := by have := rd.1; have := rd.2.1; unfold maxLen at this; omega
  have hnsc : ns ≤ 9223372036854775807 := by obtain ⟨_, h1, h2, _⟩ := rs.cap; unfold maxLen at h2; omega
  have HRE := Lib.hid (evrright_any o m a n c l T w1 4 (hr.later B3) hn hT)
  have HSP := Lib.hid (fun W (hb : Below w1.heap.size w1 W) => rspan_any 4 o m a n c l T W ((hr.later B3).later hb) hn hT)
  clear X2 X3 B3 rd rs hr hn h
  obtain ⟨x0, x1⟩ := HX2.out.c2
  obtain ⟨y0, y1, y2, y3, y4⟩ := HX3.out.c5
  go_enter Try.func15, Try.ntmps15
  go_upto_region 1 with fail
  try rw [hw1]
  clear hw1
  obtain ⟨X, hX⟩ : ∃ X, w.heap.size = X := ⟨_, rfl⟩
  simp only [hX] at HX2 HX3 x0 x1 y0 y1 y2 y3 y4 ⊢
  have HXS := Lib.hid hX
  clear hX
  go_wp2_with fail
  refine HRE.out.mono ?_
  rintro e w2 ⟨rfl, b2⟩
  have HB2 := Lib.hid (HB3.out.trans (b2.mono HB3.out.size))
  have HX22 := Lib.hid (HX2.out.later b2)
  have HX32 := Lib.hid (HX3.out.later b2)
  have HR2 := Lib.hid (HRS.out.later od_rel b2)
  have HSP2 := Lib.hid (HSP.out w2 b2)
  clear b2 x0 x1 y0 y1 y2 y3 y4 HSP HRE HRS
  obtain ⟨x0, x1⟩ := HX22.out.c2
  obtain ⟨y0, y1, y2, y3, y4⟩ := HX32.out.c5
  cases hR : Ev.right ⟨4, o, m, l, T.data.toList⟩ with
  | false =>
    have HF := Lib.hid (HCK.out.symm.trans (check_no hR))
    clear hR
    go_wp2_with fail
    go_ret
    rw [HF.out]
    exact ⟨rfl, HB2.out⟩
  | true =>
    have HF := Lib.hid (HCK.out.symm.trans (check_rest hR (by simp)))
    clear hR
    go_wp2_with fail
    go_ret
    rw [HF.out]
    exact ⟨rfl, HB2.out⟩
set_option maxRecDepth 20000 in
set_option maxHeartbeats 3200000 in
theorem rcheck14_s5 (h : StA J w d v s) (hr : Row w a c l) (hn : l.length = n) (hT : T.size ≤ 9223372036854775807) :
    Calls Try.prog 15 #[.agg #[d, v], .agg #[.int .i64 5, .int .i64 o, .int .i64 m, .slice a n c, .string T]] w fun e w' => e = .returned (.int .i64 (checkM s ⟨5, o, m, l, T.data.toList⟩)) ∧ Below w.heap.size w w' := by
  obtain ⟨a1, c1, a2, c2, rfl, rfl, rd, rs⟩ := h.open
  obtain ⟨CK, hCK⟩ : ∃ z, checkM s ⟨5, o, m, l, T.data.toList⟩ = z := ⟨_, rfl⟩
  rw [hCK]
  have HCK := Lib.hid hCK
  clear hCK
  obtain ⟨X2, X3, B3⟩ := two_recsS w #[.slice a1 s.data.length c1, .slice a2 s.snaps.length c2] #[.int .i64 5, .int .i64 o, .int .i64 m, .slice a n c, .string T] 28 33
  obtain ⟨w1, hw1⟩ : ∃ W, ((w.alloc (.cells #[.slice a1 s.data.length c1, .slice a2 s.snaps.length c2] 28)).alloc (.cells #[.int .i64 5, .int .i64 o, .int .i64 m, .slice a n c, .string T] 33)) = W := ⟨_, rfl⟩
  rw [hw1] at X2 X3 B3
  obtain ⟨nd, hnd⟩ : ∃ z, s.data.length = z := ⟨_, rfl⟩
  obtain ⟨ns, hns⟩ : ∃ z, s.snaps.length = z := ⟨_, rfl⟩
  rw [hnd] at X2 hw1 ⊢
  rw [hns] at X2 hw1 rs ⊢
  have HX2 := Lib.hid X2
  have HX3 := Lib.hid X3
  have HB3 := Lib.hid B3
  have HRS := Lib.hid (rs.later od_rel B3)
  have hndc : nd ≤ 9223372036854775807 := by have := rd.1; have := rd.2.1; unfold maxLen at this; omega
  have hnsc : ns ≤ 9223372036854775807 := by obtain ⟨_, h1, h2, _⟩ := rs.cap; unfold maxLen at h2; omega
  have HRE := Lib.hid (evrright_any o m a n c l T w1 5 (hr.later B3) hn hT)
  have HSP := Lib.hid (fun W (hb : Below w1.heap.size w1 W) => rspan_any 5 o m a n c l T W ((hr.later B3).later hb) hn hT)
  clear X2 X3 B3 rd rs hr hn h
  obtain ⟨x0, x1⟩ := HX2.out.c2
  obtain ⟨y0, y1, y2, y3, y4⟩ := HX3.out.c5
  go_enter Try.func15, Try.ntmps15
  go_upto_region 1 with fail
  try rw [hw1]
  clear hw1
  obtain ⟨X, hX⟩ : ∃ X, w.heap.size = X := ⟨_, rfl⟩
  simp only [hX] at HX2 HX3 x0 x1 y0 y1 y2 y3 y4 ⊢
  have HXS := Lib.hid hX
  clear hX
  go_wp2_with fail
  refine HRE.out.mono ?_
  rintro e w2 ⟨rfl, b2⟩
  have HB2 := Lib.hid (HB3.out.trans (b2.mono HB3.out.size))
  have HX22 := Lib.hid (HX2.out.later b2)
  have HX32 := Lib.hid (HX3.out.later b2)
  have HR2 := Lib.hid (HRS.out.later od_rel b2)
  have HSP2 := Lib.hid (HSP.out w2 b2)
  clear b2 x0 x1 y0 y1 y2 y3 y4 HSP HRE HRS
  obtain ⟨x0, x1⟩ := HX22.out.c2
  obtain ⟨y0, y1, y2, y3, y4⟩ := HX32.out.c5
  cases hR : Ev.right ⟨5, o, m, l, T.data.toList⟩ with
  | false =>
    have HF := Lib.hid (HCK.out.symm.trans (check_no hR))
    clear hR
    go_wp2_with fail
    go_ret
    rw [HF.out]
    exact ⟨rfl, HB2.out⟩
  | true =>
    have HF := Lib.hid (HCK.out.symm.trans (check_snap hR rfl))
    rw [hns] at HF
    have HFD := Lib.hid (rfind14_any (.slice a1 nd c1) a2 ns c2 s.snaps T J w2 rfl HR2.out hT)
    simp only at HF
    obtain ⟨F, hF⟩ : ∃ z, findO s.snaps T.data.toList = z := ⟨_, rfl⟩
    rw [hF] at HFD HF
    clear hR hF
    go_wp2_with fail
    refine HFD.out.mono ?_
    rintro e w3 ⟨rfl, b3⟩
    have HB4 := Lib.hid (HB2.out.trans (b3.mono HB2.out.size))
    obtain ⟨z0, z1⟩ := (HX22.out.later b3).c2
    clear b3 x0 x1 y0 y1 y2 y3 y4
    by_cases hlt : 0 ≤ F
    · rw [if_pos hlt] at HF
      have hd : decide (F ≥ 0) = true := decide_eq_true hlt
      go_wp2_with fail
      go_ret
      rw [HF.out]
      exact ⟨rfl, HB4.out⟩
    · rw [if_neg hlt] at HF
      have hd : decide (F ≥ 0) = false := decide_eq_false hlt
      by_cases h8 : 8 ≤ ns
      · rw [if_pos h8] at HF
        go_wp2_with fail
        go_ret
        rw [HF.out]
        exact ⟨rfl, HB4.out⟩
      · rw [if_neg h8] at HF
        go_wp2_with fail
        go_ret
        rw [HF.out]
        exact ⟨rfl, HB4.out⟩
set_option maxRecDepth 20000 in
set_option maxHeartbeats 3200000 in
theorem rcheck14_n6 (h : StA J w d v s) (hr : Row w a c l) (hn : l.length = n) (hT : T.size ≤ 9223372036854775807) :
    Calls Try.prog 15 #[.agg #[d, v], .agg #[.int .i64 6, .int .i64 o, .int .i64 m, .slice a n c, .string T]] w fun e w' => e = .returned (.int .i64 (checkM s ⟨6, o, m, l, T.data.toList⟩)) ∧ Below w.heap.size w w' := by
  obtain ⟨a1, c1, a2, c2, rfl, rfl, rd, rs⟩ := h.open
  obtain ⟨CK, hCK⟩ : ∃ z, checkM s ⟨6, o, m, l, T.data.toList⟩ = z := ⟨_, rfl⟩
  rw [hCK]
  have HCK := Lib.hid hCK
  clear hCK
  obtain ⟨X2, X3, B3⟩ := two_recsS w #[.slice a1 s.data.length c1, .slice a2 s.snaps.length c2] #[.int .i64 6, .int .i64 o, .int .i64 m, .slice a n c, .string T] 28 33
  obtain ⟨w1, hw1⟩ : ∃ W, ((w.alloc (.cells #[.slice a1 s.data.length c1, .slice a2 s.snaps.length c2] 28)).alloc (.cells #[.int .i64 6, .int .i64 o, .int .i64 m, .slice a n c, .string T] 33)) = W := ⟨_, rfl⟩
  rw [hw1] at X2 X3 B3
  obtain ⟨nd, hnd⟩ : ∃ z, s.data.length = z := ⟨_, rfl⟩
  obtain ⟨ns, hns⟩ : ∃ z, s.snaps.length = z := ⟨_, rfl⟩
  rw [hnd] at X2 hw1 ⊢
  rw [hns] at X2 hw1 rs ⊢
  have HX2 := Lib.hid X2
  have HX3 := Lib.hid X3
  have HB3 := Lib.hid B3
  have HRS := Lib.hid (rs.later od_rel B3)
  have hndc : nd ≤ 9223372036854775807 := by have := rd.1; have := rd.2.1; unfold maxLen at this; omega
  have hnsc : ns ≤ 9223372036854775807 := by obtain ⟨_, h1, h2, _⟩ := rs.cap; unfold maxLen at h2; omega
  have HRE := Lib.hid (evrright_any o m a n c l T w1 6 (hr.later B3) hn hT)
  have HSP := Lib.hid (fun W (hb : Below w1.heap.size w1 W) => rspan_any 6 o m a n c l T W ((hr.later B3).later hb) hn hT)
  clear X2 X3 B3 rd rs hr hn h
  obtain ⟨x0, x1⟩ := HX2.out.c2
  obtain ⟨y0, y1, y2, y3, y4⟩ := HX3.out.c5
  go_enter Try.func15, Try.ntmps15
  go_upto_region 1 with fail
  try rw [hw1]
  clear hw1
  obtain ⟨X, hX⟩ : ∃ X, w.heap.size = X := ⟨_, rfl⟩
  simp only [hX] at HX2 HX3 x0 x1 y0 y1 y2 y3 y4 ⊢
  have HXS := Lib.hid hX
  clear hX
  go_wp2_with fail
  refine HRE.out.mono ?_
  rintro e w2 ⟨rfl, b2⟩
  have HB2 := Lib.hid (HB3.out.trans (b2.mono HB3.out.size))
  have HX22 := Lib.hid (HX2.out.later b2)
  have HX32 := Lib.hid (HX3.out.later b2)
  have HR2 := Lib.hid (HRS.out.later od_rel b2)
  have HSP2 := Lib.hid (HSP.out w2 b2)
  clear b2 x0 x1 y0 y1 y2 y3 y4 HSP HRE HRS
  obtain ⟨x0, x1⟩ := HX22.out.c2
  obtain ⟨y0, y1, y2, y3, y4⟩ := HX32.out.c5
  cases hR : Ev.right ⟨6, o, m, l, T.data.toList⟩ with
  | false =>
    have HF := Lib.hid (HCK.out.symm.trans (check_no hR))
    clear hR
    go_wp2_with fail
    go_ret
    rw [HF.out]
    exact ⟨rfl, HB2.out⟩
  | true =>
    have HF := Lib.hid (HCK.out.symm.trans (check_name hR (by simp)))
    have HFD := Lib.hid (rfind14_any (.slice a1 nd c1) a2 ns c2 s.snaps T J w2 rfl HR2.out hT)
    simp only at HF
    obtain ⟨F, hF⟩ : ∃ z, findO s.snaps T.data.toList = z := ⟨_, rfl⟩
    rw [hF] at HFD HF
    clear hR hF
    go_wp2_with fail
    refine HFD.out.mono ?_
    rintro e w3 ⟨rfl, b3⟩
    have HB4 := Lib.hid (HB2.out.trans (b3.mono HB2.out.size))
    obtain ⟨z0, z1⟩ := (HX22.out.later b3).c2
    clear b3 x0 x1 y0 y1 y2 y3 y4
    by_cases hlt : 0 ≤ F
    · rw [if_pos hlt] at HF
      have hd : decide (F < 0) = false := decide_eq_false (by omega)
      go_wp2_with fail
      go_ret
      rw [HF.out]
      exact ⟨rfl, HB4.out⟩
    · rw [if_neg hlt] at HF
      have hd : decide (F < 0) = true := decide_eq_true (by omega)
      go_wp2_with fail
      go_ret
      rw [HF.out]
      exact ⟨rfl, HB4.out⟩
set_option maxRecDepth 20000 in
set_option maxHeartbeats 3200000 in
theorem rcheck14_n7 (h : StA J w d v s) (hr : Row w a c l) (hn : l.length = n) (hT : T.size ≤ 9223372036854775807) :
    Calls Try.prog 15 #[.agg #[d, v], .agg #[.int .i64 7, .int .i64 o, .int .i64 m, .slice a n c, .string T]] w fun e w' => e = .returned (.int .i64 (checkM s ⟨7, o, m, l, T.data.toList⟩)) ∧ Below w.heap.size w w' := by
  obtain ⟨a1, c1, a2, c2, rfl, rfl, rd, rs⟩ := h.open
  obtain ⟨CK, hCK⟩ : ∃ z, checkM s ⟨7, o, m, l, T.data.toList⟩ = z := ⟨_, rfl⟩
  rw [hCK]
  have HCK := Lib.hid hCK
  clear hCK
  obtain ⟨X2, X3, B3⟩ := two_recsS w #[.slice a1 s.data.length c1, .slice a2 s.snaps.length c2] #[.int .i64 7, .int .i64 o, .int .i64 m, .slice a n c, .string T] 28 33
  obtain ⟨w1, hw1⟩ : ∃ W, ((w.alloc (.cells #[.slice a1 s.data.length c1, .slice a2 s.snaps.length c2] 28)).alloc (.cells #[.int .i64 7, .int .i64 o, .int .i64 m, .slice a n c, .string T] 33)) = W := ⟨_, rfl⟩
  rw [hw1] at X2 X3 B3
  obtain ⟨nd, hnd⟩ : ∃ z, s.data.length = z := ⟨_, rfl⟩
  obtain ⟨ns, hns⟩ : ∃ z, s.snaps.length = z := ⟨_, rfl⟩
  rw [hnd] at X2 hw1 ⊢
  rw [hns] at X2 hw1 rs ⊢
  have HX2 := Lib.hid X2
  have HX3 := Lib.hid X3
  have HB3 := Lib.hid B3
  have HRS := Lib.hid (rs.later od_rel B3)
  have hndc : nd ≤ 9223372036854775807 := by have := rd.1; have := rd.2.1; unfold maxLen at this; omega
  have hnsc : ns ≤ 9223372036854775807 := by obtain ⟨_, h1, h2, _⟩ := rs.cap; unfold maxLen at h2; omega
  have HRE := Lib.hid (evrright_any o m a n c l T w1 7 (hr.later B3) hn hT)
  have HSP := Lib.hid (fun W (hb : Below w1.heap.size w1 W) => rspan_any 7 o m a n c l T W ((hr.later B3).later hb) hn hT)
  clear X2 X3 B3 rd rs hr hn h
  obtain ⟨x0, x1⟩ := HX2.out.c2
  obtain ⟨y0, y1, y2, y3, y4⟩ := HX3.out.c5
  go_enter Try.func15, Try.ntmps15
  go_upto_region 1 with fail
  try rw [hw1]
  clear hw1
  obtain ⟨X, hX⟩ : ∃ X, w.heap.size = X := ⟨_, rfl⟩
  simp only [hX] at HX2 HX3 x0 x1 y0 y1 y2 y3 y4 ⊢
  have HXS := Lib.hid hX
  clear hX
  go_wp2_with fail
  refine HRE.out.mono ?_
  rintro e w2 ⟨rfl, b2⟩
  have HB2 := Lib.hid (HB3.out.trans (b2.mono HB3.out.size))
  have HX22 := Lib.hid (HX2.out.later b2)
  have HX32 := Lib.hid (HX3.out.later b2)
  have HR2 := Lib.hid (HRS.out.later od_rel b2)
  have HSP2 := Lib.hid (HSP.out w2 b2)
  clear b2 x0 x1 y0 y1 y2 y3 y4 HSP HRE HRS
  obtain ⟨x0, x1⟩ := HX22.out.c2
  obtain ⟨y0, y1, y2, y3, y4⟩ := HX32.out.c5
  cases hR : Ev.right ⟨7, o, m, l, T.data.toList⟩ with
  | false =>
    have HF := Lib.hid (HCK.out.symm.trans (check_no hR))
    clear hR
    go_wp2_with fail
    go_ret
    rw [HF.out]
    exact ⟨rfl, HB2.out⟩
  | true =>
    have HF := Lib.hid (HCK.out.symm.trans (check_name hR (by simp)))
    have HFD := Lib.hid (rfind14_any (.slice a1 nd c1) a2 ns c2 s.snaps T J w2 rfl HR2.out hT)
    simp only at HF
    obtain ⟨F, hF⟩ : ∃ z, findO s.snaps T.data.toList = z := ⟨_, rfl⟩
    rw [hF] at HFD HF
    clear hR hF
    go_wp2_with fail
    refine HFD.out.mono ?_
    rintro e w3 ⟨rfl, b3⟩
    have HB4 := Lib.hid (HB2.out.trans (b3.mono HB2.out.size))
    obtain ⟨z0, z1⟩ := (HX22.out.later b3).c2
    clear b3 x0 x1 y0 y1 y2 y3 y4
    by_cases hlt : 0 ≤ F
    · rw [if_pos hlt] at HF
      have hd : decide (F < 0) = false := decide_eq_false (by omega)
      go_wp2_with fail
      go_ret
      rw [HF.out]
      exact ⟨rfl, HB4.out⟩
    · rw [if_neg hlt] at HF
      have hd : decide (F < 0) = true := decide_eq_true (by omega)
      go_wp2_with fail
      go_ret
      rw [HF.out]
      exact ⟨rfl, HB4.out⟩
set_option maxRecDepth 20000 in
set_option maxHeartbeats 3200000 in
theorem rcheck14_r8 (h : StA J w d v s) (hr : Row w a c l) (hn : l.length = n) (hT : T.size ≤ 9223372036854775807) :
    Calls Try.prog 15 #[.agg #[d, v], .agg #[.int .i64 8, .int .i64 o, .int .i64 m, .slice a n c, .string T]] w fun e w' => e = .returned (.int .i64 (checkM s ⟨8, o, m, l, T.data.toList⟩)) ∧ Below w.heap.size w w' := by
  obtain ⟨a1, c1, a2, c2, rfl, rfl, rd, rs⟩ := h.open
  obtain ⟨CK, hCK⟩ : ∃ z, checkM s ⟨8, o, m, l, T.data.toList⟩ = z := ⟨_, rfl⟩
  rw [hCK]
  have HCK := Lib.hid hCK
  clear hCK
  obtain ⟨X2, X3, B3⟩ := two_recsS w #[.slice a1 s.data.length c1, .slice a2 s.snaps.length c2] #[.int .i64 8, .int .i64 o, .int .i64 m, .slice a n c, .string T] 28 33
  obtain ⟨w1, hw1⟩ : ∃ W, ((w.alloc (.cells #[.slice a1 s.data.length c1, .slice a2 s.snaps.length c2] 28)).alloc (.cells #[.int .i64 8, .int .i64 o, .int .i64 m, .slice a n c, .string T] 33)) = W := ⟨_, rfl⟩
  rw [hw1] at X2 X3 B3
  obtain ⟨nd, hnd⟩ : ∃ z, s.data.length = z := ⟨_, rfl⟩
  obtain ⟨ns, hns⟩ : ∃ z, s.snaps.length = z := ⟨_, rfl⟩
  rw [hnd] at X2 hw1 ⊢
  rw [hns] at X2 hw1 rs ⊢
  have HX2 := Lib.hid X2
  have HX3 := Lib.hid X3
  have HB3 := Lib.hid B3
  have HRS := Lib.hid (rs.later od_rel B3)
  have hndc : nd ≤ 9223372036854775807 := by have := rd.1; have := rd.2.1; unfold maxLen at this; omega
  have hnsc : ns ≤ 9223372036854775807 := by obtain ⟨_, h1, h2, _⟩ := rs.cap; unfold maxLen at h2; omega
  have HRE := Lib.hid (evrright_any o m a n c l T w1 8 (hr.later B3) hn hT)
  have HSP := Lib.hid (fun W (hb : Below w1.heap.size w1 W) => rspan_any 8 o m a n c l T W ((hr.later B3).later hb) hn hT)
  clear X2 X3 B3 rd rs hr hn h
  obtain ⟨x0, x1⟩ := HX2.out.c2
  obtain ⟨y0, y1, y2, y3, y4⟩ := HX3.out.c5
  go_enter Try.func15, Try.ntmps15
  go_upto_region 1 with fail
  try rw [hw1]
  clear hw1
  obtain ⟨X, hX⟩ : ∃ X, w.heap.size = X := ⟨_, rfl⟩
  simp only [hX] at HX2 HX3 x0 x1 y0 y1 y2 y3 y4 ⊢
  have HXS := Lib.hid hX
  clear hX
  go_wp2_with fail
  refine HRE.out.mono ?_
  rintro e w2 ⟨rfl, b2⟩
  have HB2 := Lib.hid (HB3.out.trans (b2.mono HB3.out.size))
  have HX22 := Lib.hid (HX2.out.later b2)
  have HX32 := Lib.hid (HX3.out.later b2)
  have HR2 := Lib.hid (HRS.out.later od_rel b2)
  have HSP2 := Lib.hid (HSP.out w2 b2)
  clear b2 x0 x1 y0 y1 y2 y3 y4 HSP HRE HRS
  obtain ⟨x0, x1⟩ := HX22.out.c2
  obtain ⟨y0, y1, y2, y3, y4⟩ := HX32.out.c5
  cases hR : Ev.right ⟨8, o, m, l, T.data.toList⟩ with
  | false =>
    have HF := Lib.hid (HCK.out.symm.trans (check_no hR))
    clear hR
    go_wp2_with fail
    go_ret
    rw [HF.out]
    exact ⟨rfl, HB2.out⟩
  | true =>
    have HF := Lib.hid (HCK.out.symm.trans (check_rest hR (by simp)))
    clear hR
    go_wp2_with fail
    go_ret
    rw [HF.out]
    exact ⟨rfl, HB2.out⟩
set_option maxRecDepth 20000 in
set_option maxHeartbeats 3200000 in
theorem rcheck14_x (k : Int) (hk : k < 1 ∨ 8 < k) (h : StA J w d v s) (hr : Row w a c l) (hn : l.length = n) (hT : T.size ≤ 9223372036854775807) :
    Calls Try.prog 15 #[.agg #[d, v], .agg #[.int .i64 k, .int .i64 o, .int .i64 m, .slice a n c, .string T]] w fun e w' => e = .returned (.int .i64 (checkM s ⟨k, o, m, l, T.data.toList⟩)) ∧ Below w.heap.size w w' := by
  obtain ⟨a1, c1, a2, c2, rfl, rfl, rd, rs⟩ := h.open
  obtain ⟨CK, hCK⟩ : ∃ z, checkM s ⟨k, o, m, l, T.data.toList⟩ = z := ⟨_, rfl⟩
  rw [hCK]
  have HCK := Lib.hid hCK
  clear hCK
  obtain ⟨X2, X3, B3⟩ := two_recsS w #[.slice a1 s.data.length c1, .slice a2 s.snaps.length c2] #[.int .i64 k, .int .i64 o, .int .i64 m, .slice a n c, .string T] 28 33
  obtain ⟨w1, hw1⟩ : ∃ W, ((w.alloc (.cells #[.slice a1 s.data.length c1, .slice a2 s.snaps.length c2] 28)).alloc (.cells #[.int .i64 k, .int .i64 o, .int .i64 m, .slice a n c, .string T] 33)) = W := ⟨_, rfl⟩
  rw [hw1] at X2 X3 B3
  obtain ⟨nd, hnd⟩ : ∃ z, s.data.length = z := ⟨_, rfl⟩
  obtain ⟨ns, hns⟩ : ∃ z, s.snaps.length = z := ⟨_, rfl⟩
  rw [hnd] at X2 hw1 ⊢
  rw [hns] at X2 hw1 rs ⊢
  have HX2 := Lib.hid X2
  have HX3 := Lib.hid X3
  have HB3 := Lib.hid B3
  have HRS := Lib.hid (rs.later od_rel B3)
  have hndc : nd ≤ 9223372036854775807 := by have := rd.1; have := rd.2.1; unfold maxLen at this; omega
  have hnsc : ns ≤ 9223372036854775807 := by obtain ⟨_, h1, h2, _⟩ := rs.cap; unfold maxLen at h2; omega
  have HRE := Lib.hid (evrright_any o m a n c l T w1 k (hr.later B3) hn hT)
  have HSP := Lib.hid (fun W (hb : Below w1.heap.size w1 W) => rspan_any k o m a n c l T W ((hr.later B3).later hb) hn hT)
  clear X2 X3 B3 rd rs hr hn h
  obtain ⟨x0, x1⟩ := HX2.out.c2
  obtain ⟨y0, y1, y2, y3, y4⟩ := HX3.out.c5
  go_enter Try.func15, Try.ntmps15
  go_upto_region 1 with fail
  try rw [hw1]
  clear hw1
  obtain ⟨X, hX⟩ : ∃ X, w.heap.size = X := ⟨_, rfl⟩
  simp only [hX] at HX2 HX3 x0 x1 y0 y1 y2 y3 y4 ⊢
  have HXS := Lib.hid hX
  clear hX
  go_wp2_with fail
  refine HRE.out.mono ?_
  rintro e w2 ⟨rfl, b2⟩
  have HB2 := Lib.hid (HB3.out.trans (b2.mono HB3.out.size))
  have HX22 := Lib.hid (HX2.out.later b2)
  have HX32 := Lib.hid (HX3.out.later b2)
  have HR2 := Lib.hid (HRS.out.later od_rel b2)
  have HSP2 := Lib.hid (HSP.out w2 b2)
  clear b2 x0 x1 y0 y1 y2 y3 y4 HSP HRE HRS
  obtain ⟨x0, x1⟩ := HX22.out.c2
  obtain ⟨y0, y1, y2, y3, y4⟩ := HX32.out.c5
  cases hR : Ev.right ⟨k, o, m, l, T.data.toList⟩ with
  | false =>
    have HF := Lib.hid (HCK.out.symm.trans (check_no hR))
    clear hR
    go_wp2_with fail
    go_ret
    rw [HF.out]
    exact ⟨rfl, HB2.out⟩
  | true =>
    have := right_kind hR
    exfalso
    simp only at this
    omega
theorem rcheck14_any (k : Int) (h : StA J w d v s) (hr : Row w a c l) (hn : l.length = n) (hT : T.size ≤ 9223372036854775807) :
    Calls Try.prog 15 #[.agg #[d, v], .agg #[.int .i64 k, .int .i64 o, .int .i64 m, .slice a n c, .string T]] w fun e w' => e = .returned (.int .i64 (checkM s ⟨k, o, m, l, T.data.toList⟩)) ∧ Below w.heap.size w w' := by
  rcases (show k = 1 ∨ k = 2 ∨ k = 3 ∨ k = 4 ∨ k = 5 ∨ k = 6 ∨ k = 7 ∨ k = 8 ∨ (k < 1 ∨ 8 < k) by omega) with rfl | rfl | rfl | rfl | rfl | rfl | rfl | rfl | hk
  · exact rcheck14_p1 d v s o m a n c l T J w h hr hn hT
  · exact rcheck14_p2 d v s o m a n c l T J w h hr hn hT
  · exact rcheck14_p3 d v s o m a n c l T J w h hr hn hT
  · exact rcheck14_r4 d v s o m a n c l T J w h hr hn hT
  · exact rcheck14_s5 d v s o m a n c l T J w h hr hn hT
  · exact rcheck14_n6 d v s o m a n c l T J w h hr hn hT
  · exact rcheck14_n7 d v s o m a n c l T J w h hr hn hT
  · exact rcheck14_r8 d v s o m a n c l T J w h hr hn hT
  · exact rcheck14_x d v s o m a n c l T J w k hk h hr hn hT
end
end Go.Proofs.Ytghglbaflmbeoaa
