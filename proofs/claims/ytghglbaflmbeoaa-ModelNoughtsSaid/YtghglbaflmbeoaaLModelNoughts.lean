/- The law 'ModelNoughts', walked. -/
import Derived.Test.YtghglbaflmbeoaaMdK
import Derived.Test.YtghglbaflmbeoaaPhW
import Derived.Test.YtghglbaflmbeoaaZi
namespace Go.Proofs.Ytghglbaflmbeoaa
open Go.RowKit Go.Proofs
set_option linter.unusedVariables false
set_option linter.unusedSimpArgs false
set_option linter.unnecessarySimpa false

/-! ### the law's events -/
theorem nought_check {s : Sx} (hs : StOk s) (O N : Nat) (hO : O ≤ 511) (hN : 1 ≤ N) (hN2 : N ≤ 64) : ∃ c, checkM s ⟨2, O, N, [], []⟩ = c ∧ checkM s ⟨3, O, N, [], []⟩ = c ∧ checkM s ⟨1, O, 0, List.replicate N 0, []⟩ = c ∧ (c = 0 ↔ O + N ≤ s.data.length) := by
  have hz := hs.size
  by_cases hw : O + N ≤ 512
  · have hwi : within (O : Int) (N : Int) = true := within_iff.2 (by omega)
    have r2 : (⟨2, O, N, [], []⟩ : Ev).right = true := right_iff.2 (.inr (.inl ⟨.inl rfl, rfl, hwi, rfl⟩))
    have r3 : (⟨3, O, N, [], []⟩ : Ev).right = true := right_iff.2 (.inr (.inl ⟨.inr rfl, rfl, hwi, rfl⟩))
    have r1 : (⟨1, O, 0, List.replicate N 0, []⟩ : Ev).right = true := right_iff.2 (.inl ⟨rfl, by simp; omega, by simpa using hwi, rfl, rfl⟩)
    refine ⟨if (s.data.length : Int) < (O : Int) + (N : Int) then 3 else 0, ?_, ?_, ?_, ?_⟩
    · rw [check_plain r2 (by simp), span_2 r2 (.inl rfl)]
    · rw [check_plain r3 (by simp), span_2 r3 (.inr rfl)]
    · rw [check_plain r1 (by simp), span_1 r1 rfl]; simp
    · split <;> omega
  · have hwi : within (O : Int) (N : Int) = false := by rw [Bool.eq_false_iff]; intro h; have := within_iff.1 h; omega
    have r2 : (⟨2, O, N, [], []⟩ : Ev).right = false := by
      rw [Bool.eq_false_iff]; intro h
      rcases right_iff.1 h with q | q | q | q | q
      · exact absurd q.1 (by simp)
      · rw [hwi] at q; exact absurd q.2.2.1 (by decide)
      · exact absurd q.1 (by simp)
      · exact absurd q.1 (by simp)
      · exact absurd q.1 (by simp)
    have r3 : (⟨3, O, N, [], []⟩ : Ev).right = false := by
      rw [Bool.eq_false_iff]; intro h
      rcases right_iff.1 h with q | q | q | q | q
      · exact absurd q.1 (by simp)
      · rw [hwi] at q; exact absurd q.2.2.1 (by decide)
      · exact absurd q.1 (by simp)
      · exact absurd q.1 (by simp)
      · exact absurd q.1 (by simp)
    have r1 : (⟨1, O, 0, List.replicate N 0, []⟩ : Ev).right = false := by
      rw [Bool.eq_false_iff]; intro h
      rcases right_iff.1 h with q | q | q | q | q
      · simp only [List.length_replicate] at q; rw [hwi] at q; exact absurd q.2.2.1 (by decide)
      · exact absurd q.1 (by simp)
      · exact absurd q.1 (by simp)
      · exact absurd q.1 (by simp)
      · exact absurd q.1 (by simp)
    exact ⟨1, check_no r2, check_no r3, check_no r1, by omega⟩
theorem nought_apply {s : Sx} (hs : StOk s) (O N : Nat) (hO : O ≤ 511) (hN : 1 ≤ N) (hN2 : N ≤ 64) : ∃ s1 c, applyM s ⟨2, O, N, [], []⟩ = (s1, c) ∧ applyM s ⟨3, O, N, [], []⟩ = (s1, c) ∧ applyM s ⟨1, O, 0, List.replicate N 0, []⟩ = (s1, c) ∧ (c = 0 ↔ O + N ≤ s.data.length) ∧ StOk s1 := by
  obtain ⟨c, h2, h3, h1, hc⟩ := nought_check hs O N hO hN hN2
  by_cases h0 : c = 0
  · subst h0
    refine ⟨⟨layB s.data O (List.replicate N 0), s.snaps⟩, 0, ?_, ?_, ?_, hc, ?_⟩
    · rw [applyM_yes h2]; unfold doneM; simp
    · rw [applyM_yes h3]; unfold doneM; simp
    · rw [applyM_yes h1]; unfold doneM; simp
    · have := doneM_ok hs h2
      unfold doneM at this; simpa using this
  · refine ⟨noSx, c, ?_, ?_, ?_, hc, StOk.no⟩
    · rw [applyM_no (by rw [h2]; exact h0), h2]
    · rw [applyM_no (by rw [h3]; exact h0), h3]
    · rw [applyM_no (by rw [h1]; exact h0), h1]
def evRz (n : Nat) : Ev := ⟨4, 0, n, [], []⟩
theorem resize_fine {s : Sx} (n : Nat) (h : n ≤ 512) : stepM s (evRz n) = ⟨sizedL s.data n, s.snaps⟩ := by
  have hr : (evRz n).right = true := right_iff.2 (.inr (.inr (.inl ⟨rfl, rfl, rfl, by unfold evRz; simp, by unfold evRz; simp; omega, rfl⟩)))
  rw [stepM_yes (check_rest hr (.inl rfl))]
  unfold doneM evRz; simp
theorem there_back (x : List UInt8) (O i : Nat) (hi : i < x.length) : (sizedL (sizedL x O) x.length)[i]? = some (if i < O then x[i]?.getD 0 else 0) := by
  unfold sizedL
  rw [List.getElem?_append]
  simp only [List.length_take, List.length_append, List.length_replicate]
  have e : min x.length (min O x.length + (O - x.length)) = min x.length O := by omega
  rw [e]
  by_cases c : i < O
  · rw [if_pos (by omega), List.getElem?_take, if_pos hi, List.getElem?_append_left (by rw [List.length_take]; omega), List.getElem?_take, if_pos c, if_pos c, List.getElem?_eq_getElem hi]; rfl
  · rw [if_neg (by omega), if_neg c, List.getElem?_replicate, if_pos (by omega)]
theorem grow_flat {α : Type} {R : RT α} (hR : R.Ok) {w : World} {x : Nat} {cs : Array Value} {E : TypeId} (hrec : RecAt w x cs E) (ts : List α) (hc : cs.toList = ts.flatMap R.V) (hB : ∀ t ∈ ts, R.B t) (hl : ts.length ≤ 1000) : GRow R w (some ⟨x, 0, none⟩) ts.length ts := by
  refine ⟨Nat.le_refl _, by unfold maxLen; omega, fun e => (by cases e), hB, fun y hy i t ht => ?_⟩
  cases hy
  refine ⟨rfl, fun k v hv => ?_⟩
  have hk : k < R.sz := by have := (List.getElem?_eq_some_iff.1 hv).1; rw [hR.len] at this; exact this
  have := flat_getG hR ht k hk
  rw [hv, ← hc] at this
  have h := hrec.cell (i := i * R.sz + k) (v := v) (by rw [← Array.getElem?_toList]; exact this)
  simpa using h
theorem qe_two (w : World) (x y : Nat) : QE allJ (w.alloc (.cells #[.int .i64 4, .int .i64 0, .int .i64 (x : Nat), .slice none 0 0, .string ⟨#[]⟩, .int .i64 4, .int .i64 0, .int .i64 (y : Nat), .slice none 0 0, .string ⟨#[]⟩] 33)) (.slice (some ⟨w.heap.size, 0, none⟩) 2 2) [evRz x, evRz y] := by
  have hone : ∀ n : Nat, ([.int .i64 4, .int .i64 0, .int .i64 (n : Nat), .slice none 0 0, .string ⟨#[]⟩] : List Value).length = 5 ∧ ∀ u ∈ ([.int .i64 4, .int .i64 0, .int .i64 (n : Nat), .slice none 0 0, .string ⟨#[]⟩] : List Value), u.oneCell' = true := fun n => ⟨rfl, fun u hu => by
    simp only [List.mem_cons, List.not_mem_nil, or_false] at hu
    rcases hu with rfl | rfl | rfl | rfl | rfl <;> rfl⟩
  have hrel : ∀ (W : World) (n : Nat), EvL allJ W [.int .i64 4, .int .i64 0, .int .i64 (n : Nat), .slice none 0 0, .string ⟨#[]⟩] (evRz n) := fun W n => ⟨_, ⟨#[]⟩, rfl, rfl, by decide, BQ.nil _ _⟩
  refine ⟨[(⟨_, hone x⟩ : Raw 5), (⟨_, hone y⟩ : Raw 5)], some ⟨w.heap.size, 0, none⟩, 2, rfl, grow_flat evT_ok (RecAt.new w _ _) [(⟨_, hone x⟩ : Raw 5), (⟨_, hone y⟩ : Raw 5)] rfl (fun _ _ => trivial) (show (2 : Nat) ≤ 1000 by decide), fun _ q hq => by cases hq; exact ⟨by simp, trivial⟩, ?_⟩
  have h1 : ∀ (n : Nat), Both (fun (c : Raw 5) t => EvL allJ (w.alloc (.cells #[.int .i64 4, .int .i64 0, .int .i64 (x : Nat), .slice none 0 0, .string ⟨#[]⟩, .int .i64 4, .int .i64 0, .int .i64 (y : Nat), .slice none 0 0, .string ⟨#[]⟩] 33)) c.1 t) [(⟨_, hone n⟩ : Raw 5)] [evRz n] := fun n => Both.one (hrel _ n)
  exact (h1 x).append (h1 y)
theorem op_zeros {ops : Array Oper} {Q : Exit → Act → World → Prop} {L : List SV} {i : Nat} {o : Oper} {a : Act} {w : World} (hi : ops[i]? = some o) (hg : o.guard = none) (x y : Operand) (ho : o.op = Op.makeSlice 25 x y) (n : Nat) (hx : a.eval x = .int .i64 n) (hy : a.eval y = .int .i64 n) (hn : n ≤ 1000)
    (hV : ∀ w', Own w w' (.slice (some ⟨w.heap.size, 0, none⟩) n n) (List.replicate n 0) → VL L i w' (.slice (some ⟨w.heap.size, 0, none⟩) n n)) : OpGoal Try.prog ops Q L i a w := by
  obtain ⟨i0, hi0, hz0, hz1, hz2⟩ := info_parts info_u8
  obtain ⟨w', h1, h2, h3⟩ := run_make_full (P := Try.prog) w w.heap.size 25 5 i0 (.int .u8 0) 1 Try.underlying25 hi0 hz0 hz1 .i64 .i64 n (by rw [hz2]; omega) (by unfold maxLen; omega) (Nat.le_refl _)
  have e : (madeCells (Value.int IntKind.u8 0).cells (n * 1)).toList = (List.replicate n (0 : UInt8)).map B8 := by
    rw [show (Value.int IntKind.u8 0).cells = #[.int .u8 0] from rfl, toList_madeCells_one, List.map_replicate, Nat.mul_one]; rfl
  rw [e] at h2
  have hb : Below w.heap.size w w' := (Below.refl _ _).grown h3 (Nat.le_refl _) (fun k hk => by cases hk)
  refine op_run hi hg (v := .slice (some ⟨w.heap.size, 0, none⟩) n n) (w' := w') ?_ (hV w' ⟨by rw [List.length_replicate]; exact h2, hb⟩) hb
  unfold execOp
  simp only [ho, hx, hy]
  simp only [Sem.run_bind, Sem.run_pure, h1, Result.andThen_ok]
def zoV (W0 : World) (n : Nat) : SV := ⟨fun w x => ∃ g, x = .slice (some ⟨g, 0, none⟩) n n ∧ Own W0 w (.slice (some ⟨g, 0, none⟩) n n) (List.replicate n 0), fun w w' x ⟨g, h1, h2⟩ hb => ⟨g, h1, h2.later hb⟩⟩
def ewV (W0 : World) (o n : Nat) : SV := ⟨fun w x => ∃ g, x = .agg #[.int .i64 1, .int .i64 (o : Nat), .int .i64 0, .slice (some ⟨g, 0, none⟩) n n, .string ⟨#[]⟩] ∧ Own W0 w (.slice (some ⟨g, 0, none⟩) n n) (List.replicate n 0), fun w w' x ⟨g, h1, h2⟩ hb => ⟨g, h1, h2.later hb⟩⟩

set_option maxRecDepth 100000 in
set_option maxHeartbeats 12800000 in
theorem modelNoughts_walk (size : Int) (a1 : Option Addr) (n1 c1 : Nat) (l1 : List Ev) (off_ n_ : Int) (w : World) (h1 : QE allJ w (.slice a1 n1 c1) l1) :
    Calls Try.prog 9 #[.int .i64 size, .slice a1 n1 c1, .int .i64 off_, .int .i64 n_] w fun x w' => x = .returned (.bool true) ∧ Below w.heap.size w w' := by
  have HB := Lib.hid (Below.refl w.heap.size w)
  have HL1 := Lib.hid h1
  obtain ⟨OF, hOF, hO5⟩ : ∃ k : Nat, bits .and .i64 off_ 511 = (k : Int) ∧ k ≤ 511 := by
    have : 0 ≤ bits .and .i64 off_ 511 ∧ bits .and .i64 off_ 511 ≤ 511 := and_range off_ 511 (by decide)
    exact ⟨(bits .and .i64 off_ 511).toNat, by omega, by omega⟩
  obtain ⟨M, hM, hM5⟩ : ∃ k : Nat, bits .and .i64 n_ 63 = (k : Int) ∧ k ≤ 63 := by
    have : 0 ≤ bits .and .i64 n_ 63 ∧ bits .and .i64 n_ 63 ≤ 63 := and_range n_ 63 (by decide)
    exact ⟨(bits .and .i64 n_ 63).toNat, by omega, by omega⟩
  obtain ⟨NN, hNN⟩ : ∃ k, 1 + M = k := ⟨_, rfl⟩
  have HNN : Hid (NN ≤ 1000) := Lib.hid (by omega)
  have hw1 : wrap64 (1 + (M : Int)) = (NN : Int) := by rw [IntWalk.wrap64_in _ (by omega)]; omega
  have HO5 := Lib.hid hO5
  have HN1 : Hid (1 ≤ NN ∧ NN ≤ 64) := Lib.hid (by omega)
  clear h1 hNN hM5
  go_enter Try.func9, Try.ntmps9
  go_wp2_with fail
  obtain ⟨B1, hB1⟩ : ∃ z, smallE l1 40 = z := ⟨_, rfl⟩
  refine (small14_any a1 n1 c1 l1 40 _ _ HL1.out).mono ?_
  rw [hB1]
  rintro e w0 ⟨rfl, b⟩
  replace HB := Lib.hid (HB.out.trans (b.mono HB.out.size))
  replace HL1 := Lib.hid (HL1.out.later ev_rel b)
  clear hB1 b
  cases B1 with
  | false =>
    go_wp2_with fail
    refine (known14_any _).mono ?_
    rintro e wk ⟨rfl, bk⟩
    have HBk := Lib.hid (HB.out.trans (bk.mono HB.out.size))
    clear bk
    go_wp2_with fail
    go_ret
    exact ⟨rfl, HBk.out⟩
  | true =>
    go_wp2_with fail
    refine (pnew14_any size _).mono ?_
    rintro e w1 ⟨d, v, rfl, hs, b⟩
    replace HB := Lib.hid (HB.out.trans (b.mono HB.out.size))
    replace HL1 := Lib.hid (HL1.out.later ev_rel b)
    have HN0 := Lib.hid hs
    clear hs b
    go_wp2_with fail
    refine (pfold14_any d v (newM size) a1 n1 c1 l1 _ allJ _ HN0.out (newM_ok size) HL1.out).mono ?_
    rintro e w2 ⟨d, v, rfl, hs, b⟩
    replace HB := Lib.hid (HB.out.trans (b.mono HB.out.size))
    have HOA := Lib.hid (foldM_ok (newM_ok size) l1)
    obtain ⟨AX, hAX⟩ : ∃ z, foldM (newM size) l1 = z := ⟨_, rfl⟩
    rw [hAX] at hs HOA
    obtain ⟨ad, nd, cd, av, nv, cv, rfl, rfl⟩ := hs.shape
    have b2 := below_st w2 #[.slice ad nd cd, .slice av nv cv]
    have HRX := Lib.hid (RecAt.new w2 #[.slice ad nd cd, .slice av nv cv] tSt)
    have HSX := Lib.hid (hs.all.later b2)
    replace HB := Lib.hid (HB.out.trans (b2.mono HB.out.size))
    clear hs b b2 HL1 HN0 hAX
    go_upto_region 4 with fail
    obtain ⟨w3, hw⟩ : ∃ W, w2.alloc (.cells #[.slice ad nd cd, .slice av nv cv] tSt) = W := ⟨_, rfl⟩
    rw [hw] at HRX HSX HB
    try rw [hw]
    obtain ⟨PS, hX⟩ : ∃ X, w2.heap.size = X := ⟨_, rfl⟩
    rw [hX] at HRX ⊢
    clear hw hX
    obtain ⟨s1, CE, hap2, hap3, hap1, hc0, hok1⟩ := nought_apply HOA.out OF NN HO5.out HN1.out.1 HN1.out.2
    have HA2 := Lib.hid hap2
    have HA3 := Lib.hid hap3
    have HA1 := Lib.hid hap1
    have HC0 := Lib.hid hc0
    have HOK1 := Lib.hid hok1
    have hnd : AX.data.length = nd := by obtain ⟨a', c', e', _⟩ := HSX.out.data.row_n rfl; cases e'; rfl
    have HND := Lib.hid hnd
    have hnv : AX.snaps.length = nv := by obtain ⟨a', c', e', _⟩ := HSX.out.snaps.val rfl; cases e'; rfl
    have HNV := Lib.hid hnv
    clear hap1 hap2 hap3 hc0 hok1 hnd hnv
    have HAPD := Lib.hid (papply14_any (.slice ad nd cd) (.slice av nv cv) AX 2 OF NN none 0 0 [] ⟨#[]⟩ allJ w3 HSX.out HOA.out (Row.none _) rfl (by decide))
    have ue1 := Try.underlying33
    have ub0 := Try.underlying28
    obtain ⟨x0, x1⟩ := HRX.out.c2
    go_wp2_with fail
    refine HAPD.out.mono ?_
    unfold PApplyIs
    first | rw [km_e, HA2.out] | rw [HA2.out]
    rintro e w4 ⟨d, v, rfl, hs, b⟩
    replace HB := Lib.hid (HB.out.trans (b.mono HB.out.size))
    obtain ⟨p1, p2, p3, p4, p5, p6, rfl, rfl⟩ := hs.shape
    have b2 := below_st w4 #[.slice p1 p2 p3, .slice p4 p5 p6]
    have HA := Lib.hid (SAt.new hs.all)
    replace HB := Lib.hid (HB.out.trans (b2.mono HB.out.size))
    replace HRX := Lib.hid ((HRX.out.later b).later b2)
    replace HSX := Lib.hid ((HSX.out.later b).later b2)
    clear hs b b2 x0 x1 HAPD
    go_upto_region 6 with fail
    obtain ⟨w5, hw⟩ : ∃ W, w4.alloc (.cells #[.slice p1 p2 p3, .slice p4 p5 p6] tSt) = W := ⟨_, rfl⟩
    rw [hw] at HA HB HRX HSX
    try rw [hw]
    obtain ⟨QA, hX⟩ : ∃ X, w4.heap.size = X := ⟨_, rfl⟩
    rw [hX] at HA ⊢
    clear hw hX
    have HAPZ := Lib.hid (papply14_any (.slice ad nd cd) (.slice av nv cv) AX 3 OF NN none 0 0 [] ⟨#[]⟩ allJ w5 HSX.out HOA.out (Row.none _) rfl (by decide))
    obtain ⟨x0, x1⟩ := HRX.out.c2
    go_wp2_with fail
    refine HAPZ.out.mono ?_
    unfold PApplyIs
    first | rw [km_e, HA3.out] | rw [HA3.out]
    rintro e w6 ⟨d, v, rfl, hs, b⟩
    replace HB := Lib.hid (HB.out.trans (b.mono HB.out.size))
    replace HA := Lib.hid (HA.out.later b)
    obtain ⟨p1, p2, p3, p4, p5, p6, rfl, rfl⟩ := hs.shape
    have b2 := below_st w6 #[.slice p1 p2 p3, .slice p4 p5 p6]
    have HBz := Lib.hid (SAt.new hs.all)
    replace HB := Lib.hid (HB.out.trans (b2.mono HB.out.size))
    replace HA := Lib.hid (HA.out.later b2)
    replace HRX := Lib.hid ((HRX.out.later b).later b2)
    replace HSX := Lib.hid ((HSX.out.later b).later b2)
    clear hs b b2 x0 x1 HAPZ
    go_upto_region 7 with fail
    obtain ⟨wo, hw⟩ : ∃ W, w6.alloc (.cells #[.slice p1 p2 p3, .slice p4 p5 p6] tSt) = W := ⟨_, rfl⟩
    rw [hw] at HA HBz HB HRX HSX
    try rw [hw]
    obtain ⟨QB, hX⟩ : ∃ X, w6.heap.size = X := ⟨_, rfl⟩
    rw [hX] at HBz ⊢
    clear hw hX
    have HAP : Hid (∀ W, Below wo.heap.size wo W → ∀ g, Own wo W (.slice (some ⟨g, 0, none⟩) NN NN) (List.replicate NN 0) → Calls Try.prog 16 #[.agg #[.slice ad nd cd, .slice av nv cv], .agg #[.int .i64 1, .int .i64 (OF : Nat), .int .i64 0, .slice (some ⟨g, 0, none⟩) NN NN, .string ⟨#[]⟩]] W fun e w' => ∃ d2 v2, e = .returned (.tuple #[.agg #[d2, v2], .int .i64 CE]) ∧ StA allJ w' d2 v2 s1 ∧ Below W.heap.size W w') := Lib.hid (fun W hb g o => by
      obtain ⟨a', c', hv, r⟩ := o.row_n (n := NN) (by simp)
      simp only [Value.slice.injEq, true_and] at hv
      obtain ⟨rfl, rfl⟩ := hv
      have h := papply14_any (.slice ad nd cd) (.slice av nv cv) AX 1 OF 0 (some ⟨g, 0, none⟩) NN NN (List.replicate NN 0) ⟨#[]⟩ allJ W (HSX.out.later hb) HOA.out r (by simp) (by decide)
      unfold PApplyIs at h
      rw [km_e, HA1.out] at h
      exact h.mono fun e w' ⟨d2, v2, q1, q2, q3⟩ => ⟨d2, v2, q1, q2.all, q3⟩)
    -- REG A7
    refine wp_region_ptabW (L := fun ph => match ph with | 0 => [cV (.agg #[.slice ad nd cd, .slice av nv cv]), cV (.int .i64 (OF : Nat)), cV (.int .i64 (NN : Nat)), zoV wo NN, ewV wo OF NN, apV allJ s1 CE, apV allJ s1 CE, stV allJ s1, cV (.int .i64 CE), zsV wo, tV, cV (.int .i64 CE)] | _ => [cV (.agg #[.slice ad nd cd, .slice av nv cv]), cV (.int .i64 (OF : Nat)), cV (.int .i64 (NN : Nat)), tV, tV, tV, tuV CE, tV, cV (.int .i64 CE), rjV allJ wo s1, tV, cV (.int .i64 CE)]) (fun _ wq => Below wo.heap.size wo wq) [10] [(0, 0), (0, 0), (0, 0), (0, 0), (0, 0), (0, 0), (0, 0), (0, 0), (0, 1), (0, 0), (0, 1), (0, 1)] [[(9, none)], [(2, none)], [(3, none)], [(50, some 2), (50, some 2)], [(49, some 1), (51, some 3)], [(48, some 0), (52, some 4)], [(53, some 5)], [(47, some 6)], [(47, some 6)], [], [(14, some 9), (54, some 7)], [(55, some 8)]] 12 1 150 (by kernel_rfl) rfl rfl rfl (by kernel_rfl) (by kernel_rfl) (by decide) (by kernel_rfl) ?_ ?_ ?_ ?_ ?_
    · exact fun ph w1 w2 h hb => h.trans (hb.mono h.size)
    · exact (Below.refl _ _)
    · show ∀ i, i < 12 → _
      iterate 12 (refine fls ?_ ?_)
      · exact fl0
      · intro hne lo hi ph hran hp1 hp2 a w1 hJ hsz hs      -- 0: slot 48
        obtain ⟨rfl, rfl⟩ : 0 = lo ∧ 0 = hi := Prod.mk.inj (Option.some.inj hran)
        obtain rfl : ph = 0 := by omega
        obtain ⟨h0, _⟩ := hs
        have h0 : a.tmps.getD 9 undef = .pointer (some ⟨PS, 0, none⟩) := h0
        obtain ⟨x0, x1⟩ := (HRX.out.later (show Below wo.heap.size wo w1 from hJ)).c2
        refine op_run rfl rfl (v := .agg #[.slice ad nd cd, .slice av nv cv]) (w' := w1) ?_ rfl (Below.refl _ _)
        simp [execOp, Act.eval, h0, x0, x1, go_sem]
      · intro hne lo hi ph hran hp1 hp2 a w1 hJ hsz hs      -- 1: slot 49
        obtain ⟨rfl, rfl⟩ : 0 = lo ∧ 0 = hi := Prod.mk.inj (Option.some.inj hran)
        obtain rfl : ph = 0 := by omega
        obtain ⟨h0, _⟩ := hs
        have h0 : a.tmps.getD 2 undef = .int .i64 (OF : Nat) := h0
        refine op_run rfl rfl (v := .int .i64 (OF : Nat)) (w' := w1) ?_ rfl (Below.refl _ _)
        simp [execOp, Act.eval, h0, go_sem]
      · intro hne lo hi ph hran hp1 hp2 a w1 hJ hsz hs      -- 2: slot 50
        obtain ⟨rfl, rfl⟩ : 0 = lo ∧ 0 = hi := Prod.mk.inj (Option.some.inj hran)
        obtain rfl : ph = 0 := by omega
        obtain ⟨h0, _⟩ := hs
        have h0 : a.tmps.getD 3 undef = .int .i64 (NN : Nat) := h0
        refine op_run rfl rfl (v := .int .i64 (NN : Nat)) (w' := w1) ?_ rfl (Below.refl _ _)
        simp [execOp, Act.eval, h0, go_sem]
      · intro hne lo hi ph hran hp1 hp2 a w1 hJ hsz hs      -- 3: slot 51
        obtain ⟨rfl, rfl⟩ : 0 = lo ∧ 0 = hi := Prod.mk.inj (Option.some.inj hran)
        obtain rfl : ph = 0 := by omega
        obtain ⟨h0, h1, _⟩ := hs
        have h0 : a.tmps.getD 50 undef = .int .i64 (NN : Nat) := h0
        have h1 : a.tmps.getD 50 undef = .int .i64 (NN : Nat) := h1
        exact op_zeros rfl rfl (.tmp 50) (.tmp 50) rfl NN h0 h0 HNN.out (fun w' o2 => ⟨w1.heap.size, rfl, o2.back (show Below wo.heap.size wo w1 from hJ)⟩)
      · intro hne lo hi ph hran hp1 hp2 a w1 hJ hsz hs      -- 4: slot 52
        obtain ⟨rfl, rfl⟩ : 0 = lo ∧ 0 = hi := Prod.mk.inj (Option.some.inj hran)
        obtain rfl : ph = 0 := by omega
        obtain ⟨h0, h1, _⟩ := hs
        have h0 : a.tmps.getD 49 undef = .int .i64 (OF : Nat) := h0
        have g0 : a.tmps[49]?.getD undef = .int .i64 (OF : Nat) := (Array.getD_eq_getD_getElem? ..).symm.trans h0
        obtain ⟨g1, h1, o1⟩ := (show ∃ g, a.tmps.getD 51 undef = .slice (some ⟨g, 0, none⟩) NN NN ∧ Own wo w1 (.slice (some ⟨g, 0, none⟩) NN NN) (List.replicate NN 0) from h1)
        have g51 : a.tmps[51]?.getD undef = .slice (some ⟨g1, 0, none⟩) NN NN := (Array.getD_eq_getD_getElem? ..).symm.trans h1
        have g49 : a.tmps[49]?.getD undef = .int .i64 (OF : Nat) := (Array.getD_eq_getD_getElem? ..).symm.trans h0
        refine op_run rfl rfl (v := .agg #[.int .i64 1, .int .i64 (OF : Nat), .int .i64 0, .slice (some ⟨g1, 0, none⟩) NN NN, .string ⟨#[]⟩]) (w' := w1) ?_ ⟨g1, rfl, o1⟩ (Below.refl _ _)
        simp [execOp, Act.eval, h0, h1, g49, g51, go_sem, ue1]
      · intro hne lo hi ph hran hp1 hp2 a w1 hJ hsz hs      -- 5: slot 53
        obtain ⟨rfl, rfl⟩ : 0 = lo ∧ 0 = hi := Prod.mk.inj (Option.some.inj hran)
        obtain rfl : ph = 0 := by omega
        obtain ⟨h0, h1, _⟩ := hs
        have h0 : a.tmps.getD 48 undef = .agg #[.slice ad nd cd, .slice av nv cv] := h0
        obtain ⟨g1, h1, o1⟩ := (show ∃ g, a.tmps.getD 52 undef = .agg #[.int .i64 1, .int .i64 (OF : Nat), .int .i64 0, .slice (some ⟨g, 0, none⟩) NN NN, .string ⟨#[]⟩] ∧ Own wo w1 (.slice (some ⟨g, 0, none⟩) NN NN) (List.replicate NN 0) from h1)
        refine op_call rfl rfl (f := 16) (args := #[.agg #[.slice ad nd cd, .slice av nv cv], .agg #[.int .i64 1, .int .i64 (OF : Nat), .int .i64 0, .slice (some ⟨g1, 0, none⟩) NN NN, .string ⟨#[]⟩]]) (by simp [execOp, Act.eval, resolve, h0, h1, go_sem]) ?_
        exact (HAP.out w1 (show Below wo.heap.size wo w1 from hJ) g1 o1).mono fun e w' he => by
          obtain ⟨d2, v2, h1, h2, h3⟩ := he
          exact ⟨_, h1, ⟨d2, v2, rfl, h2⟩, h3⟩
      · intro hne lo hi ph hran hp1 hp2 a w1 hJ hsz hs      -- 6: slot 47
        obtain ⟨rfl, rfl⟩ : 0 = lo ∧ 0 = hi := Prod.mk.inj (Option.some.inj hran)
        obtain rfl : ph = 0 := by omega
        obtain ⟨h0, _⟩ := hs
        have m0 : (apV allJ s1 CE).p w1 (a.tmps.getD 53 undef) := h0
        obtain ⟨d2, v2, e20, hst⟩ := (show ∃ d v, a.tmps.getD 53 undef = .tuple #[.agg #[d, v], .int .i64 CE] ∧ StA allJ w1 d v s1 from m0)
        refine op_run rfl rfl (v := .tuple #[.agg #[d2, v2], .int .i64 CE]) (w' := w1) ?_ ⟨d2, v2, rfl, hst⟩ (Below.refl _ _)
        simp [execOp, Act.eval, e20, go_sem]
      · intro hne lo hi ph hran hp1 hp2 a w1 hJ hsz hs      -- 7: slot 54
        obtain ⟨rfl, rfl⟩ : 0 = lo ∧ 0 = hi := Prod.mk.inj (Option.some.inj hran)
        obtain rfl : ph = 0 := by omega
        obtain ⟨h0, _⟩ := hs
        
        obtain ⟨d2, v2, e14, hst⟩ := (show ∃ d v, a.tmps.getD 47 undef = .tuple #[.agg #[d, v], .int .i64 CE] ∧ StA allJ w1 d v s1 from h0)
        refine op_run rfl rfl (v := .agg #[d2, v2]) (w' := w1) ?_ ⟨d2, v2, rfl, hst⟩ (Below.refl _ _)
        simp [execOp, Act.eval, e14, go_sem]
      · intro hne lo hi ph hran hp1 hp2 a w1 hJ hsz hs      -- 8: slot 55
        obtain ⟨rfl, rfl⟩ : 0 = lo ∧ 1 = hi := Prod.mk.inj (Option.some.inj hran)
        rcases (by omega : ph = 0 ∨ ph = 1) with rfl | rfl
        · obtain ⟨h0, _⟩ := hs
          
          obtain ⟨d2, v2, e14⟩ : ∃ d v, a.tmps.getD 47 undef = .tuple #[.agg #[d, v], .int .i64 CE] := by
            first
            | exact h0
            | exact (let ⟨d, v, q, _⟩ := (show ∃ d v, a.tmps.getD 47 undef = .tuple #[.agg #[d, v], .int .i64 CE] ∧ StA allJ w1 d v s1 from h0); ⟨d, v, q⟩)
          refine op_run rfl rfl (v := .int .i64 CE) (w' := w1) ?_ rfl (Below.refl _ _)
          simp [execOp, Act.eval, e14, go_sem]
        · obtain ⟨h0, _⟩ := hs
          
          obtain ⟨d2, v2, e14⟩ : ∃ d v, a.tmps.getD 47 undef = .tuple #[.agg #[d, v], .int .i64 CE] := by
            first
            | exact h0
            | exact (let ⟨d, v, q, _⟩ := (show ∃ d v, a.tmps.getD 47 undef = .tuple #[.agg #[d, v], .int .i64 CE] ∧ StA allJ w1 d v s1 from h0); ⟨d, v, q⟩)
          refine op_run rfl rfl (v := .int .i64 CE) (w' := w1) ?_ rfl (Below.refl _ _)
          simp [execOp, Act.eval, e14, go_sem]
      · intro hne lo hi ph hran hp1 hp2 a w1 hJ hsz hs      -- 9: slot 14
        obtain ⟨rfl, rfl⟩ : 0 = lo ∧ 0 = hi := Prod.mk.inj (Option.some.inj hran)
        obtain rfl : ph = 0 := by omega
        refine op_run rfl rfl (v := .pointer (some ⟨w1.heap.size, 0, none⟩)) (w' := w1.alloc (.cells zeroSt 28)) ?_ ⟨w1.heap.size, rfl, RecAt.new w1 _ _, (show Below wo.heap.size wo w1 from hJ).size⟩ ((Below.refl _ _).alloc (Nat.le_refl _) _)
        simp [execOp, Act.eval, go_sem, ub0, zeroSt]
      · intro hne lo hi ph hran hp1 hp2 a w1 hJ hsz hs      -- 10: slot None
        exact absurd (by decide) hne
      · intro hne lo hi ph hran hp1 hp2 a w1 hJ hsz hs      -- 11: slot 15
        obtain ⟨rfl, rfl⟩ : 0 = lo ∧ 1 = hi := Prod.mk.inj (Option.some.inj hran)
        rcases (by omega : ph = 0 ∨ ph = 1) with rfl | rfl
        · obtain ⟨h0, _⟩ := hs
          have h0 : a.tmps.getD 55 undef = .int .i64 CE := h0
          refine op_run rfl rfl (v := .int .i64 CE) (w' := w1) ?_ rfl (Below.refl _ _)
          simp [execOp, Act.eval, h0, go_sem]
        · obtain ⟨h0, _⟩ := hs
          have h0 : a.tmps.getD 55 undef = .int .i64 CE := h0
          refine op_run rfl rfl (v := .int .i64 CE) (w' := w1) ?_ rfl (Below.refl _ _)
          simp [execOp, Act.eval, h0, go_sem]
    · show ∀ ph, ph < 1 → _
      iterate 1 (refine fls ?_ ?_)
      · exact fl0
      · intro i hi a w1 hJ hsz hs      -- heavy 0: op 10 slot None
        obtain rfl : 10 = i := Option.some.inj hi
        obtain ⟨h0, h1, _⟩ := hs
        have m0 : (zsV wo).p w1 (a.tmps.getD 14 undef) := h0
        have m1 : (stV allJ s1).p w1 (a.tmps.getD 54 undef) := h1
        obtain ⟨PX, hvx, hX, hXs⟩ := (show ∃ g, a.tmps.getD 14 undef = .pointer (some ⟨g, 0, none⟩) ∧ RecAt w1 g zeroSt 28 ∧ wo.heap.size ≤ g from m0)
        obtain ⟨d1, v1, e21, md⟩ := (show ∃ d v, a.tmps.getD 54 undef = .agg #[d, v] ∧ StA allJ w1 d v s1 from m1)
        have hone : (#[d1, v1] : Array Value).all (·.oneCell') = true := by
          obtain ⟨qa, qb, qc, qd, rfl, rfl, _, _⟩ := md.open
          simp [Value.oneCell']
        refine hv_recW rfl rfl (x := PX) (p := .tmp 14) (v := .tmp 54) (cs := zeroSt) (vs := #[d1, v1]) rfl hvx e21 hX rfl (by kernel_rfl) hone (fun w' => trivial) ?_
        intro w' r1 r2 r3 r4
        have hb : Below wo.heap.size wo w' := (show Below wo.heap.size wo w1 from hJ).grown r4 (show Below wo.heap.size wo w1 from hJ).size (fun q e => by cases e; exact hXs)
        have o1 : StA allJ w' d1 v1 s1 := ((md.lessRec hX).keep (fun b hb2 hj => r3 b hj.2) (Nat.le_of_eq r2.symm)).weak fun b _ hj => hj.1
        exact ⟨hb, CalmW.all ⟨.inr fun _ _ h => h, .inr fun _ _ h => h, .inr fun _ _ h => h, .inr fun _ _ _ => trivial, .inr fun _ _ _ => trivial, .inr fun _ _ _ => trivial, .inr fun v hh h => (let ⟨d, v2, q, _⟩ := h; ⟨d, v2, q⟩), .inr fun _ _ _ => trivial, .inr fun _ _ h => h, .inr fun v hh _ => ⟨PX, d1, v1, (hh _ _ rfl rfl).trans hvx, r1, hXs, o1⟩, .inl rfl, .inr fun _ _ h => h, trivial⟩⟩
    intro f w1 hJ hv
    have e6 : (rjV allJ wo s1).p w1 (f 14) := hv 9 _ 14 rfl rfl
    have e7 : f 15 = .int .i64 CE := hv 11 _ 15 rfl rfl
    have hbo : Below wo.heap.size wo w1 := hJ
    clear hv
    try simp only [Exit.then]
    simp only [putAll, List.foldl_cons, List.foldl_nil, Option.getD_some, Act.put, List.setIfInBounds_toArray, List.set_cons_succ, List.set_cons_zero]
    obtain ⟨PX, d1, v1, e6, r6, hXs, o1⟩ := e6
    rw [e6, e7]
    clear hJ e6 e7
    -- END A7
    obtain ⟨p1, p2, p3, p4, p5, p6, rfl, rfl⟩ := o1.shape
    have HCz : Hid (SAt allJ w1 PX s1) := Lib.hid ⟨_, _, _, _, _, _, r6, o1⟩
    replace HB := Lib.hid (HB.out.trans (hbo.mono HB.out.size))
    replace HA := Lib.hid (HA.out.later hbo)
    replace HBz := Lib.hid (HBz.out.later hbo)
    replace HRX := Lib.hid (HRX.out.later hbo)
    replace HSX := Lib.hid (HSX.out.later hbo)
    clear r6 o1 hbo hXs HAP
    obtain ⟨w7, hw⟩ : ∃ W, W = w1 := ⟨_, rfl⟩
    subst hw
    have hc1 : (CE != CE) = false := by simp
    have hw2 : wrap64 ((OF : Int) + (NN : Int)) = (OF : Int) + (NN : Int) := IntWalk.wrap64_in _ (by have := HO5.out; have := HN1.out; omega)
    have hnd5 : nd ≤ 512 := by have := HOA.out.size; rw [HND.out] at this; exact this
    obtain ⟨xa, xn, xc, xd, xm, xe, hRA, hSA⟩ := HA.out
    obtain ⟨ya, yn, yc, yd, ym, ye, hRB, hSB⟩ := HBz.out
    obtain ⟨za, zn, zc, zd, zm, ze, hRC, hSC⟩ := HCz.out
    have HSA := Lib.hid hSA
    have HSB := Lib.hid hSB
    have HSC := Lib.hid hSC
    have HRB := Lib.hid hRB
    have HRC := Lib.hid hRC
    obtain ⟨x0, x1⟩ := HRX.out.c2
    obtain ⟨y0, y1⟩ := hRA.c2
    obtain ⟨z0, z1⟩ := hRB.c2
    clear hRA hRB hRC hSA hSB hSC HA HBz HCz
    rcases (show ((CE == 0) = true ∧ OF + NN ≤ nd) ∨ ((CE == 0) = false ∧ nd < OF + NN) by
        have h := HC0.out
        rw [HND.out] at h
        by_cases c : OF + NN ≤ nd
        · exact .inl ⟨by simp [h.2 c], c⟩
        · exact .inr ⟨beq_eq_false_iff_ne.2 (fun e => c (h.1 e)), by omega⟩) with ⟨hz0, hfit⟩ | ⟨hz0, hfit⟩
    · have hfI : decide ((OF : Int) + (NN : Int) ≤ (nd : Int)) = true := decide_eq_true (by omega)
      go_wp2_with fail
      refine (psame14_yes (.slice xa xn xc) (.slice xd xm xe) (.slice ya yn yc) (.slice yd ym ye) s1 s1 _ _ _ HSA.out HSB.out HOK1.out.may HOK1.out.may rfl).mono ?_
      rintro e w8 ⟨rfl, b⟩
      replace HB := Lib.hid (HB.out.trans (b.mono HB.out.size))
      replace HRX := Lib.hid (HRX.out.later b)
      replace HSX := Lib.hid (HSX.out.later b)
      replace HRB := Lib.hid (HRB.out.later b)
      replace HRC := Lib.hid (HRC.out.later b)
      replace HSB := Lib.hid (HSB.out.later b)
      replace HSC := Lib.hid (HSC.out.later b)
      clear b x0 x1 y0 y1 z0 z1 HSA
      obtain ⟨y0, y1⟩ := HRB.out.c2
      obtain ⟨z0, z1⟩ := HRC.out.c2
      go_wp2_with fail
      refine (psame14_yes (.slice ya yn yc) (.slice yd ym ye) (.slice za zn zc) (.slice zd zm ze) s1 s1 _ _ _ HSB.out HSC.out HOK1.out.may HOK1.out.may rfl).mono ?_
      rintro e w9 ⟨rfl, b⟩
      replace HB := Lib.hid (HB.out.trans (b.mono HB.out.size))
      replace HRX := Lib.hid (HRX.out.later b)
      replace HSX := Lib.hid (HSX.out.later b)
      clear b y0 y1 z0 z1 HSB HSC HRB HRC hz0 hfit hc1 hfI hw2
      have hbe : Below w9.heap.size w9 (w9.alloc (.cells #[.int .i64 4, .int .i64 0, .int .i64 (OF : Nat), .slice none 0 0, .string ⟨#[]⟩, .int .i64 4, .int .i64 0, .int .i64 (nd : Nat), .slice none 0 0, .string ⟨#[]⟩] 33)) := (Below.refl _ _).alloc (Nat.le_refl _) _
      have HQE := Lib.hid (qe_two w9 OF nd)
      have HFD : foldM AX [evRz OF, evRz nd] = ⟨sizedL (sizedL AX.data OF) nd, AX.snaps⟩ := by
        rw [foldM_cons, foldM_cons, foldM_nil, resize_fine OF (by have := HO5.out; omega), resize_fine nd hnd5]
      obtain ⟨wb, hwb⟩ : ∃ W, w9.alloc (.cells #[.int .i64 4, .int .i64 0, .int .i64 (OF : Nat), .slice none 0 0, .string ⟨#[]⟩, .int .i64 4, .int .i64 0, .int .i64 (nd : Nat), .slice none 0 0, .string ⟨#[]⟩] 33) = W := ⟨_, rfl⟩
      rw [hwb] at HQE hbe
      have HPF := Lib.hid (pfold14_any (.slice ad nd cd) (.slice av nv cv) AX (some ⟨w9.heap.size, 0, none⟩) 2 2 [evRz OF, evRz nd] _ _ wb (HSX.out.later hbe) HOA.out HQE.out)
      rw [HFD] at HPF
      have HBb := Lib.hid (HB.out.trans (hbe.mono HB.out.size))
      have HRXb := Lib.hid (HRX.out.later hbe)
      have HSXb := Lib.hid (HSX.out.later hbe)
      clear hbe HQE HFD
      obtain ⟨x0, x1⟩ := HRX.out.c2
      go_wp2_with fail
      try rw [hwb]
      refine HPF.out.mono ?_
      rintro e w10 ⟨d, v, rfl, hs, b⟩
      obtain ⟨aD, cD, rfl, rD⟩ := hs.data.row_n (n := nd) (sizedL_len _ _)
      obtain ⟨aE, cE, rfl, -⟩ := hs.snaps.val (n := nv) HNV.out
      have b2 := below_st w10 #[.slice aD nd cD, .slice aE nv cE]
      have HRD := Lib.hid (RecAt.new w10 #[.slice aD nd cD, .slice aE nv cE] tSt)
      have HDR := Lib.hid (rD.later b2)
      have HBd := Lib.hid ((HBb.out.trans (b.mono HBb.out.size)).trans (b2.mono (Nat.le_trans HBb.out.size b.size)))
      have HRS := Lib.hid ((HRXb.out.later b).later b2)
      have HSS := Lib.hid ((HSXb.out.later b).later b2)
      clear hs rD b b2 x0 x1 HPF HBb HRXb HSXb HB HRX HSX hwb
      go_upto_region 11 with fail
      obtain ⟨wd, hw⟩ : ∃ W, w10.alloc (.cells #[.slice aD nd cD, .slice aE nv cE] tSt) = W := ⟨_, rfl⟩
      rw [hw] at HRD HDR HBd HRS HSS
      try rw [hw]
      obtain ⟨PD, hX⟩ : ∃ X, w10.heap.size = X := ⟨_, rfl⟩
      rw [hX] at HRD ⊢
      clear hw hX
      obtain ⟨x0, x1⟩ := HRS.out.c2
      obtain ⟨y0, y1⟩ := HRD.out.c2
      go_wp2_with fail
      clear x0 x1 y0 y1
      go_loopw [17] (fun i wr => ∃ j : Nat, i = .int .i64 j ∧ j ≤ nd ∧ Below wd.heap.size wd wr) (fun i _ => nd - (intOf i).toNat)
      case atStart => exact ⟨0, rfl, by omega, Below.refl _ _⟩
      case round =>
        obtain ⟨j, rfl, hj, hbr⟩ := hrel
        have HBR := Lib.hid hbr
        replace HRD := Lib.hid (HRD.out.later hbr)
        replace HRS := Lib.hid (HRS.out.later hbr)
        replace HDR := Lib.hid (HDR.out.later hbr)
        replace HSS := Lib.hid (HSS.out.later hbr)
        clear hbr
        by_cases hjn : (j : Int) < nd
        · have hjd : decide ((j : Int) < (nd : Int)) = true := decide_eq_true hjn
          have HJL : Hid (j < nd) := Lib.hid (by omega)
          obtain ⟨y0, y1⟩ := HRD.out.c2
          obtain ⟨x0, x1⟩ := HRS.out.c2
          obtain ⟨bD, fD, hbD, pD⟩ := HDR.out.at (by rw [sizedL_len]; have := HJL.out; omega)
          subst hbD
          obtain ⟨qa, qc, hq, rS⟩ := HSS.out.data.row_n HND.out
          obtain ⟨rfl, rfl⟩ : ad = qa ∧ cd = qc := by simpa using hq
          obtain ⟨bS, fS, hbS, pS⟩ := rS.at (by rw [HND.out]; have := HJL.out; omega)
          subst hbS
          obtain ⟨u, hu⟩ : ∃ u, AX.data[j]? = some u := ⟨_, List.getElem?_eq_getElem (by rw [HND.out]; exact HJL.out)⟩
          have hd := there_back AX.data OF j (by rw [HND.out]; exact HJL.out)
          rw [HND.out, hu] at hd
          simp only [Option.getD_some] at hd
          have hcd := pD j _ hd
          have hcs := pS j u hu
          by_cases hlt : j < OF
          · have HLT : Hid ((j : Int) < (OF : Int)) := Lib.hid (by omega)
            have HGE : Hid (¬ ((OF : Int) ≤ (j : Int))) := Lib.hid (by omega)
            rw [if_pos hlt] at hcd
            obtain ⟨UX, hUX⟩ : ∃ z, (u.toNat : Int) = z := ⟨_, rfl⟩
            have HCD : Hid (∀ W, Below wr.heap.size wr W → W.cell? ⟨bD, fD + j, none⟩ = some (.int .u8 UX)) := Lib.hid fun W hb => by rw [hb.cell (World.block_lt_of_cell? _ _ hcd), hcd, ← hUX]; rfl
            have HCS : Hid (∀ W, Below wr.heap.size wr W → W.cell? ⟨bS, fS + j, none⟩ = some (.int .u8 UX)) := Lib.hid fun W hb => by rw [hb.cell (World.block_lt_of_cell? _ _ hcs), hcs, ← hUX]; rfl
            clear hlt hcd hcs hd hu hUX rS hq pD pS
            go_upto_region 16 with fail
            clear x0 x1 y0 y1
            -- REG A16La
            refine wp_region_tab (L := [cV (.int .i64 (j : Nat)), cV (.int .i64 (OF : Nat)), cV (.bool true), cV (.bool true), cV (.pointer (some ⟨PD, 0, none⟩)), cV (.slice (some ⟨bD, fD, none⟩) nd cD), cV (.int .i64 (j : Nat)), cV (.pointer (some ⟨bD, fD + j, none⟩)), cV (.int .u8 UX), cV (.pointer (some ⟨PS, 0, none⟩)), cV (.slice (some ⟨bS, fS, none⟩) nd cd), cV (.int .i64 (j : Nat)), cV (.pointer (some ⟨bS, fS + j, none⟩)), cV (.int .u8 UX), cV (.bool false), cV (.bool false), cV (.bool false), cV (.int .i64 (j : Nat)), cV (.int .i64 (OF : Nat)), cV (.bool false), cV (.bool false), cV (undef), cV (undef), cV (undef), cV (undef), cV (undef), cV (undef), cV (Value.bool false), cV (Value.bool false)]) [[(17, none)], [(2, none)], [(120, some 0), (121, some 1)], [(122, some 2)], [(16, none), (123, some 3)], [(124, some 4), (123, some 3)], [(17, none), (123, some 3)], [(125, some 5), (126, some 6), (123, some 3)], [(127, some 7), (123, some 3)], [(9, none), (123, some 3)], [(129, some 9), (123, some 3)], [(17, none), (123, some 3)], [(130, some 10), (131, some 11), (123, some 3)], [(132, some 12), (123, some 3)], [(128, some 8), (133, some 13), (123, some 3)], [(123, some 3), (134, some 14)], [(135, some 15)], [(17, none), (136, some 16)], [(2, none), (136, some 16)], [(137, some 17), (138, some 18), (136, some 16)], [(139, some 19), (136, some 16)], [(16, none), (140, some 20)], [(141, some 21), (140, some 20)], [(17, none), (140, some 20)], [(142, some 22), (143, some 23), (140, some 20)], [(144, some 24), (140, some 20)], [(145, some 25), (140, some 20)], [(140, some 20), (146, some 26), (136, some 16)], [(136, some 16), (147, some 27)]] 29 150 (by kernel_rfl) rfl rfl (by kernel_rfl) (by kernel_rfl) ?_ ?_
            · show ∀ i, i < 29 → _
              iterate 29 (refine fls ?_ ?_)
              · exact fl0
              · intro a w1 hR hsz hs      -- 0: slot 120
                obtain ⟨h0, _⟩ := hs
                have h0 : a.tmps.getD 17 undef = .int .i64 (j : Nat) := h0
                refine op_run rfl rfl (v := .int .i64 (j : Nat)) (w' := w1) ?_ rfl (Below.refl _ _)
                simp [execOp, Act.eval, h0, go_sem]
              · intro a w1 hR hsz hs      -- 1: slot 121
                obtain ⟨h0, _⟩ := hs
                have h0 : a.tmps.getD 2 undef = .int .i64 (OF : Nat) := h0
                refine op_run rfl rfl (v := .int .i64 (OF : Nat)) (w' := w1) ?_ rfl (Below.refl _ _)
                simp [execOp, Act.eval, h0, go_sem]
              · intro a w1 hR hsz hs      -- 2: slot 122
                obtain ⟨h0, h1, _⟩ := hs
                have h0 : a.tmps.getD 120 undef = .int .i64 (j : Nat) := h0
                have h1 : a.tmps.getD 121 undef = .int .i64 (OF : Nat) := h1
                have k1 := HLT.out
                refine op_run rfl rfl (v := .bool true) (w' := w1) ?_ rfl (Below.refl _ _)
                simp [execOp, Act.eval, h0, h1, k1, go_sem]
              · intro a w1 hR hsz hs      -- 3: slot 123
                obtain ⟨h0, _⟩ := hs
                have h0 : a.tmps.getD 122 undef = .bool true := h0
                refine op_run rfl rfl (v := .bool true) (w' := w1) ?_ rfl (Below.refl _ _)
                simp [execOp, Act.eval, h0, go_sem]
              · intro a w1 hR hsz hs      -- 4: slot 124
                obtain ⟨h0, h1, _⟩ := hs
                have h0 : a.tmps.getD 16 undef = .pointer (some ⟨PD, 0, none⟩) := h0
                have h1 : a.tmps.getD 123 undef = .bool true := h1
                refine opg_run rfl rfl rfl (by rw [hsz]; decide) h1 (v := .pointer (some ⟨PD, 0, none⟩)) (w' := w1) ?_ rfl (Below.refl _ _)
                simp [execOp, Act.eval, h0, go_sem]
              · intro a w1 hR hsz hs      -- 5: slot 125
                obtain ⟨h0, h1, _⟩ := hs
                have h0 : a.tmps.getD 124 undef = .pointer (some ⟨PD, 0, none⟩) := h0
                have h1 : a.tmps.getD 123 undef = .bool true := h1
                obtain ⟨x0, x1⟩ := (HRD.out.later hR).c2
                refine opg_run rfl rfl rfl (by rw [hsz]; decide) h1 (v := .slice (some ⟨bD, fD, none⟩) nd cD) (w' := w1) ?_ rfl (Below.refl _ _)
                simp [execOp, Act.eval, h0, x0, go_sem]
              · intro a w1 hR hsz hs      -- 6: slot 126
                obtain ⟨h0, h1, _⟩ := hs
                have h0 : a.tmps.getD 17 undef = .int .i64 (j : Nat) := h0
                have h1 : a.tmps.getD 123 undef = .bool true := h1
                refine opg_run rfl rfl rfl (by rw [hsz]; decide) h1 (v := .int .i64 (j : Nat)) (w' := w1) ?_ rfl (Below.refl _ _)
                simp [execOp, Act.eval, h0, go_sem]
              · intro a w1 hR hsz hs      -- 7: slot 127
                obtain ⟨h0, h1, h2, _⟩ := hs
                have h0 : a.tmps.getD 125 undef = .slice (some ⟨bD, fD, none⟩) nd cD := h0
                have h1 : a.tmps.getD 126 undef = .int .i64 (j : Nat) := h1
                have h2 : a.tmps.getD 123 undef = .bool true := h2
                have k1 := HJL.out
                refine opg_run rfl rfl rfl (by rw [hsz]; decide) h2 (v := .pointer (some ⟨bD, fD + j, none⟩)) (w' := w1) ?_ rfl (Below.refl _ _)
                simp [execOp, Act.eval, h0, h1, k1, go_sem]
              · intro a w1 hR hsz hs      -- 8: slot 128
                obtain ⟨h0, h1, _⟩ := hs
                have h0 : a.tmps.getD 127 undef = .pointer (some ⟨bD, fD + j, none⟩) := h0
                have h1 : a.tmps.getD 123 undef = .bool true := h1
                have k1 := HCD.out w1 hR
                refine opg_run rfl rfl rfl (by rw [hsz]; decide) h1 (v := .int .u8 UX) (w' := w1) ?_ rfl (Below.refl _ _)
                simp [execOp, Act.eval, h0, k1, go_sem]
              · intro a w1 hR hsz hs      -- 9: slot 129
                obtain ⟨h0, h1, _⟩ := hs
                have h0 : a.tmps.getD 9 undef = .pointer (some ⟨PS, 0, none⟩) := h0
                have h1 : a.tmps.getD 123 undef = .bool true := h1
                refine opg_run rfl rfl rfl (by rw [hsz]; decide) h1 (v := .pointer (some ⟨PS, 0, none⟩)) (w' := w1) ?_ rfl (Below.refl _ _)
                simp [execOp, Act.eval, h0, go_sem]
              · intro a w1 hR hsz hs      -- 10: slot 130
                obtain ⟨h0, h1, _⟩ := hs
                have h0 : a.tmps.getD 129 undef = .pointer (some ⟨PS, 0, none⟩) := h0
                have h1 : a.tmps.getD 123 undef = .bool true := h1
                obtain ⟨x0, x1⟩ := (HRS.out.later hR).c2
                refine opg_run rfl rfl rfl (by rw [hsz]; decide) h1 (v := .slice (some ⟨bS, fS, none⟩) nd cd) (w' := w1) ?_ rfl (Below.refl _ _)
                simp [execOp, Act.eval, h0, x0, go_sem]
              · intro a w1 hR hsz hs      -- 11: slot 131
                obtain ⟨h0, h1, _⟩ := hs
                have h0 : a.tmps.getD 17 undef = .int .i64 (j : Nat) := h0
                have h1 : a.tmps.getD 123 undef = .bool true := h1
                refine opg_run rfl rfl rfl (by rw [hsz]; decide) h1 (v := .int .i64 (j : Nat)) (w' := w1) ?_ rfl (Below.refl _ _)
                simp [execOp, Act.eval, h0, go_sem]
              · intro a w1 hR hsz hs      -- 12: slot 132
                obtain ⟨h0, h1, h2, _⟩ := hs
                have h0 : a.tmps.getD 130 undef = .slice (some ⟨bS, fS, none⟩) nd cd := h0
                have h1 : a.tmps.getD 131 undef = .int .i64 (j : Nat) := h1
                have h2 : a.tmps.getD 123 undef = .bool true := h2
                have k1 := HJL.out
                refine opg_run rfl rfl rfl (by rw [hsz]; decide) h2 (v := .pointer (some ⟨bS, fS + j, none⟩)) (w' := w1) ?_ rfl (Below.refl _ _)
                simp [execOp, Act.eval, h0, h1, k1, go_sem]
              · intro a w1 hR hsz hs      -- 13: slot 133
                obtain ⟨h0, h1, _⟩ := hs
                have h0 : a.tmps.getD 132 undef = .pointer (some ⟨bS, fS + j, none⟩) := h0
                have h1 : a.tmps.getD 123 undef = .bool true := h1
                have k1 := HCS.out w1 hR
                refine opg_run rfl rfl rfl (by rw [hsz]; decide) h1 (v := .int .u8 UX) (w' := w1) ?_ rfl (Below.refl _ _)
                simp [execOp, Act.eval, h0, k1, go_sem]
              · intro a w1 hR hsz hs      -- 14: slot 134
                obtain ⟨h0, h1, h2, _⟩ := hs
                have h0 : a.tmps.getD 128 undef = .int .u8 UX := h0
                have h1 : a.tmps.getD 133 undef = .int .u8 UX := h1
                have h2 : a.tmps.getD 123 undef = .bool true := h2
                refine opg_run rfl rfl rfl (by rw [hsz]; decide) h2 (v := .bool false) (w' := w1) ?_ rfl (Below.refl _ _)
                simp [execOp, Act.eval, h0, h1, go_sem]
              · intro a w1 hR hsz hs      -- 15: slot 135
                obtain ⟨h0, h1, _⟩ := hs
                have h0 : a.tmps.getD 123 undef = .bool true := h0
                have h1 : a.tmps.getD 134 undef = .bool false := h1
                refine op_run rfl rfl (v := .bool false) (w' := w1) ?_ rfl (Below.refl _ _)
                simp [execOp, Act.eval, h0, h1, go_sem]
              · intro a w1 hR hsz hs      -- 16: slot 136
                obtain ⟨h0, _⟩ := hs
                have h0 : a.tmps.getD 135 undef = .bool false := h0
                refine op_run rfl rfl (v := .bool false) (w' := w1) ?_ rfl (Below.refl _ _)
                simp [execOp, Act.eval, h0, go_sem]
              · intro a w1 hR hsz hs      -- 17: slot 137
                obtain ⟨h0, h1, _⟩ := hs
                have h0 : a.tmps.getD 17 undef = .int .i64 (j : Nat) := h0
                have h1 : a.tmps.getD 136 undef = .bool false := h1
                refine opg_run rfl rfl rfl (by rw [hsz]; decide) h1 (v := .int .i64 (j : Nat)) (w' := w1) ?_ rfl (Below.refl _ _)
                simp [execOp, Act.eval, h0, go_sem]
              · intro a w1 hR hsz hs      -- 18: slot 138
                obtain ⟨h0, h1, _⟩ := hs
                have h0 : a.tmps.getD 2 undef = .int .i64 (OF : Nat) := h0
                have h1 : a.tmps.getD 136 undef = .bool false := h1
                refine opg_run rfl rfl rfl (by rw [hsz]; decide) h1 (v := .int .i64 (OF : Nat)) (w' := w1) ?_ rfl (Below.refl _ _)
                simp [execOp, Act.eval, h0, go_sem]
              · intro a w1 hR hsz hs      -- 19: slot 139
                obtain ⟨h0, h1, h2, _⟩ := hs
                have h0 : a.tmps.getD 137 undef = .int .i64 (j : Nat) := h0
                have h1 : a.tmps.getD 138 undef = .int .i64 (OF : Nat) := h1
                have h2 : a.tmps.getD 136 undef = .bool false := h2
                have k1 := HGE.out
                refine opg_run rfl rfl rfl (by rw [hsz]; decide) h2 (v := .bool false) (w' := w1) ?_ rfl (Below.refl _ _)
                simp [execOp, Act.eval, h0, h1, k1, go_sem]
              · intro a w1 hR hsz hs      -- 20: slot 140
                obtain ⟨h0, h1, _⟩ := hs
                have h0 : a.tmps.getD 139 undef = .bool false := h0
                have h1 : a.tmps.getD 136 undef = .bool false := h1
                refine opg_run rfl rfl rfl (by rw [hsz]; decide) h1 (v := .bool false) (w' := w1) ?_ rfl (Below.refl _ _)
                simp [execOp, Act.eval, h0, go_sem]
              · intro a w1 hR hsz hs      -- 21: slot 141
                obtain ⟨h0, h1, _⟩ := hs
                have h0 : a.tmps.getD 16 undef = .pointer (some ⟨PD, 0, none⟩) := h0
                have h1 : a.tmps.getD 140 undef = .bool false := h1
                exact opg_skip rfl rfl rfl (by rw [hsz]; decide) h1 rfl rfl
              · intro a w1 hR hsz hs      -- 22: slot 142
                obtain ⟨h0, h1, _⟩ := hs
                have h0 : a.tmps.getD 141 undef = undef := h0
                have h1 : a.tmps.getD 140 undef = .bool false := h1
                exact opg_skip rfl rfl rfl (by rw [hsz]; decide) h1 rfl rfl
              · intro a w1 hR hsz hs      -- 23: slot 143
                obtain ⟨h0, h1, _⟩ := hs
                have h0 : a.tmps.getD 17 undef = .int .i64 (j : Nat) := h0
                have h1 : a.tmps.getD 140 undef = .bool false := h1
                exact opg_skip rfl rfl rfl (by rw [hsz]; decide) h1 rfl rfl
              · intro a w1 hR hsz hs      -- 24: slot 144
                obtain ⟨h0, h1, h2, _⟩ := hs
                have h0 : a.tmps.getD 142 undef = undef := h0
                have h1 : a.tmps.getD 143 undef = undef := h1
                have h2 : a.tmps.getD 140 undef = .bool false := h2
                exact opg_skip rfl rfl rfl (by rw [hsz]; decide) h2 rfl rfl
              · intro a w1 hR hsz hs      -- 25: slot 145
                obtain ⟨h0, h1, _⟩ := hs
                have h0 : a.tmps.getD 144 undef = undef := h0
                have h1 : a.tmps.getD 140 undef = .bool false := h1
                exact opg_skip rfl rfl rfl (by rw [hsz]; decide) h1 rfl rfl
              · intro a w1 hR hsz hs      -- 26: slot 146
                obtain ⟨h0, h1, _⟩ := hs
                have h0 : a.tmps.getD 145 undef = undef := h0
                have h1 : a.tmps.getD 140 undef = .bool false := h1
                exact opg_skip rfl rfl rfl (by rw [hsz]; decide) h1 rfl rfl
              · intro a w1 hR hsz hs      -- 27: slot 147
                obtain ⟨h0, h1, h2, _⟩ := hs
                have h0 : a.tmps.getD 140 undef = .bool false := h0
                have h1 : a.tmps.getD 146 undef = undef := h1
                have h2 : a.tmps.getD 136 undef = .bool false := h2
                refine opg_run rfl rfl rfl (by rw [hsz]; decide) h2 (v := Value.bool false) (w' := w1) ?_ rfl (Below.refl _ _)
                simp [execOp, Act.eval, h0, go_sem]
              · intro a w1 hR hsz hs      -- 28: slot 148
                obtain ⟨h0, h1, _⟩ := hs
                have h0 : a.tmps.getD 136 undef = .bool false := h0
                have h1 : a.tmps.getD 147 undef = Value.bool false := h1
                refine op_run rfl rfl (v := Value.bool false) (w' := w1) ?_ rfl (Below.refl _ _)
                simp [execOp, Act.eval, h0, h1, go_sem]
            intro f w1 hR hv
            have e148 : f 148 = .bool false := hv 28 _ 148 rfl rfl
            clear hv
            try simp only [Exit.then]
            simp only [putAll, List.foldl_cons, List.foldl_nil, Option.getD_some, Act.put, List.setIfInBounds_toArray, List.set_cons_succ, List.set_cons_zero]
            rw [e148]
            clear e148
            -- END A16La
            have HB9 := Lib.hid (HBR.out.trans (hR.mono HBR.out.size))
            clear hR
            go_wp2_with fail
            go_roundw
            case rel => exact ⟨j + 1, by go_num, by omega, HB9.out⟩
            case measure => simp [intOf]; omega
          · have HLT : Hid (¬ ((j : Int) < (OF : Int))) := Lib.hid (by omega)
            have HGE : Hid ((OF : Int) ≤ (j : Int)) := Lib.hid (by omega)
            rw [if_neg hlt] at hcd
            have HCD : Hid (∀ W, Below wr.heap.size wr W → W.cell? ⟨bD, fD + j, none⟩ = some (.int .u8 0)) := Lib.hid fun W hb => by rw [hb.cell (World.block_lt_of_cell? _ _ hcd), hcd]; rfl
            clear hlt hcd hcs hd hu rS hq pD pS
            go_upto_region 16 with fail
            clear x0 x1 y0 y1
            -- REG A16Ga
            refine wp_region_tab (L := [cV (.int .i64 (j : Nat)), cV (.int .i64 (OF : Nat)), cV (.bool false), cV (.bool false), cV (undef), cV (undef), cV (undef), cV (undef), cV (undef), cV (undef), cV (undef), cV (undef), cV (undef), cV (undef), cV (undef), cV (Value.bool false), cV (Value.bool false), cV (.int .i64 (j : Nat)), cV (.int .i64 (OF : Nat)), cV (.bool true), cV (.bool true), cV (.pointer (some ⟨PD, 0, none⟩)), cV (.slice (some ⟨bD, fD, none⟩) nd cD), cV (.int .i64 (j : Nat)), cV (.pointer (some ⟨bD, fD + j, none⟩)), cV (.int .u8 0), cV (.bool false), cV (.bool false), cV (.bool false)]) [[(17, none)], [(2, none)], [(120, some 0), (121, some 1)], [(122, some 2)], [(16, none), (123, some 3)], [(124, some 4), (123, some 3)], [(17, none), (123, some 3)], [(125, some 5), (126, some 6), (123, some 3)], [(127, some 7), (123, some 3)], [(9, none), (123, some 3)], [(129, some 9), (123, some 3)], [(17, none), (123, some 3)], [(130, some 10), (131, some 11), (123, some 3)], [(132, some 12), (123, some 3)], [(128, some 8), (133, some 13), (123, some 3)], [(123, some 3), (134, some 14)], [(135, some 15)], [(17, none), (136, some 16)], [(2, none), (136, some 16)], [(137, some 17), (138, some 18), (136, some 16)], [(139, some 19), (136, some 16)], [(16, none), (140, some 20)], [(141, some 21), (140, some 20)], [(17, none), (140, some 20)], [(142, some 22), (143, some 23), (140, some 20)], [(144, some 24), (140, some 20)], [(145, some 25), (140, some 20)], [(140, some 20), (146, some 26), (136, some 16)], [(136, some 16), (147, some 27)]] 29 150 (by kernel_rfl) rfl rfl (by kernel_rfl) (by kernel_rfl) ?_ ?_
            · show ∀ i, i < 29 → _
              iterate 29 (refine fls ?_ ?_)
              · exact fl0
              · intro a w1 hR hsz hs      -- 0: slot 120
                obtain ⟨h0, _⟩ := hs
                have h0 : a.tmps.getD 17 undef = .int .i64 (j : Nat) := h0
                refine op_run rfl rfl (v := .int .i64 (j : Nat)) (w' := w1) ?_ rfl (Below.refl _ _)
                simp [execOp, Act.eval, h0, go_sem]
              · intro a w1 hR hsz hs      -- 1: slot 121
                obtain ⟨h0, _⟩ := hs
                have h0 : a.tmps.getD 2 undef = .int .i64 (OF : Nat) := h0
                refine op_run rfl rfl (v := .int .i64 (OF : Nat)) (w' := w1) ?_ rfl (Below.refl _ _)
                simp [execOp, Act.eval, h0, go_sem]
              · intro a w1 hR hsz hs      -- 2: slot 122
                obtain ⟨h0, h1, _⟩ := hs
                have h0 : a.tmps.getD 120 undef = .int .i64 (j : Nat) := h0
                have h1 : a.tmps.getD 121 undef = .int .i64 (OF : Nat) := h1
                have k1 := HLT.out
                refine op_run rfl rfl (v := .bool false) (w' := w1) ?_ rfl (Below.refl _ _)
                simp [execOp, Act.eval, h0, h1, k1, go_sem]
              · intro a w1 hR hsz hs      -- 3: slot 123
                obtain ⟨h0, _⟩ := hs
                have h0 : a.tmps.getD 122 undef = .bool false := h0
                refine op_run rfl rfl (v := .bool false) (w' := w1) ?_ rfl (Below.refl _ _)
                simp [execOp, Act.eval, h0, go_sem]
              · intro a w1 hR hsz hs      -- 4: slot 124
                obtain ⟨h0, h1, _⟩ := hs
                have h0 : a.tmps.getD 16 undef = .pointer (some ⟨PD, 0, none⟩) := h0
                have h1 : a.tmps.getD 123 undef = .bool false := h1
                exact opg_skip rfl rfl rfl (by rw [hsz]; decide) h1 rfl rfl
              · intro a w1 hR hsz hs      -- 5: slot 125
                obtain ⟨h0, h1, _⟩ := hs
                have h0 : a.tmps.getD 124 undef = undef := h0
                have h1 : a.tmps.getD 123 undef = .bool false := h1
                exact opg_skip rfl rfl rfl (by rw [hsz]; decide) h1 rfl rfl
              · intro a w1 hR hsz hs      -- 6: slot 126
                obtain ⟨h0, h1, _⟩ := hs
                have h0 : a.tmps.getD 17 undef = .int .i64 (j : Nat) := h0
                have h1 : a.tmps.getD 123 undef = .bool false := h1
                exact opg_skip rfl rfl rfl (by rw [hsz]; decide) h1 rfl rfl
              · intro a w1 hR hsz hs      -- 7: slot 127
                obtain ⟨h0, h1, h2, _⟩ := hs
                have h0 : a.tmps.getD 125 undef = undef := h0
                have h1 : a.tmps.getD 126 undef = undef := h1
                have h2 : a.tmps.getD 123 undef = .bool false := h2
                exact opg_skip rfl rfl rfl (by rw [hsz]; decide) h2 rfl rfl
              · intro a w1 hR hsz hs      -- 8: slot 128
                obtain ⟨h0, h1, _⟩ := hs
                have h0 : a.tmps.getD 127 undef = undef := h0
                have h1 : a.tmps.getD 123 undef = .bool false := h1
                exact opg_skip rfl rfl rfl (by rw [hsz]; decide) h1 rfl rfl
              · intro a w1 hR hsz hs      -- 9: slot 129
                obtain ⟨h0, h1, _⟩ := hs
                have h0 : a.tmps.getD 9 undef = .pointer (some ⟨PS, 0, none⟩) := h0
                have h1 : a.tmps.getD 123 undef = .bool false := h1
                exact opg_skip rfl rfl rfl (by rw [hsz]; decide) h1 rfl rfl
              · intro a w1 hR hsz hs      -- 10: slot 130
                obtain ⟨h0, h1, _⟩ := hs
                have h0 : a.tmps.getD 129 undef = undef := h0
                have h1 : a.tmps.getD 123 undef = .bool false := h1
                exact opg_skip rfl rfl rfl (by rw [hsz]; decide) h1 rfl rfl
              · intro a w1 hR hsz hs      -- 11: slot 131
                obtain ⟨h0, h1, _⟩ := hs
                have h0 : a.tmps.getD 17 undef = .int .i64 (j : Nat) := h0
                have h1 : a.tmps.getD 123 undef = .bool false := h1
                exact opg_skip rfl rfl rfl (by rw [hsz]; decide) h1 rfl rfl
              · intro a w1 hR hsz hs      -- 12: slot 132
                obtain ⟨h0, h1, h2, _⟩ := hs
                have h0 : a.tmps.getD 130 undef = undef := h0
                have h1 : a.tmps.getD 131 undef = undef := h1
                have h2 : a.tmps.getD 123 undef = .bool false := h2
                exact opg_skip rfl rfl rfl (by rw [hsz]; decide) h2 rfl rfl
              · intro a w1 hR hsz hs      -- 13: slot 133
                obtain ⟨h0, h1, _⟩ := hs
                have h0 : a.tmps.getD 132 undef = undef := h0
                have h1 : a.tmps.getD 123 undef = .bool false := h1
                exact opg_skip rfl rfl rfl (by rw [hsz]; decide) h1 rfl rfl
              · intro a w1 hR hsz hs      -- 14: slot 134
                obtain ⟨h0, h1, h2, _⟩ := hs
                have h0 : a.tmps.getD 128 undef = undef := h0
                have h1 : a.tmps.getD 133 undef = undef := h1
                have h2 : a.tmps.getD 123 undef = .bool false := h2
                exact opg_skip rfl rfl rfl (by rw [hsz]; decide) h2 rfl rfl
              · intro a w1 hR hsz hs      -- 15: slot 135
                obtain ⟨h0, h1, _⟩ := hs
                have h0 : a.tmps.getD 123 undef = .bool false := h0
                have h1 : a.tmps.getD 134 undef = undef := h1
                refine op_run rfl rfl (v := Value.bool false) (w' := w1) ?_ rfl (Below.refl _ _)
                simp [execOp, Act.eval, h0, go_sem]
              · intro a w1 hR hsz hs      -- 16: slot 136
                obtain ⟨h0, _⟩ := hs
                have h0 : a.tmps.getD 135 undef = Value.bool false := h0
                refine op_run rfl rfl (v := Value.bool false) (w' := w1) ?_ rfl (Below.refl _ _)
                simp [execOp, Act.eval, h0, go_sem]
              · intro a w1 hR hsz hs      -- 17: slot 137
                obtain ⟨h0, h1, _⟩ := hs
                have h0 : a.tmps.getD 17 undef = .int .i64 (j : Nat) := h0
                have h1 : a.tmps.getD 136 undef = Value.bool false := h1
                refine opg_run rfl rfl rfl (by rw [hsz]; decide) h1 (v := .int .i64 (j : Nat)) (w' := w1) ?_ rfl (Below.refl _ _)
                simp [execOp, Act.eval, h0, go_sem]
              · intro a w1 hR hsz hs      -- 18: slot 138
                obtain ⟨h0, h1, _⟩ := hs
                have h0 : a.tmps.getD 2 undef = .int .i64 (OF : Nat) := h0
                have h1 : a.tmps.getD 136 undef = Value.bool false := h1
                refine opg_run rfl rfl rfl (by rw [hsz]; decide) h1 (v := .int .i64 (OF : Nat)) (w' := w1) ?_ rfl (Below.refl _ _)
                simp [execOp, Act.eval, h0, go_sem]
              · intro a w1 hR hsz hs      -- 19: slot 139
                obtain ⟨h0, h1, h2, _⟩ := hs
                have h0 : a.tmps.getD 137 undef = .int .i64 (j : Nat) := h0
                have h1 : a.tmps.getD 138 undef = .int .i64 (OF : Nat) := h1
                have h2 : a.tmps.getD 136 undef = Value.bool false := h2
                have k1 := HGE.out
                refine opg_run rfl rfl rfl (by rw [hsz]; decide) h2 (v := .bool true) (w' := w1) ?_ rfl (Below.refl _ _)
                simp [execOp, Act.eval, h0, h1, k1, go_sem]
              · intro a w1 hR hsz hs      -- 20: slot 140
                obtain ⟨h0, h1, _⟩ := hs
                have h0 : a.tmps.getD 139 undef = .bool true := h0
                have h1 : a.tmps.getD 136 undef = Value.bool false := h1
                refine opg_run rfl rfl rfl (by rw [hsz]; decide) h1 (v := .bool true) (w' := w1) ?_ rfl (Below.refl _ _)
                simp [execOp, Act.eval, h0, go_sem]
              · intro a w1 hR hsz hs      -- 21: slot 141
                obtain ⟨h0, h1, _⟩ := hs
                have h0 : a.tmps.getD 16 undef = .pointer (some ⟨PD, 0, none⟩) := h0
                have h1 : a.tmps.getD 140 undef = .bool true := h1
                refine opg_run rfl rfl rfl (by rw [hsz]; decide) h1 (v := .pointer (some ⟨PD, 0, none⟩)) (w' := w1) ?_ rfl (Below.refl _ _)
                simp [execOp, Act.eval, h0, go_sem]
              · intro a w1 hR hsz hs      -- 22: slot 142
                obtain ⟨h0, h1, _⟩ := hs
                have h0 : a.tmps.getD 141 undef = .pointer (some ⟨PD, 0, none⟩) := h0
                have h1 : a.tmps.getD 140 undef = .bool true := h1
                obtain ⟨x0, x1⟩ := (HRD.out.later hR).c2
                refine opg_run rfl rfl rfl (by rw [hsz]; decide) h1 (v := .slice (some ⟨bD, fD, none⟩) nd cD) (w' := w1) ?_ rfl (Below.refl _ _)
                simp [execOp, Act.eval, h0, x0, go_sem]
              · intro a w1 hR hsz hs      -- 23: slot 143
                obtain ⟨h0, h1, _⟩ := hs
                have h0 : a.tmps.getD 17 undef = .int .i64 (j : Nat) := h0
                have h1 : a.tmps.getD 140 undef = .bool true := h1
                refine opg_run rfl rfl rfl (by rw [hsz]; decide) h1 (v := .int .i64 (j : Nat)) (w' := w1) ?_ rfl (Below.refl _ _)
                simp [execOp, Act.eval, h0, go_sem]
              · intro a w1 hR hsz hs      -- 24: slot 144
                obtain ⟨h0, h1, h2, _⟩ := hs
                have h0 : a.tmps.getD 142 undef = .slice (some ⟨bD, fD, none⟩) nd cD := h0
                have h1 : a.tmps.getD 143 undef = .int .i64 (j : Nat) := h1
                have h2 : a.tmps.getD 140 undef = .bool true := h2
                have k1 := HJL.out
                refine opg_run rfl rfl rfl (by rw [hsz]; decide) h2 (v := .pointer (some ⟨bD, fD + j, none⟩)) (w' := w1) ?_ rfl (Below.refl _ _)
                simp [execOp, Act.eval, h0, h1, k1, go_sem]
              · intro a w1 hR hsz hs      -- 25: slot 145
                obtain ⟨h0, h1, _⟩ := hs
                have h0 : a.tmps.getD 144 undef = .pointer (some ⟨bD, fD + j, none⟩) := h0
                have h1 : a.tmps.getD 140 undef = .bool true := h1
                have k1 := HCD.out w1 hR
                refine opg_run rfl rfl rfl (by rw [hsz]; decide) h1 (v := .int .u8 0) (w' := w1) ?_ rfl (Below.refl _ _)
                simp [execOp, Act.eval, h0, k1, go_sem]
              · intro a w1 hR hsz hs      -- 26: slot 146
                obtain ⟨h0, h1, _⟩ := hs
                have h0 : a.tmps.getD 145 undef = .int .u8 0 := h0
                have h1 : a.tmps.getD 140 undef = .bool true := h1
                refine opg_run rfl rfl rfl (by rw [hsz]; decide) h1 (v := .bool false) (w' := w1) ?_ rfl (Below.refl _ _)
                simp [execOp, Act.eval, h0, go_sem]
              · intro a w1 hR hsz hs      -- 27: slot 147
                obtain ⟨h0, h1, h2, _⟩ := hs
                have h0 : a.tmps.getD 140 undef = .bool true := h0
                have h1 : a.tmps.getD 146 undef = .bool false := h1
                have h2 : a.tmps.getD 136 undef = Value.bool false := h2
                refine opg_run rfl rfl rfl (by rw [hsz]; decide) h2 (v := .bool false) (w' := w1) ?_ rfl (Below.refl _ _)
                simp [execOp, Act.eval, h0, h1, go_sem]
              · intro a w1 hR hsz hs      -- 28: slot 148
                obtain ⟨h0, h1, _⟩ := hs
                have h0 : a.tmps.getD 136 undef = Value.bool false := h0
                have h1 : a.tmps.getD 147 undef = .bool false := h1
                refine op_run rfl rfl (v := .bool false) (w' := w1) ?_ rfl (Below.refl _ _)
                simp [execOp, Act.eval, h0, h1, go_sem]
            intro f w1 hR hv
            have e148 : f 148 = .bool false := hv 28 _ 148 rfl rfl
            clear hv
            try simp only [Exit.then]
            simp only [putAll, List.foldl_cons, List.foldl_nil, Option.getD_some, Act.put, List.setIfInBounds_toArray, List.set_cons_succ, List.set_cons_zero]
            rw [e148]
            clear e148
            -- END A16Ga
            have HB9 := Lib.hid (HBR.out.trans (hR.mono HBR.out.size))
            clear hR
            go_wp2_with fail
            go_roundw
            case rel => exact ⟨j + 1, by go_num, by omega, HB9.out⟩
            case measure => simp [intOf]; omega
        · have hjN : j = nd := by omega
          have hjd : decide ((j : Int) < (nd : Int)) = false := decide_eq_false hjn
          obtain ⟨y0, y1⟩ := HRD.out.c2
          have HB := Lib.hid (HBd.out.trans (HBR.out.mono HBd.out.size))
          clear hjN
          go_wp2_with fail
          refine (known14_any _).mono ?_
          rintro e wk ⟨rfl, bk⟩
          have HBk := Lib.hid (HB.out.trans (bk.mono HB.out.size))
          clear bk
          go_wp2_with fail
          go_ret
          exact ⟨rfl, HBk.out⟩
    · have hfI : decide ((OF : Int) + (NN : Int) ≤ (nd : Int)) = false := decide_eq_false (by omega)
      go_wp2_with fail
      refine (psame14_yes (.slice xa xn xc) (.slice xd xm xe) (.slice ya yn yc) (.slice yd ym ye) s1 s1 _ _ _ HSA.out HSB.out HOK1.out.may HOK1.out.may rfl).mono ?_
      rintro e w8 ⟨rfl, b⟩
      replace HB := Lib.hid (HB.out.trans (b.mono HB.out.size))
      replace HRX := Lib.hid (HRX.out.later b)
      replace HSX := Lib.hid (HSX.out.later b)
      replace HRB := Lib.hid (HRB.out.later b)
      replace HRC := Lib.hid (HRC.out.later b)
      replace HSB := Lib.hid (HSB.out.later b)
      replace HSC := Lib.hid (HSC.out.later b)
      clear b x0 x1 y0 y1 z0 z1 HSA
      obtain ⟨y0, y1⟩ := HRB.out.c2
      obtain ⟨z0, z1⟩ := HRC.out.c2
      go_wp2_with fail
      refine (psame14_yes (.slice ya yn yc) (.slice yd ym ye) (.slice za zn zc) (.slice zd zm ze) s1 s1 _ _ _ HSB.out HSC.out HOK1.out.may HOK1.out.may rfl).mono ?_
      rintro e w9 ⟨rfl, b⟩
      replace HB := Lib.hid (HB.out.trans (b.mono HB.out.size))
      replace HRX := Lib.hid (HRX.out.later b)
      replace HSX := Lib.hid (HSX.out.later b)
      clear b y0 y1 z0 z1 HSB HSC HRB HRC hz0 hfit hc1 hfI hw2
      have hbe : Below w9.heap.size w9 (w9.alloc (.cells #[.int .i64 4, .int .i64 0, .int .i64 (OF : Nat), .slice none 0 0, .string ⟨#[]⟩, .int .i64 4, .int .i64 0, .int .i64 (nd : Nat), .slice none 0 0, .string ⟨#[]⟩] 33)) := (Below.refl _ _).alloc (Nat.le_refl _) _
      have HQE := Lib.hid (qe_two w9 OF nd)
      have HFD : foldM AX [evRz OF, evRz nd] = ⟨sizedL (sizedL AX.data OF) nd, AX.snaps⟩ := by
        rw [foldM_cons, foldM_cons, foldM_nil, resize_fine OF (by have := HO5.out; omega), resize_fine nd hnd5]
      obtain ⟨wb, hwb⟩ : ∃ W, w9.alloc (.cells #[.int .i64 4, .int .i64 0, .int .i64 (OF : Nat), .slice none 0 0, .string ⟨#[]⟩, .int .i64 4, .int .i64 0, .int .i64 (nd : Nat), .slice none 0 0, .string ⟨#[]⟩] 33) = W := ⟨_, rfl⟩
      rw [hwb] at HQE hbe
      have HPF := Lib.hid (pfold14_any (.slice ad nd cd) (.slice av nv cv) AX (some ⟨w9.heap.size, 0, none⟩) 2 2 [evRz OF, evRz nd] _ _ wb (HSX.out.later hbe) HOA.out HQE.out)
      rw [HFD] at HPF
      have HBb := Lib.hid (HB.out.trans (hbe.mono HB.out.size))
      have HRXb := Lib.hid (HRX.out.later hbe)
      have HSXb := Lib.hid (HSX.out.later hbe)
      clear hbe HQE HFD
      obtain ⟨x0, x1⟩ := HRX.out.c2
      go_wp2_with fail
      try rw [hwb]
      refine HPF.out.mono ?_
      rintro e w10 ⟨d, v, rfl, hs, b⟩
      obtain ⟨aD, cD, rfl, rD⟩ := hs.data.row_n (n := nd) (sizedL_len _ _)
      obtain ⟨aE, cE, rfl, -⟩ := hs.snaps.val (n := nv) HNV.out
      have b2 := below_st w10 #[.slice aD nd cD, .slice aE nv cE]
      have HRD := Lib.hid (RecAt.new w10 #[.slice aD nd cD, .slice aE nv cE] tSt)
      have HDR := Lib.hid (rD.later b2)
      have HBd := Lib.hid ((HBb.out.trans (b.mono HBb.out.size)).trans (b2.mono (Nat.le_trans HBb.out.size b.size)))
      have HRS := Lib.hid ((HRXb.out.later b).later b2)
      have HSS := Lib.hid ((HSXb.out.later b).later b2)
      clear hs rD b b2 x0 x1 HPF HBb HRXb HSXb HB HRX HSX hwb
      go_upto_region 11 with fail
      obtain ⟨wd, hw⟩ : ∃ W, w10.alloc (.cells #[.slice aD nd cD, .slice aE nv cE] tSt) = W := ⟨_, rfl⟩
      rw [hw] at HRD HDR HBd HRS HSS
      try rw [hw]
      obtain ⟨PD, hX⟩ : ∃ X, w10.heap.size = X := ⟨_, rfl⟩
      rw [hX] at HRD ⊢
      clear hw hX
      obtain ⟨x0, x1⟩ := HRS.out.c2
      obtain ⟨y0, y1⟩ := HRD.out.c2
      go_wp2_with fail
      clear x0 x1 y0 y1
      go_loopw [17] (fun i wr => ∃ j : Nat, i = .int .i64 j ∧ j ≤ nd ∧ Below wd.heap.size wd wr) (fun i _ => nd - (intOf i).toNat)
      case atStart => exact ⟨0, rfl, by omega, Below.refl _ _⟩
      case round =>
        obtain ⟨j, rfl, hj, hbr⟩ := hrel
        have HBR := Lib.hid hbr
        replace HRD := Lib.hid (HRD.out.later hbr)
        replace HRS := Lib.hid (HRS.out.later hbr)
        replace HDR := Lib.hid (HDR.out.later hbr)
        replace HSS := Lib.hid (HSS.out.later hbr)
        clear hbr
        by_cases hjn : (j : Int) < nd
        · have hjd : decide ((j : Int) < (nd : Int)) = true := decide_eq_true hjn
          have HJL : Hid (j < nd) := Lib.hid (by omega)
          obtain ⟨y0, y1⟩ := HRD.out.c2
          obtain ⟨x0, x1⟩ := HRS.out.c2
          obtain ⟨bD, fD, hbD, pD⟩ := HDR.out.at (by rw [sizedL_len]; have := HJL.out; omega)
          subst hbD
          obtain ⟨qa, qc, hq, rS⟩ := HSS.out.data.row_n HND.out
          obtain ⟨rfl, rfl⟩ : ad = qa ∧ cd = qc := by simpa using hq
          obtain ⟨bS, fS, hbS, pS⟩ := rS.at (by rw [HND.out]; have := HJL.out; omega)
          subst hbS
          obtain ⟨u, hu⟩ : ∃ u, AX.data[j]? = some u := ⟨_, List.getElem?_eq_getElem (by rw [HND.out]; exact HJL.out)⟩
          have hd := there_back AX.data OF j (by rw [HND.out]; exact HJL.out)
          rw [HND.out, hu] at hd
          simp only [Option.getD_some] at hd
          have hcd := pD j _ hd
          have hcs := pS j u hu
          by_cases hlt : j < OF
          · have HLT : Hid ((j : Int) < (OF : Int)) := Lib.hid (by omega)
            have HGE : Hid (¬ ((OF : Int) ≤ (j : Int))) := Lib.hid (by omega)
            rw [if_pos hlt] at hcd
            obtain ⟨UX, hUX⟩ : ∃ z, (u.toNat : Int) = z := ⟨_, rfl⟩
            have HCD : Hid (∀ W, Below wr.heap.size wr W → W.cell? ⟨bD, fD + j, none⟩ = some (.int .u8 UX)) := Lib.hid fun W hb => by rw [hb.cell (World.block_lt_of_cell? _ _ hcd), hcd, ← hUX]; rfl
            have HCS : Hid (∀ W, Below wr.heap.size wr W → W.cell? ⟨bS, fS + j, none⟩ = some (.int .u8 UX)) := Lib.hid fun W hb => by rw [hb.cell (World.block_lt_of_cell? _ _ hcs), hcs, ← hUX]; rfl
            clear hlt hcd hcs hd hu hUX rS hq pD pS
            go_upto_region 16 with fail
            clear x0 x1 y0 y1
            -- REG A16Lb
            refine wp_region_tab (L := [cV (.int .i64 (j : Nat)), cV (.int .i64 (OF : Nat)), cV (.bool true), cV (.bool true), cV (.pointer (some ⟨PD, 0, none⟩)), cV (.slice (some ⟨bD, fD, none⟩) nd cD), cV (.int .i64 (j : Nat)), cV (.pointer (some ⟨bD, fD + j, none⟩)), cV (.int .u8 UX), cV (.pointer (some ⟨PS, 0, none⟩)), cV (.slice (some ⟨bS, fS, none⟩) nd cd), cV (.int .i64 (j : Nat)), cV (.pointer (some ⟨bS, fS + j, none⟩)), cV (.int .u8 UX), cV (.bool false), cV (.bool false), cV (.bool false), cV (.int .i64 (j : Nat)), cV (.int .i64 (OF : Nat)), cV (.bool false), cV (.bool false), cV (undef), cV (undef), cV (undef), cV (undef), cV (undef), cV (undef), cV (Value.bool false), cV (Value.bool false)]) [[(17, none)], [(2, none)], [(120, some 0), (121, some 1)], [(122, some 2)], [(16, none), (123, some 3)], [(124, some 4), (123, some 3)], [(17, none), (123, some 3)], [(125, some 5), (126, some 6), (123, some 3)], [(127, some 7), (123, some 3)], [(9, none), (123, some 3)], [(129, some 9), (123, some 3)], [(17, none), (123, some 3)], [(130, some 10), (131, some 11), (123, some 3)], [(132, some 12), (123, some 3)], [(128, some 8), (133, some 13), (123, some 3)], [(123, some 3), (134, some 14)], [(135, some 15)], [(17, none), (136, some 16)], [(2, none), (136, some 16)], [(137, some 17), (138, some 18), (136, some 16)], [(139, some 19), (136, some 16)], [(16, none), (140, some 20)], [(141, some 21), (140, some 20)], [(17, none), (140, some 20)], [(142, some 22), (143, some 23), (140, some 20)], [(144, some 24), (140, some 20)], [(145, some 25), (140, some 20)], [(140, some 20), (146, some 26), (136, some 16)], [(136, some 16), (147, some 27)]] 29 150 (by kernel_rfl) rfl rfl (by kernel_rfl) (by kernel_rfl) ?_ ?_
            · show ∀ i, i < 29 → _
              iterate 29 (refine fls ?_ ?_)
              · exact fl0
              · intro a w1 hR hsz hs      -- 0: slot 120
                obtain ⟨h0, _⟩ := hs
                have h0 : a.tmps.getD 17 undef = .int .i64 (j : Nat) := h0
                refine op_run rfl rfl (v := .int .i64 (j : Nat)) (w' := w1) ?_ rfl (Below.refl _ _)
                simp [execOp, Act.eval, h0, go_sem]
              · intro a w1 hR hsz hs      -- 1: slot 121
                obtain ⟨h0, _⟩ := hs
                have h0 : a.tmps.getD 2 undef = .int .i64 (OF : Nat) := h0
                refine op_run rfl rfl (v := .int .i64 (OF : Nat)) (w' := w1) ?_ rfl (Below.refl _ _)
                simp [execOp, Act.eval, h0, go_sem]
              · intro a w1 hR hsz hs      -- 2: slot 122
                obtain ⟨h0, h1, _⟩ := hs
                have h0 : a.tmps.getD 120 undef = .int .i64 (j : Nat) := h0
                have h1 : a.tmps.getD 121 undef = .int .i64 (OF : Nat) := h1
                have k1 := HLT.out
                refine op_run rfl rfl (v := .bool true) (w' := w1) ?_ rfl (Below.refl _ _)
                simp [execOp, Act.eval, h0, h1, k1, go_sem]
              · intro a w1 hR hsz hs      -- 3: slot 123
                obtain ⟨h0, _⟩ := hs
                have h0 : a.tmps.getD 122 undef = .bool true := h0
                refine op_run rfl rfl (v := .bool true) (w' := w1) ?_ rfl (Below.refl _ _)
                simp [execOp, Act.eval, h0, go_sem]
              · intro a w1 hR hsz hs      -- 4: slot 124
                obtain ⟨h0, h1, _⟩ := hs
                have h0 : a.tmps.getD 16 undef = .pointer (some ⟨PD, 0, none⟩) := h0
                have h1 : a.tmps.getD 123 undef = .bool true := h1
                refine opg_run rfl rfl rfl (by rw [hsz]; decide) h1 (v := .pointer (some ⟨PD, 0, none⟩)) (w' := w1) ?_ rfl (Below.refl _ _)
                simp [execOp, Act.eval, h0, go_sem]
              · intro a w1 hR hsz hs      -- 5: slot 125
                obtain ⟨h0, h1, _⟩ := hs
                have h0 : a.tmps.getD 124 undef = .pointer (some ⟨PD, 0, none⟩) := h0
                have h1 : a.tmps.getD 123 undef = .bool true := h1
                obtain ⟨x0, x1⟩ := (HRD.out.later hR).c2
                refine opg_run rfl rfl rfl (by rw [hsz]; decide) h1 (v := .slice (some ⟨bD, fD, none⟩) nd cD) (w' := w1) ?_ rfl (Below.refl _ _)
                simp [execOp, Act.eval, h0, x0, go_sem]
              · intro a w1 hR hsz hs      -- 6: slot 126
                obtain ⟨h0, h1, _⟩ := hs
                have h0 : a.tmps.getD 17 undef = .int .i64 (j : Nat) := h0
                have h1 : a.tmps.getD 123 undef = .bool true := h1
                refine opg_run rfl rfl rfl (by rw [hsz]; decide) h1 (v := .int .i64 (j : Nat)) (w' := w1) ?_ rfl (Below.refl _ _)
                simp [execOp, Act.eval, h0, go_sem]
              · intro a w1 hR hsz hs      -- 7: slot 127
                obtain ⟨h0, h1, h2, _⟩ := hs
                have h0 : a.tmps.getD 125 undef = .slice (some ⟨bD, fD, none⟩) nd cD := h0
                have h1 : a.tmps.getD 126 undef = .int .i64 (j : Nat) := h1
                have h2 : a.tmps.getD 123 undef = .bool true := h2
                have k1 := HJL.out
                refine opg_run rfl rfl rfl (by rw [hsz]; decide) h2 (v := .pointer (some ⟨bD, fD + j, none⟩)) (w' := w1) ?_ rfl (Below.refl _ _)
                simp [execOp, Act.eval, h0, h1, k1, go_sem]
              · intro a w1 hR hsz hs      -- 8: slot 128
                obtain ⟨h0, h1, _⟩ := hs
                have h0 : a.tmps.getD 127 undef = .pointer (some ⟨bD, fD + j, none⟩) := h0
                have h1 : a.tmps.getD 123 undef = .bool true := h1
                have k1 := HCD.out w1 hR
                refine opg_run rfl rfl rfl (by rw [hsz]; decide) h1 (v := .int .u8 UX) (w' := w1) ?_ rfl (Below.refl _ _)
                simp [execOp, Act.eval, h0, k1, go_sem]
              · intro a w1 hR hsz hs      -- 9: slot 129
                obtain ⟨h0, h1, _⟩ := hs
                have h0 : a.tmps.getD 9 undef = .pointer (some ⟨PS, 0, none⟩) := h0
                have h1 : a.tmps.getD 123 undef = .bool true := h1
                refine opg_run rfl rfl rfl (by rw [hsz]; decide) h1 (v := .pointer (some ⟨PS, 0, none⟩)) (w' := w1) ?_ rfl (Below.refl _ _)
                simp [execOp, Act.eval, h0, go_sem]
              · intro a w1 hR hsz hs      -- 10: slot 130
                obtain ⟨h0, h1, _⟩ := hs
                have h0 : a.tmps.getD 129 undef = .pointer (some ⟨PS, 0, none⟩) := h0
                have h1 : a.tmps.getD 123 undef = .bool true := h1
                obtain ⟨x0, x1⟩ := (HRS.out.later hR).c2
                refine opg_run rfl rfl rfl (by rw [hsz]; decide) h1 (v := .slice (some ⟨bS, fS, none⟩) nd cd) (w' := w1) ?_ rfl (Below.refl _ _)
                simp [execOp, Act.eval, h0, x0, go_sem]
              · intro a w1 hR hsz hs      -- 11: slot 131
                obtain ⟨h0, h1, _⟩ := hs
                have h0 : a.tmps.getD 17 undef = .int .i64 (j : Nat) := h0
                have h1 : a.tmps.getD 123 undef = .bool true := h1
                refine opg_run rfl rfl rfl (by rw [hsz]; decide) h1 (v := .int .i64 (j : Nat)) (w' := w1) ?_ rfl (Below.refl _ _)
                simp [execOp, Act.eval, h0, go_sem]
              · intro a w1 hR hsz hs      -- 12: slot 132
                obtain ⟨h0, h1, h2, _⟩ := hs
                have h0 : a.tmps.getD 130 undef = .slice (some ⟨bS, fS, none⟩) nd cd := h0
                have h1 : a.tmps.getD 131 undef = .int .i64 (j : Nat) := h1
                have h2 : a.tmps.getD 123 undef = .bool true := h2
                have k1 := HJL.out
                refine opg_run rfl rfl rfl (by rw [hsz]; decide) h2 (v := .pointer (some ⟨bS, fS + j, none⟩)) (w' := w1) ?_ rfl (Below.refl _ _)
                simp [execOp, Act.eval, h0, h1, k1, go_sem]
              · intro a w1 hR hsz hs      -- 13: slot 133
                obtain ⟨h0, h1, _⟩ := hs
                have h0 : a.tmps.getD 132 undef = .pointer (some ⟨bS, fS + j, none⟩) := h0
                have h1 : a.tmps.getD 123 undef = .bool true := h1
                have k1 := HCS.out w1 hR
                refine opg_run rfl rfl rfl (by rw [hsz]; decide) h1 (v := .int .u8 UX) (w' := w1) ?_ rfl (Below.refl _ _)
                simp [execOp, Act.eval, h0, k1, go_sem]
              · intro a w1 hR hsz hs      -- 14: slot 134
                obtain ⟨h0, h1, h2, _⟩ := hs
                have h0 : a.tmps.getD 128 undef = .int .u8 UX := h0
                have h1 : a.tmps.getD 133 undef = .int .u8 UX := h1
                have h2 : a.tmps.getD 123 undef = .bool true := h2
                refine opg_run rfl rfl rfl (by rw [hsz]; decide) h2 (v := .bool false) (w' := w1) ?_ rfl (Below.refl _ _)
                simp [execOp, Act.eval, h0, h1, go_sem]
              · intro a w1 hR hsz hs      -- 15: slot 135
                obtain ⟨h0, h1, _⟩ := hs
                have h0 : a.tmps.getD 123 undef = .bool true := h0
                have h1 : a.tmps.getD 134 undef = .bool false := h1
                refine op_run rfl rfl (v := .bool false) (w' := w1) ?_ rfl (Below.refl _ _)
                simp [execOp, Act.eval, h0, h1, go_sem]
              · intro a w1 hR hsz hs      -- 16: slot 136
                obtain ⟨h0, _⟩ := hs
                have h0 : a.tmps.getD 135 undef = .bool false := h0
                refine op_run rfl rfl (v := .bool false) (w' := w1) ?_ rfl (Below.refl _ _)
                simp [execOp, Act.eval, h0, go_sem]
              · intro a w1 hR hsz hs      -- 17: slot 137
                obtain ⟨h0, h1, _⟩ := hs
                have h0 : a.tmps.getD 17 undef = .int .i64 (j : Nat) := h0
                have h1 : a.tmps.getD 136 undef = .bool false := h1
                refine opg_run rfl rfl rfl (by rw [hsz]; decide) h1 (v := .int .i64 (j : Nat)) (w' := w1) ?_ rfl (Below.refl _ _)
                simp [execOp, Act.eval, h0, go_sem]
              · intro a w1 hR hsz hs      -- 18: slot 138
                obtain ⟨h0, h1, _⟩ := hs
                have h0 : a.tmps.getD 2 undef = .int .i64 (OF : Nat) := h0
                have h1 : a.tmps.getD 136 undef = .bool false := h1
                refine opg_run rfl rfl rfl (by rw [hsz]; decide) h1 (v := .int .i64 (OF : Nat)) (w' := w1) ?_ rfl (Below.refl _ _)
                simp [execOp, Act.eval, h0, go_sem]
              · intro a w1 hR hsz hs      -- 19: slot 139
                obtain ⟨h0, h1, h2, _⟩ := hs
                have h0 : a.tmps.getD 137 undef = .int .i64 (j : Nat) := h0
                have h1 : a.tmps.getD 138 undef = .int .i64 (OF : Nat) := h1
                have h2 : a.tmps.getD 136 undef = .bool false := h2
                have k1 := HGE.out
                refine opg_run rfl rfl rfl (by rw [hsz]; decide) h2 (v := .bool false) (w' := w1) ?_ rfl (Below.refl _ _)
                simp [execOp, Act.eval, h0, h1, k1, go_sem]
              · intro a w1 hR hsz hs      -- 20: slot 140
                obtain ⟨h0, h1, _⟩ := hs
                have h0 : a.tmps.getD 139 undef = .bool false := h0
                have h1 : a.tmps.getD 136 undef = .bool false := h1
                refine opg_run rfl rfl rfl (by rw [hsz]; decide) h1 (v := .bool false) (w' := w1) ?_ rfl (Below.refl _ _)
                simp [execOp, Act.eval, h0, go_sem]
              · intro a w1 hR hsz hs      -- 21: slot 141
                obtain ⟨h0, h1, _⟩ := hs
                have h0 : a.tmps.getD 16 undef = .pointer (some ⟨PD, 0, none⟩) := h0
                have h1 : a.tmps.getD 140 undef = .bool false := h1
                exact opg_skip rfl rfl rfl (by rw [hsz]; decide) h1 rfl rfl
              · intro a w1 hR hsz hs      -- 22: slot 142
                obtain ⟨h0, h1, _⟩ := hs
                have h0 : a.tmps.getD 141 undef = undef := h0
                have h1 : a.tmps.getD 140 undef = .bool false := h1
                exact opg_skip rfl rfl rfl (by rw [hsz]; decide) h1 rfl rfl
              · intro a w1 hR hsz hs      -- 23: slot 143
                obtain ⟨h0, h1, _⟩ := hs
                have h0 : a.tmps.getD 17 undef = .int .i64 (j : Nat) := h0
                have h1 : a.tmps.getD 140 undef = .bool false := h1
                exact opg_skip rfl rfl rfl (by rw [hsz]; decide) h1 rfl rfl
              · intro a w1 hR hsz hs      -- 24: slot 144
                obtain ⟨h0, h1, h2, _⟩ := hs
                have h0 : a.tmps.getD 142 undef = undef := h0
                have h1 : a.tmps.getD 143 undef = undef := h1
                have h2 : a.tmps.getD 140 undef = .bool false := h2
                exact opg_skip rfl rfl rfl (by rw [hsz]; decide) h2 rfl rfl
              · intro a w1 hR hsz hs      -- 25: slot 145
                obtain ⟨h0, h1, _⟩ := hs
                have h0 : a.tmps.getD 144 undef = undef := h0
                have h1 : a.tmps.getD 140 undef = .bool false := h1
                exact opg_skip rfl rfl rfl (by rw [hsz]; decide) h1 rfl rfl
              · intro a w1 hR hsz hs      -- 26: slot 146
                obtain ⟨h0, h1, _⟩ := hs
                have h0 : a.tmps.getD 145 undef = undef := h0
                have h1 : a.tmps.getD 140 undef = .bool false := h1
                exact opg_skip rfl rfl rfl (by rw [hsz]; decide) h1 rfl rfl
              · intro a w1 hR hsz hs      -- 27: slot 147
                obtain ⟨h0, h1, h2, _⟩ := hs
                have h0 : a.tmps.getD 140 undef = .bool false := h0
                have h1 : a.tmps.getD 146 undef = undef := h1
                have h2 : a.tmps.getD 136 undef = .bool false := h2
                refine opg_run rfl rfl rfl (by rw [hsz]; decide) h2 (v := Value.bool false) (w' := w1) ?_ rfl (Below.refl _ _)
                simp [execOp, Act.eval, h0, go_sem]
              · intro a w1 hR hsz hs      -- 28: slot 148
                obtain ⟨h0, h1, _⟩ := hs
                have h0 : a.tmps.getD 136 undef = .bool false := h0
                have h1 : a.tmps.getD 147 undef = Value.bool false := h1
                refine op_run rfl rfl (v := Value.bool false) (w' := w1) ?_ rfl (Below.refl _ _)
                simp [execOp, Act.eval, h0, h1, go_sem]
            intro f w1 hR hv
            have e148 : f 148 = .bool false := hv 28 _ 148 rfl rfl
            clear hv
            try simp only [Exit.then]
            simp only [putAll, List.foldl_cons, List.foldl_nil, Option.getD_some, Act.put, List.setIfInBounds_toArray, List.set_cons_succ, List.set_cons_zero]
            rw [e148]
            clear e148
            -- END A16Lb
            have HB9 := Lib.hid (HBR.out.trans (hR.mono HBR.out.size))
            clear hR
            go_wp2_with fail
            go_roundw
            case rel => exact ⟨j + 1, by go_num, by omega, HB9.out⟩
            case measure => simp [intOf]; omega
          · have HLT : Hid (¬ ((j : Int) < (OF : Int))) := Lib.hid (by omega)
            have HGE : Hid ((OF : Int) ≤ (j : Int)) := Lib.hid (by omega)
            rw [if_neg hlt] at hcd
            have HCD : Hid (∀ W, Below wr.heap.size wr W → W.cell? ⟨bD, fD + j, none⟩ = some (.int .u8 0)) := Lib.hid fun W hb => by rw [hb.cell (World.block_lt_of_cell? _ _ hcd), hcd]; rfl
            clear hlt hcd hcs hd hu rS hq pD pS
            go_upto_region 16 with fail
            clear x0 x1 y0 y1
            -- REG A16Gb
            refine wp_region_tab (L := [cV (.int .i64 (j : Nat)), cV (.int .i64 (OF : Nat)), cV (.bool false), cV (.bool false), cV (undef), cV (undef), cV (undef), cV (undef), cV (undef), cV (undef), cV (undef), cV (undef), cV (undef), cV (undef), cV (undef), cV (Value.bool false), cV (Value.bool false), cV (.int .i64 (j : Nat)), cV (.int .i64 (OF : Nat)), cV (.bool true), cV (.bool true), cV (.pointer (some ⟨PD, 0, none⟩)), cV (.slice (some ⟨bD, fD, none⟩) nd cD), cV (.int .i64 (j : Nat)), cV (.pointer (some ⟨bD, fD + j, none⟩)), cV (.int .u8 0), cV (.bool false), cV (.bool false), cV (.bool false)]) [[(17, none)], [(2, none)], [(120, some 0), (121, some 1)], [(122, some 2)], [(16, none), (123, some 3)], [(124, some 4), (123, some 3)], [(17, none), (123, some 3)], [(125, some 5), (126, some 6), (123, some 3)], [(127, some 7), (123, some 3)], [(9, none), (123, some 3)], [(129, some 9), (123, some 3)], [(17, none), (123, some 3)], [(130, some 10), (131, some 11), (123, some 3)], [(132, some 12), (123, some 3)], [(128, some 8), (133, some 13), (123, some 3)], [(123, some 3), (134, some 14)], [(135, some 15)], [(17, none), (136, some 16)], [(2, none), (136, some 16)], [(137, some 17), (138, some 18), (136, some 16)], [(139, some 19), (136, some 16)], [(16, none), (140, some 20)], [(141, some 21), (140, some 20)], [(17, none), (140, some 20)], [(142, some 22), (143, some 23), (140, some 20)], [(144, some 24), (140, some 20)], [(145, some 25), (140, some 20)], [(140, some 20), (146, some 26), (136, some 16)], [(136, some 16), (147, some 27)]] 29 150 (by kernel_rfl) rfl rfl (by kernel_rfl) (by kernel_rfl) ?_ ?_
            · show ∀ i, i < 29 → _
              iterate 29 (refine fls ?_ ?_)
              · exact fl0
              · intro a w1 hR hsz hs      -- 0: slot 120
                obtain ⟨h0, _⟩ := hs
                have h0 : a.tmps.getD 17 undef = .int .i64 (j : Nat) := h0
                refine op_run rfl rfl (v := .int .i64 (j : Nat)) (w' := w1) ?_ rfl (Below.refl _ _)
                simp [execOp, Act.eval, h0, go_sem]
              · intro a w1 hR hsz hs      -- 1: slot 121
                obtain ⟨h0, _⟩ := hs
                have h0 : a.tmps.getD 2 undef = .int .i64 (OF : Nat) := h0
                refine op_run rfl rfl (v := .int .i64 (OF : Nat)) (w' := w1) ?_ rfl (Below.refl _ _)
                simp [execOp, Act.eval, h0, go_sem]
              · intro a w1 hR hsz hs      -- 2: slot 122
                obtain ⟨h0, h1, _⟩ := hs
                have h0 : a.tmps.getD 120 undef = .int .i64 (j : Nat) := h0
                have h1 : a.tmps.getD 121 undef = .int .i64 (OF : Nat) := h1
                have k1 := HLT.out
                refine op_run rfl rfl (v := .bool false) (w' := w1) ?_ rfl (Below.refl _ _)
                simp [execOp, Act.eval, h0, h1, k1, go_sem]
              · intro a w1 hR hsz hs      -- 3: slot 123
                obtain ⟨h0, _⟩ := hs
                have h0 : a.tmps.getD 122 undef = .bool false := h0
                refine op_run rfl rfl (v := .bool false) (w' := w1) ?_ rfl (Below.refl _ _)
                simp [execOp, Act.eval, h0, go_sem]
              · intro a w1 hR hsz hs      -- 4: slot 124
                obtain ⟨h0, h1, _⟩ := hs
                have h0 : a.tmps.getD 16 undef = .pointer (some ⟨PD, 0, none⟩) := h0
                have h1 : a.tmps.getD 123 undef = .bool false := h1
                exact opg_skip rfl rfl rfl (by rw [hsz]; decide) h1 rfl rfl
              · intro a w1 hR hsz hs      -- 5: slot 125
                obtain ⟨h0, h1, _⟩ := hs
                have h0 : a.tmps.getD 124 undef = undef := h0
                have h1 : a.tmps.getD 123 undef = .bool false := h1
                exact opg_skip rfl rfl rfl (by rw [hsz]; decide) h1 rfl rfl
              · intro a w1 hR hsz hs      -- 6: slot 126
                obtain ⟨h0, h1, _⟩ := hs
                have h0 : a.tmps.getD 17 undef = .int .i64 (j : Nat) := h0
                have h1 : a.tmps.getD 123 undef = .bool false := h1
                exact opg_skip rfl rfl rfl (by rw [hsz]; decide) h1 rfl rfl
              · intro a w1 hR hsz hs      -- 7: slot 127
                obtain ⟨h0, h1, h2, _⟩ := hs
                have h0 : a.tmps.getD 125 undef = undef := h0
                have h1 : a.tmps.getD 126 undef = undef := h1
                have h2 : a.tmps.getD 123 undef = .bool false := h2
                exact opg_skip rfl rfl rfl (by rw [hsz]; decide) h2 rfl rfl
              · intro a w1 hR hsz hs      -- 8: slot 128
                obtain ⟨h0, h1, _⟩ := hs
                have h0 : a.tmps.getD 127 undef = undef := h0
                have h1 : a.tmps.getD 123 undef = .bool false := h1
                exact opg_skip rfl rfl rfl (by rw [hsz]; decide) h1 rfl rfl
              · intro a w1 hR hsz hs      -- 9: slot 129
                obtain ⟨h0, h1, _⟩ := hs
                have h0 : a.tmps.getD 9 undef = .pointer (some ⟨PS, 0, none⟩) := h0
                have h1 : a.tmps.getD 123 undef = .bool false := h1
                exact opg_skip rfl rfl rfl (by rw [hsz]; decide) h1 rfl rfl
              · intro a w1 hR hsz hs      -- 10: slot 130
                obtain ⟨h0, h1, _⟩ := hs
                have h0 : a.tmps.getD 129 undef = undef := h0
                have h1 : a.tmps.getD 123 undef = .bool false := h1
                exact opg_skip rfl rfl rfl (by rw [hsz]; decide) h1 rfl rfl
              · intro a w1 hR hsz hs      -- 11: slot 131
                obtain ⟨h0, h1, _⟩ := hs
                have h0 : a.tmps.getD 17 undef = .int .i64 (j : Nat) := h0
                have h1 : a.tmps.getD 123 undef = .bool false := h1
                exact opg_skip rfl rfl rfl (by rw [hsz]; decide) h1 rfl rfl
              · intro a w1 hR hsz hs      -- 12: slot 132
                obtain ⟨h0, h1, h2, _⟩ := hs
                have h0 : a.tmps.getD 130 undef = undef := h0
                have h1 : a.tmps.getD 131 undef = undef := h1
                have h2 : a.tmps.getD 123 undef = .bool false := h2
                exact opg_skip rfl rfl rfl (by rw [hsz]; decide) h2 rfl rfl
              · intro a w1 hR hsz hs      -- 13: slot 133
                obtain ⟨h0, h1, _⟩ := hs
                have h0 : a.tmps.getD 132 undef = undef := h0
                have h1 : a.tmps.getD 123 undef = .bool false := h1
                exact opg_skip rfl rfl rfl (by rw [hsz]; decide) h1 rfl rfl
              · intro a w1 hR hsz hs      -- 14: slot 134
                obtain ⟨h0, h1, h2, _⟩ := hs
                have h0 : a.tmps.getD 128 undef = undef := h0
                have h1 : a.tmps.getD 133 undef = undef := h1
                have h2 : a.tmps.getD 123 undef = .bool false := h2
                exact opg_skip rfl rfl rfl (by rw [hsz]; decide) h2 rfl rfl
              · intro a w1 hR hsz hs      -- 15: slot 135
                obtain ⟨h0, h1, _⟩ := hs
                have h0 : a.tmps.getD 123 undef = .bool false := h0
                have h1 : a.tmps.getD 134 undef = undef := h1
                refine op_run rfl rfl (v := Value.bool false) (w' := w1) ?_ rfl (Below.refl _ _)
                simp [execOp, Act.eval, h0, go_sem]
              · intro a w1 hR hsz hs      -- 16: slot 136
                obtain ⟨h0, _⟩ := hs
                have h0 : a.tmps.getD 135 undef = Value.bool false := h0
                refine op_run rfl rfl (v := Value.bool false) (w' := w1) ?_ rfl (Below.refl _ _)
                simp [execOp, Act.eval, h0, go_sem]
              · intro a w1 hR hsz hs      -- 17: slot 137
                obtain ⟨h0, h1, _⟩ := hs
                have h0 : a.tmps.getD 17 undef = .int .i64 (j : Nat) := h0
                have h1 : a.tmps.getD 136 undef = Value.bool false := h1
                refine opg_run rfl rfl rfl (by rw [hsz]; decide) h1 (v := .int .i64 (j : Nat)) (w' := w1) ?_ rfl (Below.refl _ _)
                simp [execOp, Act.eval, h0, go_sem]
              · intro a w1 hR hsz hs      -- 18: slot 138
                obtain ⟨h0, h1, _⟩ := hs
                have h0 : a.tmps.getD 2 undef = .int .i64 (OF : Nat) := h0
                have h1 : a.tmps.getD 136 undef = Value.bool false := h1
                refine opg_run rfl rfl rfl (by rw [hsz]; decide) h1 (v := .int .i64 (OF : Nat)) (w' := w1) ?_ rfl (Below.refl _ _)
                simp [execOp, Act.eval, h0, go_sem]
              · intro a w1 hR hsz hs      -- 19: slot 139
                obtain ⟨h0, h1, h2, _⟩ := hs
                have h0 : a.tmps.getD 137 undef = .int .i64 (j : Nat) := h0
                have h1 : a.tmps.getD 138 undef = .int .i64 (OF : Nat) := h1
                have h2 : a.tmps.getD 136 undef = Value.bool false := h2
                have k1 := HGE.out
                refine opg_run rfl rfl rfl (by rw [hsz]; decide) h2 (v := .bool true) (w' := w1) ?_ rfl (Below.refl _ _)
                simp [execOp, Act.eval, h0, h1, k1, go_sem]
              · intro a w1 hR hsz hs      -- 20: slot 140
                obtain ⟨h0, h1, _⟩ := hs
                have h0 : a.tmps.getD 139 undef = .bool true := h0
                have h1 : a.tmps.getD 136 undef = Value.bool false := h1
                refine opg_run rfl rfl rfl (by rw [hsz]; decide) h1 (v := .bool true) (w' := w1) ?_ rfl (Below.refl _ _)
                simp [execOp, Act.eval, h0, go_sem]
              · intro a w1 hR hsz hs      -- 21: slot 141
                obtain ⟨h0, h1, _⟩ := hs
                have h0 : a.tmps.getD 16 undef = .pointer (some ⟨PD, 0, none⟩) := h0
                have h1 : a.tmps.getD 140 undef = .bool true := h1
                refine opg_run rfl rfl rfl (by rw [hsz]; decide) h1 (v := .pointer (some ⟨PD, 0, none⟩)) (w' := w1) ?_ rfl (Below.refl _ _)
                simp [execOp, Act.eval, h0, go_sem]
              · intro a w1 hR hsz hs      -- 22: slot 142
                obtain ⟨h0, h1, _⟩ := hs
                have h0 : a.tmps.getD 141 undef = .pointer (some ⟨PD, 0, none⟩) := h0
                have h1 : a.tmps.getD 140 undef = .bool true := h1
                obtain ⟨x0, x1⟩ := (HRD.out.later hR).c2
                refine opg_run rfl rfl rfl (by rw [hsz]; decide) h1 (v := .slice (some ⟨bD, fD, none⟩) nd cD) (w' := w1) ?_ rfl (Below.refl _ _)
                simp [execOp, Act.eval, h0, x0, go_sem]
              · intro a w1 hR hsz hs      -- 23: slot 143
                obtain ⟨h0, h1, _⟩ := hs
                have h0 : a.tmps.getD 17 undef = .int .i64 (j : Nat) := h0
                have h1 : a.tmps.getD 140 undef = .bool true := h1
                refine opg_run rfl rfl rfl (by rw [hsz]; decide) h1 (v := .int .i64 (j : Nat)) (w' := w1) ?_ rfl (Below.refl _ _)
                simp [execOp, Act.eval, h0, go_sem]
              · intro a w1 hR hsz hs      -- 24: slot 144
                obtain ⟨h0, h1, h2, _⟩ := hs
                have h0 : a.tmps.getD 142 undef = .slice (some ⟨bD, fD, none⟩) nd cD := h0
                have h1 : a.tmps.getD 143 undef = .int .i64 (j : Nat) := h1
                have h2 : a.tmps.getD 140 undef = .bool true := h2
                have k1 := HJL.out
                refine opg_run rfl rfl rfl (by rw [hsz]; decide) h2 (v := .pointer (some ⟨bD, fD + j, none⟩)) (w' := w1) ?_ rfl (Below.refl _ _)
                simp [execOp, Act.eval, h0, h1, k1, go_sem]
              · intro a w1 hR hsz hs      -- 25: slot 145
                obtain ⟨h0, h1, _⟩ := hs
                have h0 : a.tmps.getD 144 undef = .pointer (some ⟨bD, fD + j, none⟩) := h0
                have h1 : a.tmps.getD 140 undef = .bool true := h1
                have k1 := HCD.out w1 hR
                refine opg_run rfl rfl rfl (by rw [hsz]; decide) h1 (v := .int .u8 0) (w' := w1) ?_ rfl (Below.refl _ _)
                simp [execOp, Act.eval, h0, k1, go_sem]
              · intro a w1 hR hsz hs      -- 26: slot 146
                obtain ⟨h0, h1, _⟩ := hs
                have h0 : a.tmps.getD 145 undef = .int .u8 0 := h0
                have h1 : a.tmps.getD 140 undef = .bool true := h1
                refine opg_run rfl rfl rfl (by rw [hsz]; decide) h1 (v := .bool false) (w' := w1) ?_ rfl (Below.refl _ _)
                simp [execOp, Act.eval, h0, go_sem]
              · intro a w1 hR hsz hs      -- 27: slot 147
                obtain ⟨h0, h1, h2, _⟩ := hs
                have h0 : a.tmps.getD 140 undef = .bool true := h0
                have h1 : a.tmps.getD 146 undef = .bool false := h1
                have h2 : a.tmps.getD 136 undef = Value.bool false := h2
                refine opg_run rfl rfl rfl (by rw [hsz]; decide) h2 (v := .bool false) (w' := w1) ?_ rfl (Below.refl _ _)
                simp [execOp, Act.eval, h0, h1, go_sem]
              · intro a w1 hR hsz hs      -- 28: slot 148
                obtain ⟨h0, h1, _⟩ := hs
                have h0 : a.tmps.getD 136 undef = Value.bool false := h0
                have h1 : a.tmps.getD 147 undef = .bool false := h1
                refine op_run rfl rfl (v := .bool false) (w' := w1) ?_ rfl (Below.refl _ _)
                simp [execOp, Act.eval, h0, h1, go_sem]
            intro f w1 hR hv
            have e148 : f 148 = .bool false := hv 28 _ 148 rfl rfl
            clear hv
            try simp only [Exit.then]
            simp only [putAll, List.foldl_cons, List.foldl_nil, Option.getD_some, Act.put, List.setIfInBounds_toArray, List.set_cons_succ, List.set_cons_zero]
            rw [e148]
            clear e148
            -- END A16Gb
            have HB9 := Lib.hid (HBR.out.trans (hR.mono HBR.out.size))
            clear hR
            go_wp2_with fail
            go_roundw
            case rel => exact ⟨j + 1, by go_num, by omega, HB9.out⟩
            case measure => simp [intOf]; omega
        · have hjN : j = nd := by omega
          have hjd : decide ((j : Int) < (nd : Int)) = false := decide_eq_false hjn
          obtain ⟨y0, y1⟩ := HRD.out.c2
          have HB := Lib.hid (HBd.out.trans (HBR.out.mono HBd.out.size))
          clear hjN
          go_wp2_with fail
          refine (known14_any _).mono ?_
          rintro e wk ⟨rfl, bk⟩
          have HBk := Lib.hid (HB.out.trans (bk.mono HB.out.size))
          clear bk
          go_wp2_with fail
          go_ret
          exact ⟨rfl, HBk.out⟩
end Go.Proofs.Ytghglbaflmbeoaa
