/- The law 'EventBack', walked. -/
import Derived.Test.YtnllopfhfijjbaaEvO
namespace Go.Proofs.Ytnllopfhfijjbaa
open Go.RowKit
set_option linter.unusedVariables false
set_option linter.unusedSimpArgs false

set_option maxRecDepth 100000 in
set_option maxHeartbeats 3200000 in
theorem eback_known (k o m : Int) (ad : Option Addr) (n c : Nat) (S : ByteArray) (w : World) (hb : 200 < n ∨ 100 < S.size) :
    Calls Try.prog 4 #[.agg #[.int .i64 k, .int .i64 o, .int .i64 m, .slice ad n c, .string S]] w fun x w' => x = .returned (.bool true) ∧ Below w.heap.size w w' := by
  have HB : Hid (Below w.heap.size w (w.alloc (.cells #[.int .i64 k, .int .i64 o, .int .i64 m, .slice ad n c, .string S] 24))) := Lib.hid ((Below.refl _ _).alloc (Nat.le_refl _) _)
  rcases (show 200 < (n : Int) ∨ (decide (200 < (n : Int)) = false ∧ 100 < (S.size : Int)) by
    simp only [decide_eq_false_iff_not]; omega) with h | ⟨h1, h⟩
  all_goals
    clear hb
    go_enter Try.func4, Try.ntmps4
    go_wp2_with fail
    refine (known_any _).mono ?_
    rintro y w2 ⟨rfl, hb2⟩
    go_wp2_with fail
    go_ret
    exact ⟨rfl, HB.out.trans (hb2.mono HB.out.size)⟩

set_option maxRecDepth 100000 in
set_option maxHeartbeats 6400000 in
theorem eback_walk (k o m : Int) (ad : Option Addr) (n c : Nat) (S : ByteArray) (d : List UInt8) (w : World) (hr : Row w ad c d) (hn : d.length = n) (hn2 : n ≤ 200) (hS : S.size ≤ 100) :
    Calls Try.prog 4 #[.agg #[.int .i64 k, .int .i64 o, .int .i64 m, .slice ad n c, .string S]] w fun x w' => x = .returned (.bool true) ∧ Below w.heap.size w w' := by
  have hd1 : decide (200 < (n : Int)) = false := by simp; omega
  have hd4 : decide (100 < (S.size : Int)) = false := by simp; omega
  have HB : Hid (Below w.heap.size w (w.alloc (.cells #[.int .i64 k, .int .i64 o, .int .i64 m, .slice ad n c, .string S] 24))) := Lib.hid ((Below.refl _ _).alloc (Nat.le_refl _) _)
  have HX := Lib.hid (RecAt.new w #[.int .i64 k, .int .i64 o, .int .i64 m, .slice ad n c, .string S] 24)
  have HR := Lib.hid hr
  have HN := Lib.hid hn
  have HS := Lib.hid hS
  clear hr hn hS
  have PA := Lib.hid (fun (W : World) (h : Below w.heap.size w W) => eput_any o m ad n c d S W k (HR.out.later h) HN.out (by have := HS.out; omega))
  have RA := Lib.hid (fun (W : World) (h : Below w.heap.size w W) => eright_any o m ad n c d S W k (HR.out.later h) HN.out (by have := HS.out; omega))
  cases hrt : (Ev.mk k o m d S.data.toList).right with
  | false =>
    rw [putEv_no hrt] at PA
    rw [hrt] at RA
    clear hrt
    go_enter Try.func4, Try.ntmps4
    go_wp2_with fail
    refine (PA.out _ HB.out).mono ?_
    rintro y w1 ⟨v1, rfl, o1⟩
    have HB1 := Lib.hid (HB.out.trans (o1.below.mono HB.out.size))
    have HX1 := Lib.hid (HX.out.later o1.below)
    obtain ⟨aX, cX, rfl, rX⟩ := o1.row_n (n := 0) rfl
    obtain ⟨x0, x1, x2, x3, x4⟩ := HX1.out.c5
    clear o1 rX PA HX HB HX1
    go_wp2_with fail
    refine (RA.out _ HB1.out).mono ?_
    rintro y w2 ⟨rfl, hb2⟩
    have HB2 := Lib.hid (HB1.out.trans (hb2.mono HB1.out.size))
    clear x0 x1 x2 x3 x4 hb2 RA
    go_wp2_with fail
    refine (known_any _).mono ?_
    rintro y w3 ⟨rfl, hb3⟩
    go_wp2_with fail
    go_ret
    exact ⟨rfl, HB2.out.trans (hb3.mono HB2.out.size)⟩
  | true =>
    have hg := getEv_put hrt
    have hl := putE_len hrt
    rw [putEv_yes hrt] at PA
    rw [hrt] at RA
    obtain ⟨X, hX⟩ : ∃ X, putE ⟨k, o, m, d, S.data.toList⟩ = X := ⟨_, rfl⟩
    rw [hX] at PA hg hl
    obtain ⟨xn, hxn⟩ : ∃ xn, X.length = xn := ⟨_, rfl⟩
    rw [hxn] at hl
    have HXN := Lib.hid hxn
    have HL := Lib.hid hl
    have HG := Lib.hid hg
    clear hrt hg hX hl hxn
    go_enter Try.func4, Try.ntmps4
    go_wp2_with fail
    refine (PA.out _ HB.out).mono ?_
    rintro y w1 ⟨v1, rfl, o1⟩
    have HB1 := Lib.hid (HB.out.trans (o1.below.mono HB.out.size))
    have HX1 := Lib.hid (HX.out.later o1.below)
    obtain ⟨aX, cX, rfl, rX⟩ := o1.row_n HXN.out
    have RX1 := Lib.hid rX
    clear o1 rX PA HX HB
    go_wp2_with fail
    refine (eget_any aX xn cX X w1 RX1.out HXN.out (by have := HL.out; omega)).mono ?_
    rintro y w2 ⟨aq, cq, rfl, rq, hb2⟩
    rw [HG.out] at rq ⊢
    unfold evV
    simp only at rq ⊢
    rw [bytes_eta, HN.out]
    have hba : Below w2.heap.size w2 (w2.alloc (.cells #[.int .i64 k, .int .i64 o, .int .i64 m, .slice aq n cq, .string S] 24)) := (Below.refl _ _).alloc (Nat.le_refl _) _
    have hbb := hb2.trans (hba.mono hb2.size)
    have HB3 := Lib.hid (HB1.out.trans (hbb.mono HB1.out.size))
    have HX3 := Lib.hid (HX1.out.later hbb)
    have HQ3 := Lib.hid (RecAt.new w2 #[.int .i64 k, .int .i64 o, .int .i64 m, .slice aq n cq, .string S] 24)
    have RQ3 := Lib.hid (rq.later hba)
    clear rq hb2 hba hbb HX1 HB1 RX1 HG
    go_upto_region 7 with fail
    generalize (w2.alloc (.cells #[.int .i64 k, .int .i64 o, .int .i64 m, .slice aq n cq, .string S] 24)) = w3 at *
    generalize w2.heap.size = p1 at *
    obtain ⟨x0, x1, x2, x3, x4⟩ := HX3.out.c5
    go_wp2_with fail
    refine (RA.out _ HB3.out).mono ?_
    rintro y w4 ⟨rfl, hb4⟩
    have HB4 := Lib.hid (HB3.out.trans (hb4.mono HB3.out.size))
    have HX4 := Lib.hid (HX3.out.later hb4)
    have HQ4 := Lib.hid (HQ3.out.later hb4)
    have RQ4 := Lib.hid (RQ3.out.later hb4)
    clear x0 x1 x2 x3 x4 hb4 RA HX3 HQ3 RQ3
    obtain ⟨x0, x1, x2, x3, x4⟩ := HX4.out.c5
    obtain ⟨y0, y1, y2, y3, y4⟩ := HQ4.out.c5
    go_wp2_with fail
    refine (rsame_any _ _ _ _ _ _ _ _ _ _ _ _ _ _ _ _ w4 RQ4.out (HR.out.later HB4.out) HN.out HN.out true (by simp)).mono ?_
    rintro e w5 ⟨rfl, hb5⟩
    have HB5 := Lib.hid (HB4.out.trans (hb5.mono HB4.out.size))
    clear x0 x1 x2 x3 x4 y0 y1 y2 y3 y4 hb5 HX4 HQ4 RQ4
    have l1 : decide (1 ≤ (xn : Int)) = true := by have := HL.out; simp; omega
    have l2 : decide ((xn : Int) ≤ 90) = true := by have := HL.out; simp; omega
    have l3 : 1 ≤ xn := by have := HL.out; omega
    have l4 : xn ≤ 90 := by have := HL.out; omega
    go_wp2_with fail
    refine (known_any _).mono ?_
    rintro y w6 ⟨rfl, hb6⟩
    go_wp2_with fail
    go_ret
    exact ⟨rfl, HB5.out.trans (hb6.mono HB5.out.size)⟩

theorem eventBack_walk (cs : Array Value) (e : Ev) (w : World) (he : EvE w cs.toList e) :
    Calls Try.prog 4 #[.agg cs] w fun x w' => x = .returned (.bool true) ∧ Below w.heap.size w w' := by
  obtain ⟨a, c, S, rfl, hS, hSs, hr⟩ := he.open
  by_cases hb : 200 < e.data.length ∨ 100 < S.size
  · exact eback_known _ _ _ a _ c S w hb
  · exact eback_walk _ _ _ a _ c S e.data w hr rfl (by omega) (by omega)
end Go.Proofs.Ytnllopfhfijjbaa
