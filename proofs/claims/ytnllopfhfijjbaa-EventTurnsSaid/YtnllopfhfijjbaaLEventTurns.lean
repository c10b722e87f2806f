/- The law 'EventTurns', walked. -/
import Derived.Test.YtnllopfhfijjbaaEvO
namespace Go.Proofs.Ytnllopfhfijjbaa
open Go.RowKit
set_option linter.unusedVariables false
set_option linter.unusedSimpArgs false

theorem and255 (n : Int) : ∃ X : Nat, bits .and .i64 n 255 = X ∧ X ≤ 255 := by
  have e : (BitVec.ofInt 64 n &&& BitVec.ofInt 64 255).toNat ≤ 255 := by
    rw [BitVec.toNat_and]
    exact Nat.le_trans Nat.and_le_right (by decide)
  refine ⟨(BitVec.ofInt 64 n &&& BitVec.ofInt 64 255).toNat, ?_, e⟩
  show IntKind.i64.wrap (((BitVec.ofInt 64 n &&& BitVec.ofInt 64 255).toNat : Nat) : Int) = _
  exact i64_small _ (by omega)
theorem not_right {e : Ev} (h : ¬ e.Ok) : e.right = false := by unfold Ev.right; exact decide_eq_false h
theorem tx1 {k o m : Int} {d : List UInt8} (h : ¬ (k = 5 ∨ k = 6 ∨ k = 7)) : (Ev.mk k o m d [97]).right = false := not_right fun h2 => by
  rcases h2 with h2 | h2 | h2 | h2 | h2 <;> simp only at h2
  · exact absurd h2.2.2.2.2 (by simp)
  · exact absurd h2.2.2.2 (by simp)
  · exact absurd h2.2.2.2.2.2 (by simp)
  · exact h h2.1
  · exact absurd h2.2.2.2.2 (by simp)
theorem tx2 {k m : Int} {d s : List UInt8} (h : ¬ (k = 1 ∨ k = 2 ∨ k = 3)) : (Ev.mk k 1 m d s).right = false := not_right fun h2 => by
  rcases h2 with h2 | h2 | h2 | h2 | h2 <;> simp only at h2 <;> omega
theorem tx3 {k o m : Int} {s : List UInt8} (h : k ≠ 1) : (Ev.mk k o m [0] s).right = false := not_right fun h2 => by
  rcases h2 with h2 | h2 | h2 | h2 | h2 <;> simp only at h2
  · exact h h2.1
  all_goals exact absurd h2.2.1 (by simp)
theorem tx4 {k o : Int} {d s : List UInt8} (h : k = 1 ∨ 4 < k) : (Ev.mk k o 1 d s).right = false := not_right fun h2 => by
  rcases h2 with h2 | h2 | h2 | h2 | h2 <;> simp only at h2 <;> omega
/-- What stands behind the switch: another event that may not be. -/
def TurnR (w : World) (p1 : Nat) (e : Array Value) (wx : World) : Prop :=
  ∃ (k o m : Int) (a : Option Addr) (n c : Nat) (d : List UInt8) (S : ByteArray), RecAt wx p1 #[.int .i64 k, .int .i64 o, .int .i64 m, .slice a n c, .string S] 24 ∧ RecAt wx w.heap.size e 24 ∧
    Row wx a c d ∧ d.length = n ∧ S.size ≤ 12 ∧ (Ev.mk k o m d S.data.toList).right = false ∧ Below w.heap.size w wx
theorem turnR_set {w w3 : World} {p1 : Nat} {e : Array Value} {a : Option Addr} {n c : Nat} {d : List UInt8} {cs : Array Value} (i : Nat) (v : Value) (k o m : Int) (S : ByteArray) (hp : RecAt w3 p1 cs 24) (he : RecAt w3 w.heap.size e 24)
    (hne : w.heap.size < p1) (hr : Row w a c d) (hn : d.length = n) (hb : Below w.heap.size w w3) (hc : cs.setIfInBounds i v = #[.int .i64 k, .int .i64 o, .int .i64 m, .slice a n c, .string S]) (hS : S.size ≤ 12) (h : (Ev.mk k o m d S.data.toList).right = false) :
    TurnR w p1 e (w3.setCell ⟨p1, i, none⟩ v) := by
  have hb2 : Below w.heap.size w (w3.setCell ⟨p1, i, none⟩ v) := hb.setCell (by simp; omega) _
  refine ⟨k, o, m, a, n, c, d, S, ?_, he.other (by omega) i v, hr.later hb2, hn, hS, h, hb2⟩
  rw [← hc]; exact hp.set i v
theorem turnR_data {w w3 : World} {p1 : Nat} {e cs : Array Value} {k o m : Int} {S : ByteArray} (hp : RecAt w3 p1 cs 24) (he : RecAt w3 w.heap.size e 24)
    (hne : w.heap.size < p1) (hb : Below w.heap.size w w3) (hc : cs.setIfInBounds 3 (.slice (some ⟨w3.heap.size, 0, none⟩) 1 1) = #[.int .i64 k, .int .i64 o, .int .i64 m, .slice (some ⟨w3.heap.size, 0, none⟩) 1 1, .string S]) (hS : S.size ≤ 12) (h : (Ev.mk k o m [0] S.data.toList).right = false) :
    TurnR w p1 e ((w3.alloc (.cells #[.int .u8 0] 5)).setCell ⟨p1, 3, none⟩ (.slice (some ⟨w3.heap.size, 0, none⟩) 1 1)) := by
  have hba : Below w3.heap.size w3 (w3.alloc (.cells #[.int .u8 0] 5)) := (Below.refl _ _).alloc (Nat.le_refl _) _
  have hr : Row (w3.alloc (.cells #[.int .u8 0] 5)) (some ⟨w3.heap.size, 0, none⟩) 1 [0] := row_new w3 [0] (by decide)
  have hlt := hp.lt
  refine ⟨k, o, m, some ⟨w3.heap.size, 0, none⟩, 1, 1, [0], S, ?_, (he.later hba).other (by omega) 3 _, hr.sameAt fun x hx => setCell_other _ (by cases hx; simp only; omega) _ _, rfl, hS, h, (hb.trans (hba.mono hb.size)).setCell (by simp; omega) _⟩
  rw [← hc]; exact (hp.later hba).set 3 _
set_option maxRecDepth 100000 in
set_option maxHeartbeats 6400000 in
theorem eturns_walk (k o m : Int) (ad : Option Addr) (n c : Nat) (S : ByteArray) (d : List UInt8) (z : Int) (w : World) (hr : Row w ad c d) (hn : d.length = n) (hS : S.size ≤ 9223372036854775807) :
    Calls Try.prog 6 #[.agg #[.int .i64 k, .int .i64 o, .int .i64 m, .slice ad n c, .string S], .int .i64 z] w fun x w' => x = .returned (.bool true) ∧ Below w.heap.size w w' := by
  have HB : Hid (Below w.heap.size w (w.alloc (.cells #[.int .i64 k, .int .i64 o, .int .i64 m, .slice ad n c, .string S] 24))) := Lib.hid ((Below.refl _ _).alloc (Nat.le_refl _) _)
  have HX := Lib.hid (RecAt.new w #[.int .i64 k, .int .i64 o, .int .i64 m, .slice ad n c, .string S] 24)
  have HR := Lib.hid hr
  have HN := Lib.hid hn
  have HS := Lib.hid hS
  clear hr hn hS
  have RA := Lib.hid (fun (W : World) (h : Below w.heap.size w W) => rright_any o m ad n c d S W k (HR.out.later h) HN.out HS.out)
  cases hrt : (Ev.mk k o m d S.data.toList).right with
  | false =>
    rw [hrt] at RA
    clear hrt
    go_enter Try.func6, Try.ntmps6
    go_wp2_with fail
    refine (RA.out _ HB.out).mono ?_
    rintro y w1 ⟨rfl, hb1⟩
    have HB1 := Lib.hid (HB.out.trans (hb1.mono HB.out.size))
    go_wp2_with fail
    refine (known_any _).mono ?_
    rintro y w6 ⟨rfl, hb6⟩
    go_wp2_with fail
    go_ret
    exact ⟨rfl, HB1.out.trans (hb6.mono HB1.out.size)⟩
  | true =>
    have hk := right_kind hrt
    simp only at hk
    have PA := Lib.hid (fun (W : World) (h : Below w.heap.size w W) => rplain_any k o m ad n c d S W (HR.out.later h) HN.out HS.out)
    have EA := Lib.hid (fun (W : World) (h : Below w.heap.size w W) => eright_any o m ad n c d S W k (HR.out.later h) HN.out HS.out)
    have HSS : Hid (S.size ≤ 12) := by
      refine Lib.hid ?_
      have : S.data.toList.length ≤ 12 := by
        rcases right_iff.1 hrt with h1 | h1 | h1 | h1 | h1 <;> simp only at h1
        · rw [h1.2.2.2.2]; simp
        · rw [h1.2.2.2]; simp
        · rw [h1.2.2.2.2.2]; simp
        · exact (nameOk_len h1.2.2.2.2).2
        · rw [h1.2.2.2.2]; simp
      rw [Array.length_toList] at this
      exact this
    obtain ⟨PL, hPL⟩ : ∃ PL, (Ev.mk k o m d S.data.toList).plain = PL := ⟨_, rfl⟩
    have hpl : PL = decide (k = 1 ∨ k = 2 ∨ k = 3) := by rw [← hPL]; unfold Ev.plain; rw [hrt]; simp
    rw [hrt] at RA EA
    rw [hPL] at PA
    obtain ⟨X, hX, hX2⟩ := and255 z
    clear hPL hrt
    go_enter Try.func6, Try.ntmps6
    go_wp2_with fail
    refine (RA.out _ HB.out).mono ?_
    rintro y w1 ⟨rfl, hb1⟩
    have HX1 := Lib.hid (HX.out.later hb1)
    have hba : Below w1.heap.size w1 (w1.alloc (.cells #[.int .i64 k, .int .i64 o, .int .i64 m, .slice ad n c, .string S] 24)) := (Below.refl _ _).alloc (Nat.le_refl _) _
    have hbb := hb1.trans (hba.mono hb1.size)
    have HB2 := Lib.hid (HB.out.trans (hbb.mono HB.out.size))
    have HX2 := Lib.hid (HX.out.later hbb)
    have HP2 := Lib.hid (RecAt.new w1 #[.int .i64 k, .int .i64 o, .int .i64 m, .slice ad n c, .string S] 24)
    have HNE : Hid (w.heap.size < w1.heap.size) := Lib.hid HX1.out.lt
    obtain ⟨x0, x1, x2, x3, x4⟩ := HX1.out.c5
    clear hb1 hba hbb HB HX RA
    go_upto_region 4 with fail
    generalize (w1.alloc (.cells #[.int .i64 k, .int .i64 o, .int .i64 m, .slice ad n c, .string S] 24)) = w2 at *
    generalize w1.heap.size = p1 at *
    clear x0 x1 x2 x3 x4 HX1
    obtain ⟨x0, x1, x2, x3, x4⟩ := HX2.out.c5
    go_wp2_with fail
    refine (PA.out _ HB2.out).mono ?_
    rintro y w3 ⟨rfl, hb3⟩
    have HB3 := Lib.hid (HB2.out.trans (hb3.mono HB2.out.size))
    have HX3 := Lib.hid (HX2.out.later hb3)
    have HP3 := Lib.hid (HP2.out.later hb3)
    clear x0 x1 x2 x3 x4 hb3 HB2 HX2 HP2 PA
    obtain ⟨x0, x1, x2, x3, x4⟩ := HX3.out.c5
    obtain ⟨NB, hNB⟩ : ∃ NB, decide (k = 5 ∨ k = 6 ∨ k = 7) = NB := ⟨_, rfl⟩
    have HNB := Lib.hid hNB
    have HPL := Lib.hid hpl
    have HK := Lib.hid hk
    clear hNB hpl hk
    go_upto_region 5 with fail
    go_cut [7] (fun v wx => v = .bool NB ∧ wx = w3)
    case first =>
      cases t5 : (k == 5) <;> cases t6 : (k == 6) <;> cases t7 : (k == 7)
      all_goals
        go_wp2_with fail
        go_meet
        refine ⟨?_, rfl⟩
        rw [← HNB.out]
        simp only [beq_iff_eq, beq_eq_false_iff_ne] at t5 t6 t7
        first
        | exact congrArg Value.bool (decide_eq_true (by omega)).symm
        | exact congrArg Value.bool (decide_eq_false (by omega)).symm
    case rest =>
      obtain ⟨rfl, rfl⟩ := hcut
      go_upto_block 0 with fail
      obtain ⟨y0, y1, y2, y3, y4⟩ := HP3.out.c5
      have f0 := HP3.out.frozen 0
      have f1 := HP3.out.frozen 1
      have f2 := HP3.out.frozen 2
      have f3 := HP3.out.frozen 3
      have f4 := HP3.out.frozen 4
      go_cut [] (fun wx => TurnR w p1 #[.int .i64 k, .int .i64 o, .int .i64 m, .slice ad n c, .string S] wx)
      case first =>
        rcases (show (X : Int) % 5 = 0 ∨ (X : Int) % 5 = 1 ∨ (X : Int) % 5 = 2 ∨ (X : Int) % 5 = 3 ∨ (X : Int) % 5 = 4 by omega) with hx | hx | hx | hx | hx
        · go_wp2_with fail
          go_meet
          exact turnR_set 0 (.int .i64 9) 9 o m S HP3.out HX3.out HNE.out HR.out HN.out HB3.out rfl HSS.out (right_x (.inr (by omega)))
        · cases NB
          · have h5 := of_decide_eq_false HNB.out
            go_wp2_with fail
            go_meet
            exact turnR_set 4 (.string ⟨#[97]⟩) k o m ⟨#[97]⟩ HP3.out HX3.out HNE.out HR.out HN.out HB3.out rfl (by decide) (tx1 h5)
          · go_wp2_with fail
            refine (known_any _).mono ?_
            rintro y w6 ⟨rfl, hb6⟩
            go_wp2_with fail
            go_ret
            exact ⟨rfl, HB3.out.trans (hb6.mono HB3.out.size)⟩
        · cases PL
          · have h5 := of_decide_eq_false HPL.out.symm
            go_wp2_with fail
            go_meet
            exact turnR_set 1 (.int .i64 1) k 1 m S HP3.out HX3.out HNE.out HR.out HN.out HB3.out rfl HSS.out (tx2 h5)
          · go_wp2_with fail
            refine (known_any _).mono ?_
            rintro y w6 ⟨rfl, hb6⟩
            go_wp2_with fail
            go_ret
            exact ⟨rfl, HB3.out.trans (hb6.mono HB3.out.size)⟩
        · cases t1 : (k == 1)
          · have h5 : k ≠ 1 := by simpa using t1
            have T3 := Lib.hid (tx3 (o := o) (m := m) (s := S.data.toList) h5)
            clear h5
            have hba : Below wc.heap.size wc (wc.alloc (.cells #[.int .u8 0] 5)) := (Below.refl _ _).alloc (Nat.le_refl _) _
            have z3 := (HP3.out.later hba).cell (i := 3) rfl
            have g3 := (HP3.out.later hba).frozen 3
            clear hba
            go_wp2_with fail
            go_meet
            exact turnR_data HP3.out HX3.out HNE.out HB3.out rfl HSS.out T3.out
          · go_wp2_with fail
            refine (known_any _).mono ?_
            rintro y w6 ⟨rfl, hb6⟩
            go_wp2_with fail
            go_ret
            exact ⟨rfl, HB3.out.trans (hb6.mono HB3.out.size)⟩
        · cases t1 : (k == 1) <;> cases t4 : (k == 4) <;> cases PL
          all_goals
            have t1n : (k != 1) = !(k == 1) := rfl
            rw [t1] at t1n
            go_wp2_with fail
          all_goals first
          | (refine (known_any _).mono ?_
             rintro y w6 ⟨rfl, hb6⟩
             go_wp2_with fail
             go_ret
             exact ⟨rfl, HB3.out.trans (hb6.mono HB3.out.size)⟩)
          | (go_meet
             exact turnR_set 2 (.int .i64 1) k o 1 S HP3.out HX3.out HNE.out HR.out HN.out HB3.out rfl HSS.out (tx4 (by
               have := HK.out
               simp only [beq_iff_eq, beq_eq_false_iff_ne] at t1 t4
               have h6 := HPL.out
               first
               | (have h7 := of_decide_eq_false h6.symm; omega)
               | (have h7 := of_decide_eq_true h6.symm; omega))))
      case rest =>
        clear x0 x1 x2 x3 x4 y0 y1 y2 y3 y4 f0 f1 f2 f3 f4
        obtain ⟨k', o', m', a', n', c', d', S', hp, he, hrw, hd', hS', hrt', hb⟩ := hcut
        have HP4 := Lib.hid hp
        have HX4 := Lib.hid he
        have RP4 := Lib.hid hrw
        have HD' := Lib.hid hd'
        have HS' := Lib.hid hS'
        have HT' := Lib.hid hrt'
        have HB4 := Lib.hid hb
        clear hp he hrw hd' hS' hrt' hb HB3 HX3 HP3
        obtain ⟨x0, x1, x2, x3, x4⟩ := HX4.out.c5
        obtain ⟨y0, y1, y2, y3, y4⟩ := HP4.out.c5
        have hput := eput_any o' m' a' n' c' d' S' wc k' RP4.out HD'.out (by have := HS'.out; omega)
        rw [putEv_no HT'.out] at hput
        go_wp2_with fail
        refine hput.mono ?_
        rintro y w5 ⟨v5, rfl, o5⟩
        have HB5 := Lib.hid (HB4.out.trans (o5.below.mono HB4.out.size))
        have HP5 := Lib.hid (HP4.out.later o5.below)
        have HX5 := Lib.hid (HX4.out.later o5.below)
        have RP5 := Lib.hid (RP4.out.later o5.below)
        obtain ⟨a5, c5, rfl, r5⟩ := o5.row_n (n := 0) rfl
        clear o5 r5 hput x0 x1 x2 x3 x4 y0 y1 y2 y3 y4 HB4 HP4 HX4 RP4
        obtain ⟨x0, x1, x2, x3, x4⟩ := HX5.out.c5
        go_wp2_with fail
        refine (EA.out _ HB5.out).mono ?_
        rintro y w6 ⟨rfl, hb6⟩
        have HB6 := Lib.hid (HB5.out.trans (hb6.mono HB5.out.size))
        have HP6 := Lib.hid (HP5.out.later hb6)
        have RP6 := Lib.hid (RP5.out.later hb6)
        clear hb6 x0 x1 x2 x3 x4 HB5 HP5 HX5 RP5 EA
        obtain ⟨y0, y1, y2, y3, y4⟩ := HP6.out.c5
        have hrr := eright_any o' m' a' n' c' d' S' w6 k' RP6.out HD'.out (by have := HS'.out; omega)
        rw [HT'.out] at hrr
        go_wp2_with fail
        refine hrr.mono ?_
        rintro y w7 ⟨rfl, hb7⟩
        have HB7 := Lib.hid (HB6.out.trans (hb7.mono HB6.out.size))
        have HP7 := Lib.hid (HP6.out.later hb7)
        have RP7 := Lib.hid (RP6.out.later hb7)
        clear hb7 y0 y1 y2 y3 y4 hrr HB6 HP6 RP6
        obtain ⟨y0, y1, y2, y3, y4⟩ := HP7.out.c5
        have hpp := eplain_any k' o' m' a' n' c' d' S' w7 RP7.out HD'.out (by have := HS'.out; omega)
        rw [show (Ev.mk k' o' m' d' S'.data.toList).plain = false by unfold Ev.plain; rw [HT'.out]; rfl] at hpp
        go_wp2_with fail
        refine hpp.mono ?_
        rintro y w8 ⟨rfl, hb8⟩
        have HB8 := Lib.hid (HB7.out.trans (hb8.mono HB7.out.size))
        clear hb8 y0 y1 y2 y3 y4 hpp
        go_wp2_with fail
        refine (known_any _).mono ?_
        rintro y w9 ⟨rfl, hb9⟩
        go_wp2_with fail
        go_ret
        exact ⟨rfl, HB8.out.trans (hb9.mono HB8.out.size)⟩

theorem eventTurns_walk (cs : Array Value) (e : Ev) (z : Int) (w : World) (he : EvE w cs.toList e) (hz : (Lit.int .i64 z).wf = true) :
    Calls Try.prog 6 #[.agg cs, .int .i64 z] w fun x w' => x = .returned (.bool true) ∧ Below w.heap.size w w' := by
  obtain ⟨a, c, S, rfl, hS, hSs, hr⟩ := he.open
  exact eturns_walk _ _ _ a _ c S e.data z w hr rfl hSs
end Go.Proofs.Ytnllopfhfijjbaa
