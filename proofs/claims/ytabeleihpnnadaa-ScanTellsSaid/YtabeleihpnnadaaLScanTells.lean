/- The law 'ScanTells', walked. -/
import Derived.Test.YtabeleihpnnadaaScK
namespace Go.Proofs.Ytabeleihpnnadaa
open Go.RowKit Go.Proofs
set_option linter.unusedVariables false
set_option linter.unusedSimpArgs false
set_option linter.unnecessarySimpa false

theorem few_sb {n : Nat} {rows : List (List UInt8)} (hn : rows.length = n) (h : n ≤ 40 ∧ ∀ l ∈ rows, l.length ≤ 1500) : SB rows := ⟨by omega, fun l hl => by have := h.2 l hl; omega⟩
set_option maxRecDepth 100000 in
set_option maxHeartbeats 12800000 in
theorem scanTells_walk (a : Option Addr) (n cap : Nat) (rows : List (List UInt8)) (from_ last : Int) (w : World) (hr : SRow w a cap rows) (hn : rows.length = n) (hf : ik from_) :
    Calls Try.prog 3 #[.slice a n cap, .int .i64 from_, .int .i64 last] w fun x w' => x = .returned (.bool true) ∧ Below w.heap.size w w' := by
  have HR := Lib.hid hr
  have HN := Lib.hid hn
  have HF := Lib.hid hf
  have HFEW := Lib.hid (few_any a n cap rows w hr hn)
  have hcap := hr.1
  have hcm := hr.2.1
  unfold maxLen at hcm
  rw [hn] at hcap
  clear hr hn hf
  go_enter Try.func3, Try.ntmps3
  go_wp2_with fail
  refine HFEW.out.mono ?_
  rintro e w1 ⟨B, rfl, rfl, hB⟩
  cases B with
  | false =>
    clear hB
    go_wp2_with fail
    refine (known11_any w).mono ?_
    rintro e w2 ⟨rfl, hb⟩
    have HB := Lib.hid hb
    clear hb
    go_wp2_with fail
    go_ret
    exact ⟨rfl, HB.out⟩
  | true =>
    have HSB := Lib.hid (few_sb HN.out (hB rfl))
    clear hB
    go_wp2_with fail
    refine (merge_any a n cap rows from_ w HR.out HN.out HSB.out HF.out.1 HF.out.2).mono ?_
    rintro e w1 ⟨v1, rfl, o1⟩
    obtain ⟨N, hN⟩ : ∃ N, (mergeS rows from_).length = N := ⟨_, rfl⟩
    obtain ⟨a1, c1, rfl⟩ := o1.val enT_ok hN
    have HE1 := Lib.hid (o1.row enT_ok en_rel (fromJ_new _)).erow.2
    have HB1 := Lib.hid o1.below
    clear o1
    go_wp2_with fail
    refine (rmerge_any a n cap rows from_ w1 (HR.out.later HB1.out) HN.out HSB.out HF.out.2).mono ?_
    rintro e w2 ⟨v2, rfl, o2⟩
    obtain ⟨a2, c2, rfl⟩ := o2.val enT_ok hN
    have HE2 := Lib.hid (o2.row enT_ok en_rel (fromJ_new _)).erow.2
    have HE1 := Lib.hid (HE1.out.later o2.below)
    have HB2 := Lib.hid (HB1.out.trans (o2.below.mono HB1.out.size))
    clear o2
    go_wp2_with fail
    refine (esame_list a1 a2 N N c1 c2 _ _ w2 HE1.out HE2.out hN hN).mono ?_
    rw [decide_eq_true rfl]
    rintro e w3 ⟨rfl, b3⟩
    have HB3 := Lib.hid (HB2.out.trans (b3.mono HB2.out.size))
    clear b3 HE1 HE2 hN
    go_wp2_with fail
    refine (ends_any a n cap rows last w3 (HR.out.later HB3.out) HN.out HSB.out).mono ?_
    rintro e w4 ⟨v4, rfl, o4⟩
    have hz : (endsZ rows last).length = n := by rw [endsZ_len, HN.out]
    obtain ⟨a4, c4, rfl, r4⟩ := o4.row_n inOk hz
    have HZ4 := Lib.hid r4.zrow
    have HB4 := Lib.hid (HB3.out.trans (o4.below.mono HB3.out.size))
    clear o4 r4
    go_wp2_with fail
    refine (rends_any a n cap rows last w4 (HR.out.later HB4.out) HN.out HSB.out).mono ?_
    rintro e w5 ⟨v5, rfl, o5⟩
    obtain ⟨a5, c5, rfl, r5⟩ := o5.row_n inOk hz
    have HZ5 := Lib.hid r5.zrow
    have HZ4 := Lib.hid (HZ4.out.later o5.below)
    have HB5 := Lib.hid (HB4.out.trans (o5.below.mono HB4.out.size))
    clear o5 r5
    go_wp2_with fail
    refine (zsame_any a4 a5 n n c4 c5 _ _ w5 HZ4.out HZ5.out hz hz).mono ?_
    rw [decide_eq_true rfl]
    rintro e w6 ⟨rfl, b6⟩
    have HB6 := Lib.hid (HB5.out.trans (b6.mono HB5.out.size))
    clear b6 hz HZ4 HZ5
    go_wp2_with fail
    refine (first_any a n cap rows w6 (HR.out.later HB6.out) HN.out HSB.out).mono ?_
    rintro e w7 ⟨rfl, b7⟩
    have HB7 := Lib.hid (HB6.out.trans (b7.mono HB6.out.size))
    clear b7
    go_wp2_with fail
    refine (rfirst_any a n cap rows w7 (HR.out.later HB7.out) HN.out HSB.out).mono ?_
    rintro e w8 ⟨rfl, b8⟩
    have HB8 := Lib.hid (HB7.out.trans (b8.mono HB7.out.size))
    have hq : (firstS rows == firstS rows) = true := by simp
    clear b8
    generalize firstS rows = FS at *
    go_wp2_with fail
    refine (known11_any w8).mono ?_
    rintro e w9 ⟨rfl, b9⟩
    have HB9 := Lib.hid (HB8.out.trans (b9.mono HB8.out.size))
    clear b9
    go_wp2_with fail
    go_ret
    exact ⟨rfl, HB9.out⟩
end Go.Proofs.Ytabeleihpnnadaa
