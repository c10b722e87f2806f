/- Messages: records that come in; the law's bounds, its seven numbers. | Messages: the law's own example. -/
import Derived.Test.YtiahifpbofkimaaGN
import Derived.Test.YtiahifpbofkimaaGD
import Derived.Test.YtiahifpbofkimaaRd
import Derived.Test.YtiahifpbofkimaaGO
import Derived.Test.YtiahifpbofkimaaMsC
import Derived.Test.YtiahifpbofkimaaMsF
namespace Go.Proofs.Ytiahifpbofkimaa
open Go.RowKit Go.Proofs
set_option linter.unusedVariables false
set_option linter.unusedSimpArgs false
set_option linter.unnecessarySimpa false

def MsE (w : World) (cs : List Value) (m : Ms) : Prop := ∃ p : MsAt, cs = (msC m p).toList ∧ MsRows w m p
set_option maxRecDepth 20000 in
set_option maxHeartbeats 1600000 in
theorem opens_ms {w : World} : Opens w 27 (MsE w) :=
  Opens.fields Try.underlying27 (by kernel_rfl : Try.prog.cellsOf 27 = 10) fun cs hl hf => by
    obtain ⟨x0, h0, _⟩ := hf 0 _ rfl _ _ (Opens.int (k := .i64) Try.underlying3)
    obtain ⟨x1, h1, _⟩ := hf 1 _ rfl _ _ (Opens.int (k := .i64) Try.underlying3)
    obtain ⟨x2, h2, _⟩ := hf 2 _ rfl _ _ (Opens.int (k := .i64) Try.underlying3)
    obtain ⟨x3, h3, _⟩ := hf 3 _ rfl _ _ (Opens.int (k := .i64) Try.underlying3)
    obtain ⟨x4, h4, _⟩ := hf 4 _ rfl _ _ (Opens.int (k := .i64) Try.underlying3)
    obtain ⟨x5, h5, _⟩ := hf 5 _ rfl _ _ (Opens.int (k := .i64) Try.underlying3)
    obtain ⟨x6, a6, c6, h6, r6⟩ := hf 6 _ rfl _ _ (Opens.slice (w := w) (sz := 4) Try.underlying22 (by kernel_rfl) opens_tag)
    obtain ⟨x7, a7, c7, h7, r7⟩ := hf 7 _ rfl _ _ (Opens.slice (w := w) (sz := 3) Try.underlying23 (by kernel_rfl) (opens_en (w := w)))
    obtain ⟨x8, a8, c8, h8, r8⟩ := hf 8 _ rfl _ _ (Opens.slice (w := w) (sz := 4) Try.underlying24 (by kernel_rfl) opens_mk)
    obtain ⟨x9, a9, c9, h9, r9⟩ := hf 9 _ rfl _ _ (Opens.bytes (w := w) Try.underlying25 Try.underlying5 (by kernel_rfl))
    refine ⟨⟨x0, x1, x2, x3, x4, x5, x6, x7, x8, x9⟩, ⟨a6, x6.length, c6, a7, x7.length, c7, a8, x8.length, c8, a9, x9.length, c9⟩, ?_, ⟨r6.trow, r7.erow, r8.mrow, r9, rfl, rfl, rfl, rfl⟩⟩
    have e1 : Try.prog.cellsOf 3 = 1 := by kernel_rfl
    have e2 : Try.prog.cellsOf 22 = 1 := by kernel_rfl
    have e3 : Try.prog.cellsOf 23 = 1 := by kernel_rfl
    have e4 : Try.prog.cellsOf 24 = 1 := by kernel_rfl
    have e5 : Try.prog.cellsOf 25 = 1 := by kernel_rfl
    match cs, hl with
    | [y0, y1, y2, y3, y4, y5, y6, y7, y8, y9], _ =>
      simp [e1] at h0 h1 h2 h3 h4 h5
      simp [e1, e2] at h6
      simp [e1, e2, e3] at h7
      simp [e1, e2, e3, e4] at h8
      simp [e1, e2, e3, e4, e5] at h9
      simp [h0, h1, h2, h3, h4, h5, h6, h7, h8, h9]
theorem MsE.open {w : World} {cs : Array Value} {m : Ms} (k : MsE w cs.toList m) : ∃ p : MsAt, cs = msC m p ∧ MsRows w m p := by
  obtain ⟨p, h1, h2⟩ := k
  exact ⟨p, by rw [← Array.toArray_toList (xs := cs), h1], h2⟩

/-! ### few -/
def FewMs (m : Ms) : Prop := (∀ (i : Nat) (e : En), m.ents[i]? = some e → e.data.length ≤ 200) ∧ (∀ (i : Nat) (t : Mk), m.marks[i]? = some t → t.name.size ≤ 60) ∧ m.chain.length ≤ 50 ∧ m.ents.length ≤ 20 ∧ m.marks.length ≤ 40 ∧ m.data.length ≤ 300
set_option maxRecDepth 20000 in
set_option maxHeartbeats 12800000 in
theorem fewMs_any (m : Ms) (p : MsAt) (w : World) (h : MsRows w m p) : Calls Try.prog 7 #[msV m p] w fun e w' => ∃ b, e = .returned (.bool b) ∧ (b = true → FewMs m) ∧ Below w.heap.size w w' := by
  have HB0 := Lib.hid ((Below.refl w.heap.size w).alloc (Nat.le_refl _) (.cells (msC m p) 27))
  have HX0 := Lib.hid (RecAt.new w (msC m p) 27)
  have hx := HX0.out.c10
  have HH := Lib.hid (h.later HB0.out)
  obtain ⟨w1, hw1⟩ : ∃ W, w.alloc (.cells (msC m p) 27) = W := ⟨_, rfl⟩
  rw [hw1] at HB0 HX0 HH
  have HFW : Hid ((∀ (i : Nat) (e : En), m.ents[i]? = some e → e.data.length ≤ 200) → (∀ (i : Nat) (t : Mk), m.marks[i]? = some t → t.name.size ≤ 60) → p.nc ≤ 50 → p.ne ≤ 20 → p.nm ≤ 40 → p.nd ≤ 300 → FewMs m) := Lib.hid (fun h1 h2 h3 h4 h5 h6 => ⟨h1, h2, by rw [HH.out.hc]; exact h3, by rw [HH.out.he]; exact h4, by rw [HH.out.ht]; exact h5, by rw [HH.out.hd]; exact h6⟩)
  obtain ⟨FW, hFW⟩ : ∃ F, FewMs m = F := ⟨_, rfl⟩
  rw [hFW] at HFW ⊢
  obtain ⟨P, hP⟩ : ∃ P, (fun e w' => ∃ b, e = Ending.returned (.bool b) ∧ (b = true → FW) ∧ Below w.heap.size w w') = P := ⟨_, rfl⟩
  rw [hP]
  have HP : Hid (∀ b w', (b = true → FW) → Below w1.heap.size w1 w' → P (.returned (.bool b)) w') := Lib.hid (fun b w' hb hw => by rw [← hP]; exact ⟨b, rfl, hb, HB0.out.trans (hw.mono HB0.out.size)⟩)
  clear hP hFW h
  obtain ⟨k, n, o, f, s, u, C, E, T, D⟩ := m
  obtain ⟨ac, nc, cc, ae, ne, ce, am, nm, cm, ad, nd, cd⟩ := p
  simp only [msC] at hw1 hx HFW
  have hcc := HH.out.c.1
  have hce := HH.out.e.1
  have hcm := HH.out.t.1
  have hcd := HH.out.d.1
  have hmc := HH.out.c.2.1
  have hme := HH.out.e.2.1
  have hmm := HH.out.t.2.1
  have hmd := HH.out.d.2.1
  unfold maxLen at hmc hme hmm hmd
  rw [HH.out.hc] at hcc
  rw [HH.out.he] at hce
  rw [HH.out.ht] at hcm
  rw [HH.out.hd] at hcd
  simp only at hcc hce hcm hcd hmc hme hmm hmd
  have HE := Lib.hid HH.out.e
  have HT := Lib.hid HH.out.t
  have HNE := Lib.hid HH.out.he
  have HNT := Lib.hid HH.out.ht
  simp only at HE HT HNE HNT
  clear HH HB0
  go_enter Try.func7, Try.ntmps7
  go_upto_region 1 with fail
  try rw [hw1]
  rw [hw1] at hx
  clear hw1
  obtain ⟨X, hX⟩ : ∃ X, w.heap.size = X := ⟨_, rfl⟩
  rw [hX]
  rw [hX] at HX0 hx
  clear hX
  obtain ⟨x0, x1, x2, x3, x4, x5, x6, x7, x8, x9⟩ := hx
  go_wp2_with fail
  go_loopw [3] (fun i wr => ∃ j : Nat, i = .int .i64 (j : Nat) ∧ j ≤ ne ∧ w1 = wr ∧ Hid (∀ (i : Nat) (e : En), i < j → E[i]? = some e → e.data.length ≤ 200)) (fun i _ => ne - (intOf i).toNat)
  case atStart => exact ⟨0, rfl, by omega, (by first | rfl | trivial), Lib.hid (fun i e h => by omega)⟩
  case round =>
    obtain ⟨j, rfl, hj, rfl, HA⟩ := hrel
    by_cases hjn : (j : Int) < ne
    · obtain ⟨e, he⟩ : ∃ e, E[j]? = some e := ⟨E[j]'(by have := HNE.out; omega), List.getElem?_eq_getElem _⟩
      obtain ⟨b1, o1, d1, k1, rfl, p0, p1, p2, R1⟩ := HE.out.at he
      have HEE := Lib.hid he
      obtain ⟨L, hL⟩ : ∃ L, e.data.length = L := ⟨_, rfl⟩
      rw [hL] at p2
      have HL := Lib.hid hL
      have hL64 : L ≤ 9223372036854775807 := by have := R1.1; have := R1.2.1; unfold maxLen at this; omega
      clear he R1 hL
      by_cases hl : 200 < L
      · have hd : decide (200 < (L : Int)) = true := by simp; omega
        clear hl
        go_wp2_with fail
        try go_ret
        exact HP.out _ _ (fun h => by cases h) (Below.refl _ _)
      · have hd : decide (200 < (L : Int)) = false := by simp; omega
        have HA2 : Hid (∀ (i : Nat) (e : En), i < j + 1 → E[i]? = some e → e.data.length ≤ 200) := Lib.hid (fun i e' hi he' => by
          by_cases c : i = j
          · subst c; rw [HEE.out] at he'; cases he'; rw [HL.out]; omega
          · exact HA.out i e' (by omega) he')
        clear hl
        go_wp2_with fail
        go_roundw
        case rel => exact ⟨j + 1, by go_num, by omega, (by first | rfl | trivial), HA2⟩
        case measure => simp [intOf]; omega
    · have : j = ne := by omega
      subst this
      have HAE : Hid (∀ (i : Nat) (e : En), E[i]? = some e → e.data.length ≤ 200) := Lib.hid (fun i e he => HA.out i e (by have := (List.getElem?_eq_some_iff.1 he).1; have := HNE.out; omega) he)
      go_wp2_with fail
      go_loopw [4] (fun i wq => ∃ q : Nat, i = .int .i64 (q : Nat) ∧ q ≤ nm ∧ w1 = wq ∧ Hid (∀ (i : Nat) (t : Mk), i < q → T[i]? = some t → t.name.size ≤ 60)) (fun i _ => nm - (intOf i).toNat)
      case atStart => exact ⟨0, rfl, by omega, (by first | rfl | trivial), Lib.hid (fun i e h => by omega)⟩
      case round =>
        obtain ⟨q, rfl, hq, rfl, HB⟩ := hrel
        by_cases hqn : (q : Int) < nm
        · obtain ⟨t, ht⟩ : ∃ t, T[q]? = some t := ⟨T[q]'(by have := HNT.out; omega), List.getElem?_eq_getElem _⟩
          obtain ⟨b0, o0, rfl, p0, p1, p2, p3⟩ := HT.out.c4 ht
          have HTT := Lib.hid ht
          have hS64 := (HT.out.b ht).2.2
          clear ht
          obtain ⟨ti, tn, tz, tg⟩ := t
          simp only at p0 p1 p2 p3 hS64
          by_cases hl : 60 < tn.size
          · have hd : decide (60 < (tn.size : Int)) = true := by simp; omega
            clear hl
            go_wp2_with fail
            try go_ret
            exact HP.out _ _ (fun h => by cases h) (Below.refl _ _)
          · have hd : decide (60 < (tn.size : Int)) = false := by simp; omega
            have HB2 : Hid (∀ (i : Nat) (t : Mk), i < q + 1 → T[i]? = some t → t.name.size ≤ 60) := Lib.hid (fun i e' hi he' => by
              by_cases c : i = q
              · subst c; rw [HTT.out] at he'; cases he'; simp only; omega
              · exact HB.out i e' (by omega) he')
            clear hl
            go_wp2_with fail
            go_roundw
            case rel => exact ⟨q + 1, by go_num, by omega, (by first | rfl | trivial), HB2⟩
            case measure => simp [intOf]; omega
        · have : q = nm := by omega
          subst this
          have HBE : Hid (∀ (i : Nat) (t : Mk), T[i]? = some t → t.name.size ≤ 60) := Lib.hid (fun i e he => HB.out i e (by have := (List.getElem?_eq_some_iff.1 he).1; have := HNT.out; omega) he)
          cases d1 : decide ((nc : Int) ≤ 50) with
          | false =>
            go_wp2_with fail
            try go_ret
            exact HP.out _ _ (fun h => by cases h) (Below.refl _ _)
          | true =>
          cases d2 : decide ((j : Int) ≤ 20) with
          | false =>
            go_wp2_with fail
            try go_ret
            exact HP.out _ _ (fun h => by cases h) (Below.refl _ _)
          | true =>
          cases d3 : decide ((q : Int) ≤ 40) with
          | false =>
            go_wp2_with fail
            try go_ret
            exact HP.out _ _ (fun h => by cases h) (Below.refl _ _)
          | true =>
            obtain ⟨DB, hDB⟩ : ∃ b, decide ((nd : Int) ≤ 300) = b := ⟨_, rfl⟩
            have HDB : Hid (DB = true → FW) := Lib.hid (fun h => HFW.out HAE.out HBE.out (by simp at d1; omega) (by simp at d2; omega) (by simp at d3; omega) (by rw [h] at hDB; simp at hDB; omega))
            go_wp2_with fail
            try go_ret
            exact HP.out _ _ HDB.out (Below.refl _ _)
end Go.Proofs.Ytiahifpbofkimaa
namespace Go.Proofs.Ytiahifpbofkimaa
open Go.RowKit Go.Proofs
set_option linter.unusedVariables false
set_option linter.unusedSimpArgs false
set_option linter.unnecessarySimpa false

def kMs : Ms := ⟨3, 1, 0, 0, 0, 0, [], [], [], []⟩
def kAt : MsAt := ⟨none, 0, 0, none, 0, 0, none, 0, 0, none, 0, 0⟩
theorem kMs_right : rightMs kMs = true := rightMs_iff.2 ⟨by unfold NumsM kMs; simp, by unfold NamedM kMs; simp, fun h => by simp [kMs] at h, fun h => by simp [kMs] at h, fun h => by simp [kMs] at h, fun h => by simp [kMs] at h⟩
theorem noMs_wrong : rightMs noMs = false := rightMs_no fun h => by have := h.1; unfold NumsM noMs at this; simp at this
theorem kMs_got : getMs (sealL (bodyMs kMs)) = (kMs, 0) := getMs_some (open_seal _) (rightMs_iff.1 kMs_right) rfl
theorem kMs_none : getMs [] = (noMs, 13) := getMs_sum (by decide)
theorem kMs_len : (sealL (bodyMs kMs)).length = 10 := by rw [sealL_len]; unfold bodyMs frontM tailM numsM; simp [kMs, varL_lo]
set_option maxRecDepth 20000 in
set_option maxHeartbeats 6400000 in
theorem knownMs_any (w : World) : Calls Try.prog 8 #[] w fun e w' => e = .returned (.bool true) ∧ Below w.heap.size w w' := by
  have HB1 := Lib.hid ((Below.refl w.heap.size w).alloc (Nat.le_refl _) (.cells #[.int .i64 3, .int .i64 1, .int .i64 0, .int .i64 0, .int .i64 0, .int .i64 0, .slice none 0 0, .slice none 0 0, .slice none 0 0, .slice none 0 0] 27))
  have HX1 := Lib.hid (RecAt.new w #[.int .i64 3, .int .i64 1, .int .i64 0, .int .i64 0, .int .i64 0, .int .i64 0, .slice none 0 0, .slice none 0 0, .slice none 0 0, .slice none 0 0] 27)
  go_enter Try.func8, Try.ntmps8
  go_upto_region 2 with fail
  generalize (w.alloc (.cells #[.int .i64 3, .int .i64 1, .int .i64 0, .int .i64 0, .int .i64 0, .int .i64 0, .slice none 0 0, .slice none 0 0, .slice none 0 0, .slice none 0 0] 27)) = w1 at *
  obtain ⟨P1, hP1⟩ : ∃ P, w.heap.size = P := ⟨_, rfl⟩
  rw [hP1]
  rw [hP1] at HX1
  clear hP1
  obtain ⟨y0, y1, y2, y3, y4, y5, y6, y7, y8, y9⟩ := HX1.out.c10
  go_wp2_with fail
  refine (msput_any kMs kAt w1 (MsRows.nil _ _ rfl rfl rfl rfl)).mono ?_
  unfold PutP
  rw [putMs_yes kMs_right]
  rintro e w2 ⟨v2, rfl, o2⟩
  obtain ⟨a2, c2, rfl, r2⟩ := o2.row_n kMs_len
  have HQ2 := Lib.hid r2
  have HB2 := Lib.hid (HB1.out.trans (o2.below.mono HB1.out.size))
  have HX2 := Lib.hid (HX1.out.later o2.below)
  clear o2 r2 y0 y1 y2 y3 y4 y5 y6 y7 y8 y9 HX1
  go_wp2_with fail
  refine (msget_any a2 10 c2 _ w2 HQ2.out kMs_len (by decide)).mono ?_
  unfold MsGot
  rw [kMs_got]
  rintro e w3 ⟨q3, rfl, r3, b3⟩
  have HR3 := Lib.hid r3
  have HB3 := Lib.hid (HB2.out.trans (b3.mono HB2.out.size))
  have HX3 := Lib.hid (HX2.out.later b3)
  clear r3 b3 HX2 HQ2
  obtain ⟨ac, nc, cc, ae, ne, ce, am, nm, cm, ad', nd, cd⟩ := q3
  simp only [msV, msC, kMs]
  have HX4 := Lib.hid (RecAt.new w3 #[.int .i64 3, .int .i64 1, .int .i64 0, .int .i64 0, .int .i64 0, .int .i64 0, .slice ac nc cc, .slice ae ne ce, .slice am nm cm, .slice ad' nd cd] 27)
  have HB4 := Lib.hid ((Below.refl w3.heap.size w3).alloc (Nat.le_refl _) (.cells #[.int .i64 3, .int .i64 1, .int .i64 0, .int .i64 0, .int .i64 0, .int .i64 0, .slice ac nc cc, .slice ae ne ce, .slice am nm cm, .slice ad' nd cd] 27))
  go_upto_region 4 with fail
  have HR4 := Lib.hid (HR3.out.later HB4.out)
  have HX14 := Lib.hid (HX3.out.later HB4.out)
  have HB34 := Lib.hid (HB3.out.trans (HB4.out.mono HB3.out.size))
  clear HB4 HR3 HX3
  generalize (w3.alloc (.cells #[.int .i64 3, .int .i64 1, .int .i64 0, .int .i64 0, .int .i64 0, .int .i64 0, .slice ac nc cc, .slice ae ne ce, .slice am nm cm, .slice ad' nd cd] 27)) = w4 at *
  obtain ⟨P4, hP4⟩ : ∃ P, w3.heap.size = P := ⟨_, rfl⟩
  rw [hP4]
  rw [hP4] at HX4
  clear hP4
  go_wp2_with fail
  refine (msget_any none 0 0 [] w4 (Row.empty _ _ _ (Nat.zero_le _) (fun _ => rfl)) rfl (by decide)).mono ?_
  unfold MsGot
  rw [kMs_none]
  rintro e w5 ⟨q5, rfl, r5, b5⟩
  obtain ⟨ac5, nc5, cc5, ae5, ne5, ce5, am5, nm5, cm5, ad5, nd5, cd5⟩ := q5
  simp only [msV, msC, noMs]
  have HB6 := Lib.hid ((Below.refl w5.heap.size w5).alloc (Nat.le_refl _) (.cells #[.int .i64 0, .int .i64 0, .int .i64 0, .int .i64 0, .int .i64 0, .int .i64 0, .slice ac5 nc5 cc5, .slice ae5 ne5 ce5, .slice am5 nm5 cm5, .slice ad5 nd5 cd5] 27))
  have HX16 := Lib.hid ((HX14.out.later b5).later HB6.out)
  have HX46 := Lib.hid ((HX4.out.later b5).later HB6.out)
  have HR6 := Lib.hid ((HR4.out.later b5).later HB6.out)
  have HB56 := Lib.hid ((HB34.out.trans (b5.mono HB34.out.size)).trans (HB6.out.mono (HB34.out.trans (b5.mono HB34.out.size)).size))
  clear r5 b5 HB6
  go_upto_region 5 with fail
  generalize (w5.alloc (.cells #[.int .i64 0, .int .i64 0, .int .i64 0, .int .i64 0, .int .i64 0, .int .i64 0, .slice ac5 nc5 cc5, .slice ae5 ne5 ce5, .slice am5 nm5 cm5, .slice ad5 nd5 cd5] 27)) = w6 at *
  obtain ⟨P6, hP6⟩ : ∃ P, w5.heap.size = P := ⟨_, rfl⟩
  rw [hP6]
  clear hP6
  obtain ⟨y0, y1, y2, y3, y4, y5, y6, y7, y8, y9⟩ := HX16.out.c10
  obtain ⟨v0, v1, v2, v3, v4, v5, v6, v7, v8, v9⟩ := HX46.out.c10
  have HSM := Lib.hid (msrsame_any kMs kMs ⟨ac, nc, cc, ae, ne, ce, am, nm, cm, ad', nd, cd⟩ kAt w6 HR6.out (MsRows.nil _ _ rfl rfl rfl rfl))
  rw [decide_eq_true rfl] at HSM
  simp only [msV, msC, kMs, kAt] at HSM
  go_wp2_with (go_at_call 14; refine HSM.out.mono ?_; rintro e w7 ⟨rfl, b7⟩; have HB7 := Lib.hid b7; clear b7)
  refine (msright_any noMs kAt w7 (MsRows.nil _ _ rfl rfl rfl rfl)).mono ?_
  rw [noMs_wrong]
  rintro e w8 ⟨rfl, b8⟩
  have HB8 := Lib.hid (HB56.out.trans ((HB7.out.trans (b8.mono HB7.out.size)).mono HB56.out.size))
  clear b8
  go_wp2_with fail
  try go_ret
  exact ⟨rfl, HB8.out⟩
end Go.Proofs.Ytiahifpbofkimaa
