/- Images: events that aren't long, a few of them, states that aren't long: what the laws hand on. -/
import Derived.Test.YtghglbaflmbeoaaMdD
namespace Go.Proofs.Ytghglbaflmbeoaa
open Go.RowKit Go.Proofs
set_option linter.unusedVariables false
set_option linter.unusedSimpArgs false
set_option linter.unnecessarySimpa false

def fewE (e : Ev) : Bool := decide (e.data.length ≤ 100) && decide (e.name.length ≤ 40)
def smallE (l : List Ev) (most : Int) : Bool := l.all fewE && decide ((l.length : Int) ≤ most)
theorem fewE_iff {e : Ev} : fewE e = true ↔ e.data.length ≤ 100 ∧ e.name.length ≤ 40 := by unfold fewE; simp
theorem smallE_iff {l : List Ev} {most : Int} : smallE l most = true ↔ (∀ e ∈ l, fewE e = true) ∧ (l.length : Int) ≤ most := by unfold smallE; simp
theorem smallE_no {l : List Ev} {most : Int} {i : Nat} {e : Ev} (h : l[i]? = some e) (hf : fewE e = false) : smallE l most = false := by
  have : l.all fewE = false := by rw [List.all_eq_false]; exact ⟨e, List.mem_of_getElem? h, by rw [hf]; simp⟩
  unfold smallE; rw [this]; rfl
theorem smallE_all {l : List Ev} {most : Int} (h : ∀ (i : Nat) e, l[i]? = some e → fewE e = true) : smallE l most = decide ((l.length : Int) ≤ most) := by
  have : l.all fewE = true := by rw [List.all_eq_true]; intro e he; obtain ⟨i, hi⟩ := List.mem_iff_getElem?.1 he; exact h i e hi
  unfold smallE; rw [this]; rfl
/-- An event's cells. -/
theorem QRow.e5 {J : Nat → Prop} {w : World} {a : Option Addr} {n cap : Nat} {l : List Ev} (h : QE J w (.slice a n cap) l) {i : Nat} {e : Ev} (he : l[i]? = some e) :
    ∃ b off S a2 c2, a = some ⟨b, off, .none⟩ ∧ w.cell? ⟨b, off + i * 5, .none⟩ = some (.int .i64 e.kind) ∧ w.cell? ⟨b, off + i * 5 + 1, .none⟩ = some (.int .i64 e.off) ∧ w.cell? ⟨b, off + i * 5 + 2, .none⟩ = some (.int .i64 e.len) ∧ w.cell? ⟨b, off + i * 5 + 3, .none⟩ = some (.slice a2 e.data.length c2) ∧ w.cell? ⟨b, off + i * 5 + 4, .none⟩ = some (.string S) ∧ S.data.toList = e.name ∧ S.size ≤ 9223372036854775807 ∧ Row w a2 c2 e.data := by
  obtain ⟨b, off, cs, ha, hl, ⟨v, S, rfl, h2, h3, h4⟩, hc⟩ := h.at he
  obtain ⟨a2, c2, rfl, hr⟩ := h4.row_n rfl
  exact ⟨b, off, S, a2, c2, ha, hc 0 _ rfl, hc 1 _ rfl, hc 2 _ rfl, hc 3 _ rfl, hc 4 _ rfl, h2, h3, hr⟩
set_option maxRecDepth 20000 in
set_option maxHeartbeats 3200000 in
theorem few14_any (k o m : Int) (a : Option Addr) (n c : Nat) (l : List UInt8) (T : ByteArray) (w : World) (hr : Row w a c l) (hn : l.length = n) (hT : T.size ≤ 9223372036854775807) :
    Calls Try.prog 24 #[.agg #[.int .i64 k, .int .i64 o, .int .i64 m, .slice a n c, .string T]] w fun e w' => e = .returned (.bool (fewE ⟨k, o, m, l, T.data.toList⟩)) ∧ Below w.heap.size w w' := by
  have X2 := RecAt.new w #[.int .i64 k, .int .i64 o, .int .i64 m, .slice a n c, .string T] 33
  have B2 : Below w.heap.size w (w.alloc (.cells #[.int .i64 k, .int .i64 o, .int .i64 m, .slice a n c, .string T] 33)) := (Below.refl _ _).alloc (Nat.le_refl _) _
  obtain ⟨w1, hw1⟩ : ∃ W, w.alloc (.cells #[.int .i64 k, .int .i64 o, .int .i64 m, .slice a n c, .string T] 33) = W := ⟨_, rfl⟩
  rw [hw1] at X2 B2
  have HX2 := Lib.hid X2
  have HB2 := Lib.hid B2
  have hsz : T.data.toList.length = T.size := Array.length_toList
  have HF : Hid (fewE ⟨k, o, m, l, T.data.toList⟩ = (decide (n ≤ 100) && decide (T.size ≤ 40))) := Lib.hid (by unfold fewE; simp only; rw [hn, hsz])
  obtain ⟨R, hR⟩ : ∃ R, fewE ⟨k, o, m, l, T.data.toList⟩ = R := ⟨_, rfl⟩
  rw [hR] at HF ⊢
  clear X2 B2 hsz hR
  go_enter Try.func24, Try.ntmps24
  go_upto_region 1 with fail
  try rw [hw1]
  clear hw1
  obtain ⟨X, hX⟩ : ∃ X, w.heap.size = X := ⟨_, rfl⟩
  rw [hX] at HX2 ⊢
  have HXS := Lib.hid hX
  clear hX
  obtain ⟨y0, y1, y2, y3, y4⟩ := HX2.out.c5
  by_cases h1 : n ≤ 100
  · have hd1 : decide ((n : Int) ≤ 100) = true := decide_eq_true (by omega)
    by_cases h2 : T.size ≤ 40
    · have hd2 : decide ((T.size : Int) ≤ 40) = true := decide_eq_true (by omega)
      have HF2 : Hid (R = true) := Lib.hid (by rw [HF.out, decide_eq_true h1, decide_eq_true h2]; rfl)
      go_wp2_with fail
      go_ret
      exact ⟨ret_bool HF2.out.symm, HB2.out⟩
    · have hd2 : decide ((T.size : Int) ≤ 40) = false := decide_eq_false (by omega)
      have HF2 : Hid (R = false) := Lib.hid (by rw [HF.out, decide_eq_true h1, decide_eq_false h2]; rfl)
      go_wp2_with fail
      go_ret
      exact ⟨ret_bool HF2.out.symm, HB2.out⟩
  · have hd1 : decide ((n : Int) ≤ 100) = false := decide_eq_false (by omega)
    have HF2 : Hid (R = false) := Lib.hid (by rw [HF.out, decide_eq_false h1]; rfl)
    go_wp2_with fail
    go_ret
    exact ⟨ret_bool HF2.out.symm, HB2.out⟩
set_option maxRecDepth 20000 in
set_option maxHeartbeats 3200000 in
theorem small14_any (a : Option Addr) (n cap : Nat) (l : List Ev) (most : Int) (J : Nat → Prop) (w : World) (h : QE J w (.slice a n cap) l) :
    Calls Try.prog 10 #[.slice a n cap, .int .i64 most] w fun e w' => e = .returned (.bool (smallE l most)) ∧ Below w.heap.size w w' := by
  obtain ⟨hn, -, -, -⟩ := h.cap
  obtain ⟨hl1, hl2⟩ := h.lim
  have HR := Lib.hid h
  have HN := Lib.hid hn
  obtain ⟨R, hR⟩ : ∃ R, smallE l most = R := ⟨_, rfl⟩
  rw [hR]
  have HRR := Lib.hid hR
  clear h hn hR
  go_enter Try.func10, Try.ntmps10
  go_wp2_with fail
  go_loopw [5] (fun i wr => ∃ j : Nat, i = .int .i64 j ∧ j ≤ n ∧ Below w.heap.size w wr ∧ Hid (∀ k, k < j → ∀ e, l[k]? = some e → fewE e = true)) (fun i _ => n - (intOf i).toNat)
  case atStart => exact ⟨0, rfl, by omega, Below.refl _ _, Lib.hid (fun k h => by omega)⟩
  case round =>
    obtain ⟨j, rfl, hj, hb, HA⟩ := hrel
    have HBR := Lib.hid hb
    clear hb
    by_cases hjn : (j : Int) < n
    · obtain ⟨e, he⟩ : ∃ e, l[j]? = some e := ⟨l[j]'(by have := HN.out; omega), List.getElem?_eq_getElem _⟩
      obtain ⟨b1, f1, S, a2, c2, rfl, p0, p1, p2, p3, p4, hS, hS2, hr⟩ := (HR.out.later ev_rel HBR.out).e5 he
      have HFW := Lib.hid (few14_any e.kind e.off e.len a2 e.data.length c2 e.data S wr hr rfl hS2)
      have hev : (⟨e.kind, e.off, e.len, e.data, S.data.toList⟩ : Ev) = e := by rw [hS]
      rw [hev] at HFW
      have HNO : Hid (fewE e = false → R = false) := Lib.hid fun h => by rw [← HRR.out]; exact smallE_no he h
      have HMO : Hid (fewE e = true → ∀ k, k < j + 1 → ∀ u, l[k]? = some u → fewE u = true) := Lib.hid fun h k hk u hu => by
        by_cases c : k = j
        · subst c; rw [he] at hu; cases hu; exact h
        · exact HA.out k (by omega) u hu
      obtain ⟨B, hB⟩ : ∃ B, fewE e = B := ⟨_, rfl⟩
      rw [hB] at HFW HNO HMO
      generalize e.data.length = L1 at *
      generalize e.kind = K1 at *
      generalize e.off = K2 at *
      generalize e.len = K3 at *
      clear he hev hB hS hr
      go_wp2_with fail
      refine HFW.out.mono ?_
      rintro e w4 ⟨rfl, b4⟩
      have HB4 := Lib.hid (HBR.out.trans (b4.mono HBR.out.size))
      clear b4 p0 p1 p2 p3 p4
      cases B with
      | false =>
        have HF := Lib.hid (HNO.out rfl)
        go_wp2_with fail
        go_ret
        exact ⟨ret_bool HF.out.symm, HB4.out⟩
      | true =>
        have HA2 := Lib.hid (HMO.out rfl)
        go_wp2_with fail
        go_roundw
        case rel => exact ⟨j + 1, by go_num, by omega, HB4.out, HA2⟩
        case measure => simp [intOf]; omega
    · have hjN : j = n := by omega
      have HF : Hid (R = decide ((n : Int) ≤ most)) := Lib.hid (by
        rw [← HRR.out, smallE_all (fun i e he => HA.out i (by have := (List.getElem?_eq_some_iff.1 he).1; rw [HN.out] at this; omega) e he), HN.out])
      clear hjN
      go_wp2_with fail
      go_ret
      exact ⟨ret_bool HF.out.symm, HBR.out⟩
end Go.Proofs.Ytghglbaflmbeoaa
