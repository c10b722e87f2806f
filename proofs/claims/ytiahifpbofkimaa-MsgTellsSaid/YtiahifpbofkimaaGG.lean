/- Frames: All, rows, Seek, which entries are the same. | Frames: which entries are the same. -/
import Derived.Test.YtiahifpbofkimaaFrV
import Derived.Test.YtiahifpbofkimaaGF
import Derived.BigQuiet
namespace Go.Proofs.Ytiahifpbofkimaa
open Go.RowKit
set_option linter.unusedVariables false
set_option linter.unusedSimpArgs false

theorem EOwn.lt {W0 w : World} {v : Value} {es : List En} (h : EOwn W0 w v es) {k : Nat} (hk : v.ownBlock = some k) : W0.heap.size ≤ k ∧ k < w.heap.size := by
  obtain ⟨cs, h1, _, _⟩ := h
  exact World.ownsRow.lt h1 k hk

theorem takeM_two (M : List UInt8) : (∃ c, takeM M = (noE, 0, c) ∧ c ≠ 0) ∨ ∃ e, takeM M = (e, e.data.length + 22, 0) ∧ e.right = true ∧ e.data.length + 22 ≤ M.length := by
  rcases takeM_cases M with h | h | h | h
  · exact .inl ⟨4, h.1, by decide⟩
  · exact .inl ⟨2, h, by decide⟩
  · exact .inl ⟨13, h, by decide⟩
  · exact .inr h
theorem takeA_err {l : List UInt8} {q : Nat} {c : Int} (hq : q ≤ l.length) (h : takeM (l.drop q) = (noE, 0, c)) (hc : c ≠ 0) : takeA l q = (noE, 0, c) := by
  rw [takeA_in hq, h]; simp only; rw [if_neg hc]
theorem takeA_ok {l : List UInt8} {q n : Nat} {e : En} (hq : q ≤ l.length) (h : takeM (l.drop q) = (e, n, 0)) : takeA l q = (e, ((q + n : Nat) : Int), 0) := by
  rw [takeA_in hq, h]; simp

end Go.Proofs.Ytiahifpbofkimaa
namespace Go.Proofs.Ytiahifpbofkimaa
open Go.RowKit
set_option linter.unusedVariables false
set_option linter.unusedSimpArgs false

set_option maxRecDepth 20000 in
set_option maxHeartbeats 3200000 in
theorem frsame_any (a1 a2 : Option Addr) (n c1 c2 : Nat) (es : List En) (w : World) (h1 : ERow w a1 c1 es) (h2 : ERow w a2 c2 es) (hn : es.length = n) (hlen : n ≤ 100000) :
    Calls Try.prog 37 #[.slice a1 n c1, .slice a2 n c2] w fun e w' => e = .returned (.bool true) ∧ Below w.heap.size w w' := by
  have H1 := Lib.hid h1
  have H2 := Lib.hid h2
  have HN := Lib.hid hn
  have hc1 := h1.1
  have hc2 := h2.1
  rw [hn] at hc1 hc2
  clear h1 h2 hn
  go_enter Try.func37, Try.ntmps37
  go_wp2_with fail
  go_loopw [5] (fun i wr => ∃ j : Nat, i = .int .i64 j ∧ j ≤ n ∧ Below w.heap.size w wr) (fun i _ => n - (intOf i).toNat)
  case atStart => exact ⟨0, rfl, by omega, Below.refl _ _⟩
  case round =>
    obtain ⟨j, rfl, hj, hb⟩ := hrel
    have HB := Lib.hid hb
    clear hb
    by_cases hjn : (j : Int) < n
    · obtain ⟨e, he⟩ : ∃ e, es[j]? = some e := ⟨es[j]'(by have := HN.out; omega), List.getElem?_eq_getElem _⟩
      obtain ⟨b1, o1, d1, k1, rfl, p0, p1, p2, R1⟩ := (H1.out.later HB.out).at he
      obtain ⟨b2, o2, d2, k2, rfl, q0, q1, q2, R2⟩ := (H2.out.later HB.out).at he
      have HC1 := fun nq => conv_row (R1.later (below_drewN wr nq))
      have HC2 := fun nq => conv_row (R2.later (below_drewN wr nq))
      generalize hS : (⟨e.data.toArray⟩ : ByteArray) = S at *
      have hbt : (e.tag == e.tag) = true := by simp
      have hbs : (e.seq == e.seq) = true := by simp
      clear hS R1 R2 he
      generalize e.tag = T at *
      generalize e.seq = Z at *
      generalize e.data.length = L at *
      go_upto_region 6 with fail
      go_quiet (fail)
      clear HC1 HC2
      go_wp2_with fail
      go_roundw
      case rel => exact ⟨j + 1, by go_num, by omega, HB.out.trans ((below_drewN _ _).mono HB.out.size)⟩
      case measure => simp [intOf]; omega
    · have : j = n := by omega
      go_wp2_with fail
      go_ret
      exact ⟨rfl, HB.out⟩

/-- Loads of one's own: the frames of entries that are right, one behind the other. -/
theorem rowL_snoc (es : List En) (j : Nat) (e : En) (he : es[j]? = some e) : rowL (es.take (j + 1)) = rowL (es.take j) ++ layL e := by
  obtain ⟨h, rfl⟩ := List.getElem?_eq_some_iff.1 he
  unfold rowL
  rw [List.take_succ_eq_append_getElem h, List.flatMap_append]
  simp
/-- What row makes of entries, right ones or not. -/
def rowA (es : List En) : List UInt8 := es.flatMap fun e => (layA e).1
theorem rowA_snoc (es : List En) (j : Nat) (e : En) (he : es[j]? = some e) : rowA (es.take (j + 1)) = rowA (es.take j) ++ (layA e).1 := by
  obtain ⟨h, rfl⟩ := List.getElem?_eq_some_iff.1 he
  unfold rowA
  rw [List.take_succ_eq_append_getElem h, List.flatMap_append]
  simp
theorem layA_len (e : En) : (layA e).1.length ≤ 112 := by
  cases h : e.right with
  | false => rw [layA_no h]; simp
  | true => rw [layA_yes h]; simp only; rw [layL_len]; have := rightE_iff.1 h; omega
theorem rowA_len (es : List En) : (rowA es).length ≤ 112 * es.length := by
  induction es with
  | nil => simp [rowA]
  | cons e es ih =>
    have := layA_len e
    unfold rowA at *
    rw [List.flatMap_cons, List.length_append, List.length_cons]
    omega

/-! ### Seek -/
theorem seekF_no {l : List UInt8} {f p : Nat} (h : frokAt l p = false) : seekF (f + 1) l p = seekF f l (p + 1) := by rw [seekF, h]; rfl
theorem seekF_yes {l : List UInt8} {f p : Nat} (h : frokAt l p = true) : seekF (f + 1) l p = p := by rw [seekF, if_pos h]

end Go.Proofs.Ytiahifpbofkimaa
