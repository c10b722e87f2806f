/- Messages: what the laws want of them (no program). | Messages: the law's seven numbers. -/
import Derived.Test.YtiahifpbofkimaaGB
import Derived.Test.YtiahifpbofkimaaGD
import Derived.Deep.RegionWith
import Derived.Deep.DeepCutAuto
namespace Go.Proofs.Ytiahifpbofkimaa
open Go.RowKit Go.Proofs
set_option linter.unusedVariables false
set_option linter.unusedSimpArgs false
set_option linter.unnecessarySimpa false

theorem bitAt_byteM (F : List UInt8) (k : Nat) (u x : UInt8) (hu : F[k]? = some u) (p : Nat) : bitAt (bv (F.set k (u ^^^ x))) p = Bool.xor (bitAt (bv F) p) (decide (8 * k ≤ p ∧ p < 8 * k + 32) && (BitVec.setWidth 32 x.toBitVec).getLsbD (p - 8 * k)) := by
  have hl := (List.getElem?_eq_some_iff.1 hu).1
  unfold bitAt bv
  rw [List.getElem?_map, List.getElem?_map, List.getElem?_set, BitVec.getLsbD_setWidth]
  by_cases c : k = p / 8
  · rw [if_pos c, if_pos hl, ← c, hu]
    have h1 : 8 * k ≤ p ∧ p < 8 * k + 32 := by omega
    have h2 : p - 8 * k = p % 8 := by omega
    have h3 : p % 8 < 32 := by omega
    rw [decide_eq_true h1, h2, decide_eq_true h3]
    simp only [Option.map_some, Option.getD_some, UInt8.toBitVec_xor, BitVec.getLsbD_xor, Bool.true_and]
  · rw [if_neg c]
    by_cases h1 : 8 * k ≤ p ∧ p < 8 * k + 32
    · have h2 : 8 ≤ p - 8 * k := by omega
      rw [BitVec.getLsbD_of_ge _ _ h2]; simp
    · rw [decide_eq_false h1]; simp
theorem byte_openM {l : List UInt8} {k : Nat} {u : UInt8} (x : UInt8) (hu : (sealL l)[k]? = some u) : openL ((sealL l).set k (u ^^^ x)) = if x = 0 then some l else none := by
  have hl := (List.getElem?_eq_some_iff.1 hu).1
  rw [sealL_len] at hl
  by_cases hx : x = 0
  · subst hx
    rw [if_pos rfl]
    have e : (sealL l).set k (u ^^^ 0) = sealL l := by
      obtain ⟨h1, h2⟩ := List.getElem?_eq_some_iff.1 hu
      rw [show u ^^^ 0 = (sealL l)[k] by rw [h2]; simp]
      exact List.set_getElem_self h1
    rw [e, open_seal]
  · rw [if_neg hx]
    obtain ⟨i, hi, hxi⟩ : ∃ i, i < 8 ∧ x.toBitVec.getLsbD i = true := by
      by_cases hne : ∃ i, i < 8 ∧ x.toBitVec.getLsbD i = true
      · exact hne
      · refine (hx ?_).elim
        rw [← UInt8.toBitVec_inj]
        refine BitVec.eq_of_getLsbD_eq fun i hi => ?_
        cases h : x.toBitVec.getLsbD i with
        | true => exact (hne ⟨i, hi, h⟩).elim
        | false => simp
    refine turned_none (k := 8 * k) (t := BitVec.setWidth 32 x.toBitVec) (by rw [List.length_set, sealL_len]) (by omega) (fun p hp => bitAt_byteM _ _ _ _ hu p) (i := i) (by omega) (by omega) ?_
    rw [BitVec.getLsbD_setWidth, decide_eq_true (by omega : i < 32), hxi]; rfl
/-- Unlike messages have unlike bytes. -/
theorem put_apart {a b : Ms} (ha : MsOk a) (hb : MsOk b) : decide ((sealL (bodyMs a)) = sealL (bodyMs b)) = decide (a = b) := by
  by_cases h : a = b
  · subst h; simp
  · rw [decide_eq_false h, decide_eq_false (fun e => h (bodyMs_inj ha hb (seal_inj e)))]
/-- What is got, put again. -/
theorem got_put {l : List UInt8} {G : Ms} {k : Int} (h : getMs (sealL l) = (G, k)) : (k = 0 ∧ putMs G = (sealL l, 0)) ∨ (k ≠ 0 ∧ G = noMs) := by
  rcases getMs_two (sealL l) with ⟨d, p, h1, h2, h3, h4⟩ | ⟨k', h1, h2⟩
  · rw [h] at h1
    obtain ⟨rfl, rfl⟩ := Prod.mk.inj h1
    rw [open_seal] at h3
    cases h3
    exact .inl ⟨rfl, by rw [putMs_yes (rightMs_iff.2 h2), h4]⟩
  · rw [h] at h1
    obtain ⟨rfl, rfl⟩ := Prod.mk.inj h1
    exact .inr ⟨h2, rfl⟩
end Go.Proofs.Ytiahifpbofkimaa
namespace Go.Proofs.Ytiahifpbofkimaa
open Go.RowKit Go.Proofs
set_option linter.unusedVariables false
set_option linter.unusedSimpArgs false
set_option linter.unnecessarySimpa false

abbrev sevC (a b c d e f g : Int) : Array Value := #[.int .i64 a, .int .i64 b, .int .i64 c, .int .i64 d, .int .i64 e, .int .i64 f, .int .i64 g]
def Sev (w : World) (P : Nat) : Prop := ∃ a b c d e f g, RecAt w P (sevC a b c d e f g) 76
theorem Sev.set {w : World} {P : Nat} (h : Sev w P) {j : Nat} (hj : j < 7) (z : Int) : Sev (w.setCell ⟨P, j, none⟩ (.int .i64 z)) P := by
  obtain ⟨a, b, c, d, e, f, g, h⟩ := h
  have h2 := h.set j (.int .i64 z)
  match j, hj with
  | 0, _ => exact ⟨_, _, _, _, _, _, _, h2⟩
  | 1, _ => exact ⟨_, _, _, _, _, _, _, h2⟩
  | 2, _ => exact ⟨_, _, _, _, _, _, _, h2⟩
  | 3, _ => exact ⟨_, _, _, _, _, _, _, h2⟩
  | 4, _ => exact ⟨_, _, _, _, _, _, _, h2⟩
  | 5, _ => exact ⟨_, _, _, _, _, _, _, h2⟩
  | 6, _ => exact ⟨_, _, _, _, _, _, _, h2⟩
theorem Sev.cell {w : World} {P : Nat} (h : Sev w P) {j : Nat} (hj : j < 7) : ∃ v, w.cell? ⟨P, j, none⟩ = some (.int .i64 v) := by
  obtain ⟨a, b, c, d, e, f, g, h⟩ := h
  match j, hj with
  | 0, _ => exact ⟨_, h.cell rfl⟩
  | 1, _ => exact ⟨_, h.cell rfl⟩
  | 2, _ => exact ⟨_, h.cell rfl⟩
  | 3, _ => exact ⟨_, h.cell rfl⟩
  | 4, _ => exact ⟨_, h.cell rfl⟩
  | 5, _ => exact ⟨_, h.cell rfl⟩
  | 6, _ => exact ⟨_, h.cell rfl⟩
def sevP (w : World) (e : Ending) (w' : World) : Prop := ∃ a b c d e' f g, e = .returned (.agg (sevC a b c d e' f g)) ∧ Below w.heap.size w w'
theorem two_recsS (w : World) (cs ds : Array Value) (t u : TypeId) : RecAt ((w.alloc (.cells cs t)).alloc (.cells ds u)) w.heap.size cs t ∧ RecAt ((w.alloc (.cells cs t)).alloc (.cells ds u)) (w.heap.size + 1) ds u ∧ Below w.heap.size w ((w.alloc (.cells cs t)).alloc (.cells ds u)) := by
  have h1 := RecAt.new w cs t
  have h2 := RecAt.new (w.alloc (.cells cs t)) ds u
  rw [show (w.alloc (.cells cs t)).heap.size = w.heap.size + 1 by simp] at h2
  exact ⟨h1.later ((Below.refl _ _).alloc (Nat.le_refl _) _), h2, ((Below.refl _ _).alloc (Nat.le_refl _) _).trans (((Below.refl _ _).alloc (Nat.le_refl _) _).mono (by simp))⟩
set_option maxRecDepth 20000 in
set_option maxHeartbeats 3200000 in
theorem seven_any (ad : Option Addr) (n c : Nat) (zs : List Int) (w : World) (hr : ZRow w ad c zs) (hn : zs.length = n) :
    Calls Try.prog 52 #[.slice ad n c] w (sevP w) := by
  have HR := Lib.hid hr
  have HN := Lib.hid hn
  have hc1 := hr.1
  rw [hn] at hc1
  have hcm : c ≤ 9223372036854775807 := by have := hr.2.1; unfold maxLen at this; omega
  obtain ⟨X2, X3, B2⟩ := two_recsS w (sevC 0 0 0 0 0 0 0) (sevC 0 0 0 0 0 0 0) 76 76
  have HX2 := Lib.hid X2
  have HX3 : Hid (Sev _ _) := Lib.hid ⟨_, _, _, _, _, _, _, X3⟩
  have HB2 := Lib.hid B2
  clear X2 X3 B2 hr hn
  go_enter Try.func52, Try.ntmps52
  go_upto_region 2 with fail
  generalize ((w.alloc (.cells (sevC 0 0 0 0 0 0 0) 76)).alloc (.cells (sevC 0 0 0 0 0 0 0) 76)) = w2 at *
  obtain ⟨P3, hP3⟩ : ∃ P, w.heap.size + 1 = P := ⟨_, rfl⟩
  have HP3 := Lib.hid hP3
  rw [hP3] at HX3 ⊢
  clear hP3
  obtain ⟨P2, hP2⟩ : ∃ P, w.heap.size = P := ⟨_, rfl⟩
  have HP2 := Lib.hid hP2
  rw [hP2]
  rw [hP2] at HX2 HP3
  clear hP2
  go_wp2_with fail
  go_loopw [4] (fun i wr => ∃ j : Nat, i = .int .i64 (j : Nat) ∧ j ≤ 7 ∧ Hid (RecAt wr P2 (sevC 0 0 0 0 0 0 0) 76) ∧ Hid (Sev wr P3) ∧ Hid (Below w.heap.size w wr)) (fun i _ => 7 - (intOf i).toNat)
  case atStart => exact ⟨0, rfl, by omega, HX2, HX3, HB2⟩
  case round =>
    clear HX2 HX3 HB2
    obtain ⟨j, rfl, hj, HX2, HX3, HB2⟩ := hrel
    by_cases hjn : (j : Int) < 7
    · by_cases hjl : (j : Int) < n
      · obtain ⟨x, hx⟩ : ∃ x, zs[j]? = some x := ⟨zs[j]'(by have := HN.out; omega), List.getElem?_eq_getElem _⟩
        obtain ⟨b0, o0, rfl, p0⟩ := (HR.out.later HB2.out).at hx
        have HX32 := Lib.hid (HX3.out.set (j := j) (by omega) x)
        have HX22 := Lib.hid (HX2.out.other (y := P3) (by have := HP3.out; omega) j (.int .i64 x))
        have HB22 := Lib.hid (HB2.out.setCell (p := ⟨P3, j, none⟩) (by have := HP3.out; have := HP2.out; simp only; omega) (.int .i64 x))
        obtain ⟨v, hv⟩ := HX3.out.cell (j := j) (by omega)
        have hf : wr.frozen? ⟨P3, j, none⟩ = false := by obtain ⟨_, _, _, _, _, _, _, h⟩ := HX3.out; exact h.frozen j
        go_wp2_with fail
        go_roundw
        case rel => exact ⟨j + 1, by go_num, by omega, HX22, HX32, HB22⟩
        case measure => simp [intOf]; omega
      · obtain ⟨a, b, c', d, e, f, g, hx⟩ := HX3.out
        have y0 := hx.cell (i := 0) rfl
        have y1 := hx.cell (i := 1) rfl
        have y2 := hx.cell (i := 2) rfl
        have y3 := hx.cell (i := 3) rfl
        have y4 := hx.cell (i := 4) rfl
        have y5 := hx.cell (i := 5) rfl
        have y6 := hx.cell (i := 6) rfl
        go_wp2_with (refine wpList_rec rfl rfl P2 (sevC 0 0 0 0 0 0 0) (sevC a b c' d e f g) rfl rfl HX2.out rfl (by kernel_rfl) (by kernel_rfl) ?_; intro w8 r1 r2 r3 r4)
        refine bodyPost_ret (results_c rfl rfl r1 Try.underlying76 rfl (by kernel_rfl)) rfl ?_
        exact ⟨a, b, c', d, e, f, g, rfl, HB2.out.grown r4 HB2.out.size (fun k e => by cases e; exact Nat.le_of_eq HP2.out)⟩
    · obtain ⟨a, b, c', d, e, f, g, hx⟩ := HX3.out
      have : j = 7 := by omega
      subst this
      have y0 := hx.cell (i := 0) rfl
      have y1 := hx.cell (i := 1) rfl
      have y2 := hx.cell (i := 2) rfl
      have y3 := hx.cell (i := 3) rfl
      have y4 := hx.cell (i := 4) rfl
      have y5 := hx.cell (i := 5) rfl
      have y6 := hx.cell (i := 6) rfl
      go_wp2_with (refine wpList_rec rfl rfl P2 (sevC 0 0 0 0 0 0 0) (sevC a b c' d e f g) rfl rfl HX2.out rfl (by kernel_rfl) (by kernel_rfl) ?_; intro w8 r1 r2 r3 r4)
      refine bodyPost_ret (results_c rfl rfl r1 Try.underlying76 rfl (by kernel_rfl)) rfl ?_
      exact ⟨a, b, c', d, e, f, g, rfl, HB2.out.grown r4 HB2.out.size (fun k e => by cases e; exact Nat.le_of_eq HP2.out)⟩
end Go.Proofs.Ytiahifpbofkimaa
