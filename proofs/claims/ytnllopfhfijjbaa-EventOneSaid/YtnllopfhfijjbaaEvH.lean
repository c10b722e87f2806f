/- Events: what is got: package event's. -/
import Derived.Test.YtnllopfhfijjbaaEvG
import Derived.Test.YtnllopfhfijjbaaEvT
import Derived.Test.YtnllopfhfijjbaaCl
namespace Go.Proofs.Ytnllopfhfijjbaa
open Go.RowKit
set_option linter.unusedVariables false
set_option linter.unusedSimpArgs false

/-- Get's answer. -/
def EGot (l : List UInt8) (w : World) (e : Ending) (w' : World) : Prop :=
  ∃ a c, e = .returned (.tuple #[evV (getEv l).1 a c, .int .i64 (getEv l).2]) ∧ Row w' a c (getEv l).1.data ∧ Below w.heap.size w w'
theorem eputE (E : Ev) (a : Option Addr) (n c : Nat) (S : ByteArray) (w : World) (hr : Row w a c E.data) (hn : E.data.length = n) (hS : S.data.toList = E.name) (hs : S.size ≤ 9223372036854775807) :
    Calls Try.prog 9 #[.agg #[.int .i64 E.kind, .int .i64 E.off, .int .i64 E.len, .slice a n c, .string S]] w fun e w' => ∃ v, e = .returned (.tuple #[v, .int .i64 (putEv E).2]) ∧ Own w w' v (putEv E).1 := by
  have h := eput_any E.off E.len a n c E.data S w E.kind hr hn hs
  rw [hS] at h
  exact h
theorem rputE (E : Ev) (a : Option Addr) (n c : Nat) (S : ByteArray) (w : World) (hr : Row w a c E.data) (hn : E.data.length = n) (hS : S.data.toList = E.name) (hs : S.size ≤ 9223372036854775807) :
    Calls Try.prog 10 #[.agg #[.int .i64 E.kind, .int .i64 E.off, .int .i64 E.len, .slice a n c, .string S]] w fun e w' => ∃ v, e = .returned (.tuple #[v, .int .i64 (putEv E).2]) ∧ Own w w' v (putEv E).1 := by
  have h := rputE_any E.off E.len a n c E.data S w E.kind hr hn hs
  rw [hS] at h
  exact h
theorem guess_not {l : List UInt8} {E : Ev} (h : Guess l E) (h2 : E.right = false ∨ putE E ≠ l) : getEv l = (noEv, 2) := getEv_none fun d hd hl => by
  have := h d hd hl
  subst this
  rcases h2 with h2 | h2
  · rw [hd] at h2; cases h2
  · exact h2 hl
theorem bytes_eta (s : ByteArray) : (⟨s.data.toList.toArray⟩ : ByteArray) = s := by cases s; simp
def zev : Array Value := #[.int .i64 0, .int .i64 0, .int .i64 0, .slice none 0 0, .string ⟨#[]⟩]
theorem Own.rowAt {W0 w : World} {v : Value} {l : List UInt8} {n : Nat} (h : Own W0 w v l) (hn : l.length = n) : ∃ a cap, v = .slice a n cap ∧ Row w a cap l ∧ ∀ x, a = some x → W0.heap.size ≤ x.block ∧ x.block < w.heap.size := by
  subst hn
  obtain ⟨a, cap, hv, hr⟩ := h.row
  refine ⟨a, cap, hv, hr, fun x hx => ?_⟩
  subst hx
  have := h.1.lt x.block (by rw [hv]; rfl)
  exact this
theorem Row.sameAt {w w' : World} {a : Option Addr} {cap : Nat} {l : List UInt8} (h : Row w a cap l) (hk : ∀ x, a = some x → w'.heap[x.block]? = w.heap[x.block]?) : Row w' a cap l := by
  refine ⟨h.1, h.2.1, h.2.2.1, fun x hx i u hu => ?_⟩
  have := h.2.2.2 x hx i u hu
  rw [← this]
  have e : (x.add i).block = x.block := by unfold Addr.add; split <;> rfl
  unfold World.cell?
  rw [e, hk x hx]
theorem setCell_other (w : World) {g E : Nat} (h : g ≠ E) (i : Nat) (v : Value) : (w.setCell ⟨E, i, none⟩ v).heap[g]? = w.heap[g]? := by
  simp only [World.setCell, Array.getElem?_modify]
  rw [if_neg (fun e => h e.symm)]
section
variable (ad : Option Addr) (n c : Nat) (l : List UInt8) (w : World)
set_option maxHeartbeats 1000000 in
theorem eget_any (hr : Row w ad c l) (hn : l.length = n) (hlen : n ≤ 100000) :
    Calls Try.prog 11 #[.slice ad n c] w fun e w' => EGot l w e w' := by
  have HL := Lib.hid hr
  have HN := Lib.hid hn
  have HB : Hid (Below w.heap.size w (w.alloc (.cells #[.int .i64 0, .int .i64 0, .int .i64 0, .slice none 0 0, .string ⟨#[]⟩] 24))) := Lib.hid ((Below.refl _ _).alloc (Nat.le_refl _) _)
  have HX : Hid (RecAt (w.alloc (.cells #[.int .i64 0, .int .i64 0, .int .i64 0, .slice none 0 0, .string ⟨#[]⟩] 24)) w.heap.size #[.int .i64 0, .int .i64 0, .int .i64 0, .slice none 0 0, .string ⟨#[]⟩] 24) := Lib.hid (RecAt.new _ _ _)
  clear hr hn
  go_enter Try.func11, Try.ntmps11
  go_wp2_with fail
  refine (guess_any ad n c l _ (HL.out.later HB.out) HN.out hlen).mono ?_
  rintro e w1 ⟨E, a1, c1, rfl, r1, hg, hd, hs, hb1⟩
  unfold evV
  obtain ⟨k, o, m, d, nm⟩ := E
  simp only at r1 hd hs ⊢
  obtain ⟨S, hS⟩ : ∃ S : ByteArray, ⟨nm.toArray⟩ = S := ⟨_, rfl⟩
  obtain ⟨dn, hdn⟩ : ∃ dn, d.length = dn := ⟨_, rfl⟩
  rw [hS, hdn]
  have HD := Lib.hid hdn
  have HSN : Hid (S.data.toList = nm) := Lib.hid (by rw [← hS])
  have HSS : Hid (S.size ≤ 100000) := Lib.hid (by rw [← hS]; simp [ByteArray.size]; omega)
  have HDL : Hid (dn ≤ 100000) := Lib.hid (by omega)
  have HG := Lib.hid hg
  have hba : Below w1.heap.size w1 (w1.alloc (.cells #[.int .i64 k, .int .i64 o, .int .i64 m, .slice a1 dn c1, .string S] 24)) := (Below.refl _ _).alloc (Nat.le_refl _) _
  have hbb := hb1.trans (hba.mono hb1.size)
  have HB2 := Lib.hid (HB.out.trans (hbb.mono HB.out.size))
  have HX2 := Lib.hid (HX.out.later hbb)
  have HR2 := Lib.hid (r1.later hba)
  have HE2 := Lib.hid (RecAt.new w1 #[.int .i64 k, .int .i64 o, .int .i64 m, .slice a1 dn c1, .string S] 24)
  have HNE : Hid (w.heap.size < w1.heap.size) := Lib.hid (HX.out.later hb1).lt
  clear hg hd hs hS hdn hba hbb hb1 r1 HX HB
  go_upto_region 2 with fail
  generalize (w1.alloc (.cells #[.int .i64 k, .int .i64 o, .int .i64 m, .slice a1 dn c1, .string S] 24)) = w2 at *
  generalize w1.heap.size = p1 at *
  obtain ⟨x0, x1, x2, x3, x4⟩ := HE2.out.c5
  go_wp2_with fail
  refine (eputE ⟨k, o, m, d, nm⟩ a1 dn c1 S w2 HR2.out HD.out HSN.out (by have := HSS.out; omega)).mono ?_
  rintro e w3 ⟨v3, rfl, o3⟩
  have HB3 := Lib.hid (HB2.out.trans (o3.below.mono HB2.out.size))
  have HX3 := Lib.hid (HX2.out.later o3.below)
  have HE3 := Lib.hid (HE2.out.later o3.below)
  have HR3 := Lib.hid (HR2.out.later o3.below)
  have HL3 := Lib.hid (HL.out.later HB3.out)
  clear x0 x1 x2 x3 x4
  cases hrt : (Ev.mk k o m d nm).right with
  | false =>
    rw [putEv_no hrt]
    have HA := Lib.hid (guess_not HG.out (.inl hrt))
    clear hrt o3
    go_wp2_with (refine wpList_rec rfl rfl w.heap.size #[.int .i64 0, .int .i64 0, .int .i64 0, .slice none 0 0, .string ⟨#[]⟩] #[.int .i64 0, .int .i64 0, .int .i64 0, .slice none 0 0, .string ⟨#[]⟩] rfl rfl HX3.out rfl (by kernel_rfl) (by kernel_rfl) ?_; intro w4 q1 q2 q3 q4)
    refine bodyPost_ret (results_ct rfl rfl q1 Try.underlying24 rfl (by kernel_rfl)) rfl ?_
    unfold EGot
    rw [HA.out]
    exact ⟨none, 0, rfl, Row.none _, HB3.out.grown q4 HB3.out.size (fun k e => by cases e; exact Nat.le_refl _)⟩
  | true =>
    rw [putEv_yes hrt] at o3 ⊢
    simp only at o3 ⊢
    obtain ⟨a3, c3, rfl, r3⟩ := o3.row
    obtain ⟨n3, hn3⟩ : ∃ n3, (putE ⟨k, o, m, d, nm⟩).length = n3 := ⟨_, rfl⟩
    rw [hn3]
    have HN3 := Lib.hid hn3
    have HR4 := Lib.hid r3
    have HRT := Lib.hid hrt
    clear hn3 r3 hrt o3
    by_cases heq : putE ⟨k, o, m, d, nm⟩ = l
    · have HA := Lib.hid (getEv_some HRT.out heq)
      have HD2 := Lib.hid (decide_eq_true heq)
      clear heq
      go_wp2_with (go_at_call 26; refine (equal_any _ _ _ _ _ _ _ _ _ HR4.out HL3.out HN3.out HN.out).mono ?_; rw [HD2.out]; rintro e w4 ⟨rfl, rfl⟩; obtain ⟨x0, x1, x2, x3, x4⟩ := HE3.out.c5)
      refine (clone_any a1 dn c1 d w3 HR3.out HD.out (by have := HDL.out; omega)).mono ?_
      rintro e w4 ⟨v4, rfl, o4⟩
      obtain ⟨a4, c4, rfl, r4, hat⟩ := o4.rowAt HD.out
      have hb4 := o4.below
      have HB4 := Lib.hid (HB3.out.trans (hb4.mono HB3.out.size))
      have HX4 := Lib.hid (HX3.out.later hb4)
      have HE4 := Lib.hid (HE3.out.later hb4)
      have HAT := Lib.hid hat
      have HP : Hid (p1 < w3.heap.size) := Lib.hid HE3.out.lt
      have HR5 : Hid (Row (w4.setCell ⟨p1, 3, none⟩ (.slice a4 dn c4)) a4 c4 d) := Lib.hid (r4.sameAt fun x hx => setCell_other _ (by have := (HAT.out x hx).1; have := HP.out; omega) _ _)
      have HE5 : Hid (RecAt (w4.setCell ⟨p1, 3, none⟩ (.slice a4 dn c4)) p1 #[.int .i64 k, .int .i64 o, .int .i64 m, .slice a4 dn c4, .string S] 24) := Lib.hid (HE4.out.set 3 _)
      have HX5 : Hid (RecAt (w4.setCell ⟨p1, 3, none⟩ (.slice a4 dn c4)) w.heap.size #[.int .i64 0, .int .i64 0, .int .i64 0, .slice none 0 0, .string ⟨#[]⟩] 24) := Lib.hid (HX4.out.other (by have := HNE.out; omega) 3 _)
      have HB5 : Hid (Below w.heap.size w (w4.setCell ⟨p1, 3, none⟩ (.slice a4 dn c4))) := Lib.hid (HB4.out.setCell (by have := HNE.out; simp; omega) _)
      clear x0 x1 x2 x3 x4 r4 hat o4 hb4
      obtain ⟨x0, x1, x2, x3, x4⟩ := HE4.out.c5
      have f3 := HE4.out.frozen 3
      go_upto_region 6 with fail
      generalize (w4.setCell ⟨p1, 3, none⟩ (.slice a4 dn c4)) = w5 at *
      clear x0 x1 x2 x3 x4 f3
      obtain ⟨x0, x1, x2, x3, x4⟩ := HE5.out.c5
      go_wp2_with (refine wpList_rec rfl rfl w.heap.size #[.int .i64 0, .int .i64 0, .int .i64 0, .slice none 0 0, .string ⟨#[]⟩] #[.int .i64 k, .int .i64 o, .int .i64 m, .slice a4 dn c4, .string S] rfl rfl HX5.out rfl (by kernel_rfl) (by kernel_rfl) ?_; intro w6 q1 q2 q3 q4)
      refine bodyPost_ret (results_ct rfl rfl q1 Try.underlying24 rfl (by kernel_rfl)) rfl ?_
      unfold EGot
      rw [HA.out]
      refine ⟨a4, c4, ?_, HR5.out.sameAt fun x hx => q3 _ (by have := (HAT.out x hx).1; have := HNE.out; have := HP.out; omega), HB5.out.grown q4 HB5.out.size (fun k e => by cases e; exact Nat.le_refl _)⟩
      unfold evV
      simp only
      rw [HD.out, ← HSN.out, bytes_eta]
      rfl
    · have HA := Lib.hid (guess_not HG.out (.inr heq))
      have HD2 := Lib.hid (decide_eq_false heq)
      clear heq
      go_wp2_with (first
        | (go_at_call 26; refine (equal_any _ _ _ _ _ _ _ _ _ HR4.out HL3.out HN3.out HN.out).mono ?_; rw [HD2.out]; rintro e w4 ⟨rfl, rfl⟩)
        | (refine wpList_rec rfl rfl w.heap.size #[.int .i64 0, .int .i64 0, .int .i64 0, .slice none 0 0, .string ⟨#[]⟩] #[.int .i64 0, .int .i64 0, .int .i64 0, .slice none 0 0, .string ⟨#[]⟩] rfl rfl HX3.out rfl (by kernel_rfl) (by kernel_rfl) ?_; intro w4 q1 q2 q3 q4))
      refine bodyPost_ret (results_ct rfl rfl q1 Try.underlying24 rfl (by kernel_rfl)) rfl ?_
      unfold EGot
      rw [HA.out]
      exact ⟨none, 0, rfl, Row.none _, HB3.out.grown q4 HB3.out.size (fun k e => by cases e; exact Nat.le_refl _)⟩
end
end Go.Proofs.Ytnllopfhfijjbaa
