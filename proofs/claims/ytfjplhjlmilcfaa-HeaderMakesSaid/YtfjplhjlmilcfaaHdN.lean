/- Records of an image: are two alike? The program's and the document's own. -/
import Derived.Test.YtfjplhjlmilcfaaHdM
import Derived.Test.YtfjplhjlmilcfaaHdI
namespace Go.Proofs.Ytfjplhjlmilcfaa
open Go.RowKit Go.Proofs
set_option linter.unusedVariables false
set_option linter.unusedSimpArgs false
set_option linter.unnecessarySimpa false

theorem hd_eq_iff (h g : Hd) : decide (h = g) = ((h.size == g.size) && (((h.order == g.order) && ((h.unit == g.unit) && (h.count == g.count))) && ((h.next == g.next) && ((h.seq == g.seq) && decide (h.marks = g.marks))))) := by
  obtain ⟨a, b, c, d, e, f, l⟩ := h
  obtain ⟨a', b', c', d', e', f', l'⟩ := g
  simp only [Hd.mk.injEq]
  by_cases h1 : a = a' <;> by_cases h2 : b = b' <;> by_cases h3 : c = c' <;> by_cases h4 : d = d' <;> by_cases h5 : e = e' <;> by_cases h6 : f = f' <;> simp [h1, h2, h3, h4, h5, h6]
set_option maxRecDepth 20000 in
set_option maxHeartbeats 3200000 in
theorem same_any (h g : Hd) (a1 a2 : Option Addr) (n m c1 c2 : Nat) (w : World) (h1 : MRow w a1 c1 h.marks) (h2 : MRow w a2 c2 g.marks) (hn : h.marks.length = n) (hm : g.marks.length = m) :
    Calls Try.prog 24 #[hdA h a1 n c1, hdA g a2 m c2] w fun e w' => e = .returned (.bool (decide (h = g))) ∧ Below w.heap.size w w' := by
  rw [hd_eq_iff]
  obtain ⟨hs, ho, hu, hc, hx, hq, ts⟩ := h
  obtain ⟨gs, go, gu, gc, gx, gq, us⟩ := g
  simp only at h1 h2 hn hm ⊢
  have H1 := Lib.hid h1
  have H2 := Lib.hid h2
  have HN := Lib.hid hn
  have HM := Lib.hid hm
  obtain ⟨HX1, HX4, HB2⟩ : Hid (RecAt ((w.alloc (.cells #[.int .i64 hs, .int .i64 ho, .int .i64 hu, .int .i64 hc, .int .i64 hx, .int .i64 hq, .slice a1 n c1] 26)).alloc (.cells #[.int .i64 gs, .int .i64 go, .int .i64 gu, .int .i64 gc, .int .i64 gx, .int .i64 gq, .slice a2 m c2] 26)) w.heap.size #[.int .i64 hs, .int .i64 ho, .int .i64 hu, .int .i64 hc, .int .i64 hx, .int .i64 hq, .slice a1 n c1] 26) ∧ Hid (RecAt ((w.alloc (.cells #[.int .i64 hs, .int .i64 ho, .int .i64 hu, .int .i64 hc, .int .i64 hx, .int .i64 hq, .slice a1 n c1] 26)).alloc (.cells #[.int .i64 gs, .int .i64 go, .int .i64 gu, .int .i64 gc, .int .i64 gx, .int .i64 gq, .slice a2 m c2] 26)) (w.heap.size + 1) #[.int .i64 gs, .int .i64 go, .int .i64 gu, .int .i64 gc, .int .i64 gx, .int .i64 gq, .slice a2 m c2] 26) ∧ Hid (Below w.heap.size w ((w.alloc (.cells #[.int .i64 hs, .int .i64 ho, .int .i64 hu, .int .i64 hc, .int .i64 hx, .int .i64 hq, .slice a1 n c1] 26)).alloc (.cells #[.int .i64 gs, .int .i64 go, .int .i64 gu, .int .i64 gc, .int .i64 gx, .int .i64 gq, .slice a2 m c2] 26))) := two_recs w _ _ _ _
  clear h1 h2 hn hm
  go_enter Try.func24, Try.ntmps24
  go_upto_region 1 with fail
  generalize ((w.alloc (.cells #[.int .i64 hs, .int .i64 ho, .int .i64 hu, .int .i64 hc, .int .i64 hx, .int .i64 hq, .slice a1 n c1] 26)).alloc (.cells #[.int .i64 gs, .int .i64 go, .int .i64 gu, .int .i64 gc, .int .i64 gx, .int .i64 gq, .slice a2 m c2] 26)) = w1 at *
  obtain ⟨P4, hP4⟩ : ∃ P, w.heap.size + 1 = P := ⟨_, rfl⟩
  rw [hP4] at HX4 ⊢
  clear hP4
  obtain ⟨P2, hP2⟩ : ∃ P, w.heap.size = P := ⟨_, rfl⟩
  rw [hP2]
  rw [hP2] at HX1
  clear hP2
  have HK := Lib.hid (mEqual_any a1 a2 n m c1 c2 ts us w1 (H1.out.later HB2.out) (H2.out.later HB2.out) HN.out HM.out)
  obtain ⟨x0, x1, x2, x3, x4, x5, x6⟩ := HX1.out.c7
  obtain ⟨y0, y1, y2, y3, y4, y5, y6⟩ := HX4.out.c7
  have hlay := fun W => lay_eql W ho hu hc go gu gc
  obtain ⟨LB, hLB⟩ : ∃ LB, (ho == go && (hu == gu && hc == gc)) = LB := ⟨_, rfl⟩
  rw [hLB] at hlay
  have HLB := Lib.hid hLB
  clear hLB
  cases e1 : (hs == gs) with
  | false =>
    go_wp2_with fail
    go_ret
    exact ⟨ret_bool (by rw [HLB.out]; simp only [e1, Bool.true_and, Bool.false_and]), HB2.out⟩
  | true =>
    cases LB with
    | false =>
      go_wp2_with fail
      go_ret
      exact ⟨ret_bool (by rw [HLB.out]; simp only [e1, Bool.true_and, Bool.false_and]), HB2.out⟩
    | true =>
      cases e2 : (hx == gx) with
      | false =>
        go_wp2_with fail
        go_ret
        exact ⟨ret_bool (by rw [HLB.out]; simp only [e1, e2, Bool.true_and, Bool.false_and]), HB2.out⟩
      | true =>
        cases e3 : (hq == gq) with
        | false =>
          go_wp2_with fail
          go_ret
          exact ⟨ret_bool (by rw [HLB.out]; simp only [e1, e2, e3, Bool.true_and, Bool.false_and]), HB2.out⟩
        | true =>
          go_wp2_with (go_at_call 47; refine HK.out.mono ?_; rintro e w6 ⟨rfl, hb6⟩; have HB6 := Lib.hid (HB2.out.trans (hb6.mono HB2.out.size)); clear hb6)
          go_ret
          exact ⟨ret_bool (by rw [HLB.out]; simp only [e1, e2, e3, Bool.true_and, Bool.false_and]), HB6.out⟩
set_option maxRecDepth 20000 in
set_option maxHeartbeats 3200000 in
theorem rsame_hd (h g : Hd) (a1 a2 : Option Addr) (n m c1 c2 : Nat) (w : World) (h1 : MRow w a1 c1 h.marks) (h2 : MRow w a2 c2 g.marks) (hn : h.marks.length = n) (hm : g.marks.length = m) :
    Calls Try.prog 14 #[hdA h a1 n c1, hdA g a2 m c2] w fun e w' => e = .returned (.bool (decide (h = g))) ∧ Below w.heap.size w w' := by
  rw [hd_eq_iff]
  obtain ⟨hs, ho, hu, hc, hx, hq, ts⟩ := h
  obtain ⟨gs, go, gu, gc, gx, gq, us⟩ := g
  simp only at h1 h2 hn hm ⊢
  have H1 := Lib.hid h1
  have H2 := Lib.hid h2
  have HN := Lib.hid hn
  have HM := Lib.hid hm
  obtain ⟨HX1, HX4, HB2⟩ : Hid (RecAt ((w.alloc (.cells #[.int .i64 hs, .int .i64 ho, .int .i64 hu, .int .i64 hc, .int .i64 hx, .int .i64 hq, .slice a1 n c1] 26)).alloc (.cells #[.int .i64 gs, .int .i64 go, .int .i64 gu, .int .i64 gc, .int .i64 gx, .int .i64 gq, .slice a2 m c2] 26)) w.heap.size #[.int .i64 hs, .int .i64 ho, .int .i64 hu, .int .i64 hc, .int .i64 hx, .int .i64 hq, .slice a1 n c1] 26) ∧ Hid (RecAt ((w.alloc (.cells #[.int .i64 hs, .int .i64 ho, .int .i64 hu, .int .i64 hc, .int .i64 hx, .int .i64 hq, .slice a1 n c1] 26)).alloc (.cells #[.int .i64 gs, .int .i64 go, .int .i64 gu, .int .i64 gc, .int .i64 gx, .int .i64 gq, .slice a2 m c2] 26)) (w.heap.size + 1) #[.int .i64 gs, .int .i64 go, .int .i64 gu, .int .i64 gc, .int .i64 gx, .int .i64 gq, .slice a2 m c2] 26) ∧ Hid (Below w.heap.size w ((w.alloc (.cells #[.int .i64 hs, .int .i64 ho, .int .i64 hu, .int .i64 hc, .int .i64 hx, .int .i64 hq, .slice a1 n c1] 26)).alloc (.cells #[.int .i64 gs, .int .i64 go, .int .i64 gu, .int .i64 gc, .int .i64 gx, .int .i64 gq, .slice a2 m c2] 26))) := two_recs w _ _ _ _
  clear h1 h2 hn hm
  go_enter Try.func14, Try.ntmps14
  go_upto_region 1 with fail
  generalize ((w.alloc (.cells #[.int .i64 hs, .int .i64 ho, .int .i64 hu, .int .i64 hc, .int .i64 hx, .int .i64 hq, .slice a1 n c1] 26)).alloc (.cells #[.int .i64 gs, .int .i64 go, .int .i64 gu, .int .i64 gc, .int .i64 gx, .int .i64 gq, .slice a2 m c2] 26)) = w1 at *
  obtain ⟨P4, hP4⟩ : ∃ P, w.heap.size + 1 = P := ⟨_, rfl⟩
  rw [hP4] at HX4 ⊢
  clear hP4
  obtain ⟨P2, hP2⟩ : ∃ P, w.heap.size = P := ⟨_, rfl⟩
  rw [hP2]
  rw [hP2] at HX1
  clear hP2
  have HK := Lib.hid (msame_any a1 a2 n m c1 c2 ts us w1 (H1.out.later HB2.out) (H2.out.later HB2.out) HN.out HM.out)
  obtain ⟨x0, x1, x2, x3, x4, x5, x6⟩ := HX1.out.c7
  obtain ⟨y0, y1, y2, y3, y4, y5, y6⟩ := HX4.out.c7
  have hlay := fun W => lay_eql W ho hu hc go gu gc
  obtain ⟨LB, hLB⟩ : ∃ LB, (ho == go && (hu == gu && hc == gc)) = LB := ⟨_, rfl⟩
  rw [hLB] at hlay
  have HLB := Lib.hid hLB
  clear hLB
  cases e1 : (hs == gs) with
  | false =>
    go_wp2_with fail
    go_ret
    exact ⟨ret_bool (by rw [HLB.out]; simp only [e1, Bool.true_and, Bool.false_and]), HB2.out⟩
  | true =>
    cases LB with
    | false =>
      go_wp2_with fail
      go_ret
      exact ⟨ret_bool (by rw [HLB.out]; simp only [e1, Bool.true_and, Bool.false_and]), HB2.out⟩
    | true =>
      cases e2 : (hx == gx) with
      | false =>
        go_wp2_with fail
        go_ret
        exact ⟨ret_bool (by rw [HLB.out]; simp only [e1, e2, Bool.true_and, Bool.false_and]), HB2.out⟩
      | true =>
        cases e3 : (hq == gq) with
        | false =>
          go_wp2_with fail
          go_ret
          exact ⟨ret_bool (by rw [HLB.out]; simp only [e1, e2, e3, Bool.true_and, Bool.false_and]), HB2.out⟩
        | true =>
          go_wp2_with (go_at_call 21; refine HK.out.mono ?_; rintro e w6 ⟨rfl, hb6⟩; have HB6 := Lib.hid (HB2.out.trans (hb6.mono HB2.out.size)); clear hb6)
          go_ret
          exact ⟨ret_bool (by rw [HLB.out]; simp only [e1, e2, e3, Bool.true_and, Bool.false_and]), HB6.out⟩
end Go.Proofs.Ytfjplhjlmilcfaa
