/- Rings: the program's own Need, Sets. -/
import Derived.Test.YtblipabemghdbaaRgQ
namespace Go.Proofs.Ytblipabemghdbaa
open Go.RowKit Go.Proofs
set_option linter.unusedVariables false
set_option linter.unusedSimpArgs false
set_option linter.unnecessarySimpa false

theorem putR_ne {c : Rg} {f : Fl} {q n : Int} (h : PutOk c f q n) : (putR c f q n).1 ≠ noFl := by
  have hm := Rg.mod h.1 q
  have hn := h.2.2.2.1
  have ha := Fl.at_in h.2.2.2.2 (q % c.sp)
  have h0 : noFl.at (q % c.sp) = 0 := by unfold Fl.at noFl; split <;> (try split) <;> (try split) <;> rfl
  intro e
  have h1 : (putR c f q n).1.at (q % c.sp) = 0 := by rw [e, h0]
  by_cases h2 : f.at (q % c.sp) + (n + 22) ≤ c.sz
  · rw [putR_in h h2] at h1
    simp only at h1
    rw [Fl.at_put hm.1 hm.2.2 _ hm.1 hm.2.2, if_pos rfl] at h1
    omega
  · rw [putR_on h h2] at h1
    simp only at h1
    rw [Fl.at_put hm.1 hm.2.2 _ hm.1 hm.2.2, if_pos rfl] at h1
    omega
theorem putR_bool (c : Rg) (f : Fl) (q n : Int) : decide ((putR c f q n).1 = noFl) = !decide (PutOk c f q n) := by
  by_cases h : PutOk c f q n
  · rw [decide_eq_false (putR_ne h), decide_eq_true h]; rfl
  · rw [putR_no h, decide_eq_false h]; rfl
theorem putR_inI {c : Rg} {f : Fl} {q n : Int} (h : PutOk c f q n) : (putR c f q n).1.InI := by
  obtain ⟨h1, h2, _⟩ := putR_fit h
  have := h.2.1
  exact h1.inI (by have := h.1.2.2; omega) (by rw [h2]; split <;> omega)
theorem fillR_seq {c : Rg} : ∀ {g0 g : Fl} {q : Int} {l : List Int}, g0.InI → fillR c g0 q l = some g → g.InI ∧ (l = [] ∨ (1 ≤ q ∧ q + l.length ≤ 1099511627777)) ∧ g.set = g0.set + moreR c g0 q l
  | g0, g, q, [], h0, h => by
    have : g0 = g := by simpa [fillR] using h
    subst this
    exact ⟨h0, .inl rfl, by simp [moreR]⟩
  | g0, g, q, n :: l, h0, h => by
    rw [fillR_cons] at h
    split at h
    · rename_i hp
      obtain ⟨k1, k2, k3⟩ := fillR_seq (putR_inI hp) h
      have hq := hp.2.2.1
      refine ⟨k1, .inr ⟨hq.1, ?_⟩, ?_⟩
      · rw [List.length_cons]
        rcases k2 with rfl | k2
        · simp; omega
        · omega
      · rw [moreR_cons, if_pos hp, k3, (putR_fit hp).2.1]; omega
    · cases h
theorem needR_eq (c : Rg) (g0 : Fl) (q : Int) (l : List Int) : needR c g0 q l = if (fillR c g0 q l).isSome then moreR c g0 q l else 0 := by
  unfold needR
  by_cases h : 1 ≤ q ∧ q ≤ 1099511627776
  · rw [if_pos h]
  · rw [if_neg h]
    cases l with
    | nil => simp [fillR, moreR]
    | cons n l => rw [show fillR c g0 q (n :: l) = none from by rw [fillR_cons, if_neg (fun (k : PutOk c g0 q n) => h k.2.2.1)]]; rfl
theorem setsR_eq (c : Rg) (at' Q : Int) (ha : inI at') (hQ : IntKind.i64.wrap (at' + 1) = Q) (l : List Int) : setsR c at' l = if (fillR c noFl Q l).isSome then placesR c noFl Q l else [] := by
  unfold setsR
  unfold inI at ha
  rw [IntKind.wrap_i64] at hQ
  by_cases h : 0 ≤ at' ∧ at' ≤ 1099511627776
  · rw [if_pos h, show Q = at' + 1 by omega]
  · rw [if_neg h]
    cases l with
    | nil => simp [fillR, placesR]
    | cons n l => rw [show fillR c noFl Q (n :: l) = none from by rw [fillR_cons, if_neg (fun (k : PutOk c noFl Q n) => by have := k.2.2.1; omega)]]; rfl
theorem GOwn.nelt {α : Type} {R : RT α} {W0 w : World} {v : Value} {ts : List α} (h : GOwn R W0 w v ts) {P : Nat} (hP : w.heap.size ≤ P) : v.ownBlock ≠ some P := by
  rcases h.1.2 with ⟨hv, hn⟩ | ⟨g, cap, cur, hv, hb, hg, rest⟩
  · rw [hv]; simp [Value.ownBlock]
  · rw [hv]
    intro e
    simp only [Value.ownBlock, Option.some.injEq] at e
    have := (Array.getElem?_eq_some_iff.1 hg).1
    omega
set_option maxRecDepth 20000 in
set_option maxHeartbeats 6400000 in
theorem ringneed_any (c : Rg) (g0 : Fl) (q : Int) (ad : Option Addr) (m cap : Nat) (l : List Int) (hci : c.In) (hg : g0.InI) (hq : inI q) (w : World) (hr : ZRow w ad cap l) (hm : l.length = m) :
    Calls Try.prog 19 #[rgV c, flV g0, .int .i64 q, .slice ad m cap] w fun e w' => e = .returned (.int .i64 (needR c g0 q l)) ∧ Below w.heap.size w w' := by
  obtain ⟨X4, X5, B1⟩ := two_recsR w (rgC c) (flC g0) 23 26
  have HX4 := Lib.hid X4
  have HX5 := Lib.hid X5
  have HB1 := Lib.hid B1
  have HR := Lib.hid hr
  have HM := Lib.hid hm
  have HCI := Lib.hid hci
  have HG := Lib.hid hg
  have HQI := Lib.hid hq
  have hcm : cap ≤ 9223372036854775807 := by have := hr.2.1; unfold maxLen at this; omega
  have hmc : m ≤ cap := by rw [← hm]; exact hr.1
  have HNO : Hid (fillR c g0 q l = none → needR c g0 q l = 0) := Lib.hid (fun h2 => by rw [needR_eq, h2]; rfl)
  have HYE : Hid (∀ G, fillR c g0 q l = some G → needR c g0 q l = moreR c g0 q l) := Lib.hid (fun G h2 => by rw [needR_eq, h2]; rfl)
  obtain ⟨N, hN⟩ : ∃ N, needR c g0 q l = N := ⟨_, rfl⟩
  rw [hN] at HNO HYE ⊢
  clear X4 X5 B1 hr hm hN hci hg hq
  go_enter Try.func19, Try.ntmps19
  go_upto_region 1 with fail
  generalize ((w.alloc (.cells (rgC c) 23)).alloc (.cells (flC g0) 26)) = w1 at *
  obtain ⟨P5, hP5⟩ : ∃ P, w.heap.size + 1 = P := ⟨_, rfl⟩
  have HP5 := Lib.hid hP5
  rw [hP5] at HX5 ⊢
  clear hP5
  obtain ⟨P4, hP4⟩ : ∃ P, w.heap.size = P := ⟨_, rfl⟩
  have HP4 := Lib.hid hP4
  rw [hP4]
  rw [hP4] at HX4 HP5
  clear hP4
  obtain ⟨y0, y1, y2, y3, y4⟩ := HX5.out.e5
  obtain ⟨S0, hS0⟩ : ∃ s, g0.set = s := ⟨_, rfl⟩
  rw [hS0] at y0
  have HS0 := Lib.hid hS0
  clear hS0
  go_wp2_with fail
  clear y0 y1 y2 y3 y4
  go_loopw [10, 11, 16] (fun _ _ i wr => ∃ (j : Nat) (G : Fl), i = .int .i64 (j : Nat) ∧ j ≤ m ∧ Hid (fillR c g0 q (l.take j) = some G) ∧ Hid (RecAt wr P4 (rgC c) 23) ∧ Hid (RecAt wr P5 (flC G) 26) ∧ Hid (Below w.heap.size w wr)) (fun _ _ i _ => m - (intOf i).toNat)
  case atStart => exact ⟨0, g0, rfl, by omega, Lib.hid rfl, HX4, HX5, HB1⟩
  case round =>
    clear HX4 HX5 HB1
    obtain ⟨j, G, rfl, hj, HFI, hXR, hXF, HB⟩ := hrel
    by_cases hjm : (j : Int) < m
    · obtain ⟨x, hx⟩ : ∃ x, l[j]? = some x := ⟨l[j]'(by have := HM.out; omega), List.getElem?_eq_getElem _⟩
      obtain ⟨b0, o0, rfl, p0⟩ := (HR.out.later HB.out).at hx
      have HX := Lib.hid hx
      have hxi : inI x := HR.out.2.2.2.1 x (List.mem_of_getElem? hx)
      have hsq := fillR_seq HG.out HFI.out
      have hlj : (l.take j).length = j := by rw [List.length_take]; have := HM.out; omega
      have hqi : inI (q + (j : Nat)) ∧ IntKind.i64.wrap (q + (j : Nat)) = q + (j : Nat) := by
        have h1 := HQI.out
        unfold inI at *
        rw [IntKind.wrap_i64]
        rcases hsq.2.1 with h | h
        · rw [h] at hlj; simp at hlj; omega
        · rw [hlj] at h; omega
      obtain ⟨F, P, nx, ok, hpt⟩ : ∃ F P b k, putR c G (q + (j : Nat)) x = (F, P, b, k) := ⟨_, _, _, _, rfl⟩
      have HPT := Lib.hid (fun W => ringput_any c G (q + (j : Nat)) x HCI.out hsq.1 hqi.1 hxi W)
      have HRF := Lib.hid (fun W => refused_any (putR c G (q + (j : Nat)) x).1 W)
      rw [putR_bool] at HRF
      rw [hpt] at HPT HRF
      simp only at HPT HRF
      have HPE := Lib.hid hpt
      obtain ⟨A, hA⟩ : ∃ A, q + (j : Nat) = A := ⟨_, rfl⟩
      have hw := hqi.2
      have HA := Lib.hid hA
      obtain ⟨x0, x1, x2⟩ := hXR.out.c3
      obtain ⟨y0, y1, y2, y3, y4⟩ := hXF.out.e5
      clear hx hpt hsq hlj hqi hxi
      rw [hA] at HPT HRF hw HPE
      have hw' : IntKind.i64.wrap (q + (j : Int)) = A := by rw [hA]; exact hw
      clear hA hw
      go_wp2_with fail
      refine (HPT.out wr).mono ?_
      rintro e w2 ⟨rfl, b2⟩
      have HX42 := Lib.hid (hXR.out.later b2)
      have HX52 := Lib.hid (hXF.out.later b2)
      have HB2 := Lib.hid (HB.out.trans (b2.mono HB.out.size))
      clear hXR hXF HB b2 x0 x1 x2 y0 y1 y2 y3 y4 p0 hw'
      go_upto_region 6 with (refine wpList_rec rfl rfl P5 (flC G) (flC F) rfl rfl HX52.out rfl (by kernel_rfl) (by kernel_rfl) ?_; intro w8 r1 r2 r3 r4)
      have HX53 := Lib.hid r1
      have HX43 := Lib.hid (HX42.out.keep r3 (by have := HP4.out; have := HP5.out; omega))
      have HB3 := Lib.hid (HB2.out.grown r4 HB2.out.size (fun k e => by cases e; have := HP4.out; have := HP5.out; omega))
      clear r1 r2 r3 r4 HX52 HX42 HB2
      obtain ⟨y0, y1, y2, y3, y4⟩ := HX53.out.e5
      by_cases hpo : PutOk c G A x
      · rw [decide_eq_true hpo] at HRF
        obtain ⟨n1, _, _⟩ := fillR_next HFI.out HX.out (by rw [HA.out]; exact hpo)
        rw [HA.out, HPE.out] at n1
        simp only at n1
        have HFn := Lib.hid n1
        clear n1 hpo
        go_wp2_with fail
        refine (HRF.out w8).mono ?_
        rintro e w9 ⟨rfl, b9⟩
        go_wp2_with fail
        go_roundw
        case rel => exact ⟨j + 1, F, by go_num, by omega, HFn, Lib.hid (HX43.out.later b9), Lib.hid (HX53.out.later b9), Lib.hid (HB3.out.trans (b9.mono HB3.out.size))⟩
        case measure => simp [intOf]; omega
      · rw [decide_eq_false hpo] at HRF
        have hb := HNO.out (fillR_stop HFI.out HX.out (by rw [HA.out]; exact hpo))
        clear hpo
        go_wp2_with fail
        refine (HRF.out w8).mono ?_
        rintro e w9 ⟨rfl, b9⟩
        go_wp2_with fail
        go_ret
        exact ⟨ret_int hb.symm, HB3.out.trans (b9.mono HB3.out.size)⟩
    · have hjm' : j = m := by omega
      subst hjm'
      have hf : fillR c g0 q l = some G := by have := HFI.out; rwa [List.take_of_length_le (Nat.le_of_eq HM.out)] at this
      have hb := HYE.out G hf
      have hst := (fillR_seq HG.out hf).2.2
      have hmb := moreR_bound (c := c) (g0 := g0) (q := q) (l := l)
      rw [HM.out] at hmb
      rw [HS0.out, ← hb] at hst
      rw [← hb] at hmb
      have hw3 : IntKind.i64.wrap (G.set - S0) = N := by rw [hst, IntKind.wrap_i64]; omega
      obtain ⟨y0, y1, y2, y3, y4⟩ := hXF.out.e5
      obtain ⟨GS, hGS⟩ : ∃ s, G.set = s := ⟨_, rfl⟩
      rw [hGS] at y0 hw3
      clear hb hf hst hmb hGS
      go_wp2_with fail
      go_ret
      exact ⟨rfl, HB.out⟩
set_option maxRecDepth 20000 in
set_option maxHeartbeats 6400000 in
theorem ringsets_any (c : Rg) (at' : Int) (ad : Option Addr) (m cap : Nat) (l : List Int) (hci : c.In) (hai : inI at') (w : World) (hr : ZRow w ad cap l) (hm : l.length = m) (hm2 : m ≤ 100000) :
    Calls Try.prog 17 #[rgV c, .int .i64 at', .slice ad m cap] w fun e w' => ∃ v, e = .returned v ∧ GOwn pcT w w' v (setsR c at' l) := by
  obtain ⟨X3, X8, B1⟩ := two_recsR w (rgC c) Z5 23 26
  have HX3 := Lib.hid X3
  have HX8 := Lib.hid X8
  have HB1 := Lib.hid B1
  have HR := Lib.hid hr
  have HM := Lib.hid hm
  have HCI := Lib.hid hci
  have hcm : cap ≤ 9223372036854775807 := by have := hr.2.1; unfold maxLen at this; omega
  have hmc : m ≤ cap := by rw [← hm]; exact hr.1
  obtain ⟨Q, hQ⟩ : ∃ Q, IntKind.i64.wrap (at' + 1) = Q := ⟨_, rfl⟩
  have HQI : Hid (inI Q) := Lib.hid (by rw [← hQ, IntKind.wrap_i64]; unfold inI; omega)
  have HNO : Hid (fillR c noFl Q l = none → setsR c at' l = []) := Lib.hid (fun h2 => by rw [setsR_eq c at' Q hai hQ, h2]; rfl)
  have HYE : Hid (∀ G, fillR c noFl Q l = some G → setsR c at' l = placesR c noFl Q l) := Lib.hid (fun G h2 => by rw [setsR_eq c at' Q hai hQ, h2]; rfl)
  obtain ⟨N, hN⟩ : ∃ N, setsR c at' l = N := ⟨_, rfl⟩
  rw [hN] at HNO HYE ⊢
  have HQ := Lib.hid hQ
  clear X3 X8 B1 hr hm hN hci hai hQ
  simp only [Z5] at HX3 HX8 HB1
  go_enter Try.func17, Try.ntmps17
  go_upto_region 2 with fail
  generalize ((w.alloc (.cells (rgC c) 23)).alloc (.cells #[.int .i64 0, .int .i64 0, .int .i64 0, .int .i64 0, .int .i64 0] 26)) = w1 at *
  obtain ⟨P8, hP8⟩ : ∃ P, w.heap.size + 1 = P := ⟨_, rfl⟩
  have HP8 := Lib.hid hP8
  rw [hP8] at HX8 ⊢
  clear hP8
  obtain ⟨P3, hP3⟩ : ∃ P, w.heap.size = P := ⟨_, rfl⟩
  have HP3 := Lib.hid hP3
  rw [hP3]
  rw [hP3] at HX3 HP8
  clear hP3
  go_wp2_with fail
  go_loopw [8, 9, 10, 11, 14, 19] (fun ov _ _ _ i _ wr => ∃ (j : Nat) (G : Fl) (ap : Option Addr) (cp : Nat), i = .int .i64 (j : Nat) ∧ ov = .slice ap j cp ∧ j ≤ m ∧ Hid (fillR c noFl Q (l.take j) = some G) ∧ Hid (RecAt wr P3 (rgC c) 23) ∧ Hid (RecAt wr P8 (flC G) 26) ∧ Hid (GOwn pcT w wr (.slice ap j cp) (placesR c noFl Q (l.take j)))) (fun _ _ _ _ i _ _ => m - (intOf i).toNat)
  case atStart => exact ⟨0, noFl, none, 0, rfl, rfl, by omega, Lib.hid rfl, HX3, HX8, Lib.hid (GOwn.nil' HB1.out)⟩
  case round =>
    clear HX3 HX8 HB1
    obtain ⟨j, G, ap, cp, rfl, rfl, hj, HFI, hXR, hXF, HO⟩ := hrel
    have HPL : Hid ((placesR c noFl Q (l.take j)).length = j) := Lib.hid (by rw [placesR_len HFI.out, List.length_take]; have := HM.out; omega)
    by_cases hjm : (j : Int) < m
    · obtain ⟨x, hx⟩ : ∃ x, l[j]? = some x := ⟨l[j]'(by have := HM.out; omega), List.getElem?_eq_getElem _⟩
      obtain ⟨b0, o0, rfl, p0⟩ := (HR.out.later HO.out.below).at hx
      have HX := Lib.hid hx
      have hxi : inI x := HR.out.2.2.2.1 x (List.mem_of_getElem? hx)
      have hsq := fillR_seq noFl_in HFI.out
      have hlj : (l.take j).length = j := by rw [List.length_take]; have := HM.out; omega
      have hqi : inI (Q + (j : Nat)) ∧ IntKind.i64.wrap (Q + (j : Nat)) = Q + (j : Nat) := by
        have h1 := HQI.out
        unfold inI at *
        rw [IntKind.wrap_i64]
        rcases hsq.2.1 with h | h
        · rw [h] at hlj; simp at hlj; omega
        · rw [hlj] at h; omega
      obtain ⟨F, P, nx, ok, hpt⟩ : ∃ F P b k, putR c G (Q + (j : Nat)) x = (F, P, b, k) := ⟨_, _, _, _, rfl⟩
      have HPT := Lib.hid (fun W => ringput_any c G (Q + (j : Nat)) x HCI.out hsq.1 hqi.1 hxi W)
      have HRF := Lib.hid (fun W => refused_any (putR c G (Q + (j : Nat)) x).1 W)
      rw [putR_bool] at HRF
      rw [hpt] at HPT HRF
      simp only at HPT HRF
      have HPE := Lib.hid hpt
      obtain ⟨A, hA⟩ : ∃ A, Q + (j : Nat) = A := ⟨_, rfl⟩
      have hw := hqi.2
      have HA := Lib.hid hA
      rw [hA] at HPT HRF hw HPE
      have hw' : IntKind.i64.wrap (Q + (j : Int)) = A := by rw [hA]; exact hw
      have hwq := HQ.out
      have hba : Below wr.heap.size wr (wr.alloc (.cells #[.int .i64 0, .int .i64 0] 28)) := (Below.refl _ _).alloc (Nat.le_refl _) _
      have HXP := Lib.hid (RecAt.new wr #[.int .i64 0, .int .i64 0] 28)
      have HX4 := Lib.hid (hXR.out.later hba)
      have HX5 := Lib.hid (hXF.out.later hba)
      have HOA := Lib.hid (HO.out.later hba)
      have HPN : Hid (P8 < wr.heap.size ∧ w.heap.size ≤ wr.heap.size) := Lib.hid ⟨hXF.out.lt, HO.out.below.size⟩
      have HN9 := Lib.hid (HO.out.nelt (Nat.le_refl _))
      clear hx hpt hsq hlj hqi hxi hA hw hba hXR hXF HO
      go_upto_region 7 with fail
      generalize (wr.alloc (.cells #[.int .i64 0, .int .i64 0] 28)) = wa at *
      obtain ⟨PX, hPX⟩ : ∃ P, wr.heap.size = P := ⟨_, rfl⟩
      rw [hPX] at HXP HPN HN9 ⊢
      clear hPX p0
      obtain ⟨x0, x1, x2⟩ := HX4.out.c3
      obtain ⟨y0, y1, y2, y3, y4⟩ := HX5.out.e5
      go_wp2_with fail
      refine (HPT.out wa).mono ?_
      rintro e w2 ⟨rfl, b2⟩
      have HX42 := Lib.hid (HX4.out.later b2)
      have HX52 := Lib.hid (HX5.out.later b2)
      have HXP2 := Lib.hid (HXP.out.later b2)
      have HO2 := Lib.hid (HOA.out.later b2)
      clear HX4 HX5 HXP HOA b2 x0 x1 x2 y0 y1 y2 y3 y4 hw' hwq
      have HN8 := Lib.hid (HO2.out.ne HX52.out (by decide))
      go_upto_region 8 with (first
        | (refine wpList_rec rfl rfl P8 (flC G) (flC F) rfl rfl HX52.out rfl (by kernel_rfl) (by kernel_rfl) ?_; intro w8 r1 r2 r3 r4; have HXPk := Lib.hid (RecAt.keep HXP2.out r3 (by have := HPN.out; omega)); have HB8 := Lib.hid r4)
        | (refine wpList_rec rfl rfl PX #[.int .i64 0, .int .i64 0] (pcC P) rfl rfl HXPk.out rfl (by kernel_rfl) (by kernel_rfl) ?_; intro w9 s1 s2 s3 s4))
      have HX53 := Lib.hid (RecAt.keep r1 s3 (by have := HPN.out; omega))
      have HXP3 := Lib.hid s1
      have HX43 := Lib.hid ((HX42.out.keep r3 (by have := HP3.out; have := HP8.out; omega)).keep s3 (by have := HP3.out; have := HPN.out; have := HP8.out; omega))
      have HO3 := Lib.hid ((HO2.out.keptBy HB8.out (.inr HN8.out) (fun k e => by cases e; have := HP3.out; have := HP8.out; omega)).keptBy s4 (.inr HN9.out) (fun k e => by cases e; have := HPN.out; omega))
      clear r1 r2 r3 s1 s2 s3 s4 HX52 HX42 HO2 HXP2 HXPk HB8 HN9
      obtain ⟨y0, y1, y2, y3, y4⟩ := HX53.out.e5
      by_cases hpo : PutOk c G A x
      · rw [decide_eq_true hpo] at HRF
        obtain ⟨n1, _, n3⟩ := fillR_next HFI.out HX.out (by rw [HA.out]; exact hpo)
        rw [HA.out, HPE.out] at n1 n3
        simp only at n1 n3
        have HFn := Lib.hid n1
        have HMn := Lib.hid n3
        clear n1 n3 hpo
        go_wp2_with fail
        refine (HRF.out w9).mono ?_
        rintro e w10 ⟨rfl, b10⟩
        have HX54 := Lib.hid (HX53.out.later b10)
        have HX44 := Lib.hid (HX43.out.later b10)
        have HXP4 := Lib.hid (HXP3.out.later b10)
        have HO4 := Lib.hid (HO3.out.later b10)
        clear HX53 HX43 HXP3 HO3 b10 y0 y1 y2 y3 y4
        obtain ⟨z0, z1⟩ := HXP4.out.c2
        have hba : Below w10.heap.size w10 (w10.alloc (.cells (pcC P) 28)) := (Below.refl _ _).alloc (Nat.le_refl _) _
        have HUL : Hid ((placesR c noFl Q (l.take j) ++ [P]).length = j + 1) := Lib.hid (by rw [List.length_append, HPL.out]; rfl)
        go_upto_region 11 with (at_builtin; refine wp_gone pcOk rfl _ _ rfl rfl _ _ rfl w HO4.out P trivial rfl rfl (by rw [HPL.out]; omega) ?_; intro v12 w12 o12 g12 h12; obtain ⟨a12, c12, rfl, _⟩ := o12.row_n pcOk HUL.out; have HO12 := Lib.hid o12; have HG12 := Lib.hid g12; have HH12 := Lib.hid h12; clear o12 g12 h12)
        have hn8 := (HO4.out.later hba).ne (HX54.out.later hba) (by decide)
        have hn3 := (HO4.out.later hba).ne (HX44.out.later hba) (by decide)
        have HX8m := Lib.hid ((HX54.out.later hba).grown HG12.out (fun e => hn8 e.symm))
        have HX3m := Lib.hid ((HX44.out.later hba).grown HG12.out (fun e => hn3 e.symm))
        clear hn8 hn3 hba HG12 HH12 HX54 HX44 HO4 HXP4 z0 z1
        go_wp2_with fail
        go_roundw
        case rel => exact ⟨j + 1, F, a12, c12, by go_num, rfl, by omega, HFn, HX3m, HX8m, Lib.hid (by rw [HMn.out]; exact HO12.out)⟩
        case measure => simp [intOf]; omega
      · rw [decide_eq_false hpo] at HRF
        have hb := HNO.out (fillR_stop HFI.out HX.out (by rw [HA.out]; exact hpo))
        have HBB := Lib.hid hb
        clear hpo hb
        go_wp2_with fail
        refine (HRF.out w9).mono ?_
        rintro e w10 ⟨rfl, b10⟩
        go_wp2_with fail
        go_ret
        rw [HBB.out]
        exact ⟨_, rfl, GOwn.nil' (HO3.out.below.trans (b10.mono HO3.out.below.size))⟩
    · have hjm' : j = m := by omega
      subst hjm'
      have hf : fillR c noFl Q l = some G := by have := HFI.out; rwa [List.take_of_length_le (Nat.le_of_eq HM.out)] at this
      have hb := HYE.out G hf
      rw [← List.take_of_length_le (l := l) (Nat.le_of_eq HM.out)] at hb
      have HBB := Lib.hid hb
      clear hb hf
      go_wp2_with fail
      go_ret
      rw [HBB.out]
      exact ⟨_, rfl, HO.out⟩
end Go.Proofs.Ytblipabemghdbaa
