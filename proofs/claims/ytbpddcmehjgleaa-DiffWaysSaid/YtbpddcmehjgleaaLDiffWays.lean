/- The law 'DiffWays', walked. -/
import Derived.Test.YtbpddcmehjgleaaGDd
import Derived.Test.YtbpddcmehjgleaaPhF
import Derived.Test.YtbpddcmehjgleaaGMg
namespace Go.Proofs.Ytbpddcmehjgleaa
open Go.RowKit Go.Proofs
set_option linter.unusedVariables false
set_option linter.unusedSimpArgs false
set_option linter.unnecessarySimpa false

theorem calls_foA {f : FuncId} {args : Array Value} {w : World} {s t : Sx} (h : Calls Try.prog f args w fun e w' => FoldIs allJ w s e w') (hs : s = t) : Calls Try.prog f args w fun e w' => ∃ x, e = .returned x ∧ (stV allJ t).p w' x ∧ Below w.heap.size w w' :=
  h.mono fun e w' ⟨d, v, h1, h2, h3⟩ => by subst hs; exact ⟨_, h1, ⟨d, v, rfl, h2⟩, h3⟩
theorem calls_samesW {f : FuncId} {args : Array Value} {w : World} {l u : List Ev} (h : Calls Try.prog f args w fun e w' => e = .returned (.bool (decide (l = u))) ∧ Below w.heap.size w w') (e : l = u) : Calls Try.prog f args w fun e w' => e = .returned (.bool true) ∧ Below w.heap.size w w' := by
  rw [decide_eq_true e] at h; exact h
set_option maxRecDepth 100000 in
set_option maxHeartbeats 12800000 in
theorem diffWays_walk (size other : Int) (a1 : Option Addr) (n1 c1 : Nat) (l1 : List Ev) (a2 : Option Addr) (n2 c2 : Nat) (l2 : List Ev) (a3 : Option Addr) (n3 c3 : Nat) (l3 : List Ev) (w : World) (h1 : QE allJ w (.slice a1 n1 c1) l1) (h2 : QE allJ w (.slice a2 n2 c2) l2) (h3 : QE allJ w (.slice a3 n3 c3) l3) :
    Calls Try.prog 4 #[.int .i64 size, .int .i64 other, .slice a1 n1 c1, .slice a2 n2 c2, .slice a3 n3 c3] w fun x w' => x = .returned (.bool true) ∧ Below w.heap.size w w' := by
  have ub0 := Try.underlying32
  have HB := Lib.hid (Below.refl w.heap.size w)
  have HL1 := Lib.hid (h1)
  have HL2 := Lib.hid (h2)
  have HL3 := Lib.hid (h3)
  clear h1 h2 h3
  go_enter Try.func4, Try.ntmps4
  go_wp2_with fail
  obtain ⟨B1, hB1⟩ : ∃ z, smallE l1 30 = z := ⟨_, rfl⟩
  refine (small14_any a1 n1 c1 l1 30 allJ _ HL1.out).mono ?_
  rw [hB1]
  rintro e w1 ⟨rfl, b⟩
  have HB1 := Lib.hid hB1
  clear hB1
  replace HB := Lib.hid (HB.out.trans (b.mono HB.out.size))
  replace HL1 := Lib.hid (HL1.out.later ev_rel b)
  replace HL2 := Lib.hid (HL2.out.later ev_rel b)
  replace HL3 := Lib.hid (HL3.out.later ev_rel b)
  clear b
  cases B1 with
  | false =>
    go_wp2_with fail
    refine (known15_any _).mono ?_
    rintro e wk ⟨rfl, bk⟩
    have HBk := Lib.hid (HB.out.trans (bk.mono HB.out.size))
    clear bk
    go_wp2_with fail
    go_ret
    exact ⟨rfl, HBk.out⟩
  | true =>
    go_wp2_with fail
    obtain ⟨B2, hB2⟩ : ∃ z, smallE l2 30 = z := ⟨_, rfl⟩
    refine (small14_any a2 n2 c2 l2 30 allJ _ HL2.out).mono ?_
    rw [hB2]
    rintro e w2 ⟨rfl, b⟩
    have HB2 := Lib.hid hB2
    clear hB2
    replace HB := Lib.hid (HB.out.trans (b.mono HB.out.size))
    replace HL1 := Lib.hid (HL1.out.later ev_rel b)
    replace HL2 := Lib.hid (HL2.out.later ev_rel b)
    replace HL3 := Lib.hid (HL3.out.later ev_rel b)
    clear b
    cases B2 with
    | false =>
      go_wp2_with fail
      refine (known15_any _).mono ?_
      rintro e wk ⟨rfl, bk⟩
      have HBk := Lib.hid (HB.out.trans (bk.mono HB.out.size))
      clear bk
      go_wp2_with fail
      go_ret
      exact ⟨rfl, HBk.out⟩
    | true =>
      go_wp2_with fail
      obtain ⟨B3, hB3⟩ : ∃ z, smallE l3 30 = z := ⟨_, rfl⟩
      refine (small14_any a3 n3 c3 l3 30 allJ _ HL3.out).mono ?_
      rw [hB3]
      rintro e w3 ⟨rfl, b⟩
      have HB3 := Lib.hid hB3
      clear hB3
      replace HB := Lib.hid (HB.out.trans (b.mono HB.out.size))
      replace HL1 := Lib.hid (HL1.out.later ev_rel b)
      replace HL2 := Lib.hid (HL2.out.later ev_rel b)
      replace HL3 := Lib.hid (HL3.out.later ev_rel b)
      clear b
      cases B3 with
      | false =>
        go_wp2_with fail
        refine (known15_any _).mono ?_
        rintro e wk ⟨rfl, bk⟩
        have HBk := Lib.hid (HB.out.trans (bk.mono HB.out.size))
        clear bk
        go_wp2_with fail
        go_ret
        exact ⟨rfl, HBk.out⟩
      | true =>
        have HOM := Lib.hid (foldM_ok (newM_ok size) l1)
        obtain ⟨M, hM⟩ : ∃ z, foldM (newM size) l1 = z := ⟨_, rfl⟩
        rw [hM] at HOM
        have HOA := Lib.hid (foldM_ok HOM.out l2)
        have HOB := Lib.hid (foldM_ok HOM.out l3)
        have HOC := Lib.hid (foldM_ok (newM_ok other) l3)
        obtain ⟨A, hA⟩ : ∃ z, foldM M l2 = z := ⟨_, rfl⟩
        obtain ⟨B, hB⟩ : ∃ z, foldM M l3 = z := ⟨_, rfl⟩
        obtain ⟨C, hC⟩ : ∃ z, foldM (newM other) l3 = z := ⟨_, rfl⟩
        rw [hA] at HOA
        rw [hB] at HOB
        rw [hC] at HOC
        have HEM := Lib.hid hM
        have HEA := Lib.hid hA
        have HEB := Lib.hid hB
        have HEC := Lib.hid hC
        clear hM hA hB hC
        go_wp2_with fail
        refine (after14_any size a1 n1 c1 l1 allJ allJ _ (allJ_new _) HL1.out).mono ?_
        rw [HEM.out]
        rintro e w4 ⟨d, v, rfl, hs, b⟩
        replace HB := Lib.hid (HB.out.trans (b.mono HB.out.size))
        replace HL1 := Lib.hid (HL1.out.later ev_rel b)
        replace HL2 := Lib.hid (HL2.out.later ev_rel b)
        replace HL3 := Lib.hid (HL3.out.later ev_rel b)
        obtain ⟨p1, p2, p3, p4, p5, p6, rfl, rfl⟩ := hs.shape
        have b2 := below_st w4 #[.slice p1 p2 p3, .slice p4 p5 p6]
        have HM := Lib.hid (SAt.new hs.all)
        replace HB := Lib.hid (HB.out.trans (b2.mono HB.out.size))
        replace HL1 := Lib.hid (HL1.out.later ev_rel b2)
        replace HL2 := Lib.hid (HL2.out.later ev_rel b2)
        replace HL3 := Lib.hid (HL3.out.later ev_rel b2)
        clear hs b b2
        go_upto_region 4 with fail
        obtain ⟨w5, hw⟩ : ∃ W, w4.alloc (.cells #[.slice p1 p2 p3, .slice p4 p5 p6] 32) = W := ⟨_, rfl⟩
        rw [hw] at HB HL1 HL2 HL3 HM ⊢
        obtain ⟨PM, hX⟩ : ∃ X, w4.heap.size = X := ⟨_, rfl⟩
        rw [hX] at HM ⊢
        clear hw hX
        obtain ⟨wo, hwo⟩ : ∃ W, w5 = W := ⟨_, rfl⟩
        rw [hwo] at HB HL1 HL2 HL3 HM ⊢
        clear hwo
        obtain ⟨xa, xn, xc, xd, xm, xe, xR, xS⟩ := HM.out
        have HRM := Lib.hid xR
        have HSM := Lib.hid xS
        clear xR xS
                -- REG Y4
        refine wp_region_ptabF [12, 13] ?_ (L := fun ph => match ph with | 0 => [cV (.agg #[.slice xa xn xc, .slice xd xm xe]), cV (.slice a2 n2 c2), stV allJ A, cV (.agg #[.slice xa xn xc, .slice xd xm xe]), cV (.slice a3 n3 c3), stV allJ B, zsV wo, zsV wo, tV, tV] | 1 => [cV (.agg #[.slice xa xn xc, .slice xd xm xe]), cV (.slice a2 n2 c2), tV, cV (.agg #[.slice xa xn xc, .slice xd xm xe]), cV (.slice a3 n3 c3), stV allJ B, rjV allJ wo A, zsV wo, tV, tV] | _ => [cV (.agg #[.slice xa xn xc, .slice xd xm xe]), cV (.slice a2 n2 c2), tV, cV (.agg #[.slice xa xn xc, .slice xd xm xe]), cV (.slice a3 n3 c3), tV, rjV allJ wo A, rjV allJ wo B, tV, tV]) (fun _ wq => Below wo.heap.size wo wq) [8, 9] [(0, 0), (0, 0), (0, 0), (0, 0), (0, 0), (0, 0), (0, 0), (0, 0), (0, 1), (1, 2)] [[(11, none)], [(3, none)], [(32, some 0), (33, some 1)], [(11, none)], [(4, none)], [(35, some 3), (36, some 4)], [], [], [(12, some 6), (34, some 2)], [(13, some 7), (37, some 5)]] 10 2 69 (by kernel_rfl) rfl rfl rfl (by kernel_rfl) (by kernel_rfl) (by decide) (by kernel_rfl) ?_ ?_ ?_ ?_ ?_
        · intro d hd g hg; simp only [List.mem_cons, List.not_mem_nil, or_false] at hd; rcases hd with rfl | rfl <;> exact absurd hg (by simp [undef])
        · exact fun ph w1 w2 h hb => h.trans (hb.mono h.size)
        · exact (Below.refl _ _)
        · show ∀ i, i < 10 → _
          iterate 10 (refine fls ?_ ?_)
          · exact fl0
          · intro hne lo hi ph hran hp1 hp2 a w1 hJ hsz hs      -- 0: slot 32
            obtain ⟨rfl, rfl⟩ : 0 = lo ∧ 0 = hi := Prod.mk.inj (Option.some.inj hran)
            obtain rfl : ph = 0 := by omega
            refine opF rfl (fun d h => by cases h; decide) ?_
            obtain ⟨h0, _⟩ := hs
            have h0 : a.tmps.getD 11 undef = .pointer (some ⟨PM, 0, none⟩) := h0
            obtain ⟨k0, k1⟩ := (HRM.out.later (show Below wo.heap.size wo w1 from hJ)).c2
            refine op_run rfl rfl (v := .agg #[.slice xa xn xc, .slice xd xm xe]) (w' := w1) ?_ rfl (Below.refl _ _)
            simp [execOp, Act.eval, h0, k0, k1, go_sem]
          · intro hne lo hi ph hran hp1 hp2 a w1 hJ hsz hs      -- 1: slot 33
            obtain ⟨rfl, rfl⟩ : 0 = lo ∧ 0 = hi := Prod.mk.inj (Option.some.inj hran)
            obtain rfl : ph = 0 := by omega
            refine opF rfl (fun d h => by cases h; decide) ?_
            obtain ⟨h0, _⟩ := hs
            have h0 : a.tmps.getD 3 undef = .slice a2 n2 c2 := h0
            refine op_run rfl rfl (v := .slice a2 n2 c2) (w' := w1) ?_ rfl (Below.refl _ _)
            simp [execOp, Act.eval, h0, go_sem]
          · intro hne lo hi ph hran hp1 hp2 a w1 hJ hsz hs      -- 2: slot 34
            obtain ⟨rfl, rfl⟩ : 0 = lo ∧ 0 = hi := Prod.mk.inj (Option.some.inj hran)
            obtain rfl : ph = 0 := by omega
            refine opF rfl (fun d h => by cases h; decide) ?_
            obtain ⟨h0, h1, _⟩ := hs
            have h0 : a.tmps.getD 32 undef = .agg #[.slice xa xn xc, .slice xd xm xe] := h0
            have h1 : a.tmps.getD 33 undef = .slice a2 n2 c2 := h1
            refine op_call rfl rfl (f := 17) (args := #[.agg #[.slice xa xn xc, .slice xd xm xe], .slice a2 n2 c2]) (by simp [execOp, Act.eval, resolve, h0, h1, go_sem]) ?_
            exact calls_foA (rfold14_any (.slice xa xn xc) (.slice xd xm xe) M a2 n2 c2 l2 allJ allJ w1 (allJ_new _) (HSM.out.later (show Below wo.heap.size wo w1 from hJ)) HOM.out (HL2.out.later ev_rel (show Below wo.heap.size wo w1 from hJ))) HEA.out
          · intro hne lo hi ph hran hp1 hp2 a w1 hJ hsz hs      -- 3: slot 35
            obtain ⟨rfl, rfl⟩ : 0 = lo ∧ 0 = hi := Prod.mk.inj (Option.some.inj hran)
            obtain rfl : ph = 0 := by omega
            refine opF rfl (fun d h => by cases h; decide) ?_
            obtain ⟨h0, _⟩ := hs
            have h0 : a.tmps.getD 11 undef = .pointer (some ⟨PM, 0, none⟩) := h0
            obtain ⟨k0, k1⟩ := (HRM.out.later (show Below wo.heap.size wo w1 from hJ)).c2
            refine op_run rfl rfl (v := .agg #[.slice xa xn xc, .slice xd xm xe]) (w' := w1) ?_ rfl (Below.refl _ _)
            simp [execOp, Act.eval, h0, k0, k1, go_sem]
          · intro hne lo hi ph hran hp1 hp2 a w1 hJ hsz hs      -- 4: slot 36
            obtain ⟨rfl, rfl⟩ : 0 = lo ∧ 0 = hi := Prod.mk.inj (Option.some.inj hran)
            obtain rfl : ph = 0 := by omega
            refine opF rfl (fun d h => by cases h; decide) ?_
            obtain ⟨h0, _⟩ := hs
            have h0 : a.tmps.getD 4 undef = .slice a3 n3 c3 := h0
            refine op_run rfl rfl (v := .slice a3 n3 c3) (w' := w1) ?_ rfl (Below.refl _ _)
            simp [execOp, Act.eval, h0, go_sem]
          · intro hne lo hi ph hran hp1 hp2 a w1 hJ hsz hs      -- 5: slot 37
            obtain ⟨rfl, rfl⟩ : 0 = lo ∧ 0 = hi := Prod.mk.inj (Option.some.inj hran)
            obtain rfl : ph = 0 := by omega
            refine opF rfl (fun d h => by cases h; decide) ?_
            obtain ⟨h0, h1, _⟩ := hs
            have h0 : a.tmps.getD 35 undef = .agg #[.slice xa xn xc, .slice xd xm xe] := h0
            have h1 : a.tmps.getD 36 undef = .slice a3 n3 c3 := h1
            refine op_call rfl rfl (f := 17) (args := #[.agg #[.slice xa xn xc, .slice xd xm xe], .slice a3 n3 c3]) (by simp [execOp, Act.eval, resolve, h0, h1, go_sem]) ?_
            exact calls_foA (rfold14_any (.slice xa xn xc) (.slice xd xm xe) M a3 n3 c3 l3 allJ allJ w1 (allJ_new _) (HSM.out.later (show Below wo.heap.size wo w1 from hJ)) HOM.out (HL3.out.later ev_rel (show Below wo.heap.size wo w1 from hJ))) HEB.out
          · intro hne lo hi ph hran hp1 hp2 a w1 hJ hsz hs      -- 6: slot 12
            obtain ⟨rfl, rfl⟩ : 0 = lo ∧ 0 = hi := Prod.mk.inj (Option.some.inj hran)
            obtain rfl : ph = 0 := by omega
            refine op_runF rfl rfl (v := .pointer (some ⟨w1.heap.size, 0, none⟩)) (w' := w1.alloc (.cells zeroSt 32)) ?_ ⟨w1.heap.size, rfl, RecAt.new w1 _ _, (show Below wo.heap.size wo w1 from hJ).size⟩ ((Below.refl _ _).alloc (Nat.le_refl _) _) ⟨rfl, by simp⟩
            simp [execOp, Act.eval, go_sem, ub0, zeroSt]
          · intro hne lo hi ph hran hp1 hp2 a w1 hJ hsz hs      -- 7: slot 13
            obtain ⟨rfl, rfl⟩ : 0 = lo ∧ 0 = hi := Prod.mk.inj (Option.some.inj hran)
            obtain rfl : ph = 0 := by omega
            refine op_runF rfl rfl (v := .pointer (some ⟨w1.heap.size, 0, none⟩)) (w' := w1.alloc (.cells zeroSt 32)) ?_ ⟨w1.heap.size, rfl, RecAt.new w1 _ _, (show Below wo.heap.size wo w1 from hJ).size⟩ ((Below.refl _ _).alloc (Nat.le_refl _) _) ⟨rfl, by simp⟩
            simp [execOp, Act.eval, go_sem, ub0, zeroSt]
          · intro hne lo hi ph hran hp1 hp2 a w1 hJ hsz hs      -- 8: slot None
            exact absurd (by decide) hne
          · intro hne lo hi ph hran hp1 hp2 a w1 hJ hsz hs      -- 9: slot None
            exact absurd (by decide) hne
        · show ∀ ph, ph < 2 → _
          iterate 2 (refine fls ?_ ?_)
          · exact fl0
          · intro i hi a w1 hJ hF hsz hs      -- heavy 0: op 8 slot None
            obtain rfl : 8 = i := Option.some.inj hi
            obtain ⟨h0, h1, _⟩ := hs
            have m0 : (zsV wo).p w1 (a.tmps.getD 12 undef) := h0
            obtain ⟨d1, v1, e1, q1⟩ := (show ∃ p q, a.tmps.getD 34 undef = .agg #[p, q] ∧ StA allJ w1 p q A from h1); have h1 : a.tmps.getD 34 undef = .agg #[d1, v1] := e1
            obtain ⟨PX, hvx, hX, hXs⟩ := (show ∃ g, a.tmps.getD 12 undef = .pointer (some ⟨g, 0, none⟩) ∧ RecAt w1 g zeroSt 32 ∧ wo.heap.size ≤ g from m0)
            have md := q1
            obtain ⟨qa, qb, qc, qd, qe, qf, rfl, rfl⟩ := md.shape
            have hone : (#[.slice qa qb qc, .slice qd qe qf] : Array Value).all (·.oneCell') = true := by simp [Value.oneCell']
            refine hv_recF rfl rfl rfl (x := PX) (p := .tmp 12) (v := .tmp 34) (cs := zeroSt) (vs := #[.slice qa qb qc, .slice qd qe qf]) rfl hvx h1 hX rfl (by kernel_rfl) hone (fun w' => trivial) ?_
            intro w' r1 r2 r3 r4
            have hb : Below wo.heap.size wo w' := (show Below wo.heap.size wo w1 from hJ).grown r4 (show Below wo.heap.size wo w1 from hJ).size (fun q e => by cases e; exact hXs)
            have o1 : StA allJ w' (.slice qa qb qc) (.slice qd qe qf) A := ((md.lessRec hX).keep (fun b hb2 hj => r3 b hj.2) (Nat.le_of_eq r2.symm)).weak fun b _ hj => hj.1
            exact ⟨hb, CalmW.all ⟨.inr fun _ _ h => h, .inr fun _ _ h => h, .inr fun _ _ _ => trivial, .inr fun _ _ h => h, .inr fun _ _ h => h, .inr fun v hh ⟨d, v2, q, hst⟩ => ⟨d, v2, q, ((hst.lessRec hX).keep (fun b hb2 hj => r3 b hj.2) (Nat.le_of_eq r2.symm)).weak fun b _ hj => hj.1⟩, .inr fun v hh _ => ⟨PX, _, _, (hh _ _ rfl rfl).trans hvx, r1, hXs, o1⟩, .inr fun v hh ⟨g, h1, h2, h3⟩ => ⟨g, h1, h2.keep r3 (fun e => (hF 12 (by decide) PX hvx).2 13 (by decide) (by decide) (((hh _ _ rfl rfl).symm.trans h1).trans (by rw [e]))), h3⟩, .inl rfl, .inr fun _ _ h => h, trivial⟩⟩
          · intro i hi a w1 hJ hF hsz hs      -- heavy 1: op 9 slot None
            obtain rfl : 9 = i := Option.some.inj hi
            obtain ⟨h0, h1, _⟩ := hs
            have m0 : (zsV wo).p w1 (a.tmps.getD 13 undef) := h0
            obtain ⟨d1, v1, e1, q1⟩ := (show ∃ p q, a.tmps.getD 37 undef = .agg #[p, q] ∧ StA allJ w1 p q B from h1); have h1 : a.tmps.getD 37 undef = .agg #[d1, v1] := e1
            obtain ⟨PX, hvx, hX, hXs⟩ := (show ∃ g, a.tmps.getD 13 undef = .pointer (some ⟨g, 0, none⟩) ∧ RecAt w1 g zeroSt 32 ∧ wo.heap.size ≤ g from m0)
            have md := q1
            obtain ⟨qa, qb, qc, qd, qe, qf, rfl, rfl⟩ := md.shape
            have hone : (#[.slice qa qb qc, .slice qd qe qf] : Array Value).all (·.oneCell') = true := by simp [Value.oneCell']
            refine hv_recF rfl rfl rfl (x := PX) (p := .tmp 13) (v := .tmp 37) (cs := zeroSt) (vs := #[.slice qa qb qc, .slice qd qe qf]) rfl hvx h1 hX rfl (by kernel_rfl) hone (fun w' => trivial) ?_
            intro w' r1 r2 r3 r4
            have hb : Below wo.heap.size wo w' := (show Below wo.heap.size wo w1 from hJ).grown r4 (show Below wo.heap.size wo w1 from hJ).size (fun q e => by cases e; exact hXs)
            have o1 : StA allJ w' (.slice qa qb qc) (.slice qd qe qf) B := ((md.lessRec hX).keep (fun b hb2 hj => r3 b hj.2) (Nat.le_of_eq r2.symm)).weak fun b _ hj => hj.1
            exact ⟨hb, CalmW.all ⟨.inr fun _ _ h => h, .inr fun _ _ h => h, .inr fun _ _ _ => trivial, .inr fun _ _ h => h, .inr fun _ _ h => h, .inr fun _ _ _ => trivial, .inr fun v hh ⟨g, d, v2, h1, h2, h3, h4⟩ => ⟨g, d, v2, h1, h2.keep r3 (fun e => (hF 13 (by decide) PX hvx).2 12 (by decide) (by decide) (((hh _ _ rfl rfl).symm.trans h1).trans (by rw [e]))), h3, ((h4.lessRec hX).keep (fun b hb2 hj => r3 b hj.2) (Nat.le_of_eq r2.symm)).weak fun b _ hj => hj.1⟩, .inr fun v hh _ => ⟨PX, _, _, (hh _ _ rfl rfl).trans hvx, r1, hXs, o1⟩, .inr fun _ _ h => h, .inl rfl, trivial⟩⟩
        intro f w1 hJ hv
        obtain ⟨PA, da, va, eA, rA, sA, oA⟩ := (show (rjV allJ wo A).p w1 (f 12) from hv 6 _ 12 rfl rfl)
        obtain ⟨PB, db, vb, eB, rB, sB, oB⟩ := (show (rjV allJ wo B).p w1 (f 13) from hv 7 _ 13 rfl rfl)
        have hbo : Below wo.heap.size wo w1 := hJ
        clear hv
        try simp only [Exit.then]
        simp only [putAll, List.foldl_cons, List.foldl_nil, Option.getD_some, Act.put, List.setIfInBounds_toArray, List.set_cons_succ, List.set_cons_zero]
        rw [eA, eB]
        clear hJ eA eB
        -- END Y4
        obtain ⟨q1, q2, q3, q4, q5, q6, rfl, rfl⟩ := oA.shape
        obtain ⟨s1, s2, s3, s4, s5, s6, rfl, rfl⟩ := oB.shape
        have HA : Hid (SAt allJ w1 PA A) := Lib.hid ⟨_, _, _, _, _, _, rA, oA⟩
        have HBB : Hid (SAt allJ w1 PB B) := Lib.hid ⟨_, _, _, _, _, _, rB, oB⟩
        replace HB := Lib.hid (HB.out.trans (hbo.mono HB.out.size))
        replace HL3 := Lib.hid (HL3.out.later ev_rel hbo)
        clear rA oA rB oB sA sB hbo HRM HSM HM HL1 HL2
        obtain ⟨wp, hww⟩ : ∃ W, w1 = W := ⟨_, rfl⟩
        rw [hww] at HB HA HBB HL3 ⊢
        clear hww
        go_wp2_with fail
        refine (after14_any other a3 n3 c3 l3 allJ allJ _ (allJ_new _) HL3.out).mono ?_
        rw [HEC.out]
        rintro e w6 ⟨d, v, rfl, hs, b⟩
        replace HB := Lib.hid (HB.out.trans (b.mono HB.out.size))
        replace HL3 := Lib.hid (HL3.out.later ev_rel b)
        replace HA := Lib.hid (HA.out.later b)
        replace HBB := Lib.hid (HBB.out.later b)
        obtain ⟨p1, p2, p3, p4, p5, p6, rfl, rfl⟩ := hs.shape
        have b2 := below_st w6 #[.slice p1 p2 p3, .slice p4 p5 p6]
        have HC := Lib.hid (SAt.new hs.all)
        replace HB := Lib.hid (HB.out.trans (b2.mono HB.out.size))
        replace HL3 := Lib.hid (HL3.out.later ev_rel b2)
        replace HA := Lib.hid (HA.out.later b2)
        replace HBB := Lib.hid (HBB.out.later b2)
        clear hs b b2
        go_upto_region 6 with fail
        obtain ⟨w7, hw⟩ : ∃ W, w6.alloc (.cells #[.slice p1 p2 p3, .slice p4 p5 p6] 32) = W := ⟨_, rfl⟩
        rw [hw] at HB HL3 HA HBB HC ⊢
        obtain ⟨PC, hX⟩ : ∃ X, w6.heap.size = X := ⟨_, rfl⟩
        rw [hX] at HC ⊢
        clear hw hX
        obtain ⟨WAB, hW⟩ : ∃ z, wayS A B = z := ⟨_, rfl⟩
        obtain ⟨NAB, hN⟩ : ∃ z, WAB.length = z := ⟨_, rfl⟩
        have HNAB := Lib.hid hN
        have HWAB := Lib.hid hW
        clear hW hN
        obtain ⟨WAC, hW⟩ : ∃ z, wayS A C = z := ⟨_, rfl⟩
        obtain ⟨NAC, hN⟩ : ∃ z, WAC.length = z := ⟨_, rfl⟩
        have HNAC := Lib.hid hN
        have HWAC := Lib.hid hW
        clear hW hN
        obtain ⟨WCB, hW⟩ : ∃ z, wayS C B = z := ⟨_, rfl⟩
        obtain ⟨NCB, hN⟩ : ∃ z, WCB.length = z := ⟨_, rfl⟩
        have HNCB := Lib.hid hN
        have HWCB := Lib.hid hW
        clear hW hN
        obtain ⟨wo, hwo⟩ : ∃ W, w7 = W := ⟨_, rfl⟩
        rw [hwo] at HB HA HBB HC HL3 ⊢
        clear hwo
        obtain ⟨xa, xn, xc, xd, xm, xe, xR, xS⟩ := HA.out
        have HRA := Lib.hid xR
        have HSA := Lib.hid xS
        clear xR xS
        obtain ⟨ya, yn, yc, yd, ym, ye, yR, yS⟩ := HBB.out
        have HRB := Lib.hid yR
        have HSB := Lib.hid yS
        clear yR yS
        obtain ⟨za, zn, zc, zd, zm, ze, zR, zS⟩ := HC.out
        have HRC := Lib.hid zR
        have HSC := Lib.hid zS
        clear zR zS
        -- REG Y6
        refine wp_region_tab (L := [cV (.agg #[.slice xa xn xc, .slice xd xm xe]), cV (.agg #[.slice ya yn yc, .slice yd ym ye]), weV WAB NAB, cV (.agg #[.slice xa xn xc, .slice xd xm xe]), cV (.agg #[.slice ya yn yc, .slice yd ym ye]), weV WAB NAB, cV (.bool true), cV (.bool true), cV (.agg #[.slice xa xn xc, .slice xd xm xe]), cV (.agg #[.slice za zn zc, .slice zd zm ze]), weV WAC NAC, cV (.agg #[.slice xa xn xc, .slice xd xm xe]), cV (.agg #[.slice za zn zc, .slice zd zm ze]), weV WAC NAC, cV (.bool true), cV (.bool true), cV (.bool true), cV (.agg #[.slice za zn zc, .slice zd zm ze]), cV (.agg #[.slice ya yn yc, .slice yd ym ye]), weV WCB NCB, cV (.agg #[.slice za zn zc, .slice zd zm ze]), cV (.agg #[.slice ya yn yc, .slice yd ym ye]), weV WCB NCB, cV (.bool true), cV (.bool true), cV (.bool true), cV (.bool true), cV (.bool true), cV (.bool true)]) [[(12, none)], [(13, none)], [(41, some 0), (42, some 1)], [(12, none)], [(13, none)], [(44, some 3), (45, some 4)], [(43, some 2), (46, some 5)], [(47, some 6)], [(12, none), (48, some 7)], [(14, none), (48, some 7)], [(49, some 8), (50, some 9), (48, some 7)], [(12, none), (48, some 7)], [(14, none), (48, some 7)], [(52, some 11), (53, some 12), (48, some 7)], [(51, some 10), (54, some 13), (48, some 7)], [(48, some 7), (55, some 14)], [(56, some 15)], [(14, none), (57, some 16)], [(13, none), (57, some 16)], [(58, some 17), (59, some 18), (57, some 16)], [(14, none), (57, some 16)], [(13, none), (57, some 16)], [(61, some 20), (62, some 21), (57, some 16)], [(60, some 19), (63, some 22), (57, some 16)], [(57, some 16), (64, some 23)], [(65, some 24)], [(66, some 25)], [(66, some 25), (67, some 26)], [(68, some 27)]] 29 69 (by kernel_rfl) rfl rfl (by kernel_rfl) (by kernel_rfl) ?_ ?_
        · show ∀ i, i < 29 → _
          iterate 29 (refine fls ?_ ?_)
          · exact fl0
          · intro a w1 hR hsz hs      -- 0: slot 41
            obtain ⟨h0, _⟩ := hs
            have h0 : a.tmps.getD 12 undef = .pointer (some ⟨PA, 0, none⟩) := h0
            obtain ⟨k0, k1⟩ := (HRA.out.later hR).c2
            refine op_run rfl rfl (v := .agg #[.slice xa xn xc, .slice xd xm xe]) (w' := w1) ?_ rfl (Below.refl _ _)
            simp [execOp, Act.eval, h0, k0, k1, go_sem]
          · intro a w1 hR hsz hs      -- 1: slot 42
            obtain ⟨h0, _⟩ := hs
            have h0 : a.tmps.getD 13 undef = .pointer (some ⟨PB, 0, none⟩) := h0
            obtain ⟨k0, k1⟩ := (HRB.out.later hR).c2
            refine op_run rfl rfl (v := .agg #[.slice ya yn yc, .slice yd ym ye]) (w' := w1) ?_ rfl (Below.refl _ _)
            simp [execOp, Act.eval, h0, k0, k1, go_sem]
          · intro a w1 hR hsz hs      -- 2: slot 43
            obtain ⟨h0, h1, _⟩ := hs
            have h0 : a.tmps.getD 41 undef = .agg #[.slice xa xn xc, .slice xd xm xe] := h0
            have h1 : a.tmps.getD 42 undef = .agg #[.slice ya yn yc, .slice yd ym ye] := h1
            refine op_call rfl rfl (f := 18) (args := #[.agg #[.slice xa xn xc, .slice xd xm xe], .agg #[.slice ya yn yc, .slice yd ym ye]]) (by simp [execOp, Act.eval, resolve, h0, h1, go_sem]) ?_
            exact calls_we (pway15_any _ _ _ _ A B allJ allJ w1 (HSA.out.later hR) (HSB.out.later hR) HOA.out.may HOB.out.may) HWAB.out HNAB.out
          · intro a w1 hR hsz hs      -- 3: slot 44
            obtain ⟨h0, _⟩ := hs
            have h0 : a.tmps.getD 12 undef = .pointer (some ⟨PA, 0, none⟩) := h0
            obtain ⟨k0, k1⟩ := (HRA.out.later hR).c2
            refine op_run rfl rfl (v := .agg #[.slice xa xn xc, .slice xd xm xe]) (w' := w1) ?_ rfl (Below.refl _ _)
            simp [execOp, Act.eval, h0, k0, k1, go_sem]
          · intro a w1 hR hsz hs      -- 4: slot 45
            obtain ⟨h0, _⟩ := hs
            have h0 : a.tmps.getD 13 undef = .pointer (some ⟨PB, 0, none⟩) := h0
            obtain ⟨k0, k1⟩ := (HRB.out.later hR).c2
            refine op_run rfl rfl (v := .agg #[.slice ya yn yc, .slice yd ym ye]) (w' := w1) ?_ rfl (Below.refl _ _)
            simp [execOp, Act.eval, h0, k0, k1, go_sem]
          · intro a w1 hR hsz hs      -- 5: slot 46
            obtain ⟨h0, h1, _⟩ := hs
            have h0 : a.tmps.getD 44 undef = .agg #[.slice xa xn xc, .slice xd xm xe] := h0
            have h1 : a.tmps.getD 45 undef = .agg #[.slice ya yn yc, .slice yd ym ye] := h1
            refine op_call rfl rfl (f := 19) (args := #[.agg #[.slice xa xn xc, .slice xd xm xe], .agg #[.slice ya yn yc, .slice yd ym ye]]) (by simp [execOp, Act.eval, resolve, h0, h1, go_sem]) ?_
            exact calls_we (rway15_any _ _ _ _ A B allJ allJ w1 (HSA.out.later hR) (HSB.out.later hR)) HWAB.out HNAB.out
          · intro a w1 hR hsz hs      -- 6: slot 47
            obtain ⟨h0, h1, _⟩ := hs
            obtain ⟨a0, c0, e0, q0⟩ := (show ∃ p q, a.tmps.getD 43 undef = .slice p NAB q ∧ QE allJ w1 (.slice p NAB q) WAB from h0); have h0 : a.tmps.getD 43 undef = .slice a0 NAB c0 := e0
            obtain ⟨a1, c1, e1, q1⟩ := (show ∃ p q, a.tmps.getD 46 undef = .slice p NAB q ∧ QE allJ w1 (.slice p NAB q) WAB from h1); have h1 : a.tmps.getD 46 undef = .slice a1 NAB c1 := e1
            refine op_call rfl rfl (f := 11) (args := #[.slice a0 NAB c0, .slice a1 NAB c1]) (by simp [execOp, Act.eval, resolve, h0, h1, go_sem]) ?_
            exact calls_c (calls_samesW (rsames15_any a0 a1 NAB NAB c0 c1 WAB WAB allJ allJ w1 q0 q1 HNAB.out HNAB.out) rfl)
          · intro a w1 hR hsz hs      -- 7: slot 48
            obtain ⟨h0, _⟩ := hs
            have h0 : a.tmps.getD 47 undef = .bool true := h0
            refine op_run rfl rfl (v := .bool true) (w' := w1) ?_ rfl (Below.refl _ _)
            simp [execOp, Act.eval, h0, go_sem]
          · intro a w1 hR hsz hs      -- 8: slot 49
            obtain ⟨h0, h1, _⟩ := hs
            have h0 : a.tmps.getD 12 undef = .pointer (some ⟨PA, 0, none⟩) := h0
            have h1 : a.tmps.getD 48 undef = .bool true := h1
            obtain ⟨k0, k1⟩ := (HRA.out.later hR).c2
            refine opg_run rfl rfl rfl (by rw [hsz]; decide) h1 (v := .agg #[.slice xa xn xc, .slice xd xm xe]) (w' := w1) ?_ rfl (Below.refl _ _)
            simp [execOp, Act.eval, h0, k0, k1, go_sem]
          · intro a w1 hR hsz hs      -- 9: slot 50
            obtain ⟨h0, h1, _⟩ := hs
            have h0 : a.tmps.getD 14 undef = .pointer (some ⟨PC, 0, none⟩) := h0
            have h1 : a.tmps.getD 48 undef = .bool true := h1
            obtain ⟨k0, k1⟩ := (HRC.out.later hR).c2
            refine opg_run rfl rfl rfl (by rw [hsz]; decide) h1 (v := .agg #[.slice za zn zc, .slice zd zm ze]) (w' := w1) ?_ rfl (Below.refl _ _)
            simp [execOp, Act.eval, h0, k0, k1, go_sem]
          · intro a w1 hR hsz hs      -- 10: slot 51
            obtain ⟨h0, h1, h2, _⟩ := hs
            have h0 : a.tmps.getD 49 undef = .agg #[.slice xa xn xc, .slice xd xm xe] := h0
            have h1 : a.tmps.getD 50 undef = .agg #[.slice za zn zc, .slice zd zm ze] := h1
            have h2 : a.tmps.getD 48 undef = .bool true := h2
            refine opg_call rfl rfl rfl (by rw [hsz]; decide) h2 (f := 18) (args := #[.agg #[.slice xa xn xc, .slice xd xm xe], .agg #[.slice za zn zc, .slice zd zm ze]]) (by simp [execOp, Act.eval, resolve, h0, h1, go_sem]) ?_
            exact calls_we (pway15_any _ _ _ _ A C allJ allJ w1 (HSA.out.later hR) (HSC.out.later hR) HOA.out.may HOC.out.may) HWAC.out HNAC.out
          · intro a w1 hR hsz hs      -- 11: slot 52
            obtain ⟨h0, h1, _⟩ := hs
            have h0 : a.tmps.getD 12 undef = .pointer (some ⟨PA, 0, none⟩) := h0
            have h1 : a.tmps.getD 48 undef = .bool true := h1
            obtain ⟨k0, k1⟩ := (HRA.out.later hR).c2
            refine opg_run rfl rfl rfl (by rw [hsz]; decide) h1 (v := .agg #[.slice xa xn xc, .slice xd xm xe]) (w' := w1) ?_ rfl (Below.refl _ _)
            simp [execOp, Act.eval, h0, k0, k1, go_sem]
          · intro a w1 hR hsz hs      -- 12: slot 53
            obtain ⟨h0, h1, _⟩ := hs
            have h0 : a.tmps.getD 14 undef = .pointer (some ⟨PC, 0, none⟩) := h0
            have h1 : a.tmps.getD 48 undef = .bool true := h1
            obtain ⟨k0, k1⟩ := (HRC.out.later hR).c2
            refine opg_run rfl rfl rfl (by rw [hsz]; decide) h1 (v := .agg #[.slice za zn zc, .slice zd zm ze]) (w' := w1) ?_ rfl (Below.refl _ _)
            simp [execOp, Act.eval, h0, k0, k1, go_sem]
          · intro a w1 hR hsz hs      -- 13: slot 54
            obtain ⟨h0, h1, h2, _⟩ := hs
            have h0 : a.tmps.getD 52 undef = .agg #[.slice xa xn xc, .slice xd xm xe] := h0
            have h1 : a.tmps.getD 53 undef = .agg #[.slice za zn zc, .slice zd zm ze] := h1
            have h2 : a.tmps.getD 48 undef = .bool true := h2
            refine opg_call rfl rfl rfl (by rw [hsz]; decide) h2 (f := 19) (args := #[.agg #[.slice xa xn xc, .slice xd xm xe], .agg #[.slice za zn zc, .slice zd zm ze]]) (by simp [execOp, Act.eval, resolve, h0, h1, go_sem]) ?_
            exact calls_we (rway15_any _ _ _ _ A C allJ allJ w1 (HSA.out.later hR) (HSC.out.later hR)) HWAC.out HNAC.out
          · intro a w1 hR hsz hs      -- 14: slot 55
            obtain ⟨h0, h1, h2, _⟩ := hs
            obtain ⟨a0, c0, e0, q0⟩ := (show ∃ p q, a.tmps.getD 51 undef = .slice p NAC q ∧ QE allJ w1 (.slice p NAC q) WAC from h0); have h0 : a.tmps.getD 51 undef = .slice a0 NAC c0 := e0
            obtain ⟨a1, c1, e1, q1⟩ := (show ∃ p q, a.tmps.getD 54 undef = .slice p NAC q ∧ QE allJ w1 (.slice p NAC q) WAC from h1); have h1 : a.tmps.getD 54 undef = .slice a1 NAC c1 := e1
            have h2 : a.tmps.getD 48 undef = .bool true := h2
            refine opg_call rfl rfl rfl (by rw [hsz]; decide) h2 (f := 11) (args := #[.slice a0 NAC c0, .slice a1 NAC c1]) (by simp [execOp, Act.eval, resolve, h0, h1, go_sem]) ?_
            exact calls_c (calls_samesW (rsames15_any a0 a1 NAC NAC c0 c1 WAC WAC allJ allJ w1 q0 q1 HNAC.out HNAC.out) rfl)
          · intro a w1 hR hsz hs      -- 15: slot 56
            obtain ⟨h0, h1, _⟩ := hs
            have h0 : a.tmps.getD 48 undef = .bool true := h0
            have h1 : a.tmps.getD 55 undef = .bool true := h1
            refine op_run rfl rfl (v := .bool true) (w' := w1) ?_ rfl (Below.refl _ _)
            simp [execOp, Act.eval, h0, h1, go_sem]
          · intro a w1 hR hsz hs      -- 16: slot 57
            obtain ⟨h0, _⟩ := hs
            have h0 : a.tmps.getD 56 undef = .bool true := h0
            refine op_run rfl rfl (v := .bool true) (w' := w1) ?_ rfl (Below.refl _ _)
            simp [execOp, Act.eval, h0, go_sem]
          · intro a w1 hR hsz hs      -- 17: slot 58
            obtain ⟨h0, h1, _⟩ := hs
            have h0 : a.tmps.getD 14 undef = .pointer (some ⟨PC, 0, none⟩) := h0
            have h1 : a.tmps.getD 57 undef = .bool true := h1
            obtain ⟨k0, k1⟩ := (HRC.out.later hR).c2
            refine opg_run rfl rfl rfl (by rw [hsz]; decide) h1 (v := .agg #[.slice za zn zc, .slice zd zm ze]) (w' := w1) ?_ rfl (Below.refl _ _)
            simp [execOp, Act.eval, h0, k0, k1, go_sem]
          · intro a w1 hR hsz hs      -- 18: slot 59
            obtain ⟨h0, h1, _⟩ := hs
            have h0 : a.tmps.getD 13 undef = .pointer (some ⟨PB, 0, none⟩) := h0
            have h1 : a.tmps.getD 57 undef = .bool true := h1
            obtain ⟨k0, k1⟩ := (HRB.out.later hR).c2
            refine opg_run rfl rfl rfl (by rw [hsz]; decide) h1 (v := .agg #[.slice ya yn yc, .slice yd ym ye]) (w' := w1) ?_ rfl (Below.refl _ _)
            simp [execOp, Act.eval, h0, k0, k1, go_sem]
          · intro a w1 hR hsz hs      -- 19: slot 60
            obtain ⟨h0, h1, h2, _⟩ := hs
            have h0 : a.tmps.getD 58 undef = .agg #[.slice za zn zc, .slice zd zm ze] := h0
            have h1 : a.tmps.getD 59 undef = .agg #[.slice ya yn yc, .slice yd ym ye] := h1
            have h2 : a.tmps.getD 57 undef = .bool true := h2
            refine opg_call rfl rfl rfl (by rw [hsz]; decide) h2 (f := 18) (args := #[.agg #[.slice za zn zc, .slice zd zm ze], .agg #[.slice ya yn yc, .slice yd ym ye]]) (by simp [execOp, Act.eval, resolve, h0, h1, go_sem]) ?_
            exact calls_we (pway15_any _ _ _ _ C B allJ allJ w1 (HSC.out.later hR) (HSB.out.later hR) HOC.out.may HOB.out.may) HWCB.out HNCB.out
          · intro a w1 hR hsz hs      -- 20: slot 61
            obtain ⟨h0, h1, _⟩ := hs
            have h0 : a.tmps.getD 14 undef = .pointer (some ⟨PC, 0, none⟩) := h0
            have h1 : a.tmps.getD 57 undef = .bool true := h1
            obtain ⟨k0, k1⟩ := (HRC.out.later hR).c2
            refine opg_run rfl rfl rfl (by rw [hsz]; decide) h1 (v := .agg #[.slice za zn zc, .slice zd zm ze]) (w' := w1) ?_ rfl (Below.refl _ _)
            simp [execOp, Act.eval, h0, k0, k1, go_sem]
          · intro a w1 hR hsz hs      -- 21: slot 62
            obtain ⟨h0, h1, _⟩ := hs
            have h0 : a.tmps.getD 13 undef = .pointer (some ⟨PB, 0, none⟩) := h0
            have h1 : a.tmps.getD 57 undef = .bool true := h1
            obtain ⟨k0, k1⟩ := (HRB.out.later hR).c2
            refine opg_run rfl rfl rfl (by rw [hsz]; decide) h1 (v := .agg #[.slice ya yn yc, .slice yd ym ye]) (w' := w1) ?_ rfl (Below.refl _ _)
            simp [execOp, Act.eval, h0, k0, k1, go_sem]
          · intro a w1 hR hsz hs      -- 22: slot 63
            obtain ⟨h0, h1, h2, _⟩ := hs
            have h0 : a.tmps.getD 61 undef = .agg #[.slice za zn zc, .slice zd zm ze] := h0
            have h1 : a.tmps.getD 62 undef = .agg #[.slice ya yn yc, .slice yd ym ye] := h1
            have h2 : a.tmps.getD 57 undef = .bool true := h2
            refine opg_call rfl rfl rfl (by rw [hsz]; decide) h2 (f := 19) (args := #[.agg #[.slice za zn zc, .slice zd zm ze], .agg #[.slice ya yn yc, .slice yd ym ye]]) (by simp [execOp, Act.eval, resolve, h0, h1, go_sem]) ?_
            exact calls_we (rway15_any _ _ _ _ C B allJ allJ w1 (HSC.out.later hR) (HSB.out.later hR)) HWCB.out HNCB.out
          · intro a w1 hR hsz hs      -- 23: slot 64
            obtain ⟨h0, h1, h2, _⟩ := hs
            obtain ⟨a0, c0, e0, q0⟩ := (show ∃ p q, a.tmps.getD 60 undef = .slice p NCB q ∧ QE allJ w1 (.slice p NCB q) WCB from h0); have h0 : a.tmps.getD 60 undef = .slice a0 NCB c0 := e0
            obtain ⟨a1, c1, e1, q1⟩ := (show ∃ p q, a.tmps.getD 63 undef = .slice p NCB q ∧ QE allJ w1 (.slice p NCB q) WCB from h1); have h1 : a.tmps.getD 63 undef = .slice a1 NCB c1 := e1
            have h2 : a.tmps.getD 57 undef = .bool true := h2
            refine opg_call rfl rfl rfl (by rw [hsz]; decide) h2 (f := 11) (args := #[.slice a0 NCB c0, .slice a1 NCB c1]) (by simp [execOp, Act.eval, resolve, h0, h1, go_sem]) ?_
            exact calls_c (calls_samesW (rsames15_any a0 a1 NCB NCB c0 c1 WCB WCB allJ allJ w1 q0 q1 HNCB.out HNCB.out) rfl)
          · intro a w1 hR hsz hs      -- 24: slot 65
            obtain ⟨h0, h1, _⟩ := hs
            have h0 : a.tmps.getD 57 undef = .bool true := h0
            have h1 : a.tmps.getD 64 undef = .bool true := h1
            refine op_run rfl rfl (v := .bool true) (w' := w1) ?_ rfl (Below.refl _ _)
            simp [execOp, Act.eval, h0, h1, go_sem]
          · intro a w1 hR hsz hs      -- 25: slot 66
            obtain ⟨h0, _⟩ := hs
            have h0 : a.tmps.getD 65 undef = .bool true := h0
            refine op_run rfl rfl (v := .bool true) (w' := w1) ?_ rfl (Below.refl _ _)
            simp [execOp, Act.eval, h0, go_sem]
          · intro a w1 hR hsz hs      -- 26: slot 67
            obtain ⟨h0, _⟩ := hs
            have h0 : a.tmps.getD 66 undef = .bool true := h0
            refine opg_call rfl rfl rfl (by rw [hsz]; decide) h0 (f := 10) (args := #[]) (by simp [execOp, Act.eval, resolve, go_sem]) ?_
            exact calls_c (known15_any w1)
          · intro a w1 hR hsz hs      -- 27: slot 68
            obtain ⟨h0, h1, _⟩ := hs
            have h0 : a.tmps.getD 66 undef = .bool true := h0
            have h1 : a.tmps.getD 67 undef = .bool true := h1
            refine op_run rfl rfl (v := .bool true) (w' := w1) ?_ rfl (Below.refl _ _)
            simp [execOp, Act.eval, h0, h1, go_sem]
          · intro a w1 hR hsz hs      -- 28: slot 10
            obtain ⟨h0, _⟩ := hs
            have h0 : a.tmps.getD 68 undef = .bool true := h0
            refine op_run rfl rfl (v := .bool true) (w' := w1) ?_ rfl (Below.refl _ _)
            simp [execOp, Act.eval, h0, go_sem]
        intro f w1 hR hv
        have e10 : f 10 = .bool true := hv 28 _ 10 rfl rfl
        clear hv
        try simp only [Exit.then]
        simp only [putAll, List.foldl_cons, List.foldl_nil, Option.getD_some, Act.put, List.setIfInBounds_toArray, List.set_cons_succ, List.set_cons_zero, e10]
        have HB9 := Lib.hid (HB.out.trans (hR.mono HB.out.size))
        clear hR e10
        -- END Y6
        go_wp2_with fail
        go_ret
        exact ⟨rfl, HB9.out⟩
end Go.Proofs.Ytbpddcmehjgleaa
