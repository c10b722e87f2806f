/- The law 'ModelRefuses', walked. -/
import Derived.Test.YtghglbaflmbeoaaMdK
import Derived.Test.YtghglbaflmbeoaaPhW
namespace Go.Proofs.Ytghglbaflmbeoaa
open Go.RowKit Go.Proofs
set_option linter.unusedVariables false
set_option linter.unusedSimpArgs false
set_option linter.unnecessarySimpa false

set_option maxRecDepth 100000 in
set_option maxHeartbeats 12800000 in
theorem modelRefuses_walk (size : Int) (a1 : Option Addr) (n cap : Nat) (l : List Ev) (w : World) (h1 : QE allJ w (.slice a1 n cap) l) :
    Calls Try.prog 5 #[.int .i64 size, .slice a1 n cap] w fun x w' => x = .returned (.bool true) ∧ Below w.heap.size w w' := by
  obtain ⟨hn, hcap, hcm, hca⟩ := h1.cap
  unfold maxLen at hcm
  have HL := Lib.hid (h1.weak ev_rel (J' := fun b => b < w.heap.size) fun b hb _ => hb)
  have HN := Lib.hid hn
  clear h1 hn
  go_enter Try.func5, Try.ntmps5
  go_wp2_with fail
  obtain ⟨B1, hB1⟩ : ∃ z, smallE l 60 = z := ⟨_, rfl⟩
  refine (small14_any a1 n cap l 60 _ _ HL.out).mono ?_
  rw [hB1]
  rintro e w1 ⟨rfl, b⟩
  have HB1 := Lib.hid hB1
  have HB := Lib.hid b
  clear hB1 b
  cases B1 with
  | false =>
    go_wp2_with fail
    refine (known14_any _).mono ?_
    rintro e wk ⟨rfl, bk⟩
    have HBk := Lib.hid (HB.out.trans (bk.mono HB.out.size))
    clear bk
    go_wp2_with fail
    go_ret
    exact ⟨rfl, HBk.out⟩
  | true =>
    have HN6 : Hid (l.length ≤ 60) := Lib.hid (by have := (smallE_iff.1 HB1.out).2; omega)
    go_wp2_with fail
    refine (pnew14_any size _).mono ?_
    rintro e w2 ⟨d, v, rfl, hs, b⟩
    replace HB := Lib.hid (HB.out.trans (b.mono HB.out.size))
    have HPS : Hid (w.heap.size ≤ w2.heap.size) := Lib.hid HB.out.size
    obtain ⟨p1, p2, p3, p4, p5, p6, rfl, rfl⟩ := hs.shape
    have b2 := below_st w2 #[.slice p1 p2 p3, .slice p4 p5 p6]
    have HA := Lib.hid (SAt.new hs.all)
    replace HB := Lib.hid (HB.out.trans (b2.mono HB.out.size))
    clear hs b b2
    go_upto_region 4 with fail
    obtain ⟨w3, hw⟩ : ∃ W, w2.alloc (.cells #[.slice p1 p2 p3, .slice p4 p5 p6] 28) = W := ⟨_, rfl⟩
    rw [hw] at HA HB ⊢
    obtain ⟨PS, hX⟩ : ∃ X, w2.heap.size = X := ⟨_, rfl⟩
    rw [hX] at HA HPS ⊢
    clear hw hX
    have ub0 := Try.underlying28
    have ue0 := Try.underlying22
    have ue1 := Try.underlying33
    go_wp2_with fail
    go_loopw [6, 7] (fun tk i wr => ∃ j : Nat, i = .int .i64 j ∧ j ≤ n ∧ Below w.heap.size w wr ∧ Hid (SAt (lessJ allJ tk) wr PS (foldM (newM size) (l.take j))) ∧ Hid (OEv (fun b => b < w.heap.size) w wr tk (takenM (newM size) (l.take j)))) (fun _ i _ => n - (intOf i).toNat)
    case atStart => exact ⟨0, rfl, by omega, HB.out, Lib.hid (HA.out.weak fun b _ _ => ⟨trivial, fun e => by cases e⟩), Lib.hid (NOwn.nil' HB.out)⟩
    case round =>
      obtain ⟨j, rfl, hj, hbr, HS, HT⟩ := hrel
      obtain ⟨wo, hwo⟩ : ∃ W, W = wr := ⟨_, rfl⟩
      subst hwo
      have HBR := Lib.hid hbr
      clear hbr
      by_cases hjn : (j : Int) < n
      · have hjd : decide ((j : Int) < (n : Int)) = true := decide_eq_true hjn
        have HJN2 : Hid (j < n) := Lib.hid (by omega)
        obtain ⟨ev, hev⟩ : ∃ e, l[j]? = some e := ⟨l[j]'(by have := HN.out; omega), List.getElem?_eq_getElem _⟩
        obtain ⟨b1, f1, K1, K2, K3, a2, L1, c2, S, ha, hEV⟩ := HL.out.evAt hev
        subst ha
        have HEV := Lib.hid hEV
        have HSN := Lib.hid (foldM_take (s := newM size) hev)
        have HTN : Hid (takenM (newM size) (l.take (j + 1)) = takenM (newM size) (l.take j) ++ (if checkM (foldM (newM size) (l.take j)) ev = 0 then [ev] else [])) := Lib.hid (by rw [List.take_add_one, hev]; exact takenM_snoc _ _ _)
        have hokj := foldM_ok (newM_ok size) (l.take j)
        have HTL : Hid ((takenM (newM size) (l.take j)).length ≤ 60) := Lib.hid (Nat.le_trans (takenM_len _ _) (by rw [List.length_take]; have := HN6.out; omega))
        obtain ⟨sj, hsj⟩ : ∃ z, foldM (newM size) (l.take j) = z := ⟨_, rfl⟩
        rw [hsj] at hokj HS HSN HTN
        obtain ⟨tj, htj⟩ : ∃ z, takenM (newM size) (l.take j) = z := ⟨_, rfl⟩
        rw [htj] at HT HTN HTL
        have HOKJ := Lib.hid hokj
        obtain ⟨s1, CE, hap⟩ : ∃ s1 CE, applyM sj ev = (s1, CE) := ⟨_, _, rfl⟩
        have HAPQ := Lib.hid hap
        have HOK1 := Lib.hid (applyM_ok1 hokj hap)
        obtain ⟨ad, nd, cd, av, nv, cv, hRX, hST⟩ := HS.out
        have HRX := Lib.hid hRX
        have HSX := Lib.hid hST
        obtain ⟨JT, hJT⟩ : ∃ J, lessJ allJ u6 = J := ⟨_, rfl⟩
        have HJT := Lib.hid hJT
        have HAP : Hid (∀ W, Below wo.heap.size wo W → Calls Try.prog 16 #[.agg #[.slice ad nd cd, .slice av nv cv], .agg #[.int .i64 K1, .int .i64 K2, .int .i64 K3, .slice a2 L1 c2, .string S]] W fun e w' => ∃ d2 v2, e = .returned (.tuple #[.agg #[d2, v2], .int .i64 CE]) ∧ StA JT w' d2 v2 s1 ∧ Below W.heap.size W w') := Lib.hid (fun W (hb : Below wo.heap.size wo W) => (hEV.papply (.slice ad nd cd) (.slice av nv cv) sj _ s1 CE W (HBR.out.trans (hb.mono HBR.out.size)) (hST.later hb) hokj hap).mono fun e w' ⟨d2, v2, q1, q2, q3⟩ => ⟨d2, v2, q1, q2.weak (fun b _ hj => by rw [← hJT]; exact ⟨trivial, fun e => by have := (HT.out.ltB e.symm).2; have := hb.size; have h5 : W.heap.size ≤ b := hj; omega⟩), q3⟩)
        clear hJT
        have HCK := Lib.hid (fun W (hb : Below wo.heap.size wo W) => hEV.pcheck (.slice ad nd cd) (.slice av nv cv) sj _ W (HBR.out.trans (hb.mono HBR.out.size)) (hST.later hb) hokj)
        rw [applyM_check hap] at HCK
        have HE5 := Lib.hid (fun W (hb : Below wo.heap.size wo W) => hEV.cells W (HBR.out.trans (hb.mono HBR.out.size)))
        clear hEV hev hokj hsj htj hap hRX hST
        obtain ⟨x0, x1⟩ := HRX.out.c2
        go_upto_region 8 with fail
        clear x0 x1
        -- REG A8
        refine wp_region_ptabW (L := fun ph => match ph with | 0 => [cV (.agg #[.slice ad nd cd, .slice av nv cv]), cV (.slice (some ⟨b1, f1, none⟩) n cap), cV (.int .i64 (j : Nat)), cV (.pointer (some ⟨b1, f1 + j * 5, none⟩)), cV (.agg #[.int .i64 K1, .int .i64 K2, .int .i64 K3, .slice a2 L1 c2, .string S]), apV JT s1 CE, apV JT s1 CE, stV JT s1, cV (.int .i64 CE), zsV wo, tV, cV (.int .i64 CE)] | _ => [cV (.agg #[.slice ad nd cd, .slice av nv cv]), cV (.slice (some ⟨b1, f1, none⟩) n cap), cV (.int .i64 (j : Nat)), cV (.pointer (some ⟨b1, f1 + j * 5, none⟩)), cV (.agg #[.int .i64 K1, .int .i64 K2, .int .i64 K3, .slice a2 L1 c2, .string S]), tV, tuV CE, tV, cV (.int .i64 CE), rjV JT wo s1, tV, cV (.int .i64 CE)]) (fun _ wq => Below wo.heap.size wo wq) [10] [(0, 0), (0, 0), (0, 0), (0, 0), (0, 0), (0, 0), (0, 0), (0, 0), (0, 1), (0, 0), (0, 1), (0, 1)] [[(5, none)], [(1, none)], [(7, none)], [(24, some 1), (25, some 2)], [(26, some 3)], [(23, some 0), (27, some 4)], [(28, some 5)], [(22, some 6)], [(22, some 6)], [], [(8, some 9), (29, some 7)], [(30, some 8)]] 12 1 88 (by kernel_rfl) rfl rfl rfl (by kernel_rfl) (by kernel_rfl) (by decide) (by kernel_rfl) ?_ ?_ ?_ ?_ ?_
        · exact fun ph w1 w2 h hb => h.trans (hb.mono h.size)
        · exact (Below.refl _ _)
        · show ∀ i, i < 12 → _
          iterate 12 (refine fls ?_ ?_)
          · exact fl0
          · intro hne lo hi ph hran hp1 hp2 a w1 hJ hsz hs      -- 0: slot 23
            obtain ⟨rfl, rfl⟩ : 0 = lo ∧ 0 = hi := Prod.mk.inj (Option.some.inj hran)
            obtain rfl : ph = 0 := by omega
            obtain ⟨h0, _⟩ := hs
            have h0 : a.tmps.getD 5 undef = .pointer (some ⟨PS, 0, none⟩) := h0
            obtain ⟨x0, x1⟩ := (HRX.out.later (show Below wo.heap.size wo w1 from hJ)).c2
            refine op_run rfl rfl (v := .agg #[.slice ad nd cd, .slice av nv cv]) (w' := w1) ?_ rfl (Below.refl _ _)
            simp [execOp, Act.eval, h0, x0, x1, go_sem]
          · intro hne lo hi ph hran hp1 hp2 a w1 hJ hsz hs      -- 1: slot 24
            obtain ⟨rfl, rfl⟩ : 0 = lo ∧ 0 = hi := Prod.mk.inj (Option.some.inj hran)
            obtain rfl : ph = 0 := by omega
            obtain ⟨h0, _⟩ := hs
            have h0 : a.tmps.getD 1 undef = .slice (some ⟨b1, f1, none⟩) n cap := h0
            refine op_run rfl rfl (v := .slice (some ⟨b1, f1, none⟩) n cap) (w' := w1) ?_ rfl (Below.refl _ _)
            simp [execOp, Act.eval, h0, go_sem]
          · intro hne lo hi ph hran hp1 hp2 a w1 hJ hsz hs      -- 2: slot 25
            obtain ⟨rfl, rfl⟩ : 0 = lo ∧ 0 = hi := Prod.mk.inj (Option.some.inj hran)
            obtain rfl : ph = 0 := by omega
            obtain ⟨h0, _⟩ := hs
            have h0 : a.tmps.getD 7 undef = .int .i64 (j : Nat) := h0
            refine op_run rfl rfl (v := .int .i64 (j : Nat)) (w' := w1) ?_ rfl (Below.refl _ _)
            simp [execOp, Act.eval, h0, go_sem]
          · intro hne lo hi ph hran hp1 hp2 a w1 hJ hsz hs      -- 3: slot 26
            obtain ⟨rfl, rfl⟩ : 0 = lo ∧ 0 = hi := Prod.mk.inj (Option.some.inj hran)
            obtain rfl : ph = 0 := by omega
            obtain ⟨h0, h1, _⟩ := hs
            have h0 : a.tmps.getD 24 undef = .slice (some ⟨b1, f1, none⟩) n cap := h0
            have h1 : a.tmps.getD 25 undef = .int .i64 (j : Nat) := h1
            have k1 := HJN2.out
            refine op_run rfl rfl (v := .pointer (some ⟨b1, f1 + j * 5, none⟩)) (w' := w1) ?_ rfl (Below.refl _ _)
            simp [execOp, Act.eval, h0, h1, k1, go_sem]
          · intro hne lo hi ph hran hp1 hp2 a w1 hJ hsz hs      -- 4: slot 27
            obtain ⟨rfl, rfl⟩ : 0 = lo ∧ 0 = hi := Prod.mk.inj (Option.some.inj hran)
            obtain rfl : ph = 0 := by omega
            obtain ⟨h0, _⟩ := hs
            have h0 : a.tmps.getD 26 undef = .pointer (some ⟨b1, f1 + j * 5, none⟩) := h0
            obtain ⟨k0, k1, k2, k3, k4⟩ := HE5.out w1 (show Below wo.heap.size wo w1 from hJ)
            refine op_run rfl rfl (v := .agg #[.int .i64 K1, .int .i64 K2, .int .i64 K3, .slice a2 L1 c2, .string S]) (w' := w1) ?_ rfl (Below.refl _ _)
            simp [execOp, Act.eval, h0, k0, k1, k2, k3, k4, go_sem]
          · intro hne lo hi ph hran hp1 hp2 a w1 hJ hsz hs      -- 5: slot 28
            obtain ⟨rfl, rfl⟩ : 0 = lo ∧ 0 = hi := Prod.mk.inj (Option.some.inj hran)
            obtain rfl : ph = 0 := by omega
            obtain ⟨h0, h1, _⟩ := hs
            have h0 : a.tmps.getD 23 undef = .agg #[.slice ad nd cd, .slice av nv cv] := h0
            have h1 : a.tmps.getD 27 undef = .agg #[.int .i64 K1, .int .i64 K2, .int .i64 K3, .slice a2 L1 c2, .string S] := h1
            refine op_call rfl rfl (f := 16) (args := #[.agg #[.slice ad nd cd, .slice av nv cv], .agg #[.int .i64 K1, .int .i64 K2, .int .i64 K3, .slice a2 L1 c2, .string S]]) (by simp [execOp, Act.eval, resolve, h0, h1, go_sem]) ?_
            exact (HAP.out w1 (show Below wo.heap.size wo w1 from hJ)).mono fun e w' he => by
              obtain ⟨d2, v2, h1, h2, h3⟩ := he
              exact ⟨_, h1, ⟨d2, v2, rfl, h2⟩, h3⟩
          · intro hne lo hi ph hran hp1 hp2 a w1 hJ hsz hs      -- 6: slot 22
            obtain ⟨rfl, rfl⟩ : 0 = lo ∧ 0 = hi := Prod.mk.inj (Option.some.inj hran)
            obtain rfl : ph = 0 := by omega
            obtain ⟨h0, _⟩ := hs
            have m0 : (apV JT s1 CE).p w1 (a.tmps.getD 28 undef) := h0
            obtain ⟨d2, v2, e20, hst⟩ := (show ∃ d v, a.tmps.getD 28 undef = .tuple #[.agg #[d, v], .int .i64 CE] ∧ StA JT w1 d v s1 from m0)
            refine op_run rfl rfl (v := .tuple #[.agg #[d2, v2], .int .i64 CE]) (w' := w1) ?_ ⟨d2, v2, rfl, hst⟩ (Below.refl _ _)
            simp [execOp, Act.eval, e20, go_sem]
          · intro hne lo hi ph hran hp1 hp2 a w1 hJ hsz hs      -- 7: slot 29
            obtain ⟨rfl, rfl⟩ : 0 = lo ∧ 0 = hi := Prod.mk.inj (Option.some.inj hran)
            obtain rfl : ph = 0 := by omega
            obtain ⟨h0, _⟩ := hs
            
            obtain ⟨d2, v2, e14, hst⟩ := (show ∃ d v, a.tmps.getD 22 undef = .tuple #[.agg #[d, v], .int .i64 CE] ∧ StA JT w1 d v s1 from h0)
            refine op_run rfl rfl (v := .agg #[d2, v2]) (w' := w1) ?_ ⟨d2, v2, rfl, hst⟩ (Below.refl _ _)
            simp [execOp, Act.eval, e14, go_sem]
          · intro hne lo hi ph hran hp1 hp2 a w1 hJ hsz hs      -- 8: slot 30
            obtain ⟨rfl, rfl⟩ : 0 = lo ∧ 1 = hi := Prod.mk.inj (Option.some.inj hran)
            rcases (by omega : ph = 0 ∨ ph = 1) with rfl | rfl
            · obtain ⟨h0, _⟩ := hs
              
              obtain ⟨d2, v2, e14⟩ : ∃ d v, a.tmps.getD 22 undef = .tuple #[.agg #[d, v], .int .i64 CE] := by
                first
                | exact h0
                | exact (let ⟨d, v, q, _⟩ := (show ∃ d v, a.tmps.getD 22 undef = .tuple #[.agg #[d, v], .int .i64 CE] ∧ StA JT w1 d v s1 from h0); ⟨d, v, q⟩)
              refine op_run rfl rfl (v := .int .i64 CE) (w' := w1) ?_ rfl (Below.refl _ _)
              simp [execOp, Act.eval, e14, go_sem]
            · obtain ⟨h0, _⟩ := hs
              
              obtain ⟨d2, v2, e14⟩ : ∃ d v, a.tmps.getD 22 undef = .tuple #[.agg #[d, v], .int .i64 CE] := by
                first
                | exact h0
                | exact (let ⟨d, v, q, _⟩ := (show ∃ d v, a.tmps.getD 22 undef = .tuple #[.agg #[d, v], .int .i64 CE] ∧ StA JT w1 d v s1 from h0); ⟨d, v, q⟩)
              refine op_run rfl rfl (v := .int .i64 CE) (w' := w1) ?_ rfl (Below.refl _ _)
              simp [execOp, Act.eval, e14, go_sem]
          · intro hne lo hi ph hran hp1 hp2 a w1 hJ hsz hs      -- 9: slot 8
            obtain ⟨rfl, rfl⟩ : 0 = lo ∧ 0 = hi := Prod.mk.inj (Option.some.inj hran)
            obtain rfl : ph = 0 := by omega
            refine op_run rfl rfl (v := .pointer (some ⟨w1.heap.size, 0, none⟩)) (w' := w1.alloc (.cells zeroSt 28)) ?_ ⟨w1.heap.size, rfl, RecAt.new w1 _ _, (show Below wo.heap.size wo w1 from hJ).size⟩ ((Below.refl _ _).alloc (Nat.le_refl _) _)
            simp [execOp, Act.eval, go_sem, ub0, zeroSt]
          · intro hne lo hi ph hran hp1 hp2 a w1 hJ hsz hs      -- 10: slot None
            exact absurd (by decide) hne
          · intro hne lo hi ph hran hp1 hp2 a w1 hJ hsz hs      -- 11: slot 9
            obtain ⟨rfl, rfl⟩ : 0 = lo ∧ 1 = hi := Prod.mk.inj (Option.some.inj hran)
            rcases (by omega : ph = 0 ∨ ph = 1) with rfl | rfl
            · obtain ⟨h0, _⟩ := hs
              have h0 : a.tmps.getD 30 undef = .int .i64 CE := h0
              refine op_run rfl rfl (v := .int .i64 CE) (w' := w1) ?_ rfl (Below.refl _ _)
              simp [execOp, Act.eval, h0, go_sem]
            · obtain ⟨h0, _⟩ := hs
              have h0 : a.tmps.getD 30 undef = .int .i64 CE := h0
              refine op_run rfl rfl (v := .int .i64 CE) (w' := w1) ?_ rfl (Below.refl _ _)
              simp [execOp, Act.eval, h0, go_sem]
        · show ∀ ph, ph < 1 → _
          iterate 1 (refine fls ?_ ?_)
          · exact fl0
          · intro i hi a w1 hJ hsz hs      -- heavy 0: op 10 slot None
            obtain rfl : 10 = i := Option.some.inj hi
            obtain ⟨h0, h1, _⟩ := hs
            have m0 : (zsV wo).p w1 (a.tmps.getD 8 undef) := h0
            have m1 : (stV JT s1).p w1 (a.tmps.getD 29 undef) := h1
            obtain ⟨PX, hvx, hX, hXs⟩ := (show ∃ g, a.tmps.getD 8 undef = .pointer (some ⟨g, 0, none⟩) ∧ RecAt w1 g zeroSt 28 ∧ wo.heap.size ≤ g from m0)
            obtain ⟨d1, v1, e21, md⟩ := (show ∃ d v, a.tmps.getD 29 undef = .agg #[d, v] ∧ StA JT w1 d v s1 from m1)
            have hone : (#[d1, v1] : Array Value).all (·.oneCell') = true := by
              obtain ⟨qa, qb, qc, qd, rfl, rfl, _, _⟩ := md.open
              simp [Value.oneCell']
            refine hv_recW rfl rfl (x := PX) (p := .tmp 8) (v := .tmp 29) (cs := zeroSt) (vs := #[d1, v1]) rfl hvx e21 hX rfl (by kernel_rfl) hone (fun w' => trivial) ?_
            intro w' r1 r2 r3 r4
            have hb : Below wo.heap.size wo w' := (show Below wo.heap.size wo w1 from hJ).grown r4 (show Below wo.heap.size wo w1 from hJ).size (fun q e => by cases e; exact hXs)
            have o1 : StA JT w' d1 v1 s1 := ((md.lessRec hX).keep (fun b hb2 hj => r3 b hj.2) (Nat.le_of_eq r2.symm)).weak fun b _ hj => hj.1
            exact ⟨hb, CalmW.all ⟨.inr fun _ _ h => h, .inr fun _ _ h => h, .inr fun _ _ h => h, .inr fun _ _ h => h, .inr fun _ _ h => h, .inr fun _ _ _ => trivial, .inr fun v hh h => (let ⟨d, v2, q, _⟩ := h; ⟨d, v2, q⟩), .inr fun _ _ _ => trivial, .inr fun _ _ h => h, .inr fun v hh _ => ⟨PX, d1, v1, (hh _ _ rfl rfl).trans hvx, r1, hXs, o1⟩, .inl rfl, .inr fun _ _ h => h, trivial⟩⟩
        intro f w1 hJ hv
        have e6 : (rjV JT wo s1).p w1 (f 8) := hv 9 _ 8 rfl rfl
        have e7 : f 9 = .int .i64 CE := hv 11 _ 9 rfl rfl
        have hbo : Below wo.heap.size wo w1 := hJ
        clear hv
        try simp only [Exit.then]
        simp only [putAll, List.foldl_cons, List.foldl_nil, Option.getD_some, Act.put, List.setIfInBounds_toArray, List.set_cons_succ, List.set_cons_zero]
        obtain ⟨PX, d1, v1, e6, r6, hXs, o1⟩ := e6
        rw [e6, e7]
        clear hJ e6 e7
        -- END A8
        obtain ⟨p1, p2, p3, p4, p5, p6, rfl, rfl⟩ := o1.shape
        have HXX := Lib.hid r6
        have HO1 := Lib.hid o1
        have HBW := Lib.hid (HBR.out.trans (hbo.mono HBR.out.size))
        have HRY := Lib.hid (HRX.out.later hbo)
        have HSY := Lib.hid (HSX.out.later hbo)
        have HTY := Lib.hid (HT.out.later ev_rel hbo)
        have HCL := Lib.hid (fun W (hb : Below w1.heap.size w1 W) => HCK.out W (hbo.trans (hb.mono hbo.size)))
        have HE6 := Lib.hid (fun W (hb : Below w1.heap.size w1 W) => HE5.out W (hbo.trans (hb.mono hbo.size)))
        have HPXS : Hid (PX ≠ PS) := Lib.hid (by have := HS.out.lt; omega)
        clear r6 o1 hbo hXs HRX HSX HT HCK HE5 HAP HS
        obtain ⟨wp, hwp⟩ : ∃ W, W = w1 := ⟨_, rfl⟩
        subst hwp
        go_upto_region 9 with fail
        -- REG A9
        refine wp_region_tab (L := [cV (.int .i64 CE), cV (.agg #[.slice ad nd cd, .slice av nv cv]), cV (.slice (some ⟨b1, f1, none⟩) n cap), cV (.int .i64 (j : Nat)), cV (.pointer (some ⟨b1, f1 + j * 5, none⟩)), cV (.agg #[.int .i64 K1, .int .i64 K2, .int .i64 K3, .slice a2 L1 c2, .string S]), cV (.int .i64 CE), cV (.bool false)]) [[(9, none)], [(5, none)], [(1, none)], [(7, none)], [(33, some 2), (34, some 3)], [(35, some 4)], [(32, some 1), (36, some 5)], [(31, some 0), (37, some 6)]] 8 88 (by kernel_rfl) rfl rfl (by kernel_rfl) (by kernel_rfl) ?_ ?_
        · show ∀ i, i < 8 → _
          iterate 8 (refine fls ?_ ?_)
          · exact fl0
          · intro a w1 hR hsz hs      -- 0: slot 31
            obtain ⟨h0, _⟩ := hs
            have h0 : a.tmps.getD 9 undef = .int .i64 CE := h0
            refine op_run rfl rfl (v := .int .i64 CE) (w' := w1) ?_ rfl (Below.refl _ _)
            simp [execOp, Act.eval, h0, go_sem]
          · intro a w1 hR hsz hs      -- 1: slot 32
            obtain ⟨h0, _⟩ := hs
            have h0 : a.tmps.getD 5 undef = .pointer (some ⟨PS, 0, none⟩) := h0
            obtain ⟨x0, x1⟩ := (HRY.out.later hR).c2
            refine op_run rfl rfl (v := .agg #[.slice ad nd cd, .slice av nv cv]) (w' := w1) ?_ rfl (Below.refl _ _)
            simp [execOp, Act.eval, h0, x0, x1, go_sem]
          · intro a w1 hR hsz hs      -- 2: slot 33
            obtain ⟨h0, _⟩ := hs
            have h0 : a.tmps.getD 1 undef = .slice (some ⟨b1, f1, none⟩) n cap := h0
            refine op_run rfl rfl (v := .slice (some ⟨b1, f1, none⟩) n cap) (w' := w1) ?_ rfl (Below.refl _ _)
            simp [execOp, Act.eval, h0, go_sem]
          · intro a w1 hR hsz hs      -- 3: slot 34
            obtain ⟨h0, _⟩ := hs
            have h0 : a.tmps.getD 7 undef = .int .i64 (j : Nat) := h0
            refine op_run rfl rfl (v := .int .i64 (j : Nat)) (w' := w1) ?_ rfl (Below.refl _ _)
            simp [execOp, Act.eval, h0, go_sem]
          · intro a w1 hR hsz hs      -- 4: slot 35
            obtain ⟨h0, h1, _⟩ := hs
            have h0 : a.tmps.getD 33 undef = .slice (some ⟨b1, f1, none⟩) n cap := h0
            have h1 : a.tmps.getD 34 undef = .int .i64 (j : Nat) := h1
            have k1 := HJN2.out
            refine op_run rfl rfl (v := .pointer (some ⟨b1, f1 + j * 5, none⟩)) (w' := w1) ?_ rfl (Below.refl _ _)
            simp [execOp, Act.eval, h0, h1, k1, go_sem]
          · intro a w1 hR hsz hs      -- 5: slot 36
            obtain ⟨h0, _⟩ := hs
            have h0 : a.tmps.getD 35 undef = .pointer (some ⟨b1, f1 + j * 5, none⟩) := h0
            obtain ⟨k0, k1, k2, k3, k4⟩ := HE6.out w1 hR
            refine op_run rfl rfl (v := .agg #[.int .i64 K1, .int .i64 K2, .int .i64 K3, .slice a2 L1 c2, .string S]) (w' := w1) ?_ rfl (Below.refl _ _)
            simp [execOp, Act.eval, h0, k0, k1, k2, k3, k4, go_sem]
          · intro a w1 hR hsz hs      -- 6: slot 37
            obtain ⟨h0, h1, _⟩ := hs
            have h0 : a.tmps.getD 32 undef = .agg #[.slice ad nd cd, .slice av nv cv] := h0
            have h1 : a.tmps.getD 36 undef = .agg #[.int .i64 K1, .int .i64 K2, .int .i64 K3, .slice a2 L1 c2, .string S] := h1
            refine op_call rfl rfl (f := 14) (args := #[.agg #[.slice ad nd cd, .slice av nv cv], .agg #[.int .i64 K1, .int .i64 K2, .int .i64 K3, .slice a2 L1 c2, .string S]]) (by simp [execOp, Act.eval, resolve, h0, h1, go_sem]) ?_
            exact calls_c (HCL.out w1 hR)
          · intro a w1 hR hsz hs      -- 7: slot 38
            obtain ⟨h0, h1, _⟩ := hs
            have h0 : a.tmps.getD 31 undef = .int .i64 CE := h0
            have h1 : a.tmps.getD 37 undef = .int .i64 CE := h1
            refine op_run rfl rfl (v := .bool false) (w' := w1) ?_ rfl (Below.refl _ _)
            simp [execOp, Act.eval, h0, h1, go_sem]
        intro f w1 hR hv
        have e38 : f 38 = .bool false := hv 7 _ 38 rfl rfl
        clear hv
        try simp only [Exit.then]
        simp only [putAll, List.foldl_cons, List.foldl_nil, Option.getD_some, Act.put, List.setIfInBounds_toArray, List.set_cons_succ, List.set_cons_zero]
        rw [e38]
        clear e38
        -- END A9
        have HR9 := Lib.hid hR
        clear hR
        replace HBW := Lib.hid (HBW.out.trans (HR9.out.mono HBW.out.size))
        replace HRY := Lib.hid (HRY.out.later HR9.out)
        replace HSY := Lib.hid (HSY.out.later HR9.out)
        replace HTY := Lib.hid (HTY.out.later ev_rel HR9.out)
        have HXY := Lib.hid (HXX.out.later HR9.out)
        replace HO1 := Lib.hid (HO1.out.later HR9.out)
        clear HCL HXX
        replace HE6 := Lib.hid (fun W (hb : Below w1.heap.size w1 W) => HE6.out W (HR9.out.trans (hb.mono HR9.out.size)))
        clear HR9
        obtain ⟨wq, hwq⟩ : ∃ W, W = w1 := ⟨_, rfl⟩
        subst hwq
        have HRL := Lib.hid (HEV.out.later HBW.out).rel
        by_cases hCE : CE = 0
        · have hc0 : (CE != 0) = false := by simp [hCE]
          subst hCE
          obtain ⟨hck, hs1⟩ := applyM_ok HAPQ.out
          have HY : Hid (foldM (newM size) (l.take (j + 1)) = s1) := Lib.hid (by rw [HSN.out, hs1])
          have HZ : Hid (takenM (newM size) (l.take (j + 1)) = tj ++ [ev]) := Lib.hid (by rw [HTN.out, if_pos hck])
          clear hck hs1
          obtain ⟨x0, x1⟩ := HXY.out.c2
          obtain ⟨k0, k1, k2, k3, k4⟩ := HE6.out wq (Below.refl _ _)
          go_upto_region 15 with (refine wpList_rec rfl rfl PS #[.slice ad nd cd, .slice av nv cv] #[.slice p1 p2 p3, .slice p4 p5 p6] rfl rfl HRY.out rfl (by kernel_rfl) (by simp [Value.oneCell']) ?_; intro w4 r1 r2 r3 r4)
          have HB4 := Lib.hid (HBW.out.grown r4 HBW.out.size (fun q e => by cases e; exact HPS.out))
          have HS4 : Hid (SAt (lessJ allJ u6) w4 PS s1) := Lib.hid (by rw [HJT.out]; exact ⟨p1, p2, p3, p4, p5, p6, r1, HO1.out.over HRY.out r3 r2⟩)
          have HNP := Lib.hid (HTY.out.neT HRY.out (by decide))
          have HT4 := Lib.hid (HTY.out.keptG ev_rel r4 HPS.out HRY.out (by decide) (fun b hb => by have := HPS.out; omega))
          have HR4 := Lib.hid (HEV.out.later HB4.out).rel
          have HJN3 := HJN2.out
          clear k0 k1 k2 k3 k4 x0 x1 r1 r2 r3 r4
          obtain ⟨k0, k1, k2, k3, k4⟩ := HEV.out.cells w4 HB4.out
          go_wp2_with (at_builtin; refine wp_nonL evT_ok ev_rel rfl (.tmp 64) (.tmp 69) rfl _ tj rfl w HT4.out ev (ev_rel.weak HR4.out fun b _ hb => ⟨hb, fun e => by have := (HT4.out.ltB e.symm).1; omega⟩) rfl (by intro u hu; simp only [List.mem_cons, List.not_mem_nil, or_false] at hu; rcases hu with rfl | rfl | rfl | rfl | rfl <;> rfl) rfl (by have := HTL.out; omega) ?_; intro v9 w9 o9 g9 e9)
          go_roundw
          case rel => exact ⟨j + 1, by go_num, by omega, o9.below, Lib.hid (by rw [HY.out]; exact HS4.out.grown HNP.out g9 e9), Lib.hid (by rw [HZ.out]; exact o9)⟩
          case measure => simp [intOf]; omega
        · have hc0 : (CE != 0) = true := by simp [hCE]
          obtain ⟨hck, hs1, hst⟩ := applyM_err HAPQ.out hCE
          have HY : Hid (foldM (newM size) (l.take (j + 1)) = sj) := Lib.hid (by rw [HSN.out, hst])
          have HZ : Hid (takenM (newM size) (l.take (j + 1)) = tj) := Lib.hid (by rw [HTN.out, if_neg (by rw [hck]; exact hCE)]; simp)
          subst hs1
          have hF1 : foldM sj [ev] = sj := by rw [foldM_cons, foldM_nil, hst]
          have HFO := Lib.hid (fun W (hb : Below wq.heap.size wq W) (v : Value) (h : QE allJ W v [ev]) => (show ∀ a n c, v = .slice a n c → Calls Try.prog 22 #[.agg #[.slice ad nd cd, .slice av nv cv], v] W (FoldIs (newB W) W sj) from fun a n c e => by
            subst e
            have := pfold14_any (.slice ad nd cd) (.slice av nv cv) sj a n c [ev] _ allJ W (HSY.out.later hb) HOKJ.out h
            rw [hF1] at this; exact this))
          have HSM := Lib.hid (fun W (hb : Below wq.heap.size wq W) (d v : Value) (h : StA allJ W d v sj) => psame14_yes d v (.slice ad nd cd) (.slice av nv cv) sj sj allJ _ W h (HSY.out.later hb) HOKJ.out.may HOKJ.out.may rfl)
          obtain ⟨qa, qc, hq1, -⟩ := HO1.out.data.row_n (n := 0) rfl
          obtain ⟨qb, qd, hq2, -⟩ := HO1.out.snaps.val (n := 0) rfl
          obtain ⟨rfl, rfl, rfl⟩ : p1 = qa ∧ p2 = 0 ∧ p3 = qc := by simpa using hq1
          obtain ⟨rfl, rfl, rfl⟩ : p4 = qb ∧ p5 = 0 ∧ p6 = qd := by simpa using hq2
          clear hck hst hF1 hCE
          go_upto_region 12 with fail
          -- REG A12
          refine wp_region_tab (L := [cV (.pointer (some ⟨PX, 0, none⟩)), cV (.slice p1 0 p3), cV (.int .i64 0), cV (.bool false), cV (.bool false), cV (.pointer (some ⟨PX, 1, none⟩)), cV (.slice p4 0 p6), cV (.int .i64 0), cV (.bool false), cV (.bool false), cV (.bool false), cV (.agg #[.slice ad nd cd, .slice av nv cv]), cV (.slice (some ⟨b1, f1, none⟩) n cap), cV (.int .i64 (j : Nat)), cV (.pointer (some ⟨b1, f1 + j * 5, none⟩)), cV (.agg #[.int .i64 K1, .int .i64 K2, .int .i64 K3, .slice a2 L1 c2, .string S]), erV ev, stV allJ sj, cV (.agg #[.slice ad nd cd, .slice av nv cv]), cV (.bool true), cV (.bool false), cV (.bool false)]) [[(8, none)], [(41, some 0)], [(42, some 1)], [(43, some 2)], [(44, some 3)], [(8, none), (45, some 4)], [(46, some 5), (45, some 4)], [(47, some 6), (45, some 4)], [(48, some 7), (45, some 4)], [(45, some 4), (49, some 8)], [(50, some 9)], [(5, none), (51, some 10)], [(1, none), (51, some 10)], [(7, none), (51, some 10)], [(53, some 12), (54, some 13), (51, some 10)], [(55, some 14), (51, some 10)], [(56, some 15), (51, some 10)], [(52, some 11), (57, some 16), (51, some 10)], [(5, none), (51, some 10)], [(58, some 17), (59, some 18), (51, some 10)], [(60, some 19), (51, some 10)], [(51, some 10), (61, some 20)]] 22 88 (by kernel_rfl) rfl rfl (by kernel_rfl) (by kernel_rfl) ?_ ?_
          · show ∀ i, i < 22 → _
            iterate 22 (refine fls ?_ ?_)
            · exact fl0
            · intro a w1 hR hsz hs      -- 0: slot 41
              obtain ⟨h0, _⟩ := hs
              have h0 : a.tmps.getD 8 undef = .pointer (some ⟨PX, 0, none⟩) := h0
              refine op_run rfl rfl (v := .pointer (some ⟨PX, 0, none⟩)) (w' := w1) ?_ rfl (Below.refl _ _)
              simp [execOp, Act.eval, h0, go_sem]
            · intro a w1 hR hsz hs      -- 1: slot 42
              obtain ⟨h0, _⟩ := hs
              have h0 : a.tmps.getD 41 undef = .pointer (some ⟨PX, 0, none⟩) := h0
              obtain ⟨x0, x1⟩ := (HXY.out.later hR).c2
              refine op_run rfl rfl (v := .slice p1 0 p3) (w' := w1) ?_ rfl (Below.refl _ _)
              simp [execOp, Act.eval, h0, x0, go_sem]
            · intro a w1 hR hsz hs      -- 2: slot 43
              obtain ⟨h0, _⟩ := hs
              have h0 : a.tmps.getD 42 undef = .slice p1 0 p3 := h0
              refine op_run rfl rfl (v := .int .i64 0) (w' := w1) ?_ rfl (Below.refl _ _)
              simp [execOp, Act.eval, h0, go_sem]
            · intro a w1 hR hsz hs      -- 3: slot 44
              obtain ⟨h0, _⟩ := hs
              have h0 : a.tmps.getD 43 undef = .int .i64 0 := h0
              refine op_run rfl rfl (v := .bool false) (w' := w1) ?_ rfl (Below.refl _ _)
              simp [execOp, Act.eval, h0, go_sem]
            · intro a w1 hR hsz hs      -- 4: slot 45
              obtain ⟨h0, _⟩ := hs
              have h0 : a.tmps.getD 44 undef = .bool false := h0
              refine op_run rfl rfl (v := .bool false) (w' := w1) ?_ rfl (Below.refl _ _)
              simp [execOp, Act.eval, h0, go_sem]
            · intro a w1 hR hsz hs      -- 5: slot 46
              obtain ⟨h0, h1, _⟩ := hs
              have h0 : a.tmps.getD 8 undef = .pointer (some ⟨PX, 0, none⟩) := h0
              have h1 : a.tmps.getD 45 undef = .bool false := h1
              refine opg_run rfl rfl rfl (by rw [hsz]; decide) h1 (v := .pointer (some ⟨PX, 1, none⟩)) (w' := w1) ?_ rfl (Below.refl _ _)
              simp [execOp, Act.eval, h0, go_sem]
            · intro a w1 hR hsz hs      -- 6: slot 47
              obtain ⟨h0, h1, _⟩ := hs
              have h0 : a.tmps.getD 46 undef = .pointer (some ⟨PX, 1, none⟩) := h0
              have h1 : a.tmps.getD 45 undef = .bool false := h1
              obtain ⟨x0, x1⟩ := (HXY.out.later hR).c2
              refine opg_run rfl rfl rfl (by rw [hsz]; decide) h1 (v := .slice p4 0 p6) (w' := w1) ?_ rfl (Below.refl _ _)
              simp [execOp, Act.eval, h0, x1, go_sem]
            · intro a w1 hR hsz hs      -- 7: slot 48
              obtain ⟨h0, h1, _⟩ := hs
              have h0 : a.tmps.getD 47 undef = .slice p4 0 p6 := h0
              have h1 : a.tmps.getD 45 undef = .bool false := h1
              refine opg_run rfl rfl rfl (by rw [hsz]; decide) h1 (v := .int .i64 0) (w' := w1) ?_ rfl (Below.refl _ _)
              simp [execOp, Act.eval, h0, go_sem]
            · intro a w1 hR hsz hs      -- 8: slot 49
              obtain ⟨h0, h1, _⟩ := hs
              have h0 : a.tmps.getD 48 undef = .int .i64 0 := h0
              have h1 : a.tmps.getD 45 undef = .bool false := h1
              refine opg_run rfl rfl rfl (by rw [hsz]; decide) h1 (v := .bool false) (w' := w1) ?_ rfl (Below.refl _ _)
              simp [execOp, Act.eval, h0, go_sem]
            · intro a w1 hR hsz hs      -- 9: slot 50
              obtain ⟨h0, h1, _⟩ := hs
              have h0 : a.tmps.getD 45 undef = .bool false := h0
              have h1 : a.tmps.getD 49 undef = .bool false := h1
              refine op_run rfl rfl (v := .bool false) (w' := w1) ?_ rfl (Below.refl _ _)
              simp [execOp, Act.eval, h0, h1, go_sem]
            · intro a w1 hR hsz hs      -- 10: slot 51
              obtain ⟨h0, _⟩ := hs
              have h0 : a.tmps.getD 50 undef = .bool false := h0
              refine op_run rfl rfl (v := .bool false) (w' := w1) ?_ rfl (Below.refl _ _)
              simp [execOp, Act.eval, h0, go_sem]
            · intro a w1 hR hsz hs      -- 11: slot 52
              obtain ⟨h0, h1, _⟩ := hs
              have h0 : a.tmps.getD 5 undef = .pointer (some ⟨PS, 0, none⟩) := h0
              have h1 : a.tmps.getD 51 undef = .bool false := h1
              obtain ⟨x0, x1⟩ := (HRY.out.later hR).c2
              refine opg_run rfl rfl rfl (by rw [hsz]; decide) h1 (v := .agg #[.slice ad nd cd, .slice av nv cv]) (w' := w1) ?_ rfl (Below.refl _ _)
              simp [execOp, Act.eval, h0, x0, x1, go_sem]
            · intro a w1 hR hsz hs      -- 12: slot 53
              obtain ⟨h0, h1, _⟩ := hs
              have h0 : a.tmps.getD 1 undef = .slice (some ⟨b1, f1, none⟩) n cap := h0
              have h1 : a.tmps.getD 51 undef = .bool false := h1
              refine opg_run rfl rfl rfl (by rw [hsz]; decide) h1 (v := .slice (some ⟨b1, f1, none⟩) n cap) (w' := w1) ?_ rfl (Below.refl _ _)
              simp [execOp, Act.eval, h0, go_sem]
            · intro a w1 hR hsz hs      -- 13: slot 54
              obtain ⟨h0, h1, _⟩ := hs
              have h0 : a.tmps.getD 7 undef = .int .i64 (j : Nat) := h0
              have h1 : a.tmps.getD 51 undef = .bool false := h1
              refine opg_run rfl rfl rfl (by rw [hsz]; decide) h1 (v := .int .i64 (j : Nat)) (w' := w1) ?_ rfl (Below.refl _ _)
              simp [execOp, Act.eval, h0, go_sem]
            · intro a w1 hR hsz hs      -- 14: slot 55
              obtain ⟨h0, h1, h2, _⟩ := hs
              have h0 : a.tmps.getD 53 undef = .slice (some ⟨b1, f1, none⟩) n cap := h0
              have h1 : a.tmps.getD 54 undef = .int .i64 (j : Nat) := h1
              have h2 : a.tmps.getD 51 undef = .bool false := h2
              have k1 := HJN2.out
              refine opg_run rfl rfl rfl (by rw [hsz]; decide) h2 (v := .pointer (some ⟨b1, f1 + j * 5, none⟩)) (w' := w1) ?_ rfl (Below.refl _ _)
              simp [execOp, Act.eval, h0, h1, k1, go_sem]
            · intro a w1 hR hsz hs      -- 15: slot 56
              obtain ⟨h0, h1, _⟩ := hs
              have h0 : a.tmps.getD 55 undef = .pointer (some ⟨b1, f1 + j * 5, none⟩) := h0
              have h1 : a.tmps.getD 51 undef = .bool false := h1
              obtain ⟨k0, k1, k2, k3, k4⟩ := HE6.out w1 hR
              refine opg_run rfl rfl rfl (by rw [hsz]; decide) h1 (v := .agg #[.int .i64 K1, .int .i64 K2, .int .i64 K3, .slice a2 L1 c2, .string S]) (w' := w1) ?_ rfl (Below.refl _ _)
              simp [execOp, Act.eval, h0, k0, k1, k2, k3, k4, go_sem]
            · intro a w1 hR hsz hs      -- 16: slot 57
              obtain ⟨h0, h1, _⟩ := hs
              have h0 : a.tmps.getD 56 undef = .agg #[.int .i64 K1, .int .i64 K2, .int .i64 K3, .slice a2 L1 c2, .string S] := h0
              have h1 : a.tmps.getD 51 undef = .bool false := h1
              have hba : Below w1.heap.size w1 (w1.alloc (.cells #[.int .i64 K1, .int .i64 K2, .int .i64 K3, .slice a2 L1 c2, .string S] 33)) := (Below.refl _ _).alloc (Nat.le_refl _) _
              have hrel := ev_rel.later HRL.out hR
              have g0 : a.tmps[56]?.getD undef = .agg #[.int .i64 K1, .int .i64 K2, .int .i64 K3, .slice a2 L1 c2, .string S] := (Array.getD_eq_getD_getElem? ..).symm.trans h0
              refine opg_run rfl rfl rfl (by rw [hsz]; decide) h1 (v := .slice (some ⟨w1.heap.size, 0, none⟩) 1 1) (w' := w1.alloc (.cells #[.int .i64 K1, .int .i64 K2, .int .i64 K3, .slice a2 L1 c2, .string S] 33)) ?_ ⟨w1.heap.size, rfl, qe_one hrel⟩ hba
              simp [execOp, Act.eval, h0, g0, go_sem, ue0, ue1]
            · intro a w1 hR hsz hs      -- 17: slot 58
              obtain ⟨h0, h1, h2, _⟩ := hs
              have h0 : a.tmps.getD 52 undef = .agg #[.slice ad nd cd, .slice av nv cv] := h0
              obtain ⟨g1, h1, q1⟩ := (show ∃ g, a.tmps.getD 57 undef = .slice (some ⟨g, 0, none⟩) 1 1 ∧ QE allJ w1 (a.tmps.getD 57 undef) [ev] from h1); rw [h1] at q1
              have h2 : a.tmps.getD 51 undef = .bool false := h2
              refine opg_call rfl rfl rfl (by rw [hsz]; decide) h2 (f := 22) (args := #[.agg #[.slice ad nd cd, .slice av nv cv], .slice (some ⟨g1, 0, none⟩) 1 1]) (by simp [execOp, Act.eval, resolve, h0, h1, go_sem]) ?_
              exact calls_st (HFO.out w1 hR _ q1 _ _ _ rfl)
            · intro a w1 hR hsz hs      -- 18: slot 59
              obtain ⟨h0, h1, _⟩ := hs
              have h0 : a.tmps.getD 5 undef = .pointer (some ⟨PS, 0, none⟩) := h0
              have h1 : a.tmps.getD 51 undef = .bool false := h1
              obtain ⟨x0, x1⟩ := (HRY.out.later hR).c2
              refine opg_run rfl rfl rfl (by rw [hsz]; decide) h1 (v := .agg #[.slice ad nd cd, .slice av nv cv]) (w' := w1) ?_ rfl (Below.refl _ _)
              simp [execOp, Act.eval, h0, x0, x1, go_sem]
            · intro a w1 hR hsz hs      -- 19: slot 60
              obtain ⟨h0, h1, h2, _⟩ := hs
              obtain ⟨d0, v0, h0, s0⟩ := (show ∃ d v, a.tmps.getD 58 undef = .agg #[d, v] ∧ StA allJ w1 d v sj from h0)
              have h1 : a.tmps.getD 59 undef = .agg #[.slice ad nd cd, .slice av nv cv] := h1
              have h2 : a.tmps.getD 51 undef = .bool false := h2
              refine opg_call rfl rfl rfl (by rw [hsz]; decide) h2 (f := 26) (args := #[.agg #[d0, v0], .agg #[.slice ad nd cd, .slice av nv cv]]) (by simp [execOp, Act.eval, resolve, h0, h1, go_sem]) ?_
              exact calls_c (HSM.out w1 hR _ _ s0)
            · intro a w1 hR hsz hs      -- 20: slot 61
              obtain ⟨h0, h1, _⟩ := hs
              have h0 : a.tmps.getD 60 undef = .bool true := h0
              have h1 : a.tmps.getD 51 undef = .bool false := h1
              refine opg_run rfl rfl rfl (by rw [hsz]; decide) h1 (v := .bool false) (w' := w1) ?_ rfl (Below.refl _ _)
              simp [execOp, Act.eval, h0, go_sem]
            · intro a w1 hR hsz hs      -- 21: slot 62
              obtain ⟨h0, h1, _⟩ := hs
              have h0 : a.tmps.getD 51 undef = .bool false := h0
              have h1 : a.tmps.getD 61 undef = .bool false := h1
              refine op_run rfl rfl (v := .bool false) (w' := w1) ?_ rfl (Below.refl _ _)
              simp [execOp, Act.eval, h0, h1, go_sem]
          intro f w1 hR hv
          have e62 : f 62 = .bool false := hv 21 _ 62 rfl rfl
          clear hv
          try simp only [Exit.then]
          simp only [putAll, List.foldl_cons, List.foldl_nil, Option.getD_some, Act.put, List.setIfInBounds_toArray, List.set_cons_succ, List.set_cons_zero]
          rw [e62]
          clear e62
          -- END A12
          have HB12 := Lib.hid (HBW.out.trans (hR.mono HBW.out.size))
          have HS12 : Hid (SAt (lessJ allJ u6) w1 PS sj) := Lib.hid ⟨ad, nd, cd, av, nv, cv, HRY.out.later hR, HSY.out.later hR⟩
          have HT12 := Lib.hid (HTY.out.later ev_rel hR)
          clear hR
          go_wp2_with fail
          go_roundw
          case rel => exact ⟨j + 1, by go_num, by omega, HB12.out, Lib.hid (by rw [HY.out]; exact HS12.out), Lib.hid (by rw [HZ.out]; exact HT12.out)⟩
          case measure => simp [intOf]; omega
      · have hjN : j = n := by omega
        subst hjN
        have hjd : decide ((j : Int) < (j : Int)) = false := decide_eq_false (by omega)
        obtain ⟨FL, hFL⟩ : ∃ z, foldM (newM size) l = z := ⟨_, rfl⟩
        have htk : l.take j = l := List.take_of_length_le (by rw [HN.out]; omega)
        rw [htk] at HS HT
        have hFT : foldM (newM size) (takenM (newM size) l) = FL := by rw [foldM_taken, hFL]
        rw [hFL] at HS
        obtain ⟨tks, htks⟩ : ∃ z, takenM (newM size) l = z := ⟨_, rfl⟩
        rw [htks] at HT hFT
        have hokF : StOk FL := by rw [← hFL]; exact foldM_ok (newM_ok size) _
        obtain ⟨at', ct, htv⟩ := HT.out.val evT_ok (rfl : tks.length = tks.length)
        obtain ⟨nt, hnt⟩ : ∃ z, tks.length = z := ⟨_, rfl⟩
        rw [hnt] at htv
        subst htv
        have HQT := Lib.hid ((HT.out.weakJ (J' := allJ) ev_rel fun _ _ _ => trivial).row evT_ok ev_rel (allJ_new _)).q
        have HLQ := Lib.hid (HL.out.later ev_rel HBR.out)
        obtain ⟨ad, nd, cd, av, nv, cv, hRX, hST⟩ := HS.out
        have HRY := Lib.hid hRX
        have HOF := Lib.hid hokF
        have HF1 := Lib.hid (fun W (hb : Below wo.heap.size wo W) (d v : Value) (h : StA allJ W d v (newM size)) => by
          have := pfold14_any d v (newM size) at' nt ct tks allJ allJ W h (newM_ok size) (HQT.out.later ev_rel hb)
          rw [hFT] at this; exact this)
        have HF2 := Lib.hid (fun W (hb : Below wo.heap.size wo W) (d v : Value) (h : StA allJ W d v (newM size)) => by
          have := pfold14_any d v (newM size) a1 j cap l allJ _ W h (newM_ok size) (HLQ.out.later ev_rel hb)
          rw [hFL] at this; exact this)
        have HSM := Lib.hid (fun W (hb : Below wo.heap.size wo W) (d v : Value) (h : StA allJ W d v FL) => psame14_yes (.slice ad nd cd) (.slice av nv cv) d v FL FL _ allJ W (hST.later hb) h hokF.may hokF.may rfl)
        clear hRX hST hFL htk hFT htks hokF hnt HT HS
        go_upto_region 16 with fail
        -- REG A16
        refine wp_region_tab (L := [cV (.agg #[.slice ad nd cd, .slice av nv cv]), cV (.int .i64 size), stV allJ (newM size), cV (.slice at' nt ct), stV allJ (FL), cV (.bool true), cV (.bool true), cV (.agg #[.slice ad nd cd, .slice av nv cv]), cV (.int .i64 size), stV allJ (newM size), cV (.slice a1 j cap), stV allJ (FL), cV (.bool true), cV (.bool true), cV (.bool true), cV (.bool true), cV (.bool true), cV (.bool true)]) [[(5, none)], [(0, none)], [(72, some 1)], [(6, none)], [(73, some 2), (74, some 3)], [(71, some 0), (75, some 4)], [(76, some 5)], [(5, none), (77, some 6)], [(0, none), (77, some 6)], [(79, some 8), (77, some 6)], [(1, none), (77, some 6)], [(80, some 9), (81, some 10), (77, some 6)], [(78, some 7), (82, some 11), (77, some 6)], [(77, some 6), (83, some 12)], [(84, some 13)], [(85, some 14)], [(85, some 14), (86, some 15)], [(87, some 16)]] 18 88 (by kernel_rfl) rfl rfl (by kernel_rfl) (by kernel_rfl) ?_ ?_
        · show ∀ i, i < 18 → _
          iterate 18 (refine fls ?_ ?_)
          · exact fl0
          · intro a w1 hR hsz hs      -- 0: slot 71
            obtain ⟨h0, _⟩ := hs
            have h0 : a.tmps.getD 5 undef = .pointer (some ⟨PS, 0, none⟩) := h0
            obtain ⟨x0, x1⟩ := (HRY.out.later hR).c2
            refine op_run rfl rfl (v := .agg #[.slice ad nd cd, .slice av nv cv]) (w' := w1) ?_ rfl (Below.refl _ _)
            simp [execOp, Act.eval, h0, x0, x1, go_sem]
          · intro a w1 hR hsz hs      -- 1: slot 72
            obtain ⟨h0, _⟩ := hs
            have h0 : a.tmps.getD 0 undef = .int .i64 size := h0
            refine op_run rfl rfl (v := .int .i64 size) (w' := w1) ?_ rfl (Below.refl _ _)
            simp [execOp, Act.eval, h0, go_sem]
          · intro a w1 hR hsz hs      -- 2: slot 73
            obtain ⟨h0, _⟩ := hs
            have h0 : a.tmps.getD 72 undef = .int .i64 size := h0
            refine op_call rfl rfl (f := 12) (args := #[.int .i64 size]) (by simp [execOp, Act.eval, resolve, h0, go_sem]) ?_
            exact calls_st (pnew14_any size w1)
          · intro a w1 hR hsz hs      -- 3: slot 74
            obtain ⟨h0, _⟩ := hs
            have h0 : a.tmps.getD 6 undef = .slice at' nt ct := h0
            refine op_run rfl rfl (v := .slice at' nt ct) (w' := w1) ?_ rfl (Below.refl _ _)
            simp [execOp, Act.eval, h0, go_sem]
          · intro a w1 hR hsz hs      -- 4: slot 75
            obtain ⟨h0, h1, _⟩ := hs
            obtain ⟨d0, v0, h0, s0⟩ := (show ∃ d v, a.tmps.getD 73 undef = .agg #[d, v] ∧ StA allJ w1 d v (newM size) from h0)
            have h1 : a.tmps.getD 74 undef = .slice at' nt ct := h1
            refine op_call rfl rfl (f := 22) (args := #[.agg #[d0, v0], .slice at' nt ct]) (by simp [execOp, Act.eval, resolve, h0, h1, go_sem]) ?_
            exact calls_st (HF1.out w1 hR _ _ s0)
          · intro a w1 hR hsz hs      -- 5: slot 76
            obtain ⟨h0, h1, _⟩ := hs
            have h0 : a.tmps.getD 71 undef = .agg #[.slice ad nd cd, .slice av nv cv] := h0
            obtain ⟨d1, v1, h1, s1⟩ := (show ∃ d v, a.tmps.getD 75 undef = .agg #[d, v] ∧ StA allJ w1 d v (FL) from h1)
            refine op_call rfl rfl (f := 26) (args := #[.agg #[.slice ad nd cd, .slice av nv cv], .agg #[d1, v1]]) (by simp [execOp, Act.eval, resolve, h0, h1, go_sem]) ?_
            exact calls_c (HSM.out w1 hR _ _ s1)
          · intro a w1 hR hsz hs      -- 6: slot 77
            obtain ⟨h0, _⟩ := hs
            have h0 : a.tmps.getD 76 undef = .bool true := h0
            refine op_run rfl rfl (v := .bool true) (w' := w1) ?_ rfl (Below.refl _ _)
            simp [execOp, Act.eval, h0, go_sem]
          · intro a w1 hR hsz hs      -- 7: slot 78
            obtain ⟨h0, h1, _⟩ := hs
            have h0 : a.tmps.getD 5 undef = .pointer (some ⟨PS, 0, none⟩) := h0
            have h1 : a.tmps.getD 77 undef = .bool true := h1
            obtain ⟨x0, x1⟩ := (HRY.out.later hR).c2
            refine opg_run rfl rfl rfl (by rw [hsz]; decide) h1 (v := .agg #[.slice ad nd cd, .slice av nv cv]) (w' := w1) ?_ rfl (Below.refl _ _)
            simp [execOp, Act.eval, h0, x0, x1, go_sem]
          · intro a w1 hR hsz hs      -- 8: slot 79
            obtain ⟨h0, h1, _⟩ := hs
            have h0 : a.tmps.getD 0 undef = .int .i64 size := h0
            have h1 : a.tmps.getD 77 undef = .bool true := h1
            refine opg_run rfl rfl rfl (by rw [hsz]; decide) h1 (v := .int .i64 size) (w' := w1) ?_ rfl (Below.refl _ _)
            simp [execOp, Act.eval, h0, go_sem]
          · intro a w1 hR hsz hs      -- 9: slot 80
            obtain ⟨h0, h1, _⟩ := hs
            have h0 : a.tmps.getD 79 undef = .int .i64 size := h0
            have h1 : a.tmps.getD 77 undef = .bool true := h1
            refine opg_call rfl rfl rfl (by rw [hsz]; decide) h1 (f := 12) (args := #[.int .i64 size]) (by simp [execOp, Act.eval, resolve, h0, go_sem]) ?_
            exact calls_st (pnew14_any size w1)
          · intro a w1 hR hsz hs      -- 10: slot 81
            obtain ⟨h0, h1, _⟩ := hs
            have h0 : a.tmps.getD 1 undef = .slice a1 j cap := h0
            have h1 : a.tmps.getD 77 undef = .bool true := h1
            refine opg_run rfl rfl rfl (by rw [hsz]; decide) h1 (v := .slice a1 j cap) (w' := w1) ?_ rfl (Below.refl _ _)
            simp [execOp, Act.eval, h0, go_sem]
          · intro a w1 hR hsz hs      -- 11: slot 82
            obtain ⟨h0, h1, h2, _⟩ := hs
            obtain ⟨d0, v0, h0, s0⟩ := (show ∃ d v, a.tmps.getD 80 undef = .agg #[d, v] ∧ StA allJ w1 d v (newM size) from h0)
            have h1 : a.tmps.getD 81 undef = .slice a1 j cap := h1
            have h2 : a.tmps.getD 77 undef = .bool true := h2
            refine opg_call rfl rfl rfl (by rw [hsz]; decide) h2 (f := 22) (args := #[.agg #[d0, v0], .slice a1 j cap]) (by simp [execOp, Act.eval, resolve, h0, h1, go_sem]) ?_
            exact calls_st (HF2.out w1 hR _ _ s0)
          · intro a w1 hR hsz hs      -- 12: slot 83
            obtain ⟨h0, h1, h2, _⟩ := hs
            have h0 : a.tmps.getD 78 undef = .agg #[.slice ad nd cd, .slice av nv cv] := h0
            obtain ⟨d1, v1, h1, s1⟩ := (show ∃ d v, a.tmps.getD 82 undef = .agg #[d, v] ∧ StA allJ w1 d v (FL) from h1)
            have h2 : a.tmps.getD 77 undef = .bool true := h2
            refine opg_call rfl rfl rfl (by rw [hsz]; decide) h2 (f := 26) (args := #[.agg #[.slice ad nd cd, .slice av nv cv], .agg #[d1, v1]]) (by simp [execOp, Act.eval, resolve, h0, h1, go_sem]) ?_
            exact calls_c (HSM.out w1 hR _ _ s1)
          · intro a w1 hR hsz hs      -- 13: slot 84
            obtain ⟨h0, h1, _⟩ := hs
            have h0 : a.tmps.getD 77 undef = .bool true := h0
            have h1 : a.tmps.getD 83 undef = .bool true := h1
            refine op_run rfl rfl (v := .bool true) (w' := w1) ?_ rfl (Below.refl _ _)
            simp [execOp, Act.eval, h0, h1, go_sem]
          · intro a w1 hR hsz hs      -- 14: slot 85
            obtain ⟨h0, _⟩ := hs
            have h0 : a.tmps.getD 84 undef = .bool true := h0
            refine op_run rfl rfl (v := .bool true) (w' := w1) ?_ rfl (Below.refl _ _)
            simp [execOp, Act.eval, h0, go_sem]
          · intro a w1 hR hsz hs      -- 15: slot 86
            obtain ⟨h0, _⟩ := hs
            have h0 : a.tmps.getD 85 undef = .bool true := h0
            refine opg_call rfl rfl rfl (by rw [hsz]; decide) h0 (f := 11) (args := #[]) (by simp [execOp, Act.eval, resolve, go_sem]) ?_
            exact calls_c (known14_any w1)
          · intro a w1 hR hsz hs      -- 16: slot 87
            obtain ⟨h0, h1, _⟩ := hs
            have h0 : a.tmps.getD 85 undef = .bool true := h0
            have h1 : a.tmps.getD 86 undef = .bool true := h1
            refine op_run rfl rfl (v := .bool true) (w' := w1) ?_ rfl (Below.refl _ _)
            simp [execOp, Act.eval, h0, h1, go_sem]
          · intro a w1 hR hsz hs      -- 17: slot 4
            obtain ⟨h0, _⟩ := hs
            have h0 : a.tmps.getD 87 undef = .bool true := h0
            refine op_run rfl rfl (v := .bool true) (w' := w1) ?_ rfl (Below.refl _ _)
            simp [execOp, Act.eval, h0, go_sem]
        intro f w1 hR hv
        have e4 : f 4 = .bool true := hv 17 _ 4 rfl rfl
        clear hv
        try simp only [Exit.then]
        simp only [putAll, List.foldl_cons, List.foldl_nil, Option.getD_some, Act.put, List.setIfInBounds_toArray, List.set_cons_succ, List.set_cons_zero]
        rw [e4]
        clear e4
        -- END A16
        have HBk := Lib.hid (HBR.out.trans (hR.mono HBR.out.size))
        clear hR
        go_wp2_with fail
        go_ret
        exact ⟨rfl, HBk.out⟩
end Go.Proofs.Ytghglbaflmbeoaa
