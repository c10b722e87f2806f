/- The law 'ModelPlays', walked. -/
import Derived.Test.YtghglbaflmbeoaaMdK
import Derived.Test.YtghglbaflmbeoaaPhW
import Derived.Test.YtghglbaflmbeoaaMdC
namespace Go.Proofs.Ytghglbaflmbeoaa
open Go.RowKit Go.Proofs
set_option linter.unusedVariables false
set_option linter.unusedSimpArgs false
set_option linter.unnecessarySimpa false

/-! ### two states, each into the other's block -/
abbrev Sl3 := Option Addr × Nat × Nat
def slv (s : Sl3) : Value := .slice s.1 s.2.1 s.2.2
def RS (w : World) (P : Nat) (A : Sl3 × Sl3) : Prop := RecAt w P #[slv A.1, slv A.2] tSt
def jAB (w : World) (PA PB PC PD : Nat) (A B C D : Sl3 × Sl3) (s : Sx) : Nat → World → Prop
  | 0, w1 => RS w1 PA A ∧ RS w1 PB B ∧ RS w1 PC C ∧ RS w1 PD D ∧ StA allJ w1 (slv C.1) (slv C.2) s ∧ StA allJ w1 (slv D.1) (slv D.2) s ∧ Below w.heap.size w w1
  | 1, w1 => RS w1 PA C ∧ RS w1 PB B ∧ RS w1 PC C ∧ RS w1 PD D ∧ StA allJ w1 (slv C.1) (slv C.2) s ∧ StA allJ w1 (slv D.1) (slv D.2) s ∧ Below w.heap.size w w1
  | _ + 2, w1 => RS w1 PA C ∧ RS w1 PB D ∧ RS w1 PC C ∧ RS w1 PD D ∧ StA allJ w1 (slv C.1) (slv C.2) s ∧ StA allJ w1 (slv D.1) (slv D.2) s ∧ Below w.heap.size w w1
theorem jAB_at {w : World} {PA PB PC PD : Nat} {A B C D : Sl3 × Sl3} {s : Sx} : ∀ {ph w1}, jAB w PA PB PC PD A B C D s ph w1 → (∃ X, RS w1 PA X) ∧ (∃ X, RS w1 PB X) ∧ RS w1 PC C ∧ RS w1 PD D ∧ StA allJ w1 (slv C.1) (slv C.2) s ∧ StA allJ w1 (slv D.1) (slv D.2) s ∧ Below w.heap.size w w1
  | 0, w1, h => ⟨⟨_, h.1⟩, ⟨_, h.2.1⟩, h.2.2⟩
  | 1, w1, h => ⟨⟨_, h.1⟩, ⟨_, h.2.1⟩, h.2.2⟩
  | _ + 2, w1, h => ⟨⟨_, h.1⟩, ⟨_, h.2.1⟩, h.2.2⟩
theorem RS.later {w w' : World} {P : Nat} {A : Sl3 × Sl3} (h : RS w P A) (hb : Below w.heap.size w w') : RS w' P A := RecAt.later h hb
theorem jAB_st (w : World) (PA PB PC PD : Nat) (A B C D : Sl3 × Sl3) (s : Sx) : ∀ ph w1 w2, jAB w PA PB PC PD A B C D s ph w1 → Below w1.heap.size w1 w2 → jAB w PA PB PC PD A B C D s ph w2
  | 0, w1, w2, h, hb => ⟨h.1.later hb, h.2.1.later hb, h.2.2.1.later hb, h.2.2.2.1.later hb, h.2.2.2.2.1.later hb, h.2.2.2.2.2.1.later hb, h.2.2.2.2.2.2.trans (hb.mono h.2.2.2.2.2.2.size)⟩
  | 1, w1, w2, h, hb => ⟨h.1.later hb, h.2.1.later hb, h.2.2.1.later hb, h.2.2.2.1.later hb, h.2.2.2.2.1.later hb, h.2.2.2.2.2.1.later hb, h.2.2.2.2.2.2.trans (hb.mono h.2.2.2.2.2.2.size)⟩
  | _ + 2, w1, w2, h, hb => ⟨h.1.later hb, h.2.1.later hb, h.2.2.1.later hb, h.2.2.2.1.later hb, h.2.2.2.2.1.later hb, h.2.2.2.2.2.1.later hb, h.2.2.2.2.2.2.trans (hb.mono h.2.2.2.2.2.2.size)⟩
theorem RS.keep {w w' : World} {P Q : Nat} {A : Sl3 × Sl3} (h : RS w P A) (r3 : ∀ y, y ≠ Q → w'.heap[y]? = w.heap[y]?) (hne : P ≠ Q) : RS w' P A := by
  unfold RS RecAt at *; rw [r3 P hne]; exact h
structure Apart4 (w : World) (PA PB PC PD : Nat) : Prop where
  ab : PA ≠ PB
  ac : PA ≠ PC
  ad : PA ≠ PD
  bc : PB ≠ PC
  bd : PB ≠ PD
  ga : w.heap.size ≤ PA
  gb : w.heap.size ≤ PB
theorem jAB.first {w : World} {PA PB PC PD : Nat} {A B C D : Sl3 × Sl3} {s : Sx} {w1 w' : World} (h : jAB w PA PB PC PD A B C D s 0 w1) (hp : Apart4 w PA PB PC PD) (r1 : RecAt w' PA #[slv C.1, slv C.2] tSt) (r2 : w'.heap.size = w1.heap.size) (r3 : ∀ y, y ≠ PA → w'.heap[y]? = w1.heap[y]?) (r4 : w1.grownBy w' (some PA)) : jAB w PA PB PC PD A B C D s 1 w' := by
  obtain ⟨h1, h2, h3, h4, h5, h6, h7⟩ := h
  exact ⟨r1, h2.keep r3 hp.ab.symm, h3.keep r3 hp.ac.symm, h4.keep r3 hp.ad.symm, h5.over h1 r3 r2, h6.over h1 r3 r2, h7.grown r4 h7.size (fun q e => by cases e; exact hp.ga)⟩
theorem jAB.second {w : World} {PA PB PC PD : Nat} {A B C D : Sl3 × Sl3} {s : Sx} {w1 w' : World} (h : jAB w PA PB PC PD A B C D s 1 w1) (hp : Apart4 w PA PB PC PD) (r1 : RecAt w' PB #[slv D.1, slv D.2] tSt) (r2 : w'.heap.size = w1.heap.size) (r3 : ∀ y, y ≠ PB → w'.heap[y]? = w1.heap[y]?) (r4 : w1.grownBy w' (some PB)) : jAB w PA PB PC PD A B C D s 2 w' := by
  obtain ⟨h1, h2, h3, h4, h5, h6, h7⟩ := h
  exact ⟨h1.keep r3 hp.ab, r1, h3.keep r3 hp.bc.symm, h4.keep r3 hp.bd.symm, h5.over h2 r3 r2, h6.over h2 r3 r2, h7.grown r4 h7.size (fun q e => by cases e; exact hp.gb)⟩

set_option maxRecDepth 100000 in
set_option maxHeartbeats 12800000 in
theorem modelPlays_walk (size : Int) (a1 : Option Addr) (n cap : Nat) (l : List Ev) (T : ByteArray) (off num : Int) (w : World) (h1 : QE allJ w (.slice a1 n cap) l) (hT : T.size ≤ 9223372036854775807) (ho : inB off) (hm : inB num) :
    Calls Try.prog 3 #[.int .i64 size, .slice a1 n cap, .string T, .int .i64 off, .int .i64 num] w fun x w' => x = .returned (.bool true) ∧ Below w.heap.size w w' := by
  obtain ⟨hn, hcap, hcm, hca⟩ := h1.cap
  unfold maxLen at hcm
  have HL := Lib.hid (h1.weak ev_rel (J' := fun b => b < w.heap.size) fun b hb _ => hb)
  have HN := Lib.hid hn
  have HIO := Lib.hid ho
  have HIM := Lib.hid hm
  clear h1 hn ho hm
  go_enter Try.func3, Try.ntmps3
  go_wp2_with fail
  obtain ⟨B1, hB1⟩ : ∃ z, smallE l 60 = z := ⟨_, rfl⟩
  refine (small14_any a1 n cap l 60 _ _ HL.out).mono ?_
  rw [hB1]
  rintro e w1 ⟨rfl, b⟩
  have HB1 := Lib.hid hB1
  have HB := Lib.hid b
  clear hB1 b
  rcases (show B1 = false ∨ (B1 = true ∧ 40 < T.size) ∨ (B1 = true ∧ T.size ≤ 40) by cases B1 <;> simp <;> omega) with rfl | ⟨rfl, hT4⟩ | ⟨rfl, hT4⟩
  · go_wp2_with fail
    refine (known14_any _).mono ?_
    rintro e wk ⟨rfl, bk⟩
    have HBk := Lib.hid (HB.out.trans (bk.mono HB.out.size))
    clear bk
    go_wp2_with fail
    go_ret
    exact ⟨rfl, HBk.out⟩
  · go_wp2_with fail
    refine (known14_any _).mono ?_
    rintro e wk ⟨rfl, bk⟩
    have HBk := Lib.hid (HB.out.trans (bk.mono HB.out.size))
    clear bk
    go_wp2_with fail
    go_ret
    exact ⟨rfl, HBk.out⟩
  · go_wp2_with fail
    refine (pnew14_any size _).mono ?_
    rintro e w2 ⟨d, v, rfl, hs, b⟩
    replace HB := Lib.hid (HB.out.trans (b.mono HB.out.size))
    obtain ⟨p1, p2, p3, p4, p5, p6, rfl, rfl⟩ := hs.shape
    have HS2 := Lib.hid hs.all
    clear hs b
    go_wp2_with fail
    refine (rnew14_any size allJ _ (allJ_new _)).mono ?_
    rintro e w3 ⟨d, v, rfl, hs, b⟩
    replace HB := Lib.hid (HB.out.trans (b.mono HB.out.size))
    replace HS2 := Lib.hid (HS2.out.later b)
    obtain ⟨q1, q2, q3, q4, q5, q6, rfl, rfl⟩ := hs.shape
    have HS3 := Lib.hid hs
    clear hs b
    obtain ⟨X0, X1, B2⟩ := two_recsS w3 #[.slice p1 p2 p3, .slice p4 p5 p6] #[.slice q1 q2 q3, .slice q4 q5 q6] tSt tSt
    have HGA : Hid (w.heap.size ≤ w3.heap.size) := Lib.hid HB.out.size
    have HA : Hid (SAt allJ _ w3.heap.size (newM size)) := Lib.hid ⟨p1, p2, p3, p4, p5, p6, X0, HS2.out.later B2⟩
    have HBB : Hid (SAt allJ _ (w3.heap.size + 1) (newM size)) := Lib.hid ⟨q1, q2, q3, q4, q5, q6, X1, HS3.out.later B2⟩
    replace HB := Lib.hid (HB.out.trans (B2.mono HB.out.size))
    clear X0 X1 B2 HS2 HS3
    go_upto_region 4 with fail
    obtain ⟨w4, hw⟩ : ∃ W, ((w3.alloc (.cells #[.slice p1 p2 p3, .slice p4 p5 p6] 28)).alloc (.cells #[.slice q1 q2 q3, .slice q4 q5 q6] 28)) = W := ⟨_, rfl⟩
    rw [hw] at HA HBB HB ⊢
    obtain ⟨PA, hX⟩ : ∃ X, w3.heap.size = X := ⟨_, rfl⟩
    rw [hX] at HA HBB HGA ⊢
    obtain ⟨PB, hX2⟩ : ∃ X, PA + 1 = X := ⟨_, rfl⟩
    rw [hX2] at HBB ⊢
    have HPB := Lib.hid hX2
    clear hw hX hX2
    have ub0 := Try.underlying28
    go_wp2_with fail
    go_loopw [13] (fun i wr => ∃ j : Nat, i = .int .i64 j ∧ j ≤ n ∧ Below w.heap.size w wr ∧ Hid (SAt allJ wr PA (foldM (newM size) (l.take j))) ∧ Hid (SAt allJ wr PB (foldM (newM size) (l.take j)))) (fun i _ => n - (intOf i).toNat)
    case atStart => exact ⟨0, rfl, by omega, HB.out, HA, HBB⟩
    case round =>
      obtain ⟨j, rfl, hj, hbr, HSAa, HSBb⟩ := hrel
      obtain ⟨wo, hwo⟩ : ∃ W, W = wr := ⟨_, rfl⟩
      subst hwo
      have HBR := Lib.hid hbr
      clear hbr
      by_cases hjn : (j : Int) < n
      · have hjd : decide ((j : Int) < (n : Int)) = true := decide_eq_true hjn
        have HJN2 : Hid (j < n) := Lib.hid (by omega)
        obtain ⟨ev, hev⟩ : ∃ e, l[j]? = some e := ⟨l[j]'(by have := HN.out; omega), List.getElem?_eq_getElem _⟩
        obtain ⟨b1, f1, K1, K2, K3, a2, L1, c2, S, ha, hEV⟩ := HL.out.evAt hev
        subst ha
        have HSN := Lib.hid (foldM_take (s := newM size) hev)
        have hokj := foldM_ok (newM_ok size) (l.take j)
        obtain ⟨sj, hsj⟩ : ∃ z, foldM (newM size) (l.take j) = z := ⟨_, rfl⟩
        rw [hsj] at hokj HSAa HSBb HSN
        have HOKJ := Lib.hid hokj
        obtain ⟨s1, CE, hap⟩ : ∃ s1 CE, applyM sj ev = (s1, CE) := ⟨_, _, rfl⟩
        have HAPQ := Lib.hid hap
        have HOK1 := Lib.hid (applyM_ok1 hokj hap)
        have HPX1 := Lib.hid HSAa.out.lt
        have HPX2 := Lib.hid HSBb.out.lt
        obtain ⟨ad, nd, cd, av, nv, cv, hRX, hSA⟩ := HSAa.out
        obtain ⟨bd, md, eb, bv, mv, ec, hRZ, hSB⟩ := HSBb.out
        have HRX := Lib.hid hRX
        have HRZ := Lib.hid hRZ
        have HSA := Lib.hid hSA
        have HSB := Lib.hid hSB
        have HEV := Lib.hid hEV
        have HCP := Lib.hid (fun W (hb : Below wo.heap.size wo W) => hEV.pcheck (.slice ad nd cd) (.slice av nv cv) sj allJ W (HBR.out.trans (hb.mono HBR.out.size)) (hSA.later hb) hokj)
        have HCR := Lib.hid (fun W (hb : Below wo.heap.size wo W) => hEV.rcheck (.slice bd md eb) (.slice bv mv ec) sj allJ W (HBR.out.trans (hb.mono HBR.out.size)) (hSB.later hb))
        rw [applyM_check hap] at HCP HCR
        have HE5 := Lib.hid (fun W (hb : Below wo.heap.size wo W) => hEV.cells W (HBR.out.trans (hb.mono HBR.out.size)))
        clear hEV hev hokj hsj hap hRX hRZ hSA hSB HSAa HSBb
        go_upto_region 7 with fail
        -- REG A7
        refine wp_region_tab (L := [cV (.agg #[.slice ad nd cd, .slice av nv cv]), cV (.slice (some ⟨b1, f1, none⟩) n cap), cV (.int .i64 (j : Nat)), cV (.pointer (some ⟨b1, f1 + j * 5, none⟩)), cV (.agg #[.int .i64 K1, .int .i64 K2, .int .i64 K3, .slice a2 L1 c2, .string S]), cV (.int .i64 CE), cV (.agg #[.slice bd md eb, .slice bv mv ec]), cV (.slice (some ⟨b1, f1, none⟩) n cap), cV (.int .i64 (j : Nat)), cV (.pointer (some ⟨b1, f1 + j * 5, none⟩)), cV (.agg #[.int .i64 K1, .int .i64 K2, .int .i64 K3, .slice a2 L1 c2, .string S]), cV (.int .i64 CE), cV (.bool false)]) [[(11, none)], [(1, none)], [(13, none)], [(42, some 1), (43, some 2)], [(44, some 3)], [(41, some 0), (45, some 4)], [(12, none)], [(1, none)], [(13, none)], [(48, some 7), (49, some 8)], [(50, some 9)], [(47, some 6), (51, some 10)], [(46, some 5), (52, some 11)]] 13 131 (by kernel_rfl) rfl rfl (by kernel_rfl) (by kernel_rfl) ?_ ?_
        · show ∀ i, i < 13 → _
          iterate 13 (refine fls ?_ ?_)
          · exact fl0
          · intro a w1 hR hsz hs      -- 0: slot 41
            obtain ⟨h0, _⟩ := hs
            have h0 : a.tmps.getD 11 undef = .pointer (some ⟨PA, 0, none⟩) := h0
            obtain ⟨x0, x1⟩ := (HRX.out.later hR).c2
            refine op_run rfl rfl (v := .agg #[.slice ad nd cd, .slice av nv cv]) (w' := w1) ?_ rfl (Below.refl _ _)
            simp [execOp, Act.eval, h0, x0, x1, go_sem]
          · intro a w1 hR hsz hs      -- 1: slot 42
            obtain ⟨h0, _⟩ := hs
            have h0 : a.tmps.getD 1 undef = .slice (some ⟨b1, f1, none⟩) n cap := h0
            refine op_run rfl rfl (v := .slice (some ⟨b1, f1, none⟩) n cap) (w' := w1) ?_ rfl (Below.refl _ _)
            simp [execOp, Act.eval, h0, go_sem]
          · intro a w1 hR hsz hs      -- 2: slot 43
            obtain ⟨h0, _⟩ := hs
            have h0 : a.tmps.getD 13 undef = .int .i64 (j : Nat) := h0
            refine op_run rfl rfl (v := .int .i64 (j : Nat)) (w' := w1) ?_ rfl (Below.refl _ _)
            simp [execOp, Act.eval, h0, go_sem]
          · intro a w1 hR hsz hs      -- 3: slot 44
            obtain ⟨h0, h1, _⟩ := hs
            have h0 : a.tmps.getD 42 undef = .slice (some ⟨b1, f1, none⟩) n cap := h0
            have h1 : a.tmps.getD 43 undef = .int .i64 (j : Nat) := h1
            have k1 := HJN2.out
            refine op_run rfl rfl (v := .pointer (some ⟨b1, f1 + j * 5, none⟩)) (w' := w1) ?_ rfl (Below.refl _ _)
            simp [execOp, Act.eval, h0, h1, k1, go_sem]
          · intro a w1 hR hsz hs      -- 4: slot 45
            obtain ⟨h0, _⟩ := hs
            have h0 : a.tmps.getD 44 undef = .pointer (some ⟨b1, f1 + j * 5, none⟩) := h0
            obtain ⟨k0, k1, k2, k3, k4⟩ := HE5.out w1 hR
            refine op_run rfl rfl (v := .agg #[.int .i64 K1, .int .i64 K2, .int .i64 K3, .slice a2 L1 c2, .string S]) (w' := w1) ?_ rfl (Below.refl _ _)
            simp [execOp, Act.eval, h0, k0, k1, k2, k3, k4, go_sem]
          · intro a w1 hR hsz hs      -- 5: slot 46
            obtain ⟨h0, h1, _⟩ := hs
            have h0 : a.tmps.getD 41 undef = .agg #[.slice ad nd cd, .slice av nv cv] := h0
            have h1 : a.tmps.getD 45 undef = .agg #[.int .i64 K1, .int .i64 K2, .int .i64 K3, .slice a2 L1 c2, .string S] := h1
            refine op_call rfl rfl (f := 14) (args := #[.agg #[.slice ad nd cd, .slice av nv cv], .agg #[.int .i64 K1, .int .i64 K2, .int .i64 K3, .slice a2 L1 c2, .string S]]) (by simp [execOp, Act.eval, resolve, h0, h1, go_sem]) ?_
            exact calls_c (HCP.out w1 hR)
          · intro a w1 hR hsz hs      -- 6: slot 47
            obtain ⟨h0, _⟩ := hs
            have h0 : a.tmps.getD 12 undef = .pointer (some ⟨PB, 0, none⟩) := h0
            obtain ⟨x0, x1⟩ := (HRZ.out.later hR).c2
            refine op_run rfl rfl (v := .agg #[.slice bd md eb, .slice bv mv ec]) (w' := w1) ?_ rfl (Below.refl _ _)
            simp [execOp, Act.eval, h0, x0, x1, go_sem]
          · intro a w1 hR hsz hs      -- 7: slot 48
            obtain ⟨h0, _⟩ := hs
            have h0 : a.tmps.getD 1 undef = .slice (some ⟨b1, f1, none⟩) n cap := h0
            refine op_run rfl rfl (v := .slice (some ⟨b1, f1, none⟩) n cap) (w' := w1) ?_ rfl (Below.refl _ _)
            simp [execOp, Act.eval, h0, go_sem]
          · intro a w1 hR hsz hs      -- 8: slot 49
            obtain ⟨h0, _⟩ := hs
            have h0 : a.tmps.getD 13 undef = .int .i64 (j : Nat) := h0
            refine op_run rfl rfl (v := .int .i64 (j : Nat)) (w' := w1) ?_ rfl (Below.refl _ _)
            simp [execOp, Act.eval, h0, go_sem]
          · intro a w1 hR hsz hs      -- 9: slot 50
            obtain ⟨h0, h1, _⟩ := hs
            have h0 : a.tmps.getD 48 undef = .slice (some ⟨b1, f1, none⟩) n cap := h0
            have h1 : a.tmps.getD 49 undef = .int .i64 (j : Nat) := h1
            have k1 := HJN2.out
            refine op_run rfl rfl (v := .pointer (some ⟨b1, f1 + j * 5, none⟩)) (w' := w1) ?_ rfl (Below.refl _ _)
            simp [execOp, Act.eval, h0, h1, k1, go_sem]
          · intro a w1 hR hsz hs      -- 10: slot 51
            obtain ⟨h0, _⟩ := hs
            have h0 : a.tmps.getD 50 undef = .pointer (some ⟨b1, f1 + j * 5, none⟩) := h0
            obtain ⟨k0, k1, k2, k3, k4⟩ := HE5.out w1 hR
            refine op_run rfl rfl (v := .agg #[.int .i64 K1, .int .i64 K2, .int .i64 K3, .slice a2 L1 c2, .string S]) (w' := w1) ?_ rfl (Below.refl _ _)
            simp [execOp, Act.eval, h0, k0, k1, k2, k3, k4, go_sem]
          · intro a w1 hR hsz hs      -- 11: slot 52
            obtain ⟨h0, h1, _⟩ := hs
            have h0 : a.tmps.getD 47 undef = .agg #[.slice bd md eb, .slice bv mv ec] := h0
            have h1 : a.tmps.getD 51 undef = .agg #[.int .i64 K1, .int .i64 K2, .int .i64 K3, .slice a2 L1 c2, .string S] := h1
            refine op_call rfl rfl (f := 15) (args := #[.agg #[.slice bd md eb, .slice bv mv ec], .agg #[.int .i64 K1, .int .i64 K2, .int .i64 K3, .slice a2 L1 c2, .string S]]) (by simp [execOp, Act.eval, resolve, h0, h1, go_sem]) ?_
            exact calls_c (HCR.out w1 hR)
          · intro a w1 hR hsz hs      -- 12: slot 53
            obtain ⟨h0, h1, _⟩ := hs
            have h0 : a.tmps.getD 46 undef = .int .i64 CE := h0
            have h1 : a.tmps.getD 52 undef = .int .i64 CE := h1
            refine op_run rfl rfl (v := .bool false) (w' := w1) ?_ rfl (Below.refl _ _)
            simp [execOp, Act.eval, h0, h1, go_sem]
        intro f w1 hR hv
        have e53 : f 53 = .bool false := hv 12 _ 53 rfl rfl
        clear hv
        try simp only [Exit.then]
        simp only [putAll, List.foldl_cons, List.foldl_nil, Option.getD_some, Act.put, List.setIfInBounds_toArray, List.set_cons_succ, List.set_cons_zero]
        rw [e53]
        clear e53
        -- END A7
        have HR7 := Lib.hid hR
        clear hR HCP HCR
        replace HBR := Lib.hid (HBR.out.trans (HR7.out.mono HBR.out.size))
        replace HRX := Lib.hid (HRX.out.later HR7.out)
        replace HRZ := Lib.hid (HRZ.out.later HR7.out)
        replace HSA := Lib.hid (HSA.out.later HR7.out)
        replace HSB := Lib.hid (HSB.out.later HR7.out)
        replace HPX1 := Lib.hid (Nat.lt_of_lt_of_le HPX1.out HR7.out.size)
        replace HPX2 := Lib.hid (Nat.lt_of_lt_of_le HPX2.out HR7.out.size)
        replace HE5 := Lib.hid (fun W (hb : Below w1.heap.size w1 W) => HE5.out W (HR7.out.trans (hb.mono HR7.out.size)))
        clear HR7
        obtain ⟨wo, hwq⟩ : ∃ W, W = w1 := ⟨_, rfl⟩
        subst hwq
        have HAP : Hid (∀ W, Below wo.heap.size wo W → Calls Try.prog 16 #[.agg #[.slice ad nd cd, .slice av nv cv], .agg #[.int .i64 K1, .int .i64 K2, .int .i64 K3, .slice a2 L1 c2, .string S]] W fun e w' => ∃ d2 v2, e = .returned (.tuple #[.agg #[d2, v2], .int .i64 CE]) ∧ StA allJ w' d2 v2 s1 ∧ Below W.heap.size W w') := Lib.hid (fun W (hb : Below wo.heap.size wo W) => (HEV.out.papply (.slice ad nd cd) (.slice av nv cv) sj _ s1 CE W (HBR.out.trans (hb.mono HBR.out.size)) (HSA.out.later hb) HOKJ.out HAPQ.out).mono fun e w' ⟨d2, v2, q1, q2, q3⟩ => ⟨d2, v2, q1, q2.all, q3⟩)
        go_upto_region 9 with fail
        -- REG A9
        refine wp_region_ptabW (L := fun ph => match ph with | 0 => [cV (.agg #[.slice ad nd cd, .slice av nv cv]), cV (.slice (some ⟨b1, f1, none⟩) n cap), cV (.int .i64 (j : Nat)), cV (.pointer (some ⟨b1, f1 + j * 5, none⟩)), cV (.agg #[.int .i64 K1, .int .i64 K2, .int .i64 K3, .slice a2 L1 c2, .string S]), apV allJ s1 CE, apV allJ s1 CE, stV allJ s1, cV (.int .i64 CE), zsV wo, tV, cV (.int .i64 CE)] | _ => [cV (.agg #[.slice ad nd cd, .slice av nv cv]), cV (.slice (some ⟨b1, f1, none⟩) n cap), cV (.int .i64 (j : Nat)), cV (.pointer (some ⟨b1, f1 + j * 5, none⟩)), cV (.agg #[.int .i64 K1, .int .i64 K2, .int .i64 K3, .slice a2 L1 c2, .string S]), tV, tuV CE, tV, cV (.int .i64 CE), rjV allJ wo s1, tV, cV (.int .i64 CE)]) (fun _ wq => Below wo.heap.size wo wq) [10] [(0, 0), (0, 0), (0, 0), (0, 0), (0, 0), (0, 0), (0, 0), (0, 0), (0, 1), (0, 0), (0, 1), (0, 1)] [[(11, none)], [(1, none)], [(13, none)], [(56, some 1), (57, some 2)], [(58, some 3)], [(55, some 0), (59, some 4)], [(60, some 5)], [(54, some 6)], [(54, some 6)], [], [(14, some 9), (61, some 7)], [(62, some 8)]] 12 1 131 (by kernel_rfl) rfl rfl rfl (by kernel_rfl) (by kernel_rfl) (by decide) (by kernel_rfl) ?_ ?_ ?_ ?_ ?_
        · exact fun ph w1 w2 h hb => h.trans (hb.mono h.size)
        · exact (Below.refl _ _)
        · show ∀ i, i < 12 → _
          iterate 12 (refine fls ?_ ?_)
          · exact fl0
          · intro hne lo hi ph hran hp1 hp2 a w1 hJ hsz hs      -- 0: slot 55
            obtain ⟨rfl, rfl⟩ : 0 = lo ∧ 0 = hi := Prod.mk.inj (Option.some.inj hran)
            obtain rfl : ph = 0 := by omega
            obtain ⟨h0, _⟩ := hs
            have h0 : a.tmps.getD 11 undef = .pointer (some ⟨PA, 0, none⟩) := h0
            obtain ⟨x0, x1⟩ := (HRX.out.later (show Below wo.heap.size wo w1 from hJ)).c2
            refine op_run rfl rfl (v := .agg #[.slice ad nd cd, .slice av nv cv]) (w' := w1) ?_ rfl (Below.refl _ _)
            simp [execOp, Act.eval, h0, x0, x1, go_sem]
          · intro hne lo hi ph hran hp1 hp2 a w1 hJ hsz hs      -- 1: slot 56
            obtain ⟨rfl, rfl⟩ : 0 = lo ∧ 0 = hi := Prod.mk.inj (Option.some.inj hran)
            obtain rfl : ph = 0 := by omega
            obtain ⟨h0, _⟩ := hs
            have h0 : a.tmps.getD 1 undef = .slice (some ⟨b1, f1, none⟩) n cap := h0
            refine op_run rfl rfl (v := .slice (some ⟨b1, f1, none⟩) n cap) (w' := w1) ?_ rfl (Below.refl _ _)
            simp [execOp, Act.eval, h0, go_sem]
          · intro hne lo hi ph hran hp1 hp2 a w1 hJ hsz hs      -- 2: slot 57
            obtain ⟨rfl, rfl⟩ : 0 = lo ∧ 0 = hi := Prod.mk.inj (Option.some.inj hran)
            obtain rfl : ph = 0 := by omega
            obtain ⟨h0, _⟩ := hs
            have h0 : a.tmps.getD 13 undef = .int .i64 (j : Nat) := h0
            refine op_run rfl rfl (v := .int .i64 (j : Nat)) (w' := w1) ?_ rfl (Below.refl _ _)
            simp [execOp, Act.eval, h0, go_sem]
          · intro hne lo hi ph hran hp1 hp2 a w1 hJ hsz hs      -- 3: slot 58
            obtain ⟨rfl, rfl⟩ : 0 = lo ∧ 0 = hi := Prod.mk.inj (Option.some.inj hran)
            obtain rfl : ph = 0 := by omega
            obtain ⟨h0, h1, _⟩ := hs
            have h0 : a.tmps.getD 56 undef = .slice (some ⟨b1, f1, none⟩) n cap := h0
            have h1 : a.tmps.getD 57 undef = .int .i64 (j : Nat) := h1
            have k1 := HJN2.out
            refine op_run rfl rfl (v := .pointer (some ⟨b1, f1 + j * 5, none⟩)) (w' := w1) ?_ rfl (Below.refl _ _)
            simp [execOp, Act.eval, h0, h1, k1, go_sem]
          · intro hne lo hi ph hran hp1 hp2 a w1 hJ hsz hs      -- 4: slot 59
            obtain ⟨rfl, rfl⟩ : 0 = lo ∧ 0 = hi := Prod.mk.inj (Option.some.inj hran)
            obtain rfl : ph = 0 := by omega
            obtain ⟨h0, _⟩ := hs
            have h0 : a.tmps.getD 58 undef = .pointer (some ⟨b1, f1 + j * 5, none⟩) := h0
            obtain ⟨k0, k1, k2, k3, k4⟩ := HE5.out w1 (show Below wo.heap.size wo w1 from hJ)
            refine op_run rfl rfl (v := .agg #[.int .i64 K1, .int .i64 K2, .int .i64 K3, .slice a2 L1 c2, .string S]) (w' := w1) ?_ rfl (Below.refl _ _)
            simp [execOp, Act.eval, h0, k0, k1, k2, k3, k4, go_sem]
          · intro hne lo hi ph hran hp1 hp2 a w1 hJ hsz hs      -- 5: slot 60
            obtain ⟨rfl, rfl⟩ : 0 = lo ∧ 0 = hi := Prod.mk.inj (Option.some.inj hran)
            obtain rfl : ph = 0 := by omega
            obtain ⟨h0, h1, _⟩ := hs
            have h0 : a.tmps.getD 55 undef = .agg #[.slice ad nd cd, .slice av nv cv] := h0
            have h1 : a.tmps.getD 59 undef = .agg #[.int .i64 K1, .int .i64 K2, .int .i64 K3, .slice a2 L1 c2, .string S] := h1
            refine op_call rfl rfl (f := 16) (args := #[.agg #[.slice ad nd cd, .slice av nv cv], .agg #[.int .i64 K1, .int .i64 K2, .int .i64 K3, .slice a2 L1 c2, .string S]]) (by simp [execOp, Act.eval, resolve, h0, h1, go_sem]) ?_
            exact (HAP.out w1 (show Below wo.heap.size wo w1 from hJ)).mono fun e w' he => by
              obtain ⟨d2, v2, h1, h2, h3⟩ := he
              exact ⟨_, h1, ⟨d2, v2, rfl, h2⟩, h3⟩
          · intro hne lo hi ph hran hp1 hp2 a w1 hJ hsz hs      -- 6: slot 54
            obtain ⟨rfl, rfl⟩ : 0 = lo ∧ 0 = hi := Prod.mk.inj (Option.some.inj hran)
            obtain rfl : ph = 0 := by omega
            obtain ⟨h0, _⟩ := hs
            have m0 : (apV allJ s1 CE).p w1 (a.tmps.getD 60 undef) := h0
            obtain ⟨d2, v2, e20, hst⟩ := (show ∃ d v, a.tmps.getD 60 undef = .tuple #[.agg #[d, v], .int .i64 CE] ∧ StA allJ w1 d v s1 from m0)
            refine op_run rfl rfl (v := .tuple #[.agg #[d2, v2], .int .i64 CE]) (w' := w1) ?_ ⟨d2, v2, rfl, hst⟩ (Below.refl _ _)
            simp [execOp, Act.eval, e20, go_sem]
          · intro hne lo hi ph hran hp1 hp2 a w1 hJ hsz hs      -- 7: slot 61
            obtain ⟨rfl, rfl⟩ : 0 = lo ∧ 0 = hi := Prod.mk.inj (Option.some.inj hran)
            obtain rfl : ph = 0 := by omega
            obtain ⟨h0, _⟩ := hs
            
            obtain ⟨d2, v2, e14, hst⟩ := (show ∃ d v, a.tmps.getD 54 undef = .tuple #[.agg #[d, v], .int .i64 CE] ∧ StA allJ w1 d v s1 from h0)
            refine op_run rfl rfl (v := .agg #[d2, v2]) (w' := w1) ?_ ⟨d2, v2, rfl, hst⟩ (Below.refl _ _)
            simp [execOp, Act.eval, e14, go_sem]
          · intro hne lo hi ph hran hp1 hp2 a w1 hJ hsz hs      -- 8: slot 62
            obtain ⟨rfl, rfl⟩ : 0 = lo ∧ 1 = hi := Prod.mk.inj (Option.some.inj hran)
            rcases (by omega : ph = 0 ∨ ph = 1) with rfl | rfl
            · obtain ⟨h0, _⟩ := hs
              
              obtain ⟨d2, v2, e14⟩ : ∃ d v, a.tmps.getD 54 undef = .tuple #[.agg #[d, v], .int .i64 CE] := by
                first
                | exact h0
                | exact (let ⟨d, v, q, _⟩ := (show ∃ d v, a.tmps.getD 54 undef = .tuple #[.agg #[d, v], .int .i64 CE] ∧ StA allJ w1 d v s1 from h0); ⟨d, v, q⟩)
              refine op_run rfl rfl (v := .int .i64 CE) (w' := w1) ?_ rfl (Below.refl _ _)
              simp [execOp, Act.eval, e14, go_sem]
            · obtain ⟨h0, _⟩ := hs
              
              obtain ⟨d2, v2, e14⟩ : ∃ d v, a.tmps.getD 54 undef = .tuple #[.agg #[d, v], .int .i64 CE] := by
                first
                | exact h0
                | exact (let ⟨d, v, q, _⟩ := (show ∃ d v, a.tmps.getD 54 undef = .tuple #[.agg #[d, v], .int .i64 CE] ∧ StA allJ w1 d v s1 from h0); ⟨d, v, q⟩)
              refine op_run rfl rfl (v := .int .i64 CE) (w' := w1) ?_ rfl (Below.refl _ _)
              simp [execOp, Act.eval, e14, go_sem]
          · intro hne lo hi ph hran hp1 hp2 a w1 hJ hsz hs      -- 9: slot 14
            obtain ⟨rfl, rfl⟩ : 0 = lo ∧ 0 = hi := Prod.mk.inj (Option.some.inj hran)
            obtain rfl : ph = 0 := by omega
            refine op_run rfl rfl (v := .pointer (some ⟨w1.heap.size, 0, none⟩)) (w' := w1.alloc (.cells zeroSt 28)) ?_ ⟨w1.heap.size, rfl, RecAt.new w1 _ _, (show Below wo.heap.size wo w1 from hJ).size⟩ ((Below.refl _ _).alloc (Nat.le_refl _) _)
            simp [execOp, Act.eval, go_sem, ub0, zeroSt]
          · intro hne lo hi ph hran hp1 hp2 a w1 hJ hsz hs      -- 10: slot None
            exact absurd (by decide) hne
          · intro hne lo hi ph hran hp1 hp2 a w1 hJ hsz hs      -- 11: slot 15
            obtain ⟨rfl, rfl⟩ : 0 = lo ∧ 1 = hi := Prod.mk.inj (Option.some.inj hran)
            rcases (by omega : ph = 0 ∨ ph = 1) with rfl | rfl
            · obtain ⟨h0, _⟩ := hs
              have h0 : a.tmps.getD 62 undef = .int .i64 CE := h0
              refine op_run rfl rfl (v := .int .i64 CE) (w' := w1) ?_ rfl (Below.refl _ _)
              simp [execOp, Act.eval, h0, go_sem]
            · obtain ⟨h0, _⟩ := hs
              have h0 : a.tmps.getD 62 undef = .int .i64 CE := h0
              refine op_run rfl rfl (v := .int .i64 CE) (w' := w1) ?_ rfl (Below.refl _ _)
              simp [execOp, Act.eval, h0, go_sem]
        · show ∀ ph, ph < 1 → _
          iterate 1 (refine fls ?_ ?_)
          · exact fl0
          · intro i hi a w1 hJ hsz hs      -- heavy 0: op 10 slot None
            obtain rfl : 10 = i := Option.some.inj hi
            obtain ⟨h0, h1, _⟩ := hs
            have m0 : (zsV wo).p w1 (a.tmps.getD 14 undef) := h0
            have m1 : (stV allJ s1).p w1 (a.tmps.getD 61 undef) := h1
            obtain ⟨PX, hvx, hX, hXs⟩ := (show ∃ g, a.tmps.getD 14 undef = .pointer (some ⟨g, 0, none⟩) ∧ RecAt w1 g zeroSt 28 ∧ wo.heap.size ≤ g from m0)
            obtain ⟨d1, v1, e21, md⟩ := (show ∃ d v, a.tmps.getD 61 undef = .agg #[d, v] ∧ StA allJ w1 d v s1 from m1)
            have hone : (#[d1, v1] : Array Value).all (·.oneCell') = true := by
              obtain ⟨qa, qb, qc, qd, rfl, rfl, _, _⟩ := md.open
              simp [Value.oneCell']
            refine hv_recW rfl rfl (x := PX) (p := .tmp 14) (v := .tmp 61) (cs := zeroSt) (vs := #[d1, v1]) rfl hvx e21 hX rfl (by kernel_rfl) hone (fun w' => trivial) ?_
            intro w' r1 r2 r3 r4
            have hb : Below wo.heap.size wo w' := (show Below wo.heap.size wo w1 from hJ).grown r4 (show Below wo.heap.size wo w1 from hJ).size (fun q e => by cases e; exact hXs)
            have o1 : StA allJ w' d1 v1 s1 := ((md.lessRec hX).keep (fun b hb2 hj => r3 b hj.2) (Nat.le_of_eq r2.symm)).weak fun b _ hj => hj.1
            exact ⟨hb, CalmW.all ⟨.inr fun _ _ h => h, .inr fun _ _ h => h, .inr fun _ _ h => h, .inr fun _ _ h => h, .inr fun _ _ h => h, .inr fun _ _ _ => trivial, .inr fun v hh h => (let ⟨d, v2, q, _⟩ := h; ⟨d, v2, q⟩), .inr fun _ _ _ => trivial, .inr fun _ _ h => h, .inr fun v hh _ => ⟨PX, d1, v1, (hh _ _ rfl rfl).trans hvx, r1, hXs, o1⟩, .inl rfl, .inr fun _ _ h => h, trivial⟩⟩
        intro f w1 hJ hv
        have e6 : (rjV allJ wo s1).p w1 (f 14) := hv 9 _ 14 rfl rfl
        have e7 : f 15 = .int .i64 CE := hv 11 _ 15 rfl rfl
        have hbo : Below wo.heap.size wo w1 := hJ
        clear hv
        try simp only [Exit.then]
        simp only [putAll, List.foldl_cons, List.foldl_nil, Option.getD_some, Act.put, List.setIfInBounds_toArray, List.set_cons_succ, List.set_cons_zero]
        obtain ⟨PX, d1, v1, e6, r6, hXs, o1⟩ := e6
        rw [e6, e7]
        clear hJ e6 e7
        -- END A9
        obtain ⟨p1, p2, p3, p4, p5, p6, rfl, rfl⟩ := o1.shape
        have HXX := Lib.hid r6
        have HO1 := Lib.hid o1
        have HPC : Hid (PA ≠ PX ∧ PB ≠ PX) := Lib.hid (by have := HPX1.out; have := HPX2.out; omega)
        replace HBR := Lib.hid (HBR.out.trans (hbo.mono HBR.out.size))
        replace HRX := Lib.hid (HRX.out.later hbo)
        replace HRZ := Lib.hid (HRZ.out.later hbo)
        replace HSA := Lib.hid (HSA.out.later hbo)
        replace HSB := Lib.hid (HSB.out.later hbo)
        replace HPX1 := Lib.hid (Nat.lt_of_lt_of_le HPX1.out hbo.size)
        replace HPX2 := Lib.hid (Nat.lt_of_lt_of_le HPX2.out hbo.size)
        replace HE5 := Lib.hid (fun W (hb : Below w1.heap.size w1 W) => HE5.out W (hbo.trans (hb.mono hbo.size)))
        obtain ⟨PC, hPC⟩ : ∃ z, z = PX := ⟨_, rfl⟩
        subst hPC
        clear r6 o1 hXs hbo HAP
        obtain ⟨wo, hwq⟩ : ∃ W, W = w1 := ⟨_, rfl⟩
        subst hwq
        have HAR : Hid (∀ W, Below wo.heap.size wo W → Calls Try.prog 17 #[.agg #[.slice bd md eb, .slice bv mv ec], .agg #[.int .i64 K1, .int .i64 K2, .int .i64 K3, .slice a2 L1 c2, .string S]] W fun e w' => ∃ d2 v2, e = .returned (.tuple #[.agg #[d2, v2], .int .i64 CE]) ∧ StA allJ w' d2 v2 s1 ∧ Below W.heap.size W w') := Lib.hid (fun W (hb : Below wo.heap.size wo W) => HEV.out.rapply (.slice bd md eb) (.slice bv mv ec) sj _ s1 CE W (HBR.out.trans (hb.mono HBR.out.size)) (HSB.out.later hb) HOKJ.out HAPQ.out)
        go_upto_region 10 with fail
        -- REG A10
        refine wp_region_ptabW (L := fun ph => match ph with | 0 => [cV (.agg #[.slice bd md eb, .slice bv mv ec]), cV (.slice (some ⟨b1, f1, none⟩) n cap), cV (.int .i64 (j : Nat)), cV (.pointer (some ⟨b1, f1 + j * 5, none⟩)), cV (.agg #[.int .i64 K1, .int .i64 K2, .int .i64 K3, .slice a2 L1 c2, .string S]), apV allJ s1 CE, apV allJ s1 CE, stV allJ s1, cV (.int .i64 CE), zsV wo, tV, cV (.int .i64 CE)] | _ => [cV (.agg #[.slice bd md eb, .slice bv mv ec]), cV (.slice (some ⟨b1, f1, none⟩) n cap), cV (.int .i64 (j : Nat)), cV (.pointer (some ⟨b1, f1 + j * 5, none⟩)), cV (.agg #[.int .i64 K1, .int .i64 K2, .int .i64 K3, .slice a2 L1 c2, .string S]), tV, tuV CE, tV, cV (.int .i64 CE), rjV allJ wo s1, tV, cV (.int .i64 CE)]) (fun _ wq => Below wo.heap.size wo wq) [10] [(0, 0), (0, 0), (0, 0), (0, 0), (0, 0), (0, 0), (0, 0), (0, 0), (0, 1), (0, 0), (0, 1), (0, 1)] [[(12, none)], [(1, none)], [(13, none)], [(65, some 1), (66, some 2)], [(67, some 3)], [(64, some 0), (68, some 4)], [(69, some 5)], [(63, some 6)], [(63, some 6)], [], [(16, some 9), (70, some 7)], [(71, some 8)]] 12 1 131 (by kernel_rfl) rfl rfl rfl (by kernel_rfl) (by kernel_rfl) (by decide) (by kernel_rfl) ?_ ?_ ?_ ?_ ?_
        · exact fun ph w1 w2 h hb => h.trans (hb.mono h.size)
        · exact (Below.refl _ _)
        · show ∀ i, i < 12 → _
          iterate 12 (refine fls ?_ ?_)
          · exact fl0
          · intro hne lo hi ph hran hp1 hp2 a w1 hJ hsz hs      -- 0: slot 64
            obtain ⟨rfl, rfl⟩ : 0 = lo ∧ 0 = hi := Prod.mk.inj (Option.some.inj hran)
            obtain rfl : ph = 0 := by omega
            obtain ⟨h0, _⟩ := hs
            have h0 : a.tmps.getD 12 undef = .pointer (some ⟨PB, 0, none⟩) := h0
            obtain ⟨x0, x1⟩ := (HRZ.out.later (show Below wo.heap.size wo w1 from hJ)).c2
            refine op_run rfl rfl (v := .agg #[.slice bd md eb, .slice bv mv ec]) (w' := w1) ?_ rfl (Below.refl _ _)
            simp [execOp, Act.eval, h0, x0, x1, go_sem]
          · intro hne lo hi ph hran hp1 hp2 a w1 hJ hsz hs      -- 1: slot 65
            obtain ⟨rfl, rfl⟩ : 0 = lo ∧ 0 = hi := Prod.mk.inj (Option.some.inj hran)
            obtain rfl : ph = 0 := by omega
            obtain ⟨h0, _⟩ := hs
            have h0 : a.tmps.getD 1 undef = .slice (some ⟨b1, f1, none⟩) n cap := h0
            refine op_run rfl rfl (v := .slice (some ⟨b1, f1, none⟩) n cap) (w' := w1) ?_ rfl (Below.refl _ _)
            simp [execOp, Act.eval, h0, go_sem]
          · intro hne lo hi ph hran hp1 hp2 a w1 hJ hsz hs      -- 2: slot 66
            obtain ⟨rfl, rfl⟩ : 0 = lo ∧ 0 = hi := Prod.mk.inj (Option.some.inj hran)
            obtain rfl : ph = 0 := by omega
            obtain ⟨h0, _⟩ := hs
            have h0 : a.tmps.getD 13 undef = .int .i64 (j : Nat) := h0
            refine op_run rfl rfl (v := .int .i64 (j : Nat)) (w' := w1) ?_ rfl (Below.refl _ _)
            simp [execOp, Act.eval, h0, go_sem]
          · intro hne lo hi ph hran hp1 hp2 a w1 hJ hsz hs      -- 3: slot 67
            obtain ⟨rfl, rfl⟩ : 0 = lo ∧ 0 = hi := Prod.mk.inj (Option.some.inj hran)
            obtain rfl : ph = 0 := by omega
            obtain ⟨h0, h1, _⟩ := hs
            have h0 : a.tmps.getD 65 undef = .slice (some ⟨b1, f1, none⟩) n cap := h0
            have h1 : a.tmps.getD 66 undef = .int .i64 (j : Nat) := h1
            have k1 := HJN2.out
            refine op_run rfl rfl (v := .pointer (some ⟨b1, f1 + j * 5, none⟩)) (w' := w1) ?_ rfl (Below.refl _ _)
            simp [execOp, Act.eval, h0, h1, k1, go_sem]
          · intro hne lo hi ph hran hp1 hp2 a w1 hJ hsz hs      -- 4: slot 68
            obtain ⟨rfl, rfl⟩ : 0 = lo ∧ 0 = hi := Prod.mk.inj (Option.some.inj hran)
            obtain rfl : ph = 0 := by omega
            obtain ⟨h0, _⟩ := hs
            have h0 : a.tmps.getD 67 undef = .pointer (some ⟨b1, f1 + j * 5, none⟩) := h0
            obtain ⟨k0, k1, k2, k3, k4⟩ := HE5.out w1 (show Below wo.heap.size wo w1 from hJ)
            refine op_run rfl rfl (v := .agg #[.int .i64 K1, .int .i64 K2, .int .i64 K3, .slice a2 L1 c2, .string S]) (w' := w1) ?_ rfl (Below.refl _ _)
            simp [execOp, Act.eval, h0, k0, k1, k2, k3, k4, go_sem]
          · intro hne lo hi ph hran hp1 hp2 a w1 hJ hsz hs      -- 5: slot 69
            obtain ⟨rfl, rfl⟩ : 0 = lo ∧ 0 = hi := Prod.mk.inj (Option.some.inj hran)
            obtain rfl : ph = 0 := by omega
            obtain ⟨h0, h1, _⟩ := hs
            have h0 : a.tmps.getD 64 undef = .agg #[.slice bd md eb, .slice bv mv ec] := h0
            have h1 : a.tmps.getD 68 undef = .agg #[.int .i64 K1, .int .i64 K2, .int .i64 K3, .slice a2 L1 c2, .string S] := h1
            refine op_call rfl rfl (f := 17) (args := #[.agg #[.slice bd md eb, .slice bv mv ec], .agg #[.int .i64 K1, .int .i64 K2, .int .i64 K3, .slice a2 L1 c2, .string S]]) (by simp [execOp, Act.eval, resolve, h0, h1, go_sem]) ?_
            exact (HAR.out w1 (show Below wo.heap.size wo w1 from hJ)).mono fun e w' he => by
              obtain ⟨d2, v2, h1, h2, h3⟩ := he
              exact ⟨_, h1, ⟨d2, v2, rfl, h2⟩, h3⟩
          · intro hne lo hi ph hran hp1 hp2 a w1 hJ hsz hs      -- 6: slot 63
            obtain ⟨rfl, rfl⟩ : 0 = lo ∧ 0 = hi := Prod.mk.inj (Option.some.inj hran)
            obtain rfl : ph = 0 := by omega
            obtain ⟨h0, _⟩ := hs
            have m0 : (apV allJ s1 CE).p w1 (a.tmps.getD 69 undef) := h0
            obtain ⟨d2, v2, e20, hst⟩ := (show ∃ d v, a.tmps.getD 69 undef = .tuple #[.agg #[d, v], .int .i64 CE] ∧ StA allJ w1 d v s1 from m0)
            refine op_run rfl rfl (v := .tuple #[.agg #[d2, v2], .int .i64 CE]) (w' := w1) ?_ ⟨d2, v2, rfl, hst⟩ (Below.refl _ _)
            simp [execOp, Act.eval, e20, go_sem]
          · intro hne lo hi ph hran hp1 hp2 a w1 hJ hsz hs      -- 7: slot 70
            obtain ⟨rfl, rfl⟩ : 0 = lo ∧ 0 = hi := Prod.mk.inj (Option.some.inj hran)
            obtain rfl : ph = 0 := by omega
            obtain ⟨h0, _⟩ := hs
            
            obtain ⟨d2, v2, e14, hst⟩ := (show ∃ d v, a.tmps.getD 63 undef = .tuple #[.agg #[d, v], .int .i64 CE] ∧ StA allJ w1 d v s1 from h0)
            refine op_run rfl rfl (v := .agg #[d2, v2]) (w' := w1) ?_ ⟨d2, v2, rfl, hst⟩ (Below.refl _ _)
            simp [execOp, Act.eval, e14, go_sem]
          · intro hne lo hi ph hran hp1 hp2 a w1 hJ hsz hs      -- 8: slot 71
            obtain ⟨rfl, rfl⟩ : 0 = lo ∧ 1 = hi := Prod.mk.inj (Option.some.inj hran)
            rcases (by omega : ph = 0 ∨ ph = 1) with rfl | rfl
            · obtain ⟨h0, _⟩ := hs
              
              obtain ⟨d2, v2, e14⟩ : ∃ d v, a.tmps.getD 63 undef = .tuple #[.agg #[d, v], .int .i64 CE] := by
                first
                | exact h0
                | exact (let ⟨d, v, q, _⟩ := (show ∃ d v, a.tmps.getD 63 undef = .tuple #[.agg #[d, v], .int .i64 CE] ∧ StA allJ w1 d v s1 from h0); ⟨d, v, q⟩)
              refine op_run rfl rfl (v := .int .i64 CE) (w' := w1) ?_ rfl (Below.refl _ _)
              simp [execOp, Act.eval, e14, go_sem]
            · obtain ⟨h0, _⟩ := hs
              
              obtain ⟨d2, v2, e14⟩ : ∃ d v, a.tmps.getD 63 undef = .tuple #[.agg #[d, v], .int .i64 CE] := by
                first
                | exact h0
                | exact (let ⟨d, v, q, _⟩ := (show ∃ d v, a.tmps.getD 63 undef = .tuple #[.agg #[d, v], .int .i64 CE] ∧ StA allJ w1 d v s1 from h0); ⟨d, v, q⟩)
              refine op_run rfl rfl (v := .int .i64 CE) (w' := w1) ?_ rfl (Below.refl _ _)
              simp [execOp, Act.eval, e14, go_sem]
          · intro hne lo hi ph hran hp1 hp2 a w1 hJ hsz hs      -- 9: slot 16
            obtain ⟨rfl, rfl⟩ : 0 = lo ∧ 0 = hi := Prod.mk.inj (Option.some.inj hran)
            obtain rfl : ph = 0 := by omega
            refine op_run rfl rfl (v := .pointer (some ⟨w1.heap.size, 0, none⟩)) (w' := w1.alloc (.cells zeroSt 28)) ?_ ⟨w1.heap.size, rfl, RecAt.new w1 _ _, (show Below wo.heap.size wo w1 from hJ).size⟩ ((Below.refl _ _).alloc (Nat.le_refl _) _)
            simp [execOp, Act.eval, go_sem, ub0, zeroSt]
          · intro hne lo hi ph hran hp1 hp2 a w1 hJ hsz hs      -- 10: slot None
            exact absurd (by decide) hne
          · intro hne lo hi ph hran hp1 hp2 a w1 hJ hsz hs      -- 11: slot 17
            obtain ⟨rfl, rfl⟩ : 0 = lo ∧ 1 = hi := Prod.mk.inj (Option.some.inj hran)
            rcases (by omega : ph = 0 ∨ ph = 1) with rfl | rfl
            · obtain ⟨h0, _⟩ := hs
              have h0 : a.tmps.getD 71 undef = .int .i64 CE := h0
              refine op_run rfl rfl (v := .int .i64 CE) (w' := w1) ?_ rfl (Below.refl _ _)
              simp [execOp, Act.eval, h0, go_sem]
            · obtain ⟨h0, _⟩ := hs
              have h0 : a.tmps.getD 71 undef = .int .i64 CE := h0
              refine op_run rfl rfl (v := .int .i64 CE) (w' := w1) ?_ rfl (Below.refl _ _)
              simp [execOp, Act.eval, h0, go_sem]
        · show ∀ ph, ph < 1 → _
          iterate 1 (refine fls ?_ ?_)
          · exact fl0
          · intro i hi a w1 hJ hsz hs      -- heavy 0: op 10 slot None
            obtain rfl : 10 = i := Option.some.inj hi
            obtain ⟨h0, h1, _⟩ := hs
            have m0 : (zsV wo).p w1 (a.tmps.getD 16 undef) := h0
            have m1 : (stV allJ s1).p w1 (a.tmps.getD 70 undef) := h1
            obtain ⟨PX, hvx, hX, hXs⟩ := (show ∃ g, a.tmps.getD 16 undef = .pointer (some ⟨g, 0, none⟩) ∧ RecAt w1 g zeroSt 28 ∧ wo.heap.size ≤ g from m0)
            obtain ⟨d1, v1, e21, md⟩ := (show ∃ d v, a.tmps.getD 70 undef = .agg #[d, v] ∧ StA allJ w1 d v s1 from m1)
            have hone : (#[d1, v1] : Array Value).all (·.oneCell') = true := by
              obtain ⟨qa, qb, qc, qd, rfl, rfl, _, _⟩ := md.open
              simp [Value.oneCell']
            refine hv_recW rfl rfl (x := PX) (p := .tmp 16) (v := .tmp 70) (cs := zeroSt) (vs := #[d1, v1]) rfl hvx e21 hX rfl (by kernel_rfl) hone (fun w' => trivial) ?_
            intro w' r1 r2 r3 r4
            have hb : Below wo.heap.size wo w' := (show Below wo.heap.size wo w1 from hJ).grown r4 (show Below wo.heap.size wo w1 from hJ).size (fun q e => by cases e; exact hXs)
            have o1 : StA allJ w' d1 v1 s1 := ((md.lessRec hX).keep (fun b hb2 hj => r3 b hj.2) (Nat.le_of_eq r2.symm)).weak fun b _ hj => hj.1
            exact ⟨hb, CalmW.all ⟨.inr fun _ _ h => h, .inr fun _ _ h => h, .inr fun _ _ h => h, .inr fun _ _ h => h, .inr fun _ _ h => h, .inr fun _ _ _ => trivial, .inr fun v hh h => (let ⟨d, v2, q, _⟩ := h; ⟨d, v2, q⟩), .inr fun _ _ _ => trivial, .inr fun _ _ h => h, .inr fun v hh _ => ⟨PX, d1, v1, (hh _ _ rfl rfl).trans hvx, r1, hXs, o1⟩, .inl rfl, .inr fun _ _ h => h, trivial⟩⟩
        intro f w1 hJ hv
        have e6 : (rjV allJ wo s1).p w1 (f 16) := hv 9 _ 16 rfl rfl
        have e7 : f 17 = .int .i64 CE := hv 11 _ 17 rfl rfl
        have hbo : Below wo.heap.size wo w1 := hJ
        clear hv
        try simp only [Exit.then]
        simp only [putAll, List.foldl_cons, List.foldl_nil, Option.getD_some, Act.put, List.setIfInBounds_toArray, List.set_cons_succ, List.set_cons_zero]
        obtain ⟨PX, d1, v1, e6, r6, hXs, o1⟩ := e6
        rw [e6, e7]
        clear hJ e6 e7
        -- END A10
        obtain ⟨q1, q2, q3, q4, q5, q6, rfl, rfl⟩ := o1.shape
        replace HXX := Lib.hid (HXX.out.later hbo)
        replace HO1 := Lib.hid (HO1.out.later hbo)
        have HXY := Lib.hid r6
        have HO2 := Lib.hid o1
        have HPD : Hid (PA ≠ PX ∧ PB ≠ PX) := Lib.hid (by have := HPX1.out; have := HPX2.out; omega)
        replace HBR := Lib.hid (HBR.out.trans (hbo.mono HBR.out.size))
        replace HRX := Lib.hid (HRX.out.later hbo)
        replace HRZ := Lib.hid (HRZ.out.later hbo)
        replace HSA := Lib.hid (HSA.out.later hbo)
        replace HSB := Lib.hid (HSB.out.later hbo)
        obtain ⟨PD, hPD⟩ : ∃ z, z = PX := ⟨_, rfl⟩
        subst hPD
        clear r6 o1 hXs hbo HAR HE5 HPX1 HPX2
        obtain ⟨x0, x1⟩ := HXX.out.c2
        obtain ⟨z0, z1⟩ := HXY.out.c2
        go_wp2_with fail
        refine (rsame14_yes (.slice p1 p2 p3) (.slice p4 p5 p6) (.slice q1 q2 q3) (.slice q4 q5 q6) s1 s1 _ _ _ HO1.out HO2.out rfl).mono ?_
        rintro e w6 ⟨rfl, b⟩
        replace HBR := Lib.hid (HBR.out.trans (b.mono HBR.out.size))
        replace HRX := Lib.hid (HRX.out.later b)
        replace HRZ := Lib.hid (HRZ.out.later b)
        replace HSA := Lib.hid (HSA.out.later b)
        replace HSB := Lib.hid (HSB.out.later b)
        replace HXX := Lib.hid (HXX.out.later b)
        replace HXY := Lib.hid (HXY.out.later b)
        replace HO1 := Lib.hid (HO1.out.later b)
        replace HO2 := Lib.hid (HO2.out.later b)
        clear b x0 x1 z0 z1
        by_cases hCE : CE = 0
        · have hc0 : (CE == 0) = true := by simp [hCE]
          have hc1 : (CE != CE) = false := by simp
          obtain ⟨hck, hs1⟩ := applyM_ok (by rw [← hCE]; exact HAPQ.out)
          have HY : Hid (foldM (newM size) (l.take (j + 1)) = s1) := Lib.hid (by rw [HSN.out, hs1])
          clear hck hs1 hCE
          have HPP : Hid (Apart4 w PA PB PC PD) := Lib.hid ⟨by have := HPB.out; omega, HPC.out.1, HPD.out.1, HPC.out.2, HPD.out.2, HGA.out, by have := HPB.out; have := HGA.out; omega⟩
          have HJ0 : Hid (jAB w PA PB PC PD ((ad, nd, cd), (av, nv, cv)) ((bd, md, eb), (bv, mv, ec)) ((p1, p2, p3), (p4, p5, p6)) ((q1, q2, q3), (q4, q5, q6)) s1 0 w6) := Lib.hid ⟨HRX.out, HRZ.out, HXX.out, HXY.out, HO1.out, HO2.out, HBR.out⟩
          clear HRX HRZ HXX HXY HO1 HO2 HSA HSB HPC HPD
          go_upto_region 14 with fail
          -- REG A14
          refine wp_region_ptab (L := fun ph => match ph with | 0 => [cV (.agg #[.slice p1 p2 p3, .slice p4 p5 p6]), cV (.agg #[.slice q1 q2 q3, .slice q4 q5 q6]), tV, tV] | 1 => [cV (.agg #[.slice p1 p2 p3, .slice p4 p5 p6]), cV (.agg #[.slice q1 q2 q3, .slice q4 q5 q6]), tV, tV] | _ => [cV (.agg #[.slice p1 p2 p3, .slice p4 p5 p6]), cV (.agg #[.slice q1 q2 q3, .slice q4 q5 q6]), tV, tV]) (jAB w PA PB PC PD ((ad, nd, cd), (av, nv, cv)) ((bd, md, eb), (bv, mv, ec)) ((p1, p2, p3), (p4, p5, p6)) ((q1, q2, q3), (q4, q5, q6)) s1) [2, 3] [(0, 0), (0, 1), (0, 1), (1, 2)] [[(14, none)], [(16, none)], [(11, none), (83, some 0)], [(12, none), (84, some 1)]] 4 2 131 (by kernel_rfl) rfl rfl rfl (by kernel_rfl) (by kernel_rfl) (by decide) (by kernel_rfl) ?_ ?_ ?_ ?_ ?_
          · exact jAB_st w PA PB PC PD _ _ _ _ s1
          · exact HJ0.out
          · show ∀ i, i < 4 → _
            iterate 4 (refine fls ?_ ?_)
            · exact fl0
            · intro hne lo hi ph hran hp1 hp2 a w1 hJ hsz hs      -- 0: slot 83
              obtain ⟨rfl, rfl⟩ : 0 = lo ∧ 0 = hi := Prod.mk.inj (Option.some.inj hran)
              obtain rfl : ph = 0 := by omega
              obtain ⟨h0, _⟩ := hs
              have h0 : a.tmps.getD 14 undef = .pointer (some ⟨PC, 0, none⟩) := h0
              obtain ⟨x0, x1⟩ := (show RecAt w1 PC #[.slice p1 p2 p3, .slice p4 p5 p6] tSt from (jAB_at hJ).2.2.1).c2
              refine op_run rfl rfl (v := .agg #[.slice p1 p2 p3, .slice p4 p5 p6]) (w' := w1) ?_ rfl (Below.refl _ _)
              simp [execOp, Act.eval, h0, x0, x1, go_sem]
            · intro hne lo hi ph hran hp1 hp2 a w1 hJ hsz hs      -- 1: slot 84
              obtain ⟨rfl, rfl⟩ : 0 = lo ∧ 1 = hi := Prod.mk.inj (Option.some.inj hran)
              rcases (by omega : ph = 0 ∨ ph = 1) with rfl | rfl
              · obtain ⟨h0, _⟩ := hs
                have h0 : a.tmps.getD 16 undef = .pointer (some ⟨PD, 0, none⟩) := h0
                obtain ⟨x0, x1⟩ := (show RecAt w1 PD #[.slice q1 q2 q3, .slice q4 q5 q6] tSt from (jAB_at hJ).2.2.2.1).c2
                refine op_run rfl rfl (v := .agg #[.slice q1 q2 q3, .slice q4 q5 q6]) (w' := w1) ?_ rfl (Below.refl _ _)
                simp [execOp, Act.eval, h0, x0, x1, go_sem]
              · obtain ⟨h0, _⟩ := hs
                have h0 : a.tmps.getD 16 undef = .pointer (some ⟨PD, 0, none⟩) := h0
                obtain ⟨x0, x1⟩ := (show RecAt w1 PD #[.slice q1 q2 q3, .slice q4 q5 q6] tSt from (jAB_at hJ).2.2.2.1).c2
                refine op_run rfl rfl (v := .agg #[.slice q1 q2 q3, .slice q4 q5 q6]) (w' := w1) ?_ rfl (Below.refl _ _)
                simp [execOp, Act.eval, h0, x0, x1, go_sem]
            · intro hne lo hi ph hran hp1 hp2 a w1 hJ hsz hs      -- 2: slot None
              exact absurd (by decide) hne
            · intro hne lo hi ph hran hp1 hp2 a w1 hJ hsz hs      -- 3: slot None
              exact absurd (by decide) hne
          · show ∀ ph, ph < 2 → _
            iterate 2 (refine fls ?_ ?_)
            · exact fl0
            · intro i hi a w1 hJ hsz hs      -- heavy 0: op 2 slot None
              obtain rfl : 2 = i := Option.some.inj hi
              obtain ⟨h0, h1, _⟩ := hs
              have h0 : a.tmps.getD 11 undef = .pointer (some ⟨PA, 0, none⟩) := h0
              have g0 : a.tmps[11]?.getD undef = .pointer (some ⟨PA, 0, none⟩) := (Array.getD_eq_getD_getElem? ..).symm.trans h0
              have h1 : a.tmps.getD 83 undef = .agg #[.slice p1 p2 p3, .slice p4 p5 p6] := h1
              have g1 : a.tmps[83]?.getD undef = .agg #[.slice p1 p2 p3, .slice p4 p5 p6] := (Array.getD_eq_getD_getElem? ..).symm.trans h1
              have hJ0 : jAB w PA PB PC PD ((ad, nd, cd), (av, nv, cv)) ((bd, md, eb), (bv, mv, ec)) ((p1, p2, p3), (p4, p5, p6)) ((q1, q2, q3), (q4, q5, q6)) s1 0 w1 := hJ
              refine hv_rec rfl rfl (x := PA) (p := .tmp 11) (v := .tmp 83) (cs := #[.slice ad nd cd, .slice av nv cv]) (vs := #[.slice p1 p2 p3, .slice p4 p5 p6]) rfl h0 h1 hJ0.1 rfl (by kernel_rfl) (by simp [Value.oneCell']) (fun w' => trivial) (fun w' r1 r2 r3 r4 => hJ0.first HPP.out r1 r2 r3 r4) (fun w' => ?_)
              exact (Calm5.all (n := 0) ⟨.inr fun _ h => h, .inr fun _ h => h, .inl rfl, .inr fun _ _ => trivial, trivial⟩)
            · intro i hi a w1 hJ hsz hs      -- heavy 1: op 3 slot None
              obtain rfl : 3 = i := Option.some.inj hi
              obtain ⟨h0, h1, _⟩ := hs
              have h0 : a.tmps.getD 12 undef = .pointer (some ⟨PB, 0, none⟩) := h0
              have g0 : a.tmps[12]?.getD undef = .pointer (some ⟨PB, 0, none⟩) := (Array.getD_eq_getD_getElem? ..).symm.trans h0
              have h1 : a.tmps.getD 84 undef = .agg #[.slice q1 q2 q3, .slice q4 q5 q6] := h1
              have g1 : a.tmps[84]?.getD undef = .agg #[.slice q1 q2 q3, .slice q4 q5 q6] := (Array.getD_eq_getD_getElem? ..).symm.trans h1
              have hJ0 : jAB w PA PB PC PD ((ad, nd, cd), (av, nv, cv)) ((bd, md, eb), (bv, mv, ec)) ((p1, p2, p3), (p4, p5, p6)) ((q1, q2, q3), (q4, q5, q6)) s1 1 w1 := hJ
              refine hv_rec rfl rfl (x := PB) (p := .tmp 12) (v := .tmp 84) (cs := #[.slice bd md eb, .slice bv mv ec]) (vs := #[.slice q1 q2 q3, .slice q4 q5 q6]) rfl h0 h1 hJ0.2.1 rfl (by kernel_rfl) (by simp [Value.oneCell']) (fun w' => trivial) (fun w' r1 r2 r3 r4 => hJ0.second HPP.out r1 r2 r3 r4) (fun w' => ?_)
              exact (Calm5.all (n := 0) ⟨.inr fun _ h => h, .inr fun _ h => h, .inr fun _ _ => trivial, .inl rfl, trivial⟩)
          intro f w1 hJ hv
          clear hv
          try simp only [Exit.then]
          simp only [putAll, List.foldl_cons, List.foldl_nil, Option.getD_some, Act.put, List.setIfInBounds_toArray, List.set_cons_succ, List.set_cons_zero]
          have HJ2 : Hid (jAB w PA PB PC PD ((ad, nd, cd), (av, nv, cv)) ((bd, md, eb), (bv, mv, ec)) ((p1, p2, p3), (p4, p5, p6)) ((q1, q2, q3), (q4, q5, q6)) s1 2 w1) := Lib.hid hJ
          clear hJ
          -- END A14
          have HA2 : Hid (SAt allJ w1 PA s1) := Lib.hid ⟨p1, p2, p3, p4, p5, p6, HJ2.out.1, HJ2.out.2.2.2.2.1⟩
          have HB2 : Hid (SAt allJ w1 PB s1) := Lib.hid ⟨q1, q2, q3, q4, q5, q6, HJ2.out.2.1, HJ2.out.2.2.2.2.2.1⟩
          have HBW : Hid (Below w.heap.size w w1) := Lib.hid HJ2.out.2.2.2.2.2.2
          have HOK2 := HOK1
          obtain ⟨s2, hs2⟩ : ∃ z, z = s1 := ⟨_, rfl⟩
          subst hs2
          clear HJ2 HJ0 HPP hc0 hc1 HBR
          -- the reads, one
          have HAS := HA2.out
          obtain ⟨ad, nd, cd, av, nv, cv, hRX, hSA⟩ := HA2.out
          obtain ⟨bd, md, eb, bv, mv, ec, hRZ, hSB⟩ := HB2.out
          have HRX := Lib.hid hRX
          have HRZ := Lib.hid hRZ
          have HSA := Lib.hid hSA
          have HSB := Lib.hid hSB
          clear hRX hRZ hSA hSB HAS HA2 HB2
          obtain ⟨x0, x1⟩ := HRX.out.c2
          go_wp2_with fail
          refine (pread14_any (.slice ad nd cd) (.slice av nv cv) s2 T off num _ _ HSA.out HOK2.out hT HIO.out HIM.out).mono ?_
          obtain ⟨RL, RE, hRR⟩ : ∃ a b, readM s2 T.data.toList off num = (a, b) := ⟨_, _, rfl⟩
          rw [hRR]
          rintro e w8 ⟨v8, rfl, o8⟩
          have hb8 := o8.below
          replace HBW := Lib.hid (HBW.out.trans (hb8.mono HBW.out.size))
          replace HRX := Lib.hid (HRX.out.later hb8)
          replace HRZ := Lib.hid (HRZ.out.later hb8)
          replace HSA := Lib.hid (HSA.out.later hb8)
          replace HSB := Lib.hid (HSB.out.later hb8)
          obtain ⟨a8, c8, rfl, r8⟩ := o8.row_n (n := RL.length) rfl
          have HR8 := Lib.hid r8
          clear o8 hb8 r8 x0 x1
          obtain ⟨NL, hNL⟩ : ∃ z, RL.length = z := ⟨_, rfl⟩
          rw [hNL]
          have HNL := Lib.hid hNL
          clear hNL
          obtain ⟨x0, x1⟩ := HRZ.out.c2
          go_wp2_with fail
          refine (rread14_any (.slice bd md eb) (.slice bv mv ec) s2 T off num _ _ HSB.out hT HIO.out HIM.out ⟨by have := HOK2.out.size; omega, fun o ho => by have := HOK2.out.sizes o ho; omega⟩).mono ?_
          rw [hRR]
          rintro e w9 ⟨v9, rfl, o9⟩
          have hb9 := o9.below
          replace HBW := Lib.hid (HBW.out.trans (hb9.mono HBW.out.size))
          replace HRX := Lib.hid (HRX.out.later hb9)
          replace HRZ := Lib.hid (HRZ.out.later hb9)
          replace HSA := Lib.hid (HSA.out.later hb9)
          replace HSB := Lib.hid (HSB.out.later hb9)
          replace HR8 := Lib.hid (HR8.out.later hb9)
          obtain ⟨a9, c9, rfl, r9⟩ := o9.row_n HNL.out
          have HR9 := Lib.hid r9
          clear o9 hb9 r9 x0 x1 hRR
          obtain ⟨x0, x1⟩ := HRX.out.c2
          obtain ⟨z0, z1⟩ := HRZ.out.c2
          have k8 := conv_row_n HR8.out HNL.out
          have k9 := conv_row_n HR9.out HNL.out
          have hsb : ((⟨RL.toArray⟩ : ByteArray).toList == (⟨RL.toArray⟩ : ByteArray).toList) = true := (sbeq_iff _ _).2 rfl
          obtain ⟨TX, hTX⟩ : ∃ z, (⟨RL.toArray⟩ : ByteArray) = z := ⟨_, rfl⟩
          rw [hTX] at k8 k9 hsb
          clear hTX
          go_wp2_with fail
          refine (rsame14_yes (.slice ad nd cd) (.slice av nv cv) (.slice bd md eb) (.slice bv mv ec) s2 s2 _ _ _ HSA.out HSB.out rfl).mono ?_
          rintro e w4 ⟨rfl, b⟩
          replace HBW := Lib.hid (HBW.out.trans (b.mono HBW.out.size))
          replace HRX := Lib.hid (HRX.out.later b)
          replace HRZ := Lib.hid (HRZ.out.later b)
          replace HSA := Lib.hid (HSA.out.later b)
          replace HSB := Lib.hid (HSB.out.later b)
          clear b x0 x1 z0 z1 k8 k9 hsb HR8 HR9
          obtain ⟨x0, x1⟩ := HRX.out.c2
          go_wp2_with fail
          refine (pright14_yes (.slice ad nd cd) (.slice av nv cv) s2 _ _ HSA.out HOK2.out).mono ?_
          rintro e w5 ⟨rfl, b⟩
          replace HBW := Lib.hid (HBW.out.trans (b.mono HBW.out.size))
          have HA5 : Hid (SAt allJ w5 PA s2) := Lib.hid ⟨ad, nd, cd, av, nv, cv, HRX.out.later b, HSA.out.later b⟩
          have HB5 : Hid (SAt allJ w5 PB s2) := Lib.hid ⟨bd, md, eb, bv, mv, ec, HRZ.out.later b, HSB.out.later b⟩
          clear b x0 x1 HRX HRZ HSA HSB
          go_wp2_with fail
          go_roundw
          case rel => exact ⟨j + 1, by go_num, by omega, HBW.out, Lib.hid (by rw [HY.out]; exact HA5.out), Lib.hid (by rw [HY.out]; exact HB5.out)⟩
          case measure => simp [intOf]; omega
        · have hc0 : (CE == 0) = false := by simp [hCE]
          have hc1 : (CE != CE) = false := by simp
          obtain ⟨hck, hs1, hst⟩ := applyM_err HAPQ.out hCE
          have HY : Hid (foldM (newM size) (l.take (j + 1)) = sj) := Lib.hid (by rw [HSN.out, hst])
          clear hck hs1 hst hCE
          have HA2 : Hid (SAt allJ w6 PA sj) := Lib.hid ⟨ad, nd, cd, av, nv, cv, HRX.out, HSA.out⟩
          have HB2 : Hid (SAt allJ w6 PB sj) := Lib.hid ⟨bd, md, eb, bv, mv, ec, HRZ.out, HSB.out⟩
          have HBW := HBR
          have HOK2 := HOKJ
          obtain ⟨s2, hs2⟩ : ∃ z, z = sj := ⟨_, rfl⟩
          subst hs2
          clear HRX HRZ HXX HXY HO1 HO2 HSA HSB HPC HPD HBR
          -- the reads, two
          have HAS := HA2.out
          obtain ⟨ad, nd, cd, av, nv, cv, hRX, hSA⟩ := HA2.out
          obtain ⟨bd, md, eb, bv, mv, ec, hRZ, hSB⟩ := HB2.out
          have HRX := Lib.hid hRX
          have HRZ := Lib.hid hRZ
          have HSA := Lib.hid hSA
          have HSB := Lib.hid hSB
          clear hRX hRZ hSA hSB HAS HA2 HB2
          obtain ⟨x0, x1⟩ := HRX.out.c2
          go_wp2_with fail
          refine (pread14_any (.slice ad nd cd) (.slice av nv cv) s2 T off num _ _ HSA.out HOK2.out hT HIO.out HIM.out).mono ?_
          obtain ⟨RL, RE, hRR⟩ : ∃ a b, readM s2 T.data.toList off num = (a, b) := ⟨_, _, rfl⟩
          rw [hRR]
          rintro e w8 ⟨v8, rfl, o8⟩
          have hb8 := o8.below
          replace HBW := Lib.hid (HBW.out.trans (hb8.mono HBW.out.size))
          replace HRX := Lib.hid (HRX.out.later hb8)
          replace HRZ := Lib.hid (HRZ.out.later hb8)
          replace HSA := Lib.hid (HSA.out.later hb8)
          replace HSB := Lib.hid (HSB.out.later hb8)
          obtain ⟨a8, c8, rfl, r8⟩ := o8.row_n (n := RL.length) rfl
          have HR8 := Lib.hid r8
          clear o8 hb8 r8 x0 x1
          obtain ⟨NL, hNL⟩ : ∃ z, RL.length = z := ⟨_, rfl⟩
          rw [hNL]
          have HNL := Lib.hid hNL
          clear hNL
          obtain ⟨x0, x1⟩ := HRZ.out.c2
          go_wp2_with fail
          refine (rread14_any (.slice bd md eb) (.slice bv mv ec) s2 T off num _ _ HSB.out hT HIO.out HIM.out ⟨by have := HOK2.out.size; omega, fun o ho => by have := HOK2.out.sizes o ho; omega⟩).mono ?_
          rw [hRR]
          rintro e w9 ⟨v9, rfl, o9⟩
          have hb9 := o9.below
          replace HBW := Lib.hid (HBW.out.trans (hb9.mono HBW.out.size))
          replace HRX := Lib.hid (HRX.out.later hb9)
          replace HRZ := Lib.hid (HRZ.out.later hb9)
          replace HSA := Lib.hid (HSA.out.later hb9)
          replace HSB := Lib.hid (HSB.out.later hb9)
          replace HR8 := Lib.hid (HR8.out.later hb9)
          obtain ⟨a9, c9, rfl, r9⟩ := o9.row_n HNL.out
          have HR9 := Lib.hid r9
          clear o9 hb9 r9 x0 x1 hRR
          obtain ⟨x0, x1⟩ := HRX.out.c2
          obtain ⟨z0, z1⟩ := HRZ.out.c2
          have k8 := conv_row_n HR8.out HNL.out
          have k9 := conv_row_n HR9.out HNL.out
          have hsb : ((⟨RL.toArray⟩ : ByteArray).toList == (⟨RL.toArray⟩ : ByteArray).toList) = true := (sbeq_iff _ _).2 rfl
          obtain ⟨TX, hTX⟩ : ∃ z, (⟨RL.toArray⟩ : ByteArray) = z := ⟨_, rfl⟩
          rw [hTX] at k8 k9 hsb
          clear hTX
          go_wp2_with fail
          refine (rsame14_yes (.slice ad nd cd) (.slice av nv cv) (.slice bd md eb) (.slice bv mv ec) s2 s2 _ _ _ HSA.out HSB.out rfl).mono ?_
          rintro e w4 ⟨rfl, b⟩
          replace HBW := Lib.hid (HBW.out.trans (b.mono HBW.out.size))
          replace HRX := Lib.hid (HRX.out.later b)
          replace HRZ := Lib.hid (HRZ.out.later b)
          replace HSA := Lib.hid (HSA.out.later b)
          replace HSB := Lib.hid (HSB.out.later b)
          clear b x0 x1 z0 z1 k8 k9 hsb HR8 HR9
          obtain ⟨x0, x1⟩ := HRX.out.c2
          go_wp2_with fail
          refine (pright14_yes (.slice ad nd cd) (.slice av nv cv) s2 _ _ HSA.out HOK2.out).mono ?_
          rintro e w5 ⟨rfl, b⟩
          replace HBW := Lib.hid (HBW.out.trans (b.mono HBW.out.size))
          have HA5 : Hid (SAt allJ w5 PA s2) := Lib.hid ⟨ad, nd, cd, av, nv, cv, HRX.out.later b, HSA.out.later b⟩
          have HB5 : Hid (SAt allJ w5 PB s2) := Lib.hid ⟨bd, md, eb, bv, mv, ec, HRZ.out.later b, HSB.out.later b⟩
          clear b x0 x1 HRX HRZ HSA HSB
          go_wp2_with fail
          go_roundw
          case rel => exact ⟨j + 1, by go_num, by omega, HBW.out, Lib.hid (by rw [HY.out]; exact HA5.out), Lib.hid (by rw [HY.out]; exact HB5.out)⟩
          case measure => simp [intOf]; omega
      · have hjN : j = n := by omega
        subst hjN
        have hjd : decide ((j : Int) < (j : Int)) = false := decide_eq_false (by omega)
        obtain ⟨FL, hFL⟩ : ∃ z, foldM (newM size) l = z := ⟨_, rfl⟩
        have htk : l.take j = l := List.take_of_length_le (by rw [HN.out]; omega)
        rw [htk, hFL] at HSBb
        have hokF : StOk FL := by rw [← hFL]; exact foldM_ok (newM_ok size) _
        have HLQ := Lib.hid (HL.out.later ev_rel HBR.out)
        obtain ⟨bd, md, eb, bv, mv, ec, hRX, hST⟩ := HSBb.out
        have HRZ := Lib.hid hRX
        have HF2 := Lib.hid (fun W (hb : Below wo.heap.size wo W) (d v : Value) (h : StA allJ W d v (newM size)) => by
          have := pfold14_any d v (newM size) a1 j cap l allJ _ W h (newM_ok size) (HLQ.out.later ev_rel hb)
          rw [hFL] at this; exact this)
        have HSM := Lib.hid (fun W (hb : Below wo.heap.size wo W) (d v : Value) (h : StA allJ W d v FL) => rsame14_yes d v (.slice bd md eb) (.slice bv mv ec) FL FL allJ _ W h (hST.later hb) rfl)
        clear hRX hST hFL htk hokF HSBb HSAa
        go_upto_region 19 with fail
        -- REG A19
        refine wp_region_tab (L := [cV (.int .i64 size), stV allJ (newM size), cV (.slice a1 j cap), stV allJ (FL), cV (.agg #[.slice bd md eb, .slice bv mv ec]), cV (.bool true), cV (.bool true), cV (.bool true), cV (.bool true), cV (.bool true)]) [[(0, none)], [(122, some 0)], [(1, none)], [(123, some 1), (124, some 2)], [(12, none)], [(125, some 3), (126, some 4)], [(127, some 5)], [(128, some 6)], [(128, some 6), (129, some 7)], [(130, some 8)]] 10 131 (by kernel_rfl) rfl rfl (by kernel_rfl) (by kernel_rfl) ?_ ?_
        · show ∀ i, i < 10 → _
          iterate 10 (refine fls ?_ ?_)
          · exact fl0
          · intro a w1 hR hsz hs      -- 0: slot 122
            obtain ⟨h0, _⟩ := hs
            have h0 : a.tmps.getD 0 undef = .int .i64 size := h0
            refine op_run rfl rfl (v := .int .i64 size) (w' := w1) ?_ rfl (Below.refl _ _)
            simp [execOp, Act.eval, h0, go_sem]
          · intro a w1 hR hsz hs      -- 1: slot 123
            obtain ⟨h0, _⟩ := hs
            have h0 : a.tmps.getD 122 undef = .int .i64 size := h0
            refine op_call rfl rfl (f := 12) (args := #[.int .i64 size]) (by simp [execOp, Act.eval, resolve, h0, go_sem]) ?_
            exact calls_st (pnew14_any size w1)
          · intro a w1 hR hsz hs      -- 2: slot 124
            obtain ⟨h0, _⟩ := hs
            have h0 : a.tmps.getD 1 undef = .slice a1 j cap := h0
            refine op_run rfl rfl (v := .slice a1 j cap) (w' := w1) ?_ rfl (Below.refl _ _)
            simp [execOp, Act.eval, h0, go_sem]
          · intro a w1 hR hsz hs      -- 3: slot 125
            obtain ⟨h0, h1, _⟩ := hs
            obtain ⟨d0, v0, h0, s0⟩ := (show ∃ d v, a.tmps.getD 123 undef = .agg #[d, v] ∧ StA allJ w1 d v (newM size) from h0)
            have h1 : a.tmps.getD 124 undef = .slice a1 j cap := h1
            refine op_call rfl rfl (f := 22) (args := #[.agg #[d0, v0], .slice a1 j cap]) (by simp [execOp, Act.eval, resolve, h0, h1, go_sem]) ?_
            exact calls_st (HF2.out w1 hR _ _ s0)
          · intro a w1 hR hsz hs      -- 4: slot 126
            obtain ⟨h0, _⟩ := hs
            have h0 : a.tmps.getD 12 undef = .pointer (some ⟨PB, 0, none⟩) := h0
            obtain ⟨x0, x1⟩ := (HRZ.out.later hR).c2
            refine op_run rfl rfl (v := .agg #[.slice bd md eb, .slice bv mv ec]) (w' := w1) ?_ rfl (Below.refl _ _)
            simp [execOp, Act.eval, h0, x0, x1, go_sem]
          · intro a w1 hR hsz hs      -- 5: slot 127
            obtain ⟨h0, h1, _⟩ := hs
            obtain ⟨d0, v0, h0, s0⟩ := (show ∃ d v, a.tmps.getD 125 undef = .agg #[d, v] ∧ StA allJ w1 d v (FL) from h0)
            have h1 : a.tmps.getD 126 undef = .agg #[.slice bd md eb, .slice bv mv ec] := h1
            refine op_call rfl rfl (f := 18) (args := #[.agg #[d0, v0], .agg #[.slice bd md eb, .slice bv mv ec]]) (by simp [execOp, Act.eval, resolve, h0, h1, go_sem]) ?_
            exact calls_c (HSM.out w1 hR _ _ s0)
          · intro a w1 hR hsz hs      -- 6: slot 128
            obtain ⟨h0, _⟩ := hs
            have h0 : a.tmps.getD 127 undef = .bool true := h0
            refine op_run rfl rfl (v := .bool true) (w' := w1) ?_ rfl (Below.refl _ _)
            simp [execOp, Act.eval, h0, go_sem]
          · intro a w1 hR hsz hs      -- 7: slot 129
            obtain ⟨h0, _⟩ := hs
            have h0 : a.tmps.getD 128 undef = .bool true := h0
            refine opg_call rfl rfl rfl (by rw [hsz]; decide) h0 (f := 11) (args := #[]) (by simp [execOp, Act.eval, resolve, go_sem]) ?_
            exact calls_c (known14_any w1)
          · intro a w1 hR hsz hs      -- 8: slot 130
            obtain ⟨h0, h1, _⟩ := hs
            have h0 : a.tmps.getD 128 undef = .bool true := h0
            have h1 : a.tmps.getD 129 undef = .bool true := h1
            refine op_run rfl rfl (v := .bool true) (w' := w1) ?_ rfl (Below.refl _ _)
            simp [execOp, Act.eval, h0, h1, go_sem]
          · intro a w1 hR hsz hs      -- 9: slot 10
            obtain ⟨h0, _⟩ := hs
            have h0 : a.tmps.getD 130 undef = .bool true := h0
            refine op_run rfl rfl (v := .bool true) (w' := w1) ?_ rfl (Below.refl _ _)
            simp [execOp, Act.eval, h0, go_sem]
        intro f w1 hR hv
        have e10 : f 10 = .bool true := hv 9 _ 10 rfl rfl
        clear hv
        try simp only [Exit.then]
        simp only [putAll, List.foldl_cons, List.foldl_nil, Option.getD_some, Act.put, List.setIfInBounds_toArray, List.set_cons_succ, List.set_cons_zero]
        rw [e10]
        clear e10
        -- END A19
        have HBk := Lib.hid (HBR.out.trans (hR.mono HBR.out.size))
        clear hR
        go_wp2_with fail
        go_ret
        exact ⟨rfl, HBk.out⟩
end Go.Proofs.Ytghglbaflmbeoaa
