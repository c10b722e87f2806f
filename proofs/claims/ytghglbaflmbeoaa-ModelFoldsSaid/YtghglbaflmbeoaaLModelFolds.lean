/- The law 'ModelFolds', walked. -/
import Derived.Test.YtghglbaflmbeoaaMdK
namespace Go.Proofs.Ytghglbaflmbeoaa
open Go.RowKit Go.Proofs
set_option linter.unusedVariables false
set_option linter.unusedSimpArgs false
set_option linter.unnecessarySimpa false

set_option maxRecDepth 100000 in
set_option maxHeartbeats 12800000 in
theorem modelFolds_walk (size : Int) (a1 : Option Addr) (n1 c1 : Nat) (l1 : List Ev) (a2 : Option Addr) (n2 c2 : Nat) (l2 : List Ev) (w : World) (h1 : QE allJ w (.slice a1 n1 c1) l1) (h2 : QE allJ w (.slice a2 n2 c2) l2) :
    Calls Try.prog 6 #[.int .i64 size, .slice a1 n1 c1, .slice a2 n2 c2] w fun x w' => x = .returned (.bool true) ∧ Below w.heap.size w w' := by
  have HB := Lib.hid (Below.refl w.heap.size w)
  have HL1 := Lib.hid (h1)
  have HL2 := Lib.hid (h2)
  clear h1 h2
  go_enter Try.func6, Try.ntmps6
  go_wp2_with fail
  obtain ⟨B1, hB1⟩ : ∃ z, smallE l1 40 = z := ⟨_, rfl⟩
  refine (small14_any a1 n1 c1 l1 40 allJ _ HL1.out).mono ?_
  rw [hB1]
  rintro e w1 ⟨rfl, b⟩
  have HB1 := Lib.hid hB1
  clear hB1
  replace HB := Lib.hid (HB.out.trans (b.mono HB.out.size))
  replace HL1 := Lib.hid (HL1.out.later ev_rel b)
  replace HL2 := Lib.hid (HL2.out.later ev_rel b)
  clear b
  cases B1 with
  | false =>
    go_wp2_with fail
    refine (known14_any _).mono ?_
    rintro e wk ⟨rfl, bk⟩
    have HBk := Lib.hid (HB.out.trans (bk.mono HB.out.size))
    clear bk
    go_wp2_with fail
    go_ret
    exact ⟨rfl, HBk.out⟩
  | true =>
    go_wp2_with fail
    obtain ⟨B2, hB2⟩ : ∃ z, smallE l2 40 = z := ⟨_, rfl⟩
    refine (small14_any a2 n2 c2 l2 40 allJ _ HL2.out).mono ?_
    rw [hB2]
    rintro e w2 ⟨rfl, b⟩
    have HB2 := Lib.hid hB2
    clear hB2
    replace HB := Lib.hid (HB.out.trans (b.mono HB.out.size))
    replace HL1 := Lib.hid (HL1.out.later ev_rel b)
    replace HL2 := Lib.hid (HL2.out.later ev_rel b)
    clear b
    cases B2 with
    | false =>
      go_wp2_with fail
      refine (known14_any _).mono ?_
      rintro e wk ⟨rfl, bk⟩
      have HBk := Lib.hid (HB.out.trans (bk.mono HB.out.size))
      clear bk
      go_wp2_with fail
      go_ret
      exact ⟨rfl, HBk.out⟩
    | true =>
      have HOA := Lib.hid (foldM_ok (newM_ok size) l1)
      go_wp2_with fail
      refine (pnew14_any size _).mono ?_
      rintro e w3 ⟨d, v, rfl, hs, b⟩
      replace HB := Lib.hid (HB.out.trans (b.mono HB.out.size))
      replace HL1 := Lib.hid (HL1.out.later ev_rel b)
      replace HL2 := Lib.hid (HL2.out.later ev_rel b)
      have HN := Lib.hid hs
      clear hs b
      go_wp2_with fail
      refine (pfold14_any d v (newM size) a1 n1 c1 l1 _ allJ _ HN.out (newM_ok size) HL1.out).mono ?_
      rintro e w4 ⟨d, v, rfl, hs, b⟩
      replace HB := Lib.hid (HB.out.trans (b.mono HB.out.size))
      replace HL1 := Lib.hid (HL1.out.later ev_rel b)
      replace HL2 := Lib.hid (HL2.out.later ev_rel b)
      replace HN := Lib.hid (HN.out.later b)
      obtain ⟨p1, p2, p3, p4, p5, p6, rfl, rfl⟩ := hs.shape
      have b2 := below_st w4 #[.slice p1 p2 p3, .slice p4 p5 p6]
      have HA := Lib.hid (SAt.new hs.all)
      replace HB := Lib.hid (HB.out.trans (b2.mono HB.out.size))
      replace HL1 := Lib.hid (HL1.out.later ev_rel b2)
      replace HL2 := Lib.hid (HL2.out.later ev_rel b2)
      replace HN := Lib.hid (HN.out.later b2)
      clear hs b b2
      go_upto_region 4 with fail
      obtain ⟨w5, hw⟩ : ∃ W, w4.alloc (.cells #[.slice p1 p2 p3, .slice p4 p5 p6] 28) = W := ⟨_, rfl⟩
      rw [hw] at HB HL1 HL2 HN HA ⊢
      obtain ⟨PA, hX⟩ : ∃ X, w4.heap.size = X := ⟨_, rfl⟩
      rw [hX] at HA ⊢
      clear hw hX
      clear HN
      go_wp2_with fail
      refine (pnew14_any size _).mono ?_
      rintro e w6 ⟨d, v, rfl, hs, b⟩
      replace HB := Lib.hid (HB.out.trans (b.mono HB.out.size))
      replace HL1 := Lib.hid (HL1.out.later ev_rel b)
      replace HL2 := Lib.hid (HL2.out.later ev_rel b)
      replace HA := Lib.hid (HA.out.later b)
      have HN := Lib.hid hs
      clear hs b
      go_wp2_with fail
      refine (pfold14_any d v (newM size) a1 n1 c1 l1 _ allJ _ HN.out (newM_ok size) HL1.out).mono ?_
      rintro e w7 ⟨d, v, rfl, hs, b⟩
      replace HB := Lib.hid (HB.out.trans (b.mono HB.out.size))
      replace HL1 := Lib.hid (HL1.out.later ev_rel b)
      replace HL2 := Lib.hid (HL2.out.later ev_rel b)
      replace HA := Lib.hid (HA.out.later b)
      replace HN := Lib.hid (HN.out.later b)
      obtain ⟨p1, p2, p3, p4, p5, p6, rfl, rfl⟩ := hs.shape
      have b2 := below_st w7 #[.slice p1 p2 p3, .slice p4 p5 p6]
      have HW := Lib.hid (SAt.new hs.all)
      replace HB := Lib.hid (HB.out.trans (b2.mono HB.out.size))
      replace HL1 := Lib.hid (HL1.out.later ev_rel b2)
      replace HL2 := Lib.hid (HL2.out.later ev_rel b2)
      replace HA := Lib.hid (HA.out.later b2)
      replace HN := Lib.hid (HN.out.later b2)
      clear hs b b2
      go_upto_region 5 with fail
      obtain ⟨w8, hw⟩ : ∃ W, w7.alloc (.cells #[.slice p1 p2 p3, .slice p4 p5 p6] 28) = W := ⟨_, rfl⟩
      rw [hw] at HB HL1 HL2 HA HN HW ⊢
      obtain ⟨PW, hX⟩ : ∃ X, w7.heap.size = X := ⟨_, rfl⟩
      rw [hX] at HW ⊢
      clear hw hX
      clear HN
      obtain ⟨xa, xn, xc, xd, xm, xe, xR, xS⟩ := HA.out
      obtain ⟨x0, x1⟩ := xR.c2
      go_wp2_with fail
      refine (pfold14_any (.slice xa xn xc) (.slice xd xm xe) (foldM (newM size) l1) a2 n2 c2 l2 _ allJ _ xS HOA.out HL2.out).mono ?_
      rintro e w9 ⟨d, v, rfl, hs, b⟩
      replace HB := Lib.hid (HB.out.trans (b.mono HB.out.size))
      replace HL1 := Lib.hid (HL1.out.later ev_rel b)
      replace HL2 := Lib.hid (HL2.out.later ev_rel b)
      replace HA := Lib.hid (HA.out.later b)
      replace HW := Lib.hid (HW.out.later b)
      obtain ⟨p1, p2, p3, p4, p5, p6, rfl, rfl⟩ := hs.shape
      have b2 := below_st w9 #[.slice p1 p2 p3, .slice p4 p5 p6]
      have HC := Lib.hid (SAt.new hs.all)
      replace HB := Lib.hid (HB.out.trans (b2.mono HB.out.size))
      replace HL1 := Lib.hid (HL1.out.later ev_rel b2)
      replace HL2 := Lib.hid (HL2.out.later ev_rel b2)
      replace HA := Lib.hid (HA.out.later b2)
      replace HW := Lib.hid (HW.out.later b2)
      clear hs b b2
      go_upto_region 6 with fail
      obtain ⟨w10, hw⟩ : ∃ W, w9.alloc (.cells #[.slice p1 p2 p3, .slice p4 p5 p6] 28) = W := ⟨_, rfl⟩
      rw [hw] at HB HL1 HL2 HA HW HC ⊢
      obtain ⟨PC, hX⟩ : ∃ X, w9.heap.size = X := ⟨_, rfl⟩
      rw [hX] at HC ⊢
      clear hw hX
      clear x0 x1 xR xS
      go_wp2_with fail
      refine (pnew14_any size _).mono ?_
      rintro e w11 ⟨d, v, rfl, hs, b⟩
      replace HB := Lib.hid (HB.out.trans (b.mono HB.out.size))
      replace HL1 := Lib.hid (HL1.out.later ev_rel b)
      replace HL2 := Lib.hid (HL2.out.later ev_rel b)
      replace HA := Lib.hid (HA.out.later b)
      replace HW := Lib.hid (HW.out.later b)
      replace HC := Lib.hid (HC.out.later b)
      have HN := Lib.hid hs
      clear hs b
      have HN1 : Hid (l1.length ≤ 40) := Lib.hid (by have := (smallE_iff.1 HB1.out).2; omega)
      have HN2 : Hid (l2.length ≤ 40) := Lib.hid (by have := (smallE_iff.1 HB2.out).2; omega)
      have hbe : Below w11.heap.size w11 (w11.alloc (.cells #[] 33)) := (Below.refl _ _).alloc (Nat.le_refl _) _
      have HQ1 := Lib.hid ((HL1.out.weak ev_rel (J' := fun b => b < w11.heap.size) fun b hb _ => hb).later ev_rel hbe)
      have HQ2 := Lib.hid (HL2.out.weak ev_rel (J' := fun b => b < w11.heap.size) fun b hb _ => hb)
      have HO : Hid (OEv allJ w11 (w11.alloc (.cells #[] 33)) (.slice (some ⟨w11.heap.size, 0, none⟩) 0 0) []) := Lib.hid ⟨[], GOwn.empty (Below.refl _ _) rfl, Both.nil⟩
      obtain ⟨N6, hN6⟩ : ∃ z, (l1 ++ l2).length = z := ⟨_, rfl⟩
      have HN6 := Lib.hid hN6
      clear hbe hN6
      go_wp2_with (first
        | (at_builtin; refine wp_qons evT_ok ev_rel rfl (.tmp 33) (.tmp 34) rfl _ [] rfl w11 HO.out l1 a1 n1 c1 rfl (HQ1.out.weak ev_rel fun b _ hb => ⟨trivial, fun e => by have := (HO.out.ltB e.symm).1; omega⟩) (by have := HN1.out; simp; omega) ?_; intro v5 w5 o5 g5; rw [List.nil_append] at o5; have HO5 := Lib.hid o5; clear o5 g5)
        | (at_builtin; refine wp_qons evT_ok ev_rel rfl (.tmp 35) (.tmp 36) rfl _ l1 rfl w11 HO5.out l2 a2 n2 c2 rfl ((HQ2.out.later ev_rel HO5.out.below).weak ev_rel fun b _ hb => ⟨trivial, fun e => by have := (HO5.out.ltB e.symm).1; omega⟩) (by have := HN1.out; have := HN2.out; omega) ?_; intro v6 w6 o6 g6; have HO6 := Lib.hid o6; clear o6 g6; obtain ⟨a6, c6, hv6⟩ := HO6.out.val evT_ok HN6.out; subst hv6))
      replace HB := Lib.hid (HB.out.trans (HO6.out.below.mono HB.out.size))
      replace HL1 := Lib.hid (HL1.out.later ev_rel HO6.out.below)
      replace HL2 := Lib.hid (HL2.out.later ev_rel HO6.out.below)
      replace HA := Lib.hid (HA.out.later HO6.out.below)
      replace HW := Lib.hid (HW.out.later HO6.out.below)
      replace HC := Lib.hid (HC.out.later HO6.out.below)
      replace HN := Lib.hid (HN.out.later HO6.out.below)
      have HL6 := Lib.hid (HO6.out.row evT_ok ev_rel (allJ_new _)).q
      clear HO HO5 HO6 HQ1 HQ2
      refine (pfold14_any d v (newM size) a6 N6 c6 (l1 ++ l2) _ allJ _ HN.out (newM_ok size) HL6.out).mono ?_
      rintro e w12 ⟨d, v, rfl, hs, b⟩
      replace HB := Lib.hid (HB.out.trans (b.mono HB.out.size))
      replace HL1 := Lib.hid (HL1.out.later ev_rel b)
      replace HL2 := Lib.hid (HL2.out.later ev_rel b)
      replace HA := Lib.hid (HA.out.later b)
      replace HW := Lib.hid (HW.out.later b)
      replace HC := Lib.hid (HC.out.later b)
      replace HN := Lib.hid (HN.out.later b)
      replace HL6 := Lib.hid (HL6.out.later ev_rel b)
      obtain ⟨p1, p2, p3, p4, p5, p6, rfl, rfl⟩ := hs.shape
      have b2 := below_st w12 #[.slice p1 p2 p3, .slice p4 p5 p6]
      have HD := Lib.hid (SAt.new hs.all)
      replace HB := Lib.hid (HB.out.trans (b2.mono HB.out.size))
      replace HL1 := Lib.hid (HL1.out.later ev_rel b2)
      replace HL2 := Lib.hid (HL2.out.later ev_rel b2)
      replace HA := Lib.hid (HA.out.later b2)
      replace HW := Lib.hid (HW.out.later b2)
      replace HC := Lib.hid (HC.out.later b2)
      replace HN := Lib.hid (HN.out.later b2)
      replace HL6 := Lib.hid (HL6.out.later ev_rel b2)
      clear hs b b2
      go_upto_region 7 with fail
      obtain ⟨w13, hw⟩ : ∃ W, w12.alloc (.cells #[.slice p1 p2 p3, .slice p4 p5 p6] 28) = W := ⟨_, rfl⟩
      rw [hw] at HB HL1 HL2 HA HW HC HN HL6 HD ⊢
      obtain ⟨PD, hX⟩ : ∃ X, w12.heap.size = X := ⟨_, rfl⟩
      rw [hX] at HD ⊢
      clear hw hX
      clear HN HL6
      have HOB := Lib.hid (foldM_ok HOA.out l2)
      have HOD := Lib.hid (foldM_ok (newM_ok size) (l1 ++ l2))
      obtain ⟨xa, xn, xc, xd, xm, xe, xR, xS⟩ := HC.out
      obtain ⟨x0, x1⟩ := xR.c2
      obtain ⟨ya, yn, yc, yd, ym, ye, yR, yS⟩ := HD.out
      obtain ⟨y0, y1⟩ := yR.c2
      go_wp2_with fail
      refine (psame14_yes (.slice xa xn xc) (.slice xd xm xe) (.slice ya yn yc) (.slice yd ym ye) (foldM (foldM (newM size) l1) l2) (foldM (newM size) (l1 ++ l2)) _ _ _ xS yS HOB.out.may HOD.out.may (foldM_app _ _ _).symm).mono ?_
      rintro e w14 ⟨rfl, b⟩
      clear x0 x1 xR xS
      clear y0 y1 yR yS
      replace HB := Lib.hid (HB.out.trans (b.mono HB.out.size))
      replace HL1 := Lib.hid (HL1.out.later ev_rel b)
      replace HL2 := Lib.hid (HL2.out.later ev_rel b)
      replace HA := Lib.hid (HA.out.later b)
      replace HW := Lib.hid (HW.out.later b)
      replace HC := Lib.hid (HC.out.later b)
      replace HD := Lib.hid (HD.out.later b)
      clear b
      obtain ⟨xa, xn, xc, xd, xm, xe, xR, xS⟩ := HA.out
      obtain ⟨x0, x1⟩ := xR.c2
      obtain ⟨ya, yn, yc, yd, ym, ye, yR, yS⟩ := HW.out
      obtain ⟨y0, y1⟩ := yR.c2
      go_wp2_with fail
      refine (psame14_yes (.slice xa xn xc) (.slice xd xm xe) (.slice ya yn yc) (.slice yd ym ye) (foldM (newM size) l1) (foldM (newM size) l1) _ _ _ xS yS HOA.out.may HOA.out.may rfl).mono ?_
      rintro e w15 ⟨rfl, b⟩
      clear x0 x1 xR xS
      clear y0 y1 yR yS
      replace HB := Lib.hid (HB.out.trans (b.mono HB.out.size))
      replace HL1 := Lib.hid (HL1.out.later ev_rel b)
      replace HL2 := Lib.hid (HL2.out.later ev_rel b)
      replace HA := Lib.hid (HA.out.later b)
      replace HW := Lib.hid (HW.out.later b)
      replace HC := Lib.hid (HC.out.later b)
      replace HD := Lib.hid (HD.out.later b)
      clear b
      obtain ⟨xa, xn, xc, xd, xm, xe, xR, xS⟩ := HC.out
      obtain ⟨x0, x1⟩ := xR.c2
      go_wp2_with fail
      refine (pright14_yes (.slice xa xn xc) (.slice xd xm xe) (foldM (foldM (newM size) l1) l2) _ _ xS HOB.out).mono ?_
      rintro e w16 ⟨rfl, b⟩
      clear x0 x1 xR xS
      replace HB := Lib.hid (HB.out.trans (b.mono HB.out.size))
      replace HL1 := Lib.hid (HL1.out.later ev_rel b)
      replace HL2 := Lib.hid (HL2.out.later ev_rel b)
      replace HA := Lib.hid (HA.out.later b)
      replace HW := Lib.hid (HW.out.later b)
      replace HC := Lib.hid (HC.out.later b)
      replace HD := Lib.hid (HD.out.later b)
      clear b
      go_wp2_with fail
      refine (known14_any _).mono ?_
      rintro e wk ⟨rfl, bk⟩
      have HBk := Lib.hid (HB.out.trans (bk.mono HB.out.size))
      clear bk
      go_wp2_with fail
      go_ret
      exact ⟨rfl, HBk.out⟩
end Go.Proofs.Ytghglbaflmbeoaa
