/- The law 'DiffLeads', walked. -/
import Derived.Test.YtbpddcmehjgleaaGDd
namespace Go.Proofs.Ytbpddcmehjgleaa
open Go.RowKit Go.Proofs
set_option linter.unusedVariables false
set_option linter.unusedSimpArgs false
set_option linter.unnecessarySimpa false

set_option maxRecDepth 100000 in
set_option maxHeartbeats 12800000 in
theorem diffLeads_walk (size other : Int) (a1 : Option Addr) (n1 c1 : Nat) (l1 : List Ev) (a2 : Option Addr) (n2 c2 : Nat) (l2 : List Ev) (a3 : Option Addr) (n3 c3 : Nat) (l3 : List Ev) (w : World) (h1 : QE allJ w (.slice a1 n1 c1) l1) (h2 : QE allJ w (.slice a2 n2 c2) l2) (h3 : QE allJ w (.slice a3 n3 c3) l3) :
    Calls Try.prog 6 #[.int .i64 size, .int .i64 other, .slice a1 n1 c1, .slice a2 n2 c2, .slice a3 n3 c3] w fun x w' => x = .returned (.bool true) ∧ Below w.heap.size w w' := by
  have ub0 := Try.underlying32
  have HB := Lib.hid (Below.refl w.heap.size w)
  have HL1 := Lib.hid (h1)
  have HL2 := Lib.hid (h2)
  have HL3 := Lib.hid (h3)
  clear h1 h2 h3
  go_enter Try.func6, Try.ntmps6
  go_wp2_with fail
  obtain ⟨B1, hB1⟩ : ∃ z, smallE l1 30 = z := ⟨_, rfl⟩
  refine (small14_any a1 n1 c1 l1 30 allJ _ HL1.out).mono ?_
  rw [hB1]
  rintro e w1 ⟨rfl, b⟩
  have HB1 := Lib.hid hB1
  clear hB1
  replace HB := Lib.hid (HB.out.trans (b.mono HB.out.size))
  replace HL1 := Lib.hid (HL1.out.later ev_rel b)
  replace HL2 := Lib.hid (HL2.out.later ev_rel b)
  replace HL3 := Lib.hid (HL3.out.later ev_rel b)
  clear b
  cases B1 with
  | false =>
    go_wp2_with fail
    refine (known15_any _).mono ?_
    rintro e wk ⟨rfl, bk⟩
    have HBk := Lib.hid (HB.out.trans (bk.mono HB.out.size))
    clear bk
    go_wp2_with fail
    go_ret
    exact ⟨rfl, HBk.out⟩
  | true =>
    go_wp2_with fail
    obtain ⟨B2, hB2⟩ : ∃ z, smallE l2 30 = z := ⟨_, rfl⟩
    refine (small14_any a2 n2 c2 l2 30 allJ _ HL2.out).mono ?_
    rw [hB2]
    rintro e w2 ⟨rfl, b⟩
    have HB2 := Lib.hid hB2
    clear hB2
    replace HB := Lib.hid (HB.out.trans (b.mono HB.out.size))
    replace HL1 := Lib.hid (HL1.out.later ev_rel b)
    replace HL2 := Lib.hid (HL2.out.later ev_rel b)
    replace HL3 := Lib.hid (HL3.out.later ev_rel b)
    clear b
    cases B2 with
    | false =>
      go_wp2_with fail
      refine (known15_any _).mono ?_
      rintro e wk ⟨rfl, bk⟩
      have HBk := Lib.hid (HB.out.trans (bk.mono HB.out.size))
      clear bk
      go_wp2_with fail
      go_ret
      exact ⟨rfl, HBk.out⟩
    | true =>
      go_wp2_with fail
      obtain ⟨B3, hB3⟩ : ∃ z, smallE l3 30 = z := ⟨_, rfl⟩
      refine (small14_any a3 n3 c3 l3 30 allJ _ HL3.out).mono ?_
      rw [hB3]
      rintro e w3 ⟨rfl, b⟩
      have HB3 := Lib.hid hB3
      clear hB3
      replace HB := Lib.hid (HB.out.trans (b.mono HB.out.size))
      replace HL1 := Lib.hid (HL1.out.later ev_rel b)
      replace HL2 := Lib.hid (HL2.out.later ev_rel b)
      replace HL3 := Lib.hid (HL3.out.later ev_rel b)
      clear b
      cases B3 with
      | false =>
        go_wp2_with fail
        refine (known15_any _).mono ?_
        rintro e wk ⟨rfl, bk⟩
        have HBk := Lib.hid (HB.out.trans (bk.mono HB.out.size))
        clear bk
        go_wp2_with fail
        go_ret
        exact ⟨rfl, HBk.out⟩
      | true =>
        have HN1 : Hid (l1.length ≤ 30) := Lib.hid (by have := (smallE_iff.1 HB1.out).2; omega)
        have HN2 : Hid (l2.length ≤ 30) := Lib.hid (by have := (smallE_iff.1 HB2.out).2; omega)
        have HN3 : Hid (l3.length ≤ 30) := Lib.hid (by have := (smallE_iff.1 HB3.out).2; omega)
        have HOA := Lib.hid (foldM_ok (newM_ok size) (l1 ++ l2))
        have HOB := Lib.hid (foldM_ok (newM_ok other) (l1 ++ l3))
        obtain ⟨A, hA⟩ : ∃ z, foldM (newM size) (l1 ++ l2) = z := ⟨_, rfl⟩
        obtain ⟨B, hB⟩ : ∃ z, foldM (newM other) (l1 ++ l3) = z := ⟨_, rfl⟩
        rw [hA] at HOA
        rw [hB] at HOB
        have HEA := Lib.hid hA
        have HEB := Lib.hid hB
        clear hA hB
        go_wp2_with fail
        refine (pnew14_any size _).mono ?_
        rintro e w4 ⟨d, v, rfl, hs, b⟩
        replace HB := Lib.hid (HB.out.trans (b.mono HB.out.size))
        replace HL1 := Lib.hid (HL1.out.later ev_rel b)
        replace HL2 := Lib.hid (HL2.out.later ev_rel b)
        replace HL3 := Lib.hid (HL3.out.later ev_rel b)
        have HN := Lib.hid hs
        clear hs b
        have hbe : Below w4.heap.size w4 (w4.alloc (.cells #[] 46)) := (Below.refl _ _).alloc (Nat.le_refl _) _
        have HQ1 := Lib.hid ((HL1.out.weak ev_rel (J' := fun b => b < w4.heap.size) fun b hb _ => hb).later ev_rel hbe)
        have HQ2 := Lib.hid (HL2.out.weak ev_rel (J' := fun b => b < w4.heap.size) fun b hb _ => hb)
        have HO : Hid (OEv allJ w4 (w4.alloc (.cells #[] 46)) (.slice (some ⟨w4.heap.size, 0, none⟩) 0 0) []) := Lib.hid ⟨[], GOwn.empty (Below.refl _ _) rfl, Both.nil⟩
        obtain ⟨N6, hN6⟩ : ∃ z, (l1 ++ l2).length = z := ⟨_, rfl⟩
        have HN6 := Lib.hid hN6
        clear hbe hN6
        go_wp2_with (first
          | (at_builtin; refine wp_qons evT_ok ev_rel rfl (.tmp 34) (.tmp 35) rfl _ [] rfl w4 HO.out l1 a1 n1 c1 rfl (HQ1.out.weak ev_rel fun b _ hb => ⟨trivial, fun e => by have := (HO.out.ltB e.symm).1; omega⟩) (by have := HN1.out; simp; omega) ?_; intro v5 w5 o5 g5; rw [List.nil_append] at o5; have HO5 := Lib.hid o5; clear o5 g5)
          | (at_builtin; refine wp_qons evT_ok ev_rel rfl (.tmp 36) (.tmp 37) rfl _ l1 rfl w4 HO5.out l2 a2 n2 c2 rfl ((HQ2.out.later ev_rel HO5.out.below).weak ev_rel fun b _ hb => ⟨trivial, fun e => by have := (HO5.out.ltB e.symm).1; omega⟩) (by have := HN1.out; have := HN2.out; omega) ?_; intro v6 w6 o6 g6; have HO6 := Lib.hid o6; clear o6 g6; obtain ⟨a6, c6, hv6⟩ := HO6.out.val evT_ok HN6.out; subst hv6))
        replace HB := Lib.hid (HB.out.trans (HO6.out.below.mono HB.out.size))
        replace HL1 := Lib.hid (HL1.out.later ev_rel HO6.out.below)
        replace HL2 := Lib.hid (HL2.out.later ev_rel HO6.out.below)
        replace HL3 := Lib.hid (HL3.out.later ev_rel HO6.out.below)
        replace HN := Lib.hid (HN.out.later HO6.out.below)
        have HL6 := Lib.hid (HO6.out.row evT_ok ev_rel (allJ_new _)).q
        clear HO HO5 HO6 HQ1 HQ2
        refine (pfold14_any d v (newM size) a6 N6 c6 (l1 ++ l2) _ allJ _ HN.out (newM_ok size) HL6.out).mono ?_
        rw [HEA.out]
        rintro e w5 ⟨d, v, rfl, hs, b⟩
        replace HB := Lib.hid (HB.out.trans (b.mono HB.out.size))
        replace HL1 := Lib.hid (HL1.out.later ev_rel b)
        replace HL2 := Lib.hid (HL2.out.later ev_rel b)
        replace HL3 := Lib.hid (HL3.out.later ev_rel b)
        replace HN := Lib.hid (HN.out.later b)
        replace HL6 := Lib.hid (HL6.out.later ev_rel b)
        obtain ⟨p1, p2, p3, p4, p5, p6, rfl, rfl⟩ := hs.shape
        have b2 := below_st w5 #[.slice p1 p2 p3, .slice p4 p5 p6]
        have HA := Lib.hid (SAt.new hs.all)
        replace HB := Lib.hid (HB.out.trans (b2.mono HB.out.size))
        replace HL1 := Lib.hid (HL1.out.later ev_rel b2)
        replace HL2 := Lib.hid (HL2.out.later ev_rel b2)
        replace HL3 := Lib.hid (HL3.out.later ev_rel b2)
        replace HN := Lib.hid (HN.out.later b2)
        replace HL6 := Lib.hid (HL6.out.later ev_rel b2)
        clear hs b b2
        go_upto_region 4 with fail
        obtain ⟨w6, hw⟩ : ∃ W, w5.alloc (.cells #[.slice p1 p2 p3, .slice p4 p5 p6] 32) = W := ⟨_, rfl⟩
        rw [hw] at HB HL1 HL2 HL3 HN HL6 HA ⊢
        obtain ⟨PA, hX⟩ : ∃ X, w5.heap.size = X := ⟨_, rfl⟩
        rw [hX] at HA ⊢
        clear hw hX
        clear HN HL6 HN6
        go_wp2_with fail
        refine (pnew14_any other _).mono ?_
        rintro e w7 ⟨d, v, rfl, hs, b⟩
        replace HB := Lib.hid (HB.out.trans (b.mono HB.out.size))
        replace HL1 := Lib.hid (HL1.out.later ev_rel b)
        replace HL2 := Lib.hid (HL2.out.later ev_rel b)
        replace HL3 := Lib.hid (HL3.out.later ev_rel b)
        replace HA := Lib.hid (HA.out.later b)
        have HN := Lib.hid hs
        clear hs b
        have hbe : Below w7.heap.size w7 (w7.alloc (.cells #[] 46)) := (Below.refl _ _).alloc (Nat.le_refl _) _
        have HQ1 := Lib.hid ((HL1.out.weak ev_rel (J' := fun b => b < w7.heap.size) fun b hb _ => hb).later ev_rel hbe)
        have HQ2 := Lib.hid (HL3.out.weak ev_rel (J' := fun b => b < w7.heap.size) fun b hb _ => hb)
        have HO : Hid (OEv allJ w7 (w7.alloc (.cells #[] 46)) (.slice (some ⟨w7.heap.size, 0, none⟩) 0 0) []) := Lib.hid ⟨[], GOwn.empty (Below.refl _ _) rfl, Both.nil⟩
        obtain ⟨N6, hN6⟩ : ∃ z, (l1 ++ l3).length = z := ⟨_, rfl⟩
        have HN6 := Lib.hid hN6
        clear hbe hN6
        go_wp2_with (first
          | (at_builtin; refine wp_qons evT_ok ev_rel rfl (.tmp 42) (.tmp 43) rfl _ [] rfl w7 HO.out l1 a1 n1 c1 rfl (HQ1.out.weak ev_rel fun b _ hb => ⟨trivial, fun e => by have := (HO.out.ltB e.symm).1; omega⟩) (by have := HN1.out; simp; omega) ?_; intro v5 w5 o5 g5; rw [List.nil_append] at o5; have HO5 := Lib.hid o5; clear o5 g5)
          | (at_builtin; refine wp_qons evT_ok ev_rel rfl (.tmp 44) (.tmp 45) rfl _ l1 rfl w7 HO5.out l3 a3 n3 c3 rfl ((HQ2.out.later ev_rel HO5.out.below).weak ev_rel fun b _ hb => ⟨trivial, fun e => by have := (HO5.out.ltB e.symm).1; omega⟩) (by have := HN1.out; have := HN3.out; omega) ?_; intro v6 w6 o6 g6; have HO6 := Lib.hid o6; clear o6 g6; obtain ⟨a6, c6, hv6⟩ := HO6.out.val evT_ok HN6.out; subst hv6))
        replace HB := Lib.hid (HB.out.trans (HO6.out.below.mono HB.out.size))
        replace HL1 := Lib.hid (HL1.out.later ev_rel HO6.out.below)
        replace HL2 := Lib.hid (HL2.out.later ev_rel HO6.out.below)
        replace HL3 := Lib.hid (HL3.out.later ev_rel HO6.out.below)
        replace HA := Lib.hid (HA.out.later HO6.out.below)
        replace HN := Lib.hid (HN.out.later HO6.out.below)
        have HL6 := Lib.hid (HO6.out.row evT_ok ev_rel (allJ_new _)).q
        clear HO HO5 HO6 HQ1 HQ2
        refine (pfold14_any d v (newM other) a6 N6 c6 (l1 ++ l3) _ allJ _ HN.out (newM_ok other) HL6.out).mono ?_
        rw [HEB.out]
        rintro e w8 ⟨d, v, rfl, hs, b⟩
        replace HB := Lib.hid (HB.out.trans (b.mono HB.out.size))
        replace HL1 := Lib.hid (HL1.out.later ev_rel b)
        replace HL2 := Lib.hid (HL2.out.later ev_rel b)
        replace HL3 := Lib.hid (HL3.out.later ev_rel b)
        replace HA := Lib.hid (HA.out.later b)
        replace HN := Lib.hid (HN.out.later b)
        replace HL6 := Lib.hid (HL6.out.later ev_rel b)
        obtain ⟨p1, p2, p3, p4, p5, p6, rfl, rfl⟩ := hs.shape
        have b2 := below_st w8 #[.slice p1 p2 p3, .slice p4 p5 p6]
        have HBB := Lib.hid (SAt.new hs.all)
        replace HB := Lib.hid (HB.out.trans (b2.mono HB.out.size))
        replace HL1 := Lib.hid (HL1.out.later ev_rel b2)
        replace HL2 := Lib.hid (HL2.out.later ev_rel b2)
        replace HL3 := Lib.hid (HL3.out.later ev_rel b2)
        replace HA := Lib.hid (HA.out.later b2)
        replace HN := Lib.hid (HN.out.later b2)
        replace HL6 := Lib.hid (HL6.out.later ev_rel b2)
        clear hs b b2
        go_upto_region 5 with fail
        obtain ⟨w9, hw⟩ : ∃ W, w8.alloc (.cells #[.slice p1 p2 p3, .slice p4 p5 p6] 32) = W := ⟨_, rfl⟩
        rw [hw] at HB HL1 HL2 HL3 HA HN HL6 HBB ⊢
        obtain ⟨PB, hX⟩ : ∃ X, w8.heap.size = X := ⟨_, rfl⟩
        rw [hX] at HBB ⊢
        clear hw hX
        clear HN HL6 HN6
        clear HEA HEB HN1 HN2 HN3 HL1 HL2 HL3
        obtain ⟨xa, xn, xc, xd, xm, xe, xR, xS⟩ := HA.out
        obtain ⟨x0, x1⟩ := xR.c2
        obtain ⟨ya, yn, yc, yd, ym, ye, yR, yS⟩ := HBB.out
        obtain ⟨y0, y1⟩ := yR.c2
        go_wp2_with fail
        refine (pway15_any (.slice xa xn xc) (.slice xd xm xe) (.slice ya yn yc) (.slice yd ym ye) A B _ _ _ xS yS HOA.out.may HOB.out.may).mono ?_
        rintro e w10 ⟨v9, rfl, o9⟩
        clear x0 x1 xR xS
        clear y0 y1 yR yS
        replace HB := Lib.hid (HB.out.trans (o9.below.mono HB.out.size))
        replace HA := Lib.hid (HA.out.later o9.below)
        replace HBB := Lib.hid (HBB.out.later o9.below)
        have HLD := Lib.hid (wayS_lead HOA.out HOB.out)
        have HNO := Lib.hid (wayS_none HOA.out HOB.out)
        obtain ⟨L, hL⟩ : ∃ z, wayS A B = z := ⟨_, rfl⟩
        rw [hL] at o9 HLD HNO
        obtain ⟨n, hn⟩ : ∃ z, L.length = z := ⟨_, rfl⟩
        have HN := Lib.hid hn
        obtain ⟨al, cap, rfl, hq⟩ := we_of o9 hn
        have HL := Lib.hid hq
        obtain ⟨hq1, hq2⟩ := hq.lim
        clear o9 hn hL hq
        obtain ⟨wl, hwl⟩ : ∃ W, w10 = W := ⟨_, rfl⟩
        rw [hwl] at HB HA HBB HL ⊢
        clear hwl
        obtain ⟨xa, xn, xc, xd, xm, xe, xR, xS⟩ := HA.out
        obtain ⟨x0, x1⟩ := xR.c2
        go_upto_region 7 with fail
        have b2 := below_st wl #[.slice xa xn xc, .slice xd xm xe]
        have HS0 := Lib.hid (SAt.new xS)
        obtain ⟨ws, hws⟩ : ∃ W, wl.alloc (.cells #[.slice xa xn xc, .slice xd xm xe] 32) = W := ⟨_, rfl⟩
        rw [hws] at HS0 b2
        try rw [hws]
        have HBS := Lib.hid b2
        obtain ⟨PS, hPS⟩ : ∃ X, wl.heap.size = X := ⟨_, rfl⟩
        rw [hPS] at HS0 ⊢
        have HPS := Lib.hid hPS
        clear hws hPS b2 x0 x1 xR xS
        go_wp2_with fail
        go_loopw [15] (fun i wr => ∃ (j : Nat) (sj : Sx), i = .int .i64 j ∧ j ≤ n ∧ Below wl.heap.size wl wr ∧ Hid (SAt allJ wr PS sj) ∧ Hid (StOk sj) ∧ Hid (LeadM sj (L.drop j) B)) (fun i _ => n - (intOf i).toNat)
        case atStart => exact ⟨0, A, rfl, by omega, HBS.out, HS0, HOA, by simpa using HLD⟩
        case round =>
          obtain ⟨j, sj, rfl, hj, hbr, HS, HOJ, HLJ⟩ := hrel
          obtain ⟨wo, hwo⟩ : ∃ W, W = wr := ⟨_, rfl⟩
          subst hwo
          have HBR := Lib.hid hbr
          clear hbr
          by_cases hjn : (j : Int) < n
          · have hjd : decide ((j : Int) < (n : Int)) = true := decide_eq_true hjn
            have HJN2 : Hid (j < n) := Lib.hid (by omega)
            obtain ⟨ev, hev⟩ : ∃ e, L[j]? = some e := ⟨L[j]'(by have := HN.out; omega), List.getElem?_eq_getElem _⟩
            obtain ⟨b1, f1, K1, K2, K3, a2, L1, c2, S, ha, hEV⟩ := HL.out.evAt hev
            subst ha
            have hdr : L.drop j = ev :: L.drop (j + 1) := by
              obtain ⟨hj2, rfl⟩ := List.getElem?_eq_some_iff.1 hev
              exact List.drop_eq_getElem_cons hj2
            have hld := HLJ.out
            rw [hdr] at hld
            obtain ⟨hl1, hl2, hl3⟩ := hld
            have hap : applyM sj ev = (doneM sj ev, 0) := applyM_yes hl1
            have HOK1 := Lib.hid (doneM_ok HOJ.out hl1)
            obtain ⟨s1, hs1⟩ : ∃ z, doneM sj ev = z := ⟨_, rfl⟩
            rw [hs1] at hap hl2 hl3 HOK1
            have HL3 := Lib.hid hl3
            have HNE : Hid (decide (sj = s1) = false) := Lib.hid (decide_eq_false fun e => hl2 e.symm)
            obtain ⟨CE, hCE⟩ : ∃ z : Int, z = 0 := ⟨_, rfl⟩
            rw [← hCE] at hap
            have HCE := Lib.hid hCE
            obtain ⟨ad, nd, cd, av, nv, cv, hRX, hST⟩ := HS.out
            have HRX := Lib.hid hRX
            have HSX := Lib.hid hST
            have HAP : Hid (∀ W, Below wo.heap.size wo W → Calls Try.prog 22 #[.agg #[.slice ad nd cd, .slice av nv cv], .agg #[.int .i64 K1, .int .i64 K2, .int .i64 K3, .slice a2 L1 c2, .string S]] W fun e w' => ∃ d2 v2, e = .returned (.tuple #[.agg #[d2, v2], .int .i64 CE]) ∧ StA allJ w' d2 v2 s1 ∧ Below W.heap.size W w') := Lib.hid (fun W (hb : Below wo.heap.size wo W) => (hEV.papply (.slice ad nd cd) (.slice av nv cv) sj _ s1 CE W (HBR.out.trans (hb.mono HBR.out.size)) (hST.later hb) HOJ.out hap).mono fun e w' ⟨d2, v2, q1, q2, q3⟩ => ⟨d2, v2, q1, q2.all, q3⟩)
            have HE5 := Lib.hid (fun W (hb : Below wo.heap.size wo W) => hEV.cells W (HBR.out.trans (hb.mono HBR.out.size)))
            clear hEV hev hap hRX hST hCE hl1 hl2 hl3 hdr hs1 HLJ
            obtain ⟨x0, x1⟩ := HRX.out.c2
            go_upto_region 10 with fail
            clear x0 x1
            -- REG L10
            refine wp_region_ptabW (L := fun ph => match ph with | 0 => [cV (.agg #[.slice ad nd cd, .slice av nv cv]), cV (.slice (some ⟨b1, f1, none⟩) n cap), cV (.int .i64 (j : Nat)), cV (.pointer (some ⟨b1, f1 + j * 5, none⟩)), cV (.agg #[.int .i64 K1, .int .i64 K2, .int .i64 K3, .slice a2 L1 c2, .string S]), apV allJ s1 CE, apV allJ s1 CE, stV allJ s1, cV (.int .i64 CE), zsV wo, tV, cV (.int .i64 CE)] | _ => [cV (.agg #[.slice ad nd cd, .slice av nv cv]), cV (.slice (some ⟨b1, f1, none⟩) n cap), cV (.int .i64 (j : Nat)), cV (.pointer (some ⟨b1, f1 + j * 5, none⟩)), cV (.agg #[.int .i64 K1, .int .i64 K2, .int .i64 K3, .slice a2 L1 c2, .string S]), tV, tuV CE, tV, cV (.int .i64 CE), rjV allJ wo s1, tV, cV (.int .i64 CE)]) (fun _ wq => Below wo.heap.size wo wq) [10] [(0, 0), (0, 0), (0, 0), (0, 0), (0, 0), (0, 0), (0, 0), (0, 0), (0, 1), (0, 0), (0, 1), (0, 1)] [[(14, none)], [(13, none)], [(15, none)], [(60, some 1), (61, some 2)], [(62, some 3)], [(59, some 0), (63, some 4)], [(64, some 5)], [(58, some 6)], [(58, some 6)], [], [(16, some 9), (65, some 7)], [(66, some 8)]] 12 1 90 (by kernel_rfl) rfl rfl rfl (by kernel_rfl) (by kernel_rfl) (by decide) (by kernel_rfl) ?_ ?_ ?_ ?_ ?_
            · exact fun ph w1 w2 h hb => h.trans (hb.mono h.size)
            · exact (Below.refl _ _)
            · show ∀ i, i < 12 → _
              iterate 12 (refine fls ?_ ?_)
              · exact fl0
              · intro hne lo hi ph hran hp1 hp2 a w1 hJ hsz hs      -- 0: slot 59
                obtain ⟨rfl, rfl⟩ : 0 = lo ∧ 0 = hi := Prod.mk.inj (Option.some.inj hran)
                obtain rfl : ph = 0 := by omega
                obtain ⟨h0, _⟩ := hs
                have h0 : a.tmps.getD 14 undef = .pointer (some ⟨PS, 0, none⟩) := h0
                obtain ⟨x0, x1⟩ := (HRX.out.later (show Below wo.heap.size wo w1 from hJ)).c2
                refine op_run rfl rfl (v := .agg #[.slice ad nd cd, .slice av nv cv]) (w' := w1) ?_ rfl (Below.refl _ _)
                simp [execOp, Act.eval, h0, x0, x1, go_sem]
              · intro hne lo hi ph hran hp1 hp2 a w1 hJ hsz hs      -- 1: slot 60
                obtain ⟨rfl, rfl⟩ : 0 = lo ∧ 0 = hi := Prod.mk.inj (Option.some.inj hran)
                obtain rfl : ph = 0 := by omega
                obtain ⟨h0, _⟩ := hs
                have h0 : a.tmps.getD 13 undef = .slice (some ⟨b1, f1, none⟩) n cap := h0
                refine op_run rfl rfl (v := .slice (some ⟨b1, f1, none⟩) n cap) (w' := w1) ?_ rfl (Below.refl _ _)
                simp [execOp, Act.eval, h0, go_sem]
              · intro hne lo hi ph hran hp1 hp2 a w1 hJ hsz hs      -- 2: slot 61
                obtain ⟨rfl, rfl⟩ : 0 = lo ∧ 0 = hi := Prod.mk.inj (Option.some.inj hran)
                obtain rfl : ph = 0 := by omega
                obtain ⟨h0, _⟩ := hs
                have h0 : a.tmps.getD 15 undef = .int .i64 (j : Nat) := h0
                refine op_run rfl rfl (v := .int .i64 (j : Nat)) (w' := w1) ?_ rfl (Below.refl _ _)
                simp [execOp, Act.eval, h0, go_sem]
              · intro hne lo hi ph hran hp1 hp2 a w1 hJ hsz hs      -- 3: slot 62
                obtain ⟨rfl, rfl⟩ : 0 = lo ∧ 0 = hi := Prod.mk.inj (Option.some.inj hran)
                obtain rfl : ph = 0 := by omega
                obtain ⟨h0, h1, _⟩ := hs
                have h0 : a.tmps.getD 60 undef = .slice (some ⟨b1, f1, none⟩) n cap := h0
                have h1 : a.tmps.getD 61 undef = .int .i64 (j : Nat) := h1
                have k1 := HJN2.out
                refine op_run rfl rfl (v := .pointer (some ⟨b1, f1 + j * 5, none⟩)) (w' := w1) ?_ rfl (Below.refl _ _)
                simp [execOp, Act.eval, h0, h1, k1, go_sem]
              · intro hne lo hi ph hran hp1 hp2 a w1 hJ hsz hs      -- 4: slot 63
                obtain ⟨rfl, rfl⟩ : 0 = lo ∧ 0 = hi := Prod.mk.inj (Option.some.inj hran)
                obtain rfl : ph = 0 := by omega
                obtain ⟨h0, _⟩ := hs
                have h0 : a.tmps.getD 62 undef = .pointer (some ⟨b1, f1 + j * 5, none⟩) := h0
                obtain ⟨k0, k1, k2, k3, k4⟩ := HE5.out w1 (show Below wo.heap.size wo w1 from hJ)
                refine op_run rfl rfl (v := .agg #[.int .i64 K1, .int .i64 K2, .int .i64 K3, .slice a2 L1 c2, .string S]) (w' := w1) ?_ rfl (Below.refl _ _)
                simp [execOp, Act.eval, h0, k0, k1, k2, k3, k4, go_sem]
              · intro hne lo hi ph hran hp1 hp2 a w1 hJ hsz hs      -- 5: slot 64
                obtain ⟨rfl, rfl⟩ : 0 = lo ∧ 0 = hi := Prod.mk.inj (Option.some.inj hran)
                obtain rfl : ph = 0 := by omega
                obtain ⟨h0, h1, _⟩ := hs
                have h0 : a.tmps.getD 59 undef = .agg #[.slice ad nd cd, .slice av nv cv] := h0
                have h1 : a.tmps.getD 63 undef = .agg #[.int .i64 K1, .int .i64 K2, .int .i64 K3, .slice a2 L1 c2, .string S] := h1
                refine op_call rfl rfl (f := 22) (args := #[.agg #[.slice ad nd cd, .slice av nv cv], .agg #[.int .i64 K1, .int .i64 K2, .int .i64 K3, .slice a2 L1 c2, .string S]]) (by simp [execOp, Act.eval, resolve, h0, h1, go_sem]) ?_
                exact (HAP.out w1 (show Below wo.heap.size wo w1 from hJ)).mono fun e w' he => by
                  obtain ⟨d2, v2, h1, h2, h3⟩ := he
                  exact ⟨_, h1, ⟨d2, v2, rfl, h2⟩, h3⟩
              · intro hne lo hi ph hran hp1 hp2 a w1 hJ hsz hs      -- 6: slot 58
                obtain ⟨rfl, rfl⟩ : 0 = lo ∧ 0 = hi := Prod.mk.inj (Option.some.inj hran)
                obtain rfl : ph = 0 := by omega
                obtain ⟨h0, _⟩ := hs
                have m0 : (apV allJ s1 CE).p w1 (a.tmps.getD 64 undef) := h0
                obtain ⟨d2, v2, e20, hst⟩ := (show ∃ d v, a.tmps.getD 64 undef = .tuple #[.agg #[d, v], .int .i64 CE] ∧ StA allJ w1 d v s1 from m0)
                refine op_run rfl rfl (v := .tuple #[.agg #[d2, v2], .int .i64 CE]) (w' := w1) ?_ ⟨d2, v2, rfl, hst⟩ (Below.refl _ _)
                simp [execOp, Act.eval, e20, go_sem]
              · intro hne lo hi ph hran hp1 hp2 a w1 hJ hsz hs      -- 7: slot 65
                obtain ⟨rfl, rfl⟩ : 0 = lo ∧ 0 = hi := Prod.mk.inj (Option.some.inj hran)
                obtain rfl : ph = 0 := by omega
                obtain ⟨h0, _⟩ := hs
                
                obtain ⟨d2, v2, e14, hst⟩ := (show ∃ d v, a.tmps.getD 58 undef = .tuple #[.agg #[d, v], .int .i64 CE] ∧ StA allJ w1 d v s1 from h0)
                refine op_run rfl rfl (v := .agg #[d2, v2]) (w' := w1) ?_ ⟨d2, v2, rfl, hst⟩ (Below.refl _ _)
                simp [execOp, Act.eval, e14, go_sem]
              · intro hne lo hi ph hran hp1 hp2 a w1 hJ hsz hs      -- 8: slot 66
                obtain ⟨rfl, rfl⟩ : 0 = lo ∧ 1 = hi := Prod.mk.inj (Option.some.inj hran)
                rcases (by omega : ph = 0 ∨ ph = 1) with rfl | rfl
                · obtain ⟨h0, _⟩ := hs
                  
                  obtain ⟨d2, v2, e14⟩ : ∃ d v, a.tmps.getD 58 undef = .tuple #[.agg #[d, v], .int .i64 CE] := by
                    first
                    | exact h0
                    | exact (let ⟨d, v, q, _⟩ := (show ∃ d v, a.tmps.getD 58 undef = .tuple #[.agg #[d, v], .int .i64 CE] ∧ StA allJ w1 d v s1 from h0); ⟨d, v, q⟩)
                  refine op_run rfl rfl (v := .int .i64 CE) (w' := w1) ?_ rfl (Below.refl _ _)
                  simp [execOp, Act.eval, e14, go_sem]
                · obtain ⟨h0, _⟩ := hs
                  
                  obtain ⟨d2, v2, e14⟩ : ∃ d v, a.tmps.getD 58 undef = .tuple #[.agg #[d, v], .int .i64 CE] := by
                    first
                    | exact h0
                    | exact (let ⟨d, v, q, _⟩ := (show ∃ d v, a.tmps.getD 58 undef = .tuple #[.agg #[d, v], .int .i64 CE] ∧ StA allJ w1 d v s1 from h0); ⟨d, v, q⟩)
                  refine op_run rfl rfl (v := .int .i64 CE) (w' := w1) ?_ rfl (Below.refl _ _)
                  simp [execOp, Act.eval, e14, go_sem]
              · intro hne lo hi ph hran hp1 hp2 a w1 hJ hsz hs      -- 9: slot 16
                obtain ⟨rfl, rfl⟩ : 0 = lo ∧ 0 = hi := Prod.mk.inj (Option.some.inj hran)
                obtain rfl : ph = 0 := by omega
                refine op_run rfl rfl (v := .pointer (some ⟨w1.heap.size, 0, none⟩)) (w' := w1.alloc (.cells zeroSt 32)) ?_ ⟨w1.heap.size, rfl, RecAt.new w1 _ _, (show Below wo.heap.size wo w1 from hJ).size⟩ ((Below.refl _ _).alloc (Nat.le_refl _) _)
                simp [execOp, Act.eval, go_sem, ub0, zeroSt]
              · intro hne lo hi ph hran hp1 hp2 a w1 hJ hsz hs      -- 10: slot None
                exact absurd (by decide) hne
              · intro hne lo hi ph hran hp1 hp2 a w1 hJ hsz hs      -- 11: slot 17
                obtain ⟨rfl, rfl⟩ : 0 = lo ∧ 1 = hi := Prod.mk.inj (Option.some.inj hran)
                rcases (by omega : ph = 0 ∨ ph = 1) with rfl | rfl
                · obtain ⟨h0, _⟩ := hs
                  have h0 : a.tmps.getD 66 undef = .int .i64 CE := h0
                  refine op_run rfl rfl (v := .int .i64 CE) (w' := w1) ?_ rfl (Below.refl _ _)
                  simp [execOp, Act.eval, h0, go_sem]
                · obtain ⟨h0, _⟩ := hs
                  have h0 : a.tmps.getD 66 undef = .int .i64 CE := h0
                  refine op_run rfl rfl (v := .int .i64 CE) (w' := w1) ?_ rfl (Below.refl _ _)
                  simp [execOp, Act.eval, h0, go_sem]
            · show ∀ ph, ph < 1 → _
              iterate 1 (refine fls ?_ ?_)
              · exact fl0
              · intro i hi a w1 hJ hsz hs      -- heavy 0: op 10 slot None
                obtain rfl : 10 = i := Option.some.inj hi
                obtain ⟨h0, h1, _⟩ := hs
                have m0 : (zsV wo).p w1 (a.tmps.getD 16 undef) := h0
                have m1 : (stV allJ s1).p w1 (a.tmps.getD 65 undef) := h1
                obtain ⟨PX, hvx, hX, hXs⟩ := (show ∃ g, a.tmps.getD 16 undef = .pointer (some ⟨g, 0, none⟩) ∧ RecAt w1 g zeroSt 32 ∧ wo.heap.size ≤ g from m0)
                obtain ⟨d1, v1, e21, md⟩ := (show ∃ d v, a.tmps.getD 65 undef = .agg #[d, v] ∧ StA allJ w1 d v s1 from m1)
                have hone : (#[d1, v1] : Array Value).all (·.oneCell') = true := by
                  obtain ⟨qa, qb, qc, qd, rfl, rfl, _, _⟩ := md.open
                  simp [Value.oneCell']
                refine hv_recW rfl rfl (x := PX) (p := .tmp 16) (v := .tmp 65) (cs := zeroSt) (vs := #[d1, v1]) rfl hvx e21 hX rfl (by kernel_rfl) hone (fun w' => trivial) ?_
                intro w' r1 r2 r3 r4
                have hb : Below wo.heap.size wo w' := (show Below wo.heap.size wo w1 from hJ).grown r4 (show Below wo.heap.size wo w1 from hJ).size (fun q e => by cases e; exact hXs)
                have o1 : StA allJ w' d1 v1 s1 := ((md.lessRec hX).keep (fun b hb2 hj => r3 b hj.2) (Nat.le_of_eq r2.symm)).weak fun b _ hj => hj.1
                exact ⟨hb, CalmW.all ⟨.inr fun _ _ h => h, .inr fun _ _ h => h, .inr fun _ _ h => h, .inr fun _ _ h => h, .inr fun _ _ h => h, .inr fun _ _ _ => trivial, .inr fun v hh h => (let ⟨d, v2, q, _⟩ := h; ⟨d, v2, q⟩), .inr fun _ _ _ => trivial, .inr fun _ _ h => h, .inr fun v hh _ => ⟨PX, d1, v1, (hh _ _ rfl rfl).trans hvx, r1, hXs, o1⟩, .inl rfl, .inr fun _ _ h => h, trivial⟩⟩
            intro f w1 hJ hv
            have e6 : (rjV allJ wo s1).p w1 (f 16) := hv 9 _ 16 rfl rfl
            have e7 : f 17 = .int .i64 CE := hv 11 _ 17 rfl rfl
            have hbo : Below wo.heap.size wo w1 := hJ
            clear hv
            try simp only [Exit.then]
            simp only [putAll, List.foldl_cons, List.foldl_nil, Option.getD_some, Act.put, List.setIfInBounds_toArray, List.set_cons_succ, List.set_cons_zero]
            obtain ⟨PX, d1, v1, e6, r6, hXs, o1⟩ := e6
            rw [e6, e7]
            clear hJ e6 e7
            -- END L10
            obtain ⟨p1, p2, p3, p4, p5, p6, rfl, rfl⟩ := o1.shape
            have HXX := Lib.hid r6
            have HO1 := Lib.hid o1
            have HBW := Lib.hid (HBR.out.trans (hbo.mono HBR.out.size))
            have HRY := Lib.hid (HRX.out.later hbo)
            have HSY := Lib.hid (HSX.out.later hbo)
            have HPN : Hid (PX ≠ PS) := Lib.hid (by have := HS.out.lt; omega)
            have HCE2 := HCE.out
            subst HCE2
            clear r6 o1 hbo hXs HRX HSX HE5 HAP HS
            obtain ⟨wp, hwp⟩ : ∃ W, W = w1 := ⟨_, rfl⟩
            subst hwp
            obtain ⟨x0, x1⟩ := HRY.out.c2
            obtain ⟨y0, y1⟩ := HXX.out.c2
            have HSM := Lib.hid (psame14_any (.slice ad nd cd) (.slice av nv cv) (.slice p1 p2 p3) (.slice p4 p5 p6) sj s1 _ _ wp HSY.out HO1.out HOJ.out.may HOK1.out.may)
            rw [HNE.out] at HSM
            go_wp2_with fail
            refine HSM.out.mono ?_
            rintro e wq ⟨rfl, bq⟩
            have HRZ := Lib.hid (HRY.out.later bq)
            have HXZ := Lib.hid (HXX.out.later bq)
            have HOZ := Lib.hid (HO1.out.later bq)
            have HBZ := Lib.hid (HBW.out.trans (bq.mono HBW.out.size))
            clear bq x0 x1 y0 y1 HSM HRY HXX HO1 HSY
            obtain ⟨y0, y1⟩ := HXZ.out.c2
            go_wp2_with (refine wpList_rec rfl rfl PS #[.slice ad nd cd, .slice av nv cv] #[.slice p1 p2 p3, .slice p4 p5 p6] rfl rfl HRZ.out rfl (by kernel_rfl) (by simp [Value.oneCell']) ?_; intro wt r1 r2 r3 r4)
            go_roundw
            case rel => exact ⟨j + 1, s1, by go_num, by omega, HBZ.out.grown r4 HBZ.out.size (fun q e => by cases e; exact Nat.le_of_eq HPS.out), Lib.hid ⟨_, _, _, _, _, _, r1, HOZ.out.over HRZ.out r3 r2⟩, HOK1, HL3⟩
            case measure => simp [intOf]; omega
          · have hjN : j = n := by omega
            have hld := HLJ.out
            rw [hjN, List.drop_of_length_le (Nat.le_of_eq HN.out)] at hld
            have hsB : sj = B := hld
            subst hsB
            have HAr := Lib.hid (HA.out.later HBR.out)
            have HBr := Lib.hid (HBB.out.later HBR.out)
            have HBW := Lib.hid (HB.out.trans (HBR.out.mono HB.out.size))
            clear hjN hld HLJ HA HBB
            obtain ⟨xa, xn, xc, xd, xm, xe, xR, xS⟩ := HS.out
            obtain ⟨x0, x1⟩ := xR.c2
            obtain ⟨ya, yn, yc, yd, ym, ye, yR, yS⟩ := HBr.out
            obtain ⟨y0, y1⟩ := yR.c2
            go_wp2_with fail
            refine (psame14_yes (.slice xa xn xc) (.slice xd xm xe) (.slice ya yn yc) (.slice yd ym ye) sj sj _ _ _ xS yS HOJ.out.may HOJ.out.may rfl).mono ?_
            rintro e wu ⟨rfl, bu⟩
            have HAu := Lib.hid (HAr.out.later bu)
            have HBu := Lib.hid (HBr.out.later bu)
            have HBV := Lib.hid (HBW.out.trans (bu.mono HBW.out.size))
            clear bu x0 x1 xR xS y0 y1 yR yS
            obtain ⟨xa, xn, xc, xd, xm, xe, xR, xS⟩ := HAu.out
            obtain ⟨x0, x1⟩ := xR.c2
            obtain ⟨ya, yn, yc, yd, ym, ye, yR, yS⟩ := HBu.out
            obtain ⟨y0, y1⟩ := yR.c2
            have HSM := Lib.hid (psame14_any (.slice xa xn xc) (.slice xd xm xe) (.slice ya yn yc) (.slice yd ym ye) A sj _ _ wu xS yS HOA.out.may HOJ.out.may)
            by_cases hAB : A = sj
            · have hn0 : n = 0 := by rw [← HN.out, HNO.out.2 hAB]; rfl
              rw [decide_eq_true hAB] at HSM
              subst hn0
              clear hAB
              go_wp2_with fail
              refine HSM.out.mono ?_
              rintro e wv ⟨rfl, bv⟩
              have HBk := Lib.hid (HBV.out.trans (bv.mono HBV.out.size))
              clear bv x0 x1 xR xS y0 y1 yR yS HSM
              go_wp2_with fail
              refine (known15_any _).mono ?_
              rintro e wk ⟨rfl, bk⟩
              have HBl := Lib.hid (HBk.out.trans (bk.mono HBk.out.size))
              clear bk
              go_wp2_with fail
              go_ret
              exact ⟨rfl, HBl.out⟩
            · have hn0 : ¬ n = 0 := fun h => hAB (HNO.out.1 (List.length_eq_zero_iff.1 (by rw [HN.out, h])))
              have hnd : ((n : Int) == 0) = false := by rw [beq_eq_false_iff_ne]; omega
              rw [decide_eq_false hAB] at HSM
              clear hAB hn0
              go_wp2_with fail
              refine HSM.out.mono ?_
              rintro e wv ⟨rfl, bv⟩
              have HBk := Lib.hid (HBV.out.trans (bv.mono HBV.out.size))
              clear bv x0 x1 xR xS y0 y1 yR yS HSM
              go_wp2_with fail
              refine (known15_any _).mono ?_
              rintro e wk ⟨rfl, bk⟩
              have HBl := Lib.hid (HBk.out.trans (bk.mono HBk.out.size))
              clear bk
              go_wp2_with fail
              go_ret
              exact ⟨rfl, HBl.out⟩
end Go.Proofs.Ytbpddcmehjgleaa
