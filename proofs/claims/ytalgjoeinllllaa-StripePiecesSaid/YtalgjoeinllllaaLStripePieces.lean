/- The law 'StripePieces', walked. -/
import Derived.Test.YtalgjoeinllllaaSpK
import Derived.Test.YtalgjoeinllllaaSpD
namespace Go.Proofs.Ytalgjoeinllllaa
open Go.RowKit Go.Proofs
set_option linter.unusedVariables false
set_option linter.unusedSimpArgs false
set_option linter.unnecessarySimpa false

set_option maxRecDepth 100000 in
set_option maxHeartbeats 12800000 in
theorem stripePieces_walk (a b c0 off0 n0 : Int) (w : World) : Calls Try.prog 5 #[.int .i64 a, .int .i64 b, .int .i64 c0, .int .i64 off0, .int .i64 n0] w fun x w' => x = .returned (.bool true) ∧ Below w.heap.size w w' := by
  have HSH := Lib.hid (fun W => shape12_any a b c0 W)
  have hok := shapeZ_ok a b c0
  obtain ⟨⟨o, u, c⟩, hsz⟩ : ∃ s, shapeZ a b c0 = s := ⟨_, rfl⟩
  rw [hsz] at HSH hok
  simp only at HSH hok
  obtain ⟨o, u, c, rfl, rfl, rfl, ho3, ho6, hu2, huo, hc1, hc4⟩ := shape_nat hok
  obtain ⟨off, hoff⟩ : ∃ z, bits .and .i64 off0 511 = z := ⟨_, rfl⟩
  have hofr : 0 ≤ off ∧ off ≤ 511 := by rw [← hoff]; exact and_range off0 511 (by decide)
  obtain ⟨off, rfl⟩ : ∃ k : Nat, off = k := ⟨off.toNat, by omega⟩
  obtain ⟨n1, hn1⟩ : ∃ z, bits .and .i64 n0 511 = z := ⟨_, rfl⟩
  have hn1r : 0 ≤ n1 ∧ n1 ≤ 511 := by rw [← hn1]; exact and_range n0 511 (by decide)
  obtain ⟨n, hn⟩ : ∃ k : Nat, 1 + n1 = k := ⟨(1 + n1).toNat, by omega⟩
  have hn512 : 1 ≤ n ∧ n ≤ 512 := by omega
  obtain ⟨q1, q2, q3, q4, q5, q6⟩ := pow_small hu2 huo ho6
  obtain ⟨U, hU⟩ : ∃ U, 2 ^ u = U := ⟨_, rfl⟩
  obtain ⟨P, hP⟩ : ∃ P, 2 ^ (o - u) = P := ⟨_, rfl⟩
  rw [hU, hP] at q5
  rw [hU] at q1 q2
  rw [hP] at q3 q4
  have hsh : (1 : Int) * 2 ^ o = ((P * U : Nat) : Int) := by
    have : ((2 ^ o : Nat) : Int) = ((P * U : Nat) : Int) := by rw [q5]
    rw [← this, Int.one_mul]
    simp
  rw [q5] at q6
  obtain ⟨Z, hZ⟩ : ∃ Z, P * U = Z := ⟨_, rfl⟩
  rw [hZ] at hsh q6
  have HM1 := Lib.hid (fun W => smap_any o u c off n (by omega) W)
  have HPL := Lib.hid (fun (k : Nat) (hk : k ≤ 1073741824) W => show Calls Try.prog 8 #[.agg (layC o u c), .int .i64 k] W fun e w' => e = .returned (.tuple #[.int .i64 ((objP U P c k : Nat) : Int), .int .i64 ((atP U P c k : Nat) : Int)]) ∧ Below W.heap.size W w' from by
    have h := splace_any o u c k W
    rw [placeI_yes hok hk, hU, hP] at h
    exact h)
  obtain ⟨L, hL⟩ : ∃ L, mapI o u c off n = L := ⟨_, rfl⟩
  rw [hL] at HM1
  have HL : Hid (if (off : Int) ≤ 512 - n then L = mapX U P c off n else L = []) := Lib.hid (by
    rw [← hL]
    unfold mapI
    split
    · rw [if_pos ⟨hok, by omega, by omega, by omega, by assumption⟩]
      simp only [Int.toNat_natCast]
      rw [hU, hP]
    · rw [if_neg (fun c => by have := c.2.2.2.2; contradiction)])
  have HUP : Hid (4 ≤ U ∧ 1 ≤ P ∧ P * U = Z ∧ Z ≤ 64 ∧ 3 ≤ o ∧ o ≤ 6) := Lib.hid ⟨q1, q3, hZ, q6, ho3, ho6⟩
  clear hsz hok hU hP hL hZ q1 q2 q3 q4 q5 q6 hu2 huo hc1 hc4
  go_enter Try.func5, Try.ntmps5
  go_wp2_with fail
  refine (HSH.out w).mono ?_
  rintro e w0 ⟨rfl, b0⟩
  have HX0 := Lib.hid (RecAt.new w0 (layC o u c) 23)
  have HB1 := Lib.hid (b0.trans (((Below.refl w0.heap.size w0).alloc (Nat.le_refl _) (.cells (layC o u c) 23)).mono b0.size))
  obtain ⟨w1, hw1⟩ : ∃ W, w0.alloc (.cells (layC o u c) 23) = W := ⟨_, rfl⟩
  rw [hw1] at HX0 HB1
  clear b0
  go_upto_region 2 with fail
  try rw [hw1]
  clear hw1
  obtain ⟨P9, hP9⟩ : ∃ P, w0.heap.size = P := ⟨_, rfl⟩
  rw [hP9] at HX0 ⊢
  clear hP9
  obtain ⟨x0, x1, x2⟩ := HX0.out.l3
  go_upto_region 3 with fail
  go_wp2_with fail
  refine (HM1.out w1).mono ?_
  rintro e w2 ⟨v2, rfl, o2⟩
  have HX2 := Lib.hid (HX0.out.later o2.below)
  have HB2 := Lib.hid (HB1.out.trans (o2.below.mono HB1.out.size))
  obtain ⟨M, hM⟩ : ∃ M, L.length = M := ⟨_, rfl⟩
  obtain ⟨a2, c2, rfl, r2⟩ := o2.row_n xtOk hM
  have HR := Lib.hid r2
  clear x0 x1 x2 o2 r2 HM1 HX0 HB1
  by_cases hcase : (off : Int) ≤ 512 - n
  · have hL := HL.out
    rw [if_pos hcase] at hL
    have HPX := Lib.hid (mapX_pieces U P c off n)
    rw [← hL] at HPX
    have HMN : Hid (M ≤ 512) := Lib.hid (by rw [← hM, hL]; exact Nat.le_trans (mapX_len _ _ _ _ _) hn512.2)
    have HM := Lib.hid hM
    have hM5 := HMN.out
    clear hL HL hM hn
    go_upto_region 8 with fail
    go_loopw [13, 14] (fun s i wr => ∃ (k : Nat), i = .int .i64 k ∧ s = .int .i64 ((endX L n k : Nat) : Int) ∧ k ≤ M ∧ Below w2.heap.size w2 wr) (fun _ i _ => M - (intOf i).toNat)
    case atStart => exact ⟨0, rfl, by rw [HPX.out.end_zero hn512.1]; rfl, by omega, Below.refl _ _⟩
    case round =>
      obtain ⟨k, rfl, rfl, hk, hbk⟩ := hrel
      have HBK := Lib.hid hbk
      clear hbk
      by_cases hkM : (k : Int) < M
      · obtain ⟨x, hx⟩ : ∃ x, L[k]? = some x := ⟨L[k]'(by have := HM.out; omega), List.getElem?_eq_getElem _⟩
        have HPC := Lib.hid (HPX.out.piece hn512.1 (by have := HUP.out; omega) (by have := HUP.out; omega) hx)
        obtain ⟨b2, f2, rfl, p0, p1, p2, p3⟩ := (HR.out.later HBK.out).x4 hx
        obtain ⟨E, hE⟩ : ∃ E, endX L n k = E := ⟨_, rfl⟩
        have HE : Hid (x.at' = E) := Lib.hid (by rw [← hE]; exact HPC.out.begin)
        rw [hE]
        rw [HE.out] at p3
        have HX9 := Lib.hid (RecAt.new wr (xtC ⟨x.obj, x.off, x.len, E⟩) 36)
        have HBX := Lib.hid ((Below.refl wr.heap.size wr).alloc (Nat.le_refl _) (.cells (xtC ⟨x.obj, x.off, x.len, E⟩) 36))
        obtain ⟨w3, hw3⟩ : ∃ W, wr.alloc (.cells (xtC ⟨x.obj, x.off, x.len, E⟩) 36) = W := ⟨_, rfl⟩
        rw [hw3] at HX9 HBX
        clear hE
        go_upto_region 11 with fail
        try rw [hw3]
        clear hw3
        obtain ⟨P15, hP15⟩ : ∃ P, wr.heap.size = P := ⟨_, rfl⟩
        rw [hP15] at HX9 ⊢
        clear hP15
        have HXL := Lib.hid ((HX2.out.later HBK.out).later HBX.out)
        have HBZ := Lib.hid (HBK.out.trans (HBX.out.mono HBK.out.size))
        obtain ⟨y0, y1, y2, y3⟩ := HX9.out.c4
        obtain ⟨x0, x1, x2⟩ := HXL.out.l3
        have hin := HPC.out.inside
        have hlen := HPC.out.len
        have hbel := HPC.out.below
        have hobj := HPC.out.obj
        rw [HUP.out.2.2.1] at hin
        obtain ⟨XO, XF, XL, XA⟩ := x
        obtain rfl : XA = E := HE.out
        simp only at hin hlen hbel hobj p0 p1 p2 y0 y1 y2
        clear p0 p1 p2 p3 hx HE
        have hZ := HUP.out.2.2.2.1
        have hl1 : decide ((XL : Int) < 1) = false := decide_eq_false (by omega)
        have hf1 : decide ((XF : Int) < 0) = false := decide_eq_false (by omega)
        have hz1 : decide ((Z : Int) < (XF : Int) + (XL : Int)) = false := decide_eq_false (by omega)
        have hw1 : IntKind.i64.wrap ((XF : Int) + (XL : Int)) = (XF : Int) + (XL : Int) := by rw [IntKind.wrap_i64]; omega
        have hk9 : decide ((0 : Int) < 0) = false := by decide
        by_cases hk0 : k = 0
        · subst hk0
          have ho := HUP.out.2.2.2.2
          go_quiet (fail)
          generalize hwq : w3.drewN nq = w4
          have HXB := Lib.hid (show RecAt w4 P15 (xtC ⟨XO, XF, XL, XA⟩) 36 from hwq ▸ HX9.out.later (below_drewN w3 nq))
          have HXM := Lib.hid (show RecAt w4 P9 (layC o u c) 23 from hwq ▸ HXL.out.later (below_drewN w3 nq))
          have HB4 := Lib.hid (show Below w2.heap.size w2 w4 from hwq ▸ HBZ.out.trans ((below_drewN w3 nq).mono HBZ.out.size))
          clear hwq y0 y1 y2 y3 x0 x1 x2 hl1 hf1 hz1 hw1 hk9
          go_upto_region 14 with fail
          go_loopw [16] (fun i wr => ∃ (q : Nat), i = .int .i64 q ∧ q ≤ XL ∧ Below w4.heap.size w4 wr) (fun i _ => XL - (intOf i).toNat)
          case atStart => exact ⟨0, rfl, by omega, Below.refl _ _⟩
          case round =>
            obtain ⟨q, rfl, hq, hbq⟩ := hrel
            have HBQ := Lib.hid hbq
            clear hbq
            have HX5 := Lib.hid (HXM.out.later HBQ.out)
            have HX6 := Lib.hid (HXB.out.later HBQ.out)
            obtain ⟨y0, y1, y2, y3⟩ := HX6.out.c4
            obtain ⟨x0, x1, x2⟩ := HX5.out.l3
            by_cases hqL : (q : Int) < XL
            · have hby := HPC.out.byte q (by simp only; omega)
              simp only at hby
              have HP := HPL.out (off + XA + q) (by omega) wr
              rw [hby.1, hby.2] at HP
              have HPQ := Lib.hid HP
              have hs1 : (off : Int) + (XA : Int) + (q : Int) = ((off + XA + q : Nat) : Int) := by omega
              clear hby HP
              obtain ⟨Q, hQ⟩ : ∃ Q, off + XA + q = Q := ⟨_, rfl⟩
              rw [hQ] at HPQ hs1
              clear hQ
              go_upto_region 16 with fail
              go_wp2_with fail
              refine HPQ.out.mono ?_
              rintro e w5 ⟨rfl, b5⟩
              have HX7 := Lib.hid (HX6.out.later b5)
              have HB5 := Lib.hid (HBQ.out.trans (b5.mono HBQ.out.size))
              clear b5 y0 y1 y2 y3 x0 x1 x2
              obtain ⟨y0, y1, y2, y3⟩ := HX7.out.c4
              go_wp2_with fail
              go_roundw
              case rel => exact ⟨q + 1, by go_num, by omega, HB5.out⟩
              case measure => simp [intOf]; omega
            · have hnx := HPC.out.next
              simp only at hnx
              go_wp2_with fail
              go_roundw
              case rel => exact ⟨0 + 1, by go_num, by rw [hnx]; exact congrArg (Value.int IntKind.i64) (by omega), by omega, HB4.out.trans (HBQ.out.mono HB4.out.size)⟩
              case measure => simp [intOf]; omega
        · obtain ⟨K1, hK1⟩ : ∃ K1, k = K1 + 1 := ⟨k - 1, by omega⟩
          have hk1 : (k : Int) - 1 = (K1 : Int) := by omega
          have hk2 : decide ((0 : Int) < (k : Int)) = true := decide_eq_true (by omega)
          have hkm : (K1 : Int) < M := by omega
          obtain ⟨⟨YO, YF, YL, YA⟩, hy⟩ : ∃ y, L[K1]? = some y := ⟨L[K1]'(by have := HM.out; omega), List.getElem?_eq_getElem _⟩
          have hap := HPC.out.apart _ (by omega) (by rw [show k - 1 = K1 by omega]; exact hy)
          have HPY := HPX.out.piece hn512.1 (by have := HUP.out; omega) (by have := HUP.out; omega) hy
          have hyin := HPY.inside
          rw [HUP.out.2.2.1] at hyin
          obtain ⟨_, _, e, z0, z1, z2, _⟩ := (HR.out.later HBZ.out).x4 hy
          cases e
          simp only at hap hyin z0 z1 z2
          have hw2 : IntKind.i64.wrap ((YF : Int) + (YL : Int)) = (YF : Int) + (YL : Int) := by rw [IntKind.wrap_i64]; omega
          clear hy HPY
          have ho := HUP.out.2.2.2.2
          by_cases he : YO = XO
          · have he' := he.symm
            subst he'
            have he2 : ((YF : Int) + (YL : Int) == (XF : Int)) = false := by
              rw [beq_eq_false_iff_ne]
              intro e
              exact hap ⟨rfl, by omega⟩
            clear hap
            go_quiet (fail)
            clear z0 z1 z2 hw2 he2
            generalize hwq : w3.drewN nq = w4
            have HXB := Lib.hid (show RecAt w4 P15 (xtC ⟨XO, XF, XL, XA⟩) 36 from hwq ▸ HX9.out.later (below_drewN w3 nq))
            have HXM := Lib.hid (show RecAt w4 P9 (layC o u c) 23 from hwq ▸ HXL.out.later (below_drewN w3 nq))
            have HB4 := Lib.hid (show Below w2.heap.size w2 w4 from hwq ▸ HBZ.out.trans ((below_drewN w3 nq).mono HBZ.out.size))
            clear hwq y0 y1 y2 y3 x0 x1 x2 hl1 hf1 hz1 hw1 hk9
            go_upto_region 14 with fail
            go_loopw [16] (fun i wr => ∃ (q : Nat), i = .int .i64 q ∧ q ≤ XL ∧ Below w4.heap.size w4 wr) (fun i _ => XL - (intOf i).toNat)
            case atStart => exact ⟨0, rfl, by omega, Below.refl _ _⟩
            case round =>
              obtain ⟨q, rfl, hq, hbq⟩ := hrel
              have HBQ := Lib.hid hbq
              clear hbq
              have HX5 := Lib.hid (HXM.out.later HBQ.out)
              have HX6 := Lib.hid (HXB.out.later HBQ.out)
              obtain ⟨y0, y1, y2, y3⟩ := HX6.out.c4
              obtain ⟨x0, x1, x2⟩ := HX5.out.l3
              by_cases hqL : (q : Int) < XL
              · have hby := HPC.out.byte q (by simp only; omega)
                simp only at hby
                have HP := HPL.out (off + XA + q) (by omega) wr
                rw [hby.1, hby.2] at HP
                have HPQ := Lib.hid HP
                have hs1 : (off : Int) + (XA : Int) + (q : Int) = ((off + XA + q : Nat) : Int) := by omega
                clear hby HP
                obtain ⟨Q, hQ⟩ : ∃ Q, off + XA + q = Q := ⟨_, rfl⟩
                rw [hQ] at HPQ hs1
                clear hQ
                go_upto_region 16 with fail
                go_wp2_with fail
                refine HPQ.out.mono ?_
                rintro e w5 ⟨rfl, b5⟩
                have HX7 := Lib.hid (HX6.out.later b5)
                have HB5 := Lib.hid (HBQ.out.trans (b5.mono HBQ.out.size))
                clear b5 y0 y1 y2 y3 x0 x1 x2
                obtain ⟨y0, y1, y2, y3⟩ := HX7.out.c4
                go_wp2_with fail
                go_roundw
                case rel => exact ⟨q + 1, by go_num, by omega, HB5.out⟩
                case measure => simp [intOf]; omega
              · have hnx := HPC.out.next
                simp only at hnx
                go_wp2_with fail
                go_roundw
                case rel => exact ⟨k + 1, by go_num, by rw [hnx]; exact congrArg (Value.int IntKind.i64) (by omega), by omega, HB4.out.trans (HBQ.out.mono HB4.out.size)⟩
                case measure => simp [intOf]; omega
          · have he1 : ((YO : Int) == (XO : Int)) = false := by
              rw [beq_eq_false_iff_ne]
              omega
            clear hap
            go_quiet (fail)
            clear z0 z1 z2 hw2 he1
            generalize hwq : w3.drewN nq = w4
            have HXB := Lib.hid (show RecAt w4 P15 (xtC ⟨XO, XF, XL, XA⟩) 36 from hwq ▸ HX9.out.later (below_drewN w3 nq))
            have HXM := Lib.hid (show RecAt w4 P9 (layC o u c) 23 from hwq ▸ HXL.out.later (below_drewN w3 nq))
            have HB4 := Lib.hid (show Below w2.heap.size w2 w4 from hwq ▸ HBZ.out.trans ((below_drewN w3 nq).mono HBZ.out.size))
            clear hwq y0 y1 y2 y3 x0 x1 x2 hl1 hf1 hz1 hw1 hk9
            go_upto_region 14 with fail
            go_loopw [16] (fun i wr => ∃ (q : Nat), i = .int .i64 q ∧ q ≤ XL ∧ Below w4.heap.size w4 wr) (fun i _ => XL - (intOf i).toNat)
            case atStart => exact ⟨0, rfl, by omega, Below.refl _ _⟩
            case round =>
              obtain ⟨q, rfl, hq, hbq⟩ := hrel
              have HBQ := Lib.hid hbq
              clear hbq
              have HX5 := Lib.hid (HXM.out.later HBQ.out)
              have HX6 := Lib.hid (HXB.out.later HBQ.out)
              obtain ⟨y0, y1, y2, y3⟩ := HX6.out.c4
              obtain ⟨x0, x1, x2⟩ := HX5.out.l3
              by_cases hqL : (q : Int) < XL
              · have hby := HPC.out.byte q (by simp only; omega)
                simp only at hby
                have HP := HPL.out (off + XA + q) (by omega) wr
                rw [hby.1, hby.2] at HP
                have HPQ := Lib.hid HP
                have hs1 : (off : Int) + (XA : Int) + (q : Int) = ((off + XA + q : Nat) : Int) := by omega
                clear hby HP
                obtain ⟨Q, hQ⟩ : ∃ Q, off + XA + q = Q := ⟨_, rfl⟩
                rw [hQ] at HPQ hs1
                clear hQ
                go_upto_region 16 with fail
                go_wp2_with fail
                refine HPQ.out.mono ?_
                rintro e w5 ⟨rfl, b5⟩
                have HX7 := Lib.hid (HX6.out.later b5)
                have HB5 := Lib.hid (HBQ.out.trans (b5.mono HBQ.out.size))
                clear b5 y0 y1 y2 y3 x0 x1 x2
                obtain ⟨y0, y1, y2, y3⟩ := HX7.out.c4
                go_wp2_with fail
                go_roundw
                case rel => exact ⟨q + 1, by go_num, by omega, HB5.out⟩
                case measure => simp [intOf]; omega
              · have hnx := HPC.out.next
                simp only at hnx
                go_wp2_with fail
                go_roundw
                case rel => exact ⟨k + 1, by go_num, by rw [hnx]; exact congrArg (Value.int IntKind.i64) (by omega), by omega, HB4.out.trans (HBQ.out.mono HB4.out.size)⟩
                case measure => simp [intOf]; omega
      · obtain rfl : k = M := by omega
        have hE : endX L n k = n := endX_len (by rw [HM.out]; exact Nat.le_refl _)
        rw [hE]
        have HBE := Lib.hid (HB2.out.trans (HBK.out.mono HB2.out.size))
        clear hn512 hofr hn1r hcase hM5 hk hkM hE hsh ho3 ho6
        go_wp2_with fail
        refine (known12_any wr).mono ?_
        rintro e w6 ⟨rfl, b6⟩
        have HB6 := Lib.hid (HBE.out.trans (b6.mono HBE.out.size))
        clear b6
        go_wp2_with fail
        go_ret
        exact ⟨rfl, HB6.out⟩
  · have hlt : (512 : Int) - n < off := by omega
    have hL := HL.out
    rw [if_neg hcase] at hL
    subst hL
    simp only [List.length_nil] at hM
    subst hM
    clear hn hsh ho3 ho6
    go_wp2_with fail
    refine (known12_any w2).mono ?_
    rintro e w6 ⟨rfl, b6⟩
    have HB6 := Lib.hid (HB2.out.trans (b6.mono HB2.out.size))
    clear b6
    go_wp2_with fail
    go_ret
    exact ⟨rfl, HB6.out⟩
end Go.Proofs.Ytalgjoeinllllaa
