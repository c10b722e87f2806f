/- Records of an image: what bytes are: the program's guess, walked; Get. -/
import Derived.Test.YtfjplhjlmilcfaaHdJ
namespace Go.Proofs.Ytfjplhjlmilcfaa
open Go.RowKit Go.Proofs
set_option linter.unusedVariables false
set_option linter.unusedSimpArgs false
set_option linter.unnecessarySimpa false

def HGuess (l : List UInt8) (w : World) (e : Ending) (w' : World) : Prop := ∃ a m c g, e = .returned (hdA g a m c) ∧ MOwn w w' (.slice a m c) g.marks ∧ g.marks.length = m ∧ m ≤ 17 ∧ GuessH l g
theorem read7_zero (l : List UInt8) : Read7 l 0 0 [0, 0, 0, 0, 0, 0, 0] := ⟨fun x hx => by simp at hx; omega, rfl, fun d _ _ => ⟨rfl, fun i hi => by omega⟩⟩
theorem read7_all {l : List UInt8} {a : Nat} {x0 x1 x2 x3 x4 x5 x6 : Int} (h : Read7 l 7 a [x0, x1, x2, x3, x4, x5, x6]) : ∀ d, HdOk d → bodyH d = l → x0 = d.size ∧ x1 = d.order ∧ x2 = d.unit ∧ x3 = d.count ∧ x4 = d.next ∧ x5 = d.seq ∧ x6 = (d.marks.length : Nat) ∧ a = (numsH d).length + endN d.marks 0 := fun d hd hl => by
  obtain ⟨h1, h2⟩ := h.2.2 d hd hl
  have e0 := h2 0 (by omega); have e1 := h2 1 (by omega); have e2 := h2 2 (by omega); have e3 := h2 3 (by omega); have e4 := h2 4 (by omega); have e5 := h2 5 (by omega); have e6 := h2 6 (by omega)
  simp [L7] at e0 e1 e2 e3 e4 e5 e6
  rw [pre7_all, List.length_append] at h1
  rw [endN_zero]
  exact ⟨e0, e1, e2, e3, e4, e5, e6, h1⟩
theorem read3_zero {l : List UInt8} {p : Nat} (h : p ≤ l.length) : Read3 l p 0 p [0, 0, 0] := ⟨fun x hx => by simp at hx; omega, rfl, rfl, h⟩
set_option maxRecDepth 100000 in
set_option maxHeartbeats 12800000 in
theorem guessH_any (ad : Option Addr) (n c : Nat) (l : List UInt8) (w : World) (hr : Row w ad c l) (hn : l.length = n) (hlen : n ≤ 100000) :
    Calls Try.prog 34 #[.slice ad n c] w (HGuess l w) := by
  have HR := Lib.hid hr
  have HN := Lib.hid hn
  clear hr hn
  go_enter Try.func34, Try.ntmps34
  obtain ⟨HX2, HX3, HX4, HB4⟩ : Hid (RecAt (((w.alloc (.cells zeroHd 26)).alloc (.cells zeroHd 26)).alloc (.cells #[.int .i64 0] 3)) w.heap.size zeroHd 26) ∧ Hid (RecAt (((w.alloc (.cells zeroHd 26)).alloc (.cells zeroHd 26)).alloc (.cells #[.int .i64 0] 3)) (w.heap.size + 1) zeroHd 26) ∧ Hid (RecAt (((w.alloc (.cells zeroHd 26)).alloc (.cells zeroHd 26)).alloc (.cells #[.int .i64 0] 3)) (w.heap.size + 2) #[.int .i64 0] 3) ∧ Hid (Below w.heap.size w (((w.alloc (.cells zeroHd 26)).alloc (.cells zeroHd 26)).alloc (.cells #[.int .i64 0] 3))) := three_recs w zeroHd zeroHd _ _ _ _
  go_upto_region 3 with fail
  generalize (((w.alloc (.cells zeroHd 26)).alloc (.cells zeroHd 26)).alloc (.cells #[.int .i64 0] 3)) = w4 at *
  obtain ⟨P3, hP3⟩ : ∃ P, w.heap.size + 1 = P := ⟨_, rfl⟩
  obtain ⟨P4, hP4⟩ : ∃ P, P3 + 1 = P := ⟨_, rfl⟩
  have HP3 := Lib.hid hP3
  have HP4 := Lib.hid hP4
  rw [show w.heap.size + 2 = P4 by omega] at HX4
  rw [hP3] at HX3 ⊢
  rw [hP4]
  clear hP3 hP4
  obtain ⟨P2, hP2⟩ : ∃ P, w.heap.size = P := ⟨_, rfl⟩
  have HP2 := Lib.hid hP2
  rw [hP2]
  rw [hP2] at HX2 HP3
  clear hP2
  go_wp2_with fail
  go_loopw [5, 7, 22] (fun at' _ i wr => ∃ (j a : Nat) (xs : List Int), i = .int .i64 j ∧ at' = .int .i64 (a : Nat) ∧ j ≤ 7 ∧ Hid (a ≤ l.length) ∧ Hid (LayH wr P3 P4 xs) ∧ Hid (Read7 l j a xs) ∧ Hid (RecAt wr P2 zeroHd 26) ∧ Hid (Below w.heap.size w wr)) (fun _ _ i _ => 7 - (intOf i).toNat)
  case atStart => exact ⟨0, 0, _, rfl, rfl, by omega, Lib.hid (Nat.zero_le _), Lib.hid ⟨0, 0, 0, 0, 0, 0, 0, rfl, HX3.out, HX4.out⟩, Lib.hid (read7_zero l), HX2, HB4⟩
  case round =>
    obtain ⟨j, a, xs, rfl, rfl, hj, ha, hL, hD, hX2, hB⟩ := hrel
    by_cases hj7 : (j : Int) < 7
    · obtain ⟨X, K, v, hX, hpl, hcl, hfr, hst⟩ := hL.out.at (by have := HP3.out; have := HP4.out; omega) (show j < 7 by omega)
      have hix : ∀ W, (Instr.index 79 (.agg #[.pointer (some ⟨P3, 0, none⟩), .pointer (some ⟨P3, 1, none⟩), .pointer (some ⟨P3, 2, none⟩), .pointer (some ⟨P3, 3, none⟩), .pointer (some ⟨P3, 4, none⟩), .pointer (some ⟨P3, 5, none⟩), .pointer (some ⟨P4, 0, none⟩)]) (.int .i64 (j : Nat))).run Try.prog W = .ok (.pointer (some ⟨X, K, none⟩)) W := fun W => run_ixp7 W _ _ _ _ _ _ _ j _ hpl
      obtain ⟨o, q, z, hg⟩ : ∃ o q z, getVA l ((a : Nat) : Int) = (o, q, z) := ⟨_, _, _, rfl⟩
      obtain ⟨a2, rfl, ha2⟩ := getVA_place hg (Int.natCast_nonneg _)
      have HK := Lib.hid (getvar_any ad n c l ((a : Nat) : Int) wr (HR.out.later hB.out) HN.out hlen (by omega) (by have := ha.out; have := HN.out; omega))
      rw [hg] at HK
      simp only [Got3] at HK
      have HD2 := Lib.hid (hD.out.step (show j < 7 by omega) hg)
      have HL2 := Lib.hid (hst o)
      have HA2 : Hid (a2 ≤ l.length) := Lib.hid ha2
      have HXP : Hid (P2 < X) := Lib.hid (by have := HP3.out; have := HP4.out; rcases hX with rfl | rfl <;> omega)
      have HX22 := Lib.hid (hX2.out.other (y := X) (by have := HXP.out; omega) K (.int .i64 o))
      have HB2 := Lib.hid (hB.out.setCell (p := ⟨X, K, none⟩) (by have := HXP.out; have := HP2.out; simp only; omega) (.int .i64 o))
      clear hst hpl hX hg ha2 hL hD hX2 hB
      go_wp2_with fail
      refine HK.out.mono ?_
      rintro e w5 ⟨rfl, rfl⟩
      go_wp2_with fail
      go_roundw
      case rel => exact ⟨j + 1, a2, _, by go_num, rfl, by omega, HA2, HL2, HD2, HX22, HB2⟩
      case measure => simp [intOf]; omega
    · have : j = 7 := by omega
      subst this
      obtain ⟨x0, x1, x2, x3, x4, x5, x6, rfl, hx3, hx4⟩ := hL.out
      have HRD := Lib.hid (read7_all hD.out)
      have h6 := hD.out.1 x6 (by simp)
      have HX3 := Lib.hid hx3
      clear hx3 hL hD
      have t6 := hx4.c1
      by_cases h17 : 17 < x6
      · have HG : Hid (GuessH l noHd) := Lib.hid (fun d hd hl => by have h1 := (HRD.out d hd hl).2.2.2.2.2.2.1; have := hd.2.1; omega)
        clear hx4
        go_wp2_with (refine wpList_rec rfl rfl P2 zeroHd zeroHd rfl rfl hX2.out rfl (by kernel_rfl) (by kernel_rfl) ?_; intro w8 r1 r2 r3 r4)
        refine bodyPost_ret (results_c rfl rfl r1 Try.underlying26 rfl (by kernel_rfl)) rfl ?_
        exact ⟨none, 0, 0, noHd, rfl, GOwn.nil' (hB.out.grown r4 hB.out.size (fun q e => by cases e; exact Nat.le_of_eq HP2.out)), rfl, by omega, HG.out⟩
      · obtain ⟨N, hN⟩ : ∃ N : Nat, x6 = N := ⟨x6.toNat, by omega⟩
        subst hN
        have hN17 : N ≤ 17 := by omega
        clear h17 h6
        go_wp2_with fail
        clear t6 hx4
        go_loopw [5, 8, 9, 11, 39] (fun at' _ _ _ i wr => ∃ (j p : Nat) (us : List Mk) (ap : Option Addr) (cp : Nat), i = .int .i64 j ∧ at' = .int .i64 (p : Nat) ∧ j ≤ N ∧ Hid (p ≤ l.length) ∧ Hid (us.length = j) ∧ Hid (MOwn w wr (.slice ap j cp) us) ∧ Hid ((Value.slice ap j cp).ownBlock ≠ some P2 ∧ (Value.slice ap j cp).ownBlock ≠ some P3) ∧ Hid (RecAt wr P3 #[.int .i64 x0, .int .i64 x1, .int .i64 x2, .int .i64 x3, .int .i64 x4, .int .i64 x5, .slice ap j cp] 26) ∧ Hid (RecAt wr P2 zeroHd 26) ∧ Hid (∀ d, HdOk d → bodyH d = l → us = d.marks.take j ∧ p = (numsH d).length + endN d.marks j)) (fun _ _ _ _ i _ => N - (intOf i).toNat)
        case atStart => exact ⟨0, a, [], none, 0, rfl, rfl, by omega, ha, Lib.hid rfl, Lib.hid (GOwn.nil' hB.out), Lib.hid ⟨by simp [Value.ownBlock], by simp [Value.ownBlock]⟩, HX3, hX2, Lib.hid (fun d hd hl => ⟨rfl, (HRD.out d hd hl).2.2.2.2.2.2.2⟩)⟩
        case round =>
          clear HX3 hX2 hB
          obtain ⟨j, p, us, ap, cp, rfl, rfl, hj, hp, hul, hO, hNB, hX3, hX2, hU⟩ := hrel
          obtain ⟨wo, hwo⟩ : ∃ W, W = wr := ⟨_, rfl⟩
          subst hwo
          by_cases hjn : (j : Int) < N
          · obtain ⟨HX8, HX9, HB9⟩ : Hid (RecAt ((wo.alloc (.cells #[.int .i64 0, .string ⟨#[]⟩, .int .i64 0, .bool false] 39)).alloc (.cells #[.int .i64 0] 3)) wo.heap.size #[.int .i64 0, .string ⟨#[]⟩, .int .i64 0, .bool false] 39) ∧ Hid (RecAt ((wo.alloc (.cells #[.int .i64 0, .string ⟨#[]⟩, .int .i64 0, .bool false] 39)).alloc (.cells #[.int .i64 0] 3)) (wo.heap.size + 1) #[.int .i64 0] 3) ∧ Hid (Below wo.heap.size wo ((wo.alloc (.cells #[.int .i64 0, .string ⟨#[]⟩, .int .i64 0, .bool false] 39)).alloc (.cells #[.int .i64 0] 3))) := two_recs wo _ _ _ _
            go_upto_region 14 with fail
            generalize ((wo.alloc (.cells #[.int .i64 0, .string ⟨#[]⟩, .int .i64 0, .bool false] 39)).alloc (.cells #[.int .i64 0] 3)) = w9 at *
            obtain ⟨P9, hP9⟩ : ∃ P, wo.heap.size + 1 = P := ⟨_, rfl⟩
            have HP9 := Lib.hid hP9
            rw [hP9] at HX9 ⊢
            clear hP9
            obtain ⟨P8, hP8⟩ : ∃ P, wo.heap.size = P := ⟨_, rfl⟩
            have HP8 := Lib.hid hP8
            rw [hP8]
            rw [hP8] at HX8 HP9
            clear hP8
            go_wp2_with fail
            go_loopw [5, 11, 44] (fun at' _ i wq => ∃ (k q : Nat) (xs : List Int), i = .int .i64 k ∧ at' = .int .i64 (q : Nat) ∧ k ≤ 3 ∧ Hid (LayM wq P8 P9 xs) ∧ Hid (Read3 l p k q xs) ∧ Hid (Below wo.heap.size wo wq)) (fun _ _ i _ => 3 - (intOf i).toNat)
            case atStart => exact ⟨0, p, _, rfl, rfl, by omega, Lib.hid ⟨0, 0, 0, rfl, HX8.out, HX9.out⟩, Lib.hid (read3_zero hp.out), HB9⟩
            case round =>
              clear HX8 HX9 HB9
              obtain ⟨k, q, xs, rfl, rfl, hk, hL, hD, hB⟩ := hrel
              have HBW := Lib.hid (hO.out.below.trans (hB.out.mono hO.out.below.size))
              by_cases hk3 : (k : Int) < 3
              · obtain ⟨X, K, v, hX, hpl, hcl, hfr, hst⟩ := hL.out.at (by have := HP9.out; omega) (show k < 3 by omega)
                have hix : ∀ W, (Instr.index 82 (.agg #[.pointer (some ⟨P8, 0, none⟩), .pointer (some ⟨P8, 2, none⟩), .pointer (some ⟨P9, 0, none⟩)]) (.int .i64 (k : Nat))).run Try.prog W = .ok (.pointer (some ⟨X, K, none⟩)) W := fun W => run_ixp3 W _ _ _ k _ hpl
                obtain ⟨o, q', z, hg⟩ : ∃ o q' z, getVA l ((q : Nat) : Int) = (o, q', z) := ⟨_, _, _, rfl⟩
                obtain ⟨a2, rfl, ha2⟩ := getVA_place hg (Int.natCast_nonneg _)
                have HK := Lib.hid (getvar_any ad n c l ((q : Nat) : Int) wr (HR.out.later HBW.out) HN.out hlen (by omega) (by have := hD.out.2.2.2; have := HN.out; omega))
                rw [hg] at HK
                simp only [Got3] at HK
                have HD2 := Lib.hid (hD.out.step (show k < 3 by omega) hg)
                have HL2 := Lib.hid (hst o)
                have HB2 := Lib.hid (hB.out.setCell (p := ⟨X, K, none⟩) (by have := HP8.out; have := HP9.out; simp only; rcases hX with rfl | rfl <;> omega) (.int .i64 o))
                clear hst hpl hX hg ha2 hL hD hB
                go_wp2_with fail
                refine HK.out.mono ?_
                rintro e w5 ⟨rfl, rfl⟩
                go_wp2_with fail
                go_roundw
                case rel => exact ⟨k + 1, a2, _, by go_num, rfl, by omega, HL2, HD2, HB2⟩
                case measure => simp [intOf]; omega
              · have : k = 3 := by omega
                subst this
                obtain ⟨x7, x8, x9, rfl, hx8, hx9⟩ := hL.out
                have HXS := Lib.hid hx8
                have h7 := hD.out.1 x7 (by simp)
                have h8 := hD.out.1 x8 (by simp)
                obtain ⟨s, qe, zt, hgt, hqe, hss, hgs⟩ := gotT_any l ((q : Nat) : Int) 13 (by have := HN.out; omega)
                have HGT := Lib.hid (fun W (h : Below w.heap.size w W) => gettext_any ad n c l ((q : Nat) : Int) 13 W (HR.out.later h) HN.out hlen (by omega) (by have := hD.out.2.2.2; have := HN.out; omega))
                rw [hgt] at HGT
                have HQE : Hid (qe ≤ l.length) := Lib.hid hqe
                have HTB : Hid (Mk.B ⟨x7, s, x8, decide (0 < x9)⟩) := Lib.hid (by unfold Mk.B W64; simp only; omega)
                have HU2 : Hid (∀ d, HdOk d → bodyH d = l → us ++ [⟨x7, s, x8, decide (0 < x9)⟩] = d.marks.take (j + 1) ∧ qe = (numsH d).length + endN d.marks (j + 1)) := Lib.hid (fun d hd hl => by
                  obtain ⟨u1, u2⟩ := hU.out d hd hl
                  have hjl : j < d.marks.length := by have := (HRD.out d hd hl).2.2.2.2.2.2.1; omega
                  have ht : d.marks[j]? = some d.marks[j] := List.getElem?_eq_getElem hjl
                  obtain ⟨o1, o2, o3, a1, a2, z1, z2, z3, hxs, g1, g2, g3⟩ := varsN_three hD.out.2.2.1
                  simp only [List.take_succ_cons, List.take_zero, List.cons.injEq, and_true] at hxs
                  obtain ⟨rfl, rfl, rfl⟩ := hxs
                  have hnl : (numsH d).length ≤ l.length := by rw [← hl]; unfold bodyH; rw [List.length_append]; omega
                  obtain ⟨r1, r2, r3, _, _, _, r7⟩ := (hd.at hl).step hnl ht u2 g1 g2 g3
                  obtain ⟨s1, s2, _⟩ := hgs _ _ (r7 13 (by decide))
                  refine ⟨?_, s2⟩
                  rw [List.take_succ_eq_append_getElem hjl, u1]
                  generalize d.marks[j] = t at *
                  obtain ⟨t1, t2, t3, t4⟩ := t
                  simp only at r1 r2 r3 s1
                  rw [r1, r2, r3, bit_pos, show s = t2 from bytes_ext s1])
                have HUL : Hid ((us ++ [(⟨x7, s, x8, decide (0 < x9)⟩ : Mk)]).length = j + 1) := Lib.hid (by rw [List.length_append, hul.out]; rfl)
                have HP8W : Hid (w.heap.size ≤ P8) := Lib.hid (by have := HP8.out; have := hO.out.below.size; omega)
                have HX32 : Hid (P3 < P8 ∧ P2 < P8) := Lib.hid ⟨by have := hX3.out.lt; have := HP8.out; omega, by have := hX2.out.lt; have := HP8.out; omega⟩
                have t9 := hx9.c1
                obtain ⟨y0, y1, y2, y3⟩ := hx8.c4
                obtain ⟨f0, f1, f2, f3⟩ := hx8.f4
                clear hgt hqe hss hgs hx8 h7 h8 HBW
                go_upto_region 20 with fail
                have HB10 := Lib.hid (hB.out.setCell (p := ⟨P8, 3, none⟩) (Nat.le_of_eq HP8.out) (.bool (decide (0 < x9))))
                have HX10 := Lib.hid (HXS.out.set 3 (.bool (decide (0 < x9))))
                clear t9 y0 y1 y2 y3 f0 f1 f2 f3 hx9 hB
                generalize (wr.setCell ⟨P8, 3, none⟩ (.bool (decide (0 < x9)))) = w10 at *
                simp only [List.setIfInBounds_toArray, List.set_cons_zero, List.set_cons_succ] at HX10
                have HBW := Lib.hid (hO.out.below.trans (HB10.out.mono hO.out.below.size))
                obtain ⟨y0, y1, y2, y3⟩ := HX10.out.c4
                obtain ⟨f0, f1, f2, f3⟩ := HX10.out.f4
                go_upto_region 21 with (go_at_call 57; refine (HGT.out _ HBW.out).mono ?_; rintro e w11 ⟨rfl, rfl⟩)
                have HB11 := Lib.hid (HB10.out.setCell (p := ⟨P8, 1, none⟩) (Nat.le_of_eq HP8.out) (.string s))
                have HX11 := Lib.hid (HX10.out.set 1 (.string s))
                clear y0 y1 y2 y3 f0 f1 f2 f3 HB10 HX10 HBW
                generalize (w10.setCell ⟨P8, 1, none⟩ (.string s)) = w11 at *
                simp only [List.setIfInBounds_toArray, List.set_cons_zero, List.set_cons_succ] at HX11
                have HO11 := Lib.hid (hO.out.later HB11.out)
                have HX3 := Lib.hid (hX3.out.later HB11.out)
                have HX2 := Lib.hid (hX2.out.later HB11.out)
                clear hX3 hX2
                generalize decide (0 < x9) = b9 at *
                obtain ⟨y0, y1, y2, y3⟩ := HX11.out.c4
                obtain ⟨z0, z1, z2, z3, z4, z5, z6⟩ := HX3.out.c7
                have g6 := HX3.out.frozen 6
                have HSZ : Hid (P3 < w11.heap.size ∧ P2 < w11.heap.size) := Lib.hid ⟨HX3.out.lt, HX2.out.lt⟩
                go_wp2_with (at_builtin; refine wp_gone mkOk rfl _ _ rfl rfl _ _ rfl w HO11.out ⟨x7, s, x8, b9⟩ HTB.out rfl rfl (by rw [hul.out]; omega) ?_; intro v12 w12 o12 g12 h12; obtain ⟨a12, c12, rfl, _⟩ := o12.row_n mkOk HUL.out; have HO12 := Lib.hid o12; have HG12 := Lib.hid g12; have HH12 := Lib.hid h12; clear o12 g12 h12 y0 y1 y2 y3 z0 z1 z2 z3 z4 z5 z6 g6; have HNB12 : Hid ((Value.slice a12 (j + 1) c12).ownBlock ≠ some P2 ∧ (Value.slice a12 (j + 1) c12).ownBlock ≠ some P3) := Lib.hid (by rcases HH12.out with h | h <;> rw [h]; exact hNB.out; exact ⟨by have := HSZ.out; simp; omega, by have := HSZ.out; simp; omega⟩); have HX312 := Lib.hid ((HX3.out.later ((Below.refl _ _).alloc (Nat.le_refl _) _)).grown HG12.out (fun e => hNB.out.2 e.symm)); have HX212 := Lib.hid ((HX2.out.later ((Below.refl _ _).alloc (Nat.le_refl _) _)).grown HG12.out (fun e => hNB.out.1 e.symm)); obtain ⟨z0, z1, z2, z3, z4, z5, z6⟩ := HX312.out.c7; have g6 := HX312.out.frozen 6)
                have HP3W : Hid (w.heap.size ≤ P3) := Lib.hid (by have := HP2.out; have := HP3.out; omega)
                have HO13 := Lib.hid (HO12.out.besides HP3W.out HNB12.out.2 6 (.slice a12 (j + 1) c12))
                have HX313 := Lib.hid (HX312.out.set 6 (.slice a12 (j + 1) c12))
                have HX213 := Lib.hid (HX212.out.other (y := P3) (by have := HP3.out; omega) 6 (.slice a12 (j + 1) c12))
                simp only [List.setIfInBounds_toArray, List.set_cons_zero, List.set_cons_succ] at HX313
                go_roundw
                case rel => exact ⟨j + 1, qe, _, a12, c12, by go_num, rfl, by omega, HQE, HUL, HO13, HNB12, HX313, HX213, HU2⟩
                case measure => simp [intOf]; omega
          · have : j = N := by omega
            subst this
            have HG : Hid (GuessH l ⟨x0, x1, x2, x3, x4, x5, us⟩) := Lib.hid (fun d hd hl => by
              obtain ⟨e0, e1, e2, e3, e4, e5, e6, _⟩ := HRD.out d hd hl
              obtain ⟨u1, _⟩ := hU.out d hd hl
              obtain ⟨d0, d1, d2, d3, d4, d5, dm⟩ := d
              simp only at e0 e1 e2 e3 e4 e5 e6 u1
              rw [e0, e1, e2, e3, e4, e5, u1, List.take_of_length_le (by omega)])
            obtain ⟨z0, z1, z2, z3, z4, z5, z6⟩ := hX3.out.c7
            go_wp2_with (refine wpList_rec rfl rfl P2 zeroHd #[.int .i64 x0, .int .i64 x1, .int .i64 x2, .int .i64 x3, .int .i64 x4, .int .i64 x5, .slice ap j cp] rfl rfl hX2.out rfl (by kernel_rfl) (by kernel_rfl) ?_; intro w8 r1 r2 r3 r4)
            refine bodyPost_ret (results_c rfl rfl r1 Try.underlying26 rfl (by kernel_rfl)) rfl ?_
            exact ⟨ap, j, cp, ⟨x0, x1, x2, x3, x4, x5, us⟩, rfl, hO.out.keptBy r4 (.inr hNB.out.1) (fun k e => by cases e; exact Nat.le_of_eq HP2.out), hul.out, hN17, HG.out⟩
end Go.Proofs.Ytfjplhjlmilcfaa
