/- Clients: what bytes are: the document's own. -/
import Derived.Test.YtcddbffeejijpaaCuH
import Derived.Test.YtcddbffeejijpaaNmb
import Derived.Deep.RegionHeld3
namespace Go.Proofs.Ytcddbffeejijpaa
open Go.RowKit Go.Proofs
set_option linter.unusedVariables false
set_option linter.unusedSimpArgs false
set_option linter.unnecessarySimpa false

theorem three {vs : List Nat} (h : vs.length = 3) : ∃ a b c, vs = [a, b, c] := by
  match vs, h with
  | [a, b, c], _ => exact ⟨a, b, c, rfl⟩
theorem get_vainU {l : List UInt8} (h : ∀ d : List Cu, CuOk d → putU d = l → False) : getCu l = ([], 2) := getCu_none fun d hd hl => h d hd hl
theorem numsA_cu {l : List UInt8} {d : List Cu} {j : Nat} {t : Cu} (hd : CuOk d) (hl : putU d = l) (ht : d[j]? = some t) : numsA l (endU d j) 3 = some ([t.id.toNat, t.pos.toNat, bitN t.off], endU d (j + 1)) := by
  obtain ⟨o1, q1, z1, g1⟩ : ∃ o q z, getVA l ((endU d j : Nat) : Int) = (o, q, z) := ⟨_, _, _, rfl⟩
  obtain ⟨a1, rfl, _⟩ := getVA_place g1 (Int.natCast_nonneg _)
  obtain ⟨o2, q2, z2, g2⟩ : ∃ o q z, getVA l ((a1 : Nat) : Int) = (o, q, z) := ⟨_, _, _, rfl⟩
  obtain ⟨a2, rfl, _⟩ := getVA_place g2 (Int.natCast_nonneg _)
  obtain ⟨o3, q3, z3, g3⟩ : ∃ o q z, getVA l ((a2 : Nat) : Int) = (o, q, z) := ⟨_, _, _, rfl⟩
  obtain ⟨a3, rfl, _⟩ := getVA_place g3 (Int.natCast_nonneg _)
  obtain ⟨r1, r2, r3, r4, rfl, rfl, rfl⟩ := cu_step hd hl ht rfl g1 g2 g3
  have n0 : numsA l (endU d j) 0 = some ([], endU d j) := rfl
  have n1 := numsA_yes n0 g1
  have n2 := numsA_yes n1 g2
  have n3 := numsA_yes n2 g3
  rw [n3, r1, r2, r3, r4]
  rfl
set_option maxRecDepth 100000 in
set_option maxHeartbeats 6400000 in
theorem urget_any (ad : Option Addr) (n c : Nat) (l : List UInt8) (w : World) (hr : Row w ad c l) (hn : l.length = n) (hlen : n ≤ 100000) :
    Calls Try.prog 12 #[.slice ad n c] w (UGot l w) := by
  have HR := Lib.hid hr
  have HN := Lib.hid hn
  obtain ⟨o, q, z, hg⟩ : ∃ o q z, getVA l 0 = (o, q, z) := ⟨_, _, _, rfl⟩
  have hpl := getVA_place hg (by decide)
  obtain ⟨a, rfl, ha⟩ := hpl
  have ho := getVA_nat hg
  have HF := Lib.hid (first_numU hg)
  have HK := Lib.hid (rgetvar_any ad n c l 0 w hr hn hlen (by decide) (by decide))
  rw [hg] at HK
  simp only [Got3] at HK
  have HA : Hid (a ≤ l.length) := Lib.hid ha
  clear hr hn hg ha
  cases z with
  | false =>
    have HG := Lib.hid (get_vainU (l := l) fun d hd hl => by have := (HF.out d hd hl).2.2; cases this)
    go_enter Try.func12, Try.ntmps12
    go_wp2_with fail
    refine HK.out.mono ?_
    rintro e w1 ⟨rfl, rfl⟩
    go_wp2_with fail
    go_ret2
    exact ugot_no HG.out (Below.refl _ _)
  | true =>
    by_cases h4 : 4 < o
    · have HG := Lib.hid (get_vainU (l := l) fun d hd hl => by have h1 := (HF.out d hd hl).1; have := hd.1; omega)
      go_enter Try.func12, Try.ntmps12
      go_wp2_with fail
      refine HK.out.mono ?_
      rintro e w1 ⟨rfl, rfl⟩
      go_wp2_with fail
      go_ret2
      exact ugot_no HG.out (Below.refl _ _)
    · obtain ⟨N, hN⟩ : ∃ N : Nat, o = N := ⟨o.toNat, by omega⟩
      subst hN
      have hN4 : N ≤ 4 := by omega
      have HFN : Hid (∀ d, CuOk d → putU d = l → N = d.length) := Lib.hid (fun d hd hl => by have := (HF.out d hd hl).1; omega)
      have HFA : Hid (∀ d, CuOk d → putU d = l → a = endU d 0) := Lib.hid (fun d hd hl => by have := (HF.out d hd hl).2.1; omega)
      clear HF h4 ho
      go_enter Try.func12, Try.ntmps12
      go_wp2_with fail
      refine HK.out.mono ?_
      rintro e w1 ⟨rfl, rfl⟩
      clear HK
      go_wp2_with fail
      go_loopw [5, 7, 8, 9, 10, 11] (fun v4 v i _ _ _ wr => ∃ (j p : Nat) (us : List Cu), i = .int .i64 j ∧ v4 = .int .i64 (p : Nat) ∧ j ≤ N ∧ Hid (p ≤ l.length) ∧ Hid (us.length = j) ∧ Hid (COwn w wr v us) ∧ Hid (∀ d, CuOk d → putU d = l → us = d.take j ∧ p = endU d j)) (fun _ _ i _ _ _ _ => N - (intOf i).toNat)
      case atStart => exact ⟨0, a, [], rfl, rfl, by omega, HA, Lib.hid rfl, Lib.hid (GOwn.nil _ w), Lib.hid (fun d hd hl => ⟨rfl, HFA.out d hd hl⟩)⟩
      case round =>
        obtain ⟨j, p, us, rfl, rfl, hj, hp, hul, hO, hU⟩ := hrel
        by_cases hjn : (j : Int) < N
        · have HNM := Lib.hid (numbersK_any ad n c l p 3 wr (HR.out.later hO.out.below) HN.out hlen (by have := hp.out; have := HN.out; omega) (by decide) 3 rfl)
          have HCH : Hid (∀ d, CuOk d → putU d = l → ∃ t', d[j]? = some t' ∧ numsA l p 3 = some ([t'.id.toNat, t'.pos.toNat, bitN t'.off], endU d (j + 1))) := Lib.hid (fun d hd hl => by
            have h1 := HFN.out d hd hl
            have ht : d[j]? = some (d[j]'(by omega)) := List.getElem?_eq_getElem (by omega)
            refine ⟨_, ht, ?_⟩
            rw [(hU.out d hd hl).2]
            exact numsA_cu hd hl ht)
          go_wp2_with fail
          refine HNM.out.mono ?_
          rintro e w2 (⟨v2, vs, q2, hA2, rfl, o2, hvl, hq2, hz⟩ | ⟨hA2, rfl, hb2⟩)
          · obtain ⟨x0, x1, x2, rfl⟩ := three hvl
            obtain ⟨a2, c2, rfl, hc4, hcell⟩ := o2.row_n hvl
            obtain ⟨g, rfl, y0⟩ := hcell 0 x0 rfl
            obtain ⟨_, e1, y1⟩ := hcell 1 x1 rfl
            cases e1
            obtain ⟨_, e1, y2⟩ := hcell 2 x2 rfl
            cases e1
            have hb0 := hz x0 (by simp)
            have hb1 := hz x1 (by simp)
            have HB2 := Lib.hid (hO.out.below.trans (o2.2.mono hO.out.below.size))
            by_cases hx2 : 1 < x2
            · have HG := Lib.hid (get_vainU (l := l) fun d hd hl => by
                obtain ⟨t', _, hx⟩ := HCH.out d hd hl
                rw [hA2] at hx
                simp only [Option.some.injEq, Prod.mk.injEq, List.cons.injEq, and_true] at hx
                have := hx.1.2.2
                cases h : t'.off <;> rw [h] at this <;> simp [bitN] at this <;> omega)
              clear hA2 hvl hq2 hz hcell o2 hO hb0 hb1 HNM
              go_wp2_with fail
              go_ret2
              exact ugot_no HG.out HB2.out
            · obtain ⟨b, hb⟩ : ∃ b, (((x2 : Nat) : Int) == 1) = b := ⟨_, rfl⟩
              have HXB : Hid (x2 = bitN b) := Lib.hid (by
                rcases (show x2 = 0 ∨ x2 = 1 by omega) with h | h
                · subst h; rw [← hb]; rfl
                · subst h; rw [← hb]; rfl)
              have HTB : Hid (Cu.B ⟨(x0 : Nat), (x1 : Nat), b⟩) := Lib.hid (by unfold Cu.B W64; simp only; omega)
              have HQ2 : Hid (q2 ≤ l.length) := Lib.hid hq2
              have HO2 := Lib.hid (hO.out.later o2.2)
              have HU2 : Hid (∀ d, CuOk d → putU d = l → us ++ [⟨(x0 : Nat), (x1 : Nat), b⟩] = d.take (j + 1) ∧ q2 = endU d (j + 1)) := Lib.hid (fun d hd hl => by
                obtain ⟨t', ht, hx⟩ := HCH.out d hd hl
                rw [hA2] at hx
                simp only [Option.some.injEq, Prod.mk.injEq, List.cons.injEq, and_true] at hx
                obtain ⟨⟨e0, e1, e2⟩, e3⟩ := hx
                have hi := (hd.cu ht).in
                unfold Cu.In at hi
                have eb := bitN_inj (HXB.out.symm.trans e2)
                obtain ⟨h, rfl⟩ := List.getElem?_eq_some_iff.1 ht
                refine ⟨?_, e3⟩
                rw [List.take_succ_eq_append_getElem h, (hU.out d hd hl).1]
                congr 2
                generalize d[j] = t' at *
                obtain ⟨i', p', o'⟩ := t'
                simp only at hi e0 e1 eb
                simp only [Cu.mk.injEq]
                exact ⟨by omega, by omega, eb⟩)
              have HUL : Hid ((us ++ [(⟨(x0 : Nat), (x1 : Nat), b⟩ : Cu)]).length = j + 1) := Lib.hid (by rw [List.length_append, hul.out]; rfl)
              have HGB : Hid (wr.heap.size ≤ g) := Lib.hid (World.ownsRow.lt o2.1 g rfl).1
              have HNE : Hid (∀ v, COwn w wr v us → some g ≠ v.ownBlock) := Lib.hid (fun v h e => by
                have := (World.ownsRow.lt h.1 g e.symm).2; have := HGB.out; omega)
              have HY : Hid (∀ W, Below w2.heap.size w2 W → W.cell? ⟨g, 0, none⟩ = some (.int .i64 (x0 : Nat)) ∧ W.cell? ⟨g, 1, none⟩ = some (.int .i64 (x1 : Nat)) ∧ W.cell? ⟨g, 2, none⟩ = some (.int .i64 (x2 : Nat))) := by
                have z0 := y0; have z1 := y1; have z2 := y2
                exact Lib.hid (fun W h => ⟨(Below.cell h (World.block_lt_of_cell? _ _ z0)).trans z0, (Below.cell h (World.block_lt_of_cell? _ _ z1)).trans z1, (Below.cell h (World.block_lt_of_cell? _ _ z2)).trans z2⟩)
              have HNV := Lib.hid (HNE.out _ hO.out)
              have HLT : Hid (us.length + [(⟨(x0 : Nat), (x1 : Nat), b⟩ : Cu)].length ≤ 1000000) := Lib.hid (by rw [hul.out]; simp; omega)
              clear hA2 hvl hq2 hz hcell o2 hO hb0 hb1 HNM HNE
              go_upto_region 11 with fail
              go_region_held3 (fun w' => w'.cell? ⟨g, 0, none⟩ = some (.int .i64 (x0 : Nat)) ∧ w'.cell? ⟨g, 1, none⟩ = some (.int .i64 (x1 : Nat)) ∧ w'.cell? ⟨g, 2, none⟩ = some (.int .i64 (x2 : Nat))) (first | go_keep | exact ⟨g4.cell (HY.out _ ((below_drewN w2 _).alloc (by simp) _)).1 HNV.out, g4.cell (HY.out _ ((below_drewN w2 _).alloc (by simp) _)).2.1 HNV.out, g4.cell (HY.out _ ((below_drewN w2 _).alloc (by simp) _)).2.2 HNV.out⟩)
                ((refine step_gapp cuOk (by rfl) _ _ (by rfl) rfl _ us (by rfl) w (HO2.out.later ((below_drewN w2 _).alloc (Nat.le_refl _) _)) _ _ _ [(⟨(x0 : Nat), (x1 : Nat), b⟩ : Cu)] (grow_new cuOk (w2.drewN _) HTB.out rfl _) rfl (by rfl) HLT.out ?_; intro v4 w4 o4 g4 h4))
              clear HY y0 y1 y2
              have HO4 := Lib.hid o4
              clear o4 g4 h4
              go_wp2_with fail
              go_roundw
              case rel => exact ⟨j + 1, q2, _, by go_num, rfl, by omega, HQ2, HUL, HO4, HU2⟩
              case measure => simp [intOf]; omega
          · have HG := Lib.hid (get_vainU (l := l) fun d hd hl => by
              obtain ⟨t', _, hx⟩ := HCH.out d hd hl
              rw [hA2] at hx; cases hx)
            have HB2 := Lib.hid (hO.out.below.trans (hb2.mono hO.out.below.size))
            clear hA2 hb2
            go_wp2_with fail
            go_ret2
            exact ugot_no HG.out HB2.out
        · have : j = N := by omega
          subst this
          have HG : Hid (GuessU l us) := Lib.hid (fun d hd hl => by rw [(hU.out d hd hl).1, HFN.out d hd hl, List.take_length])
          obtain ⟨a1, c1, rfl, r1⟩ := hO.out.row_n cuOk hul.out
          have HO1 := hO
          have HB1 := Lib.hid hO.out.below
          have HP := Lib.hid (urput_any a1 j c1 us wr r1 hul.out)
          clear r1
          cases hx : rightU us with
          | false =>
            rw [putCu_no hx] at HP
            have HF := Lib.hid (guessU_not HG.out (.inl hx))
            clear hx
            go_wp2_with fail
            refine HP.out.mono ?_
            rintro e w2 ⟨v2, rfl, o2⟩
            have HB2 := Lib.hid (HB1.out.trans (o2.below.mono HB1.out.size))
            clear o2
            go_wp2_with fail
            go_ret2
            exact ugot_no HF.out HB2.out
          | true =>
            rw [putCu_yes hx] at HP
            have HX := Lib.hid hx
            clear hx
            go_wp2_with fail
            refine HP.out.mono ?_
            rintro e w2 ⟨v2, rfl, o2⟩
            obtain ⟨m2, hm2⟩ : ∃ m, (putU us).length = m := ⟨_, rfl⟩
            obtain ⟨a2, c2, rfl, r2⟩ := o2.row_n hm2
            have HB2 := Lib.hid (HB1.out.trans (o2.below.mono HB1.out.size))
            have HO2 := Lib.hid (HO1.out.later o2.below)
            have q1 := conv_row_n r2 hm2
            have q2 := conv_row_n (HR.out.later HB2.out) HN.out
            have HBE : Hid (((⟨(putU us).toArray⟩ : ByteArray) = ⟨l.toArray⟩) ↔ putU us = l) := Lib.hid bytes_eq
            generalize (⟨(putU us).toArray⟩ : ByteArray) = S1 at *
            generalize (⟨l.toArray⟩ : ByteArray) = S2 at *
            clear o2 r2 hm2
            by_cases he : putU us = l
            · have HF := Lib.hid (guessU_yes HX.out he)
              have hd : (S1.toList == S2.toList) = true := (sbeq_iff _ _).2 (HBE.out.2 he)
              have hd2 : (S1.toList != S2.toList) = false := by rw [bne, hd]; rfl
              clear he
              go_wp2_with fail
              go_ret2
              unfold UGot
              rw [HF.out]
              exact ⟨_, rfl, HO2.out⟩
            · have HF := Lib.hid (guessU_not HG.out (.inr he))
              have hd : (S1.toList == S2.toList) = false := sbeq_no fun h => he (HBE.out.1 h)
              have hd2 : (S1.toList != S2.toList) = true := by rw [bne, hd]; rfl
              clear he
              go_wp2_with fail
              go_ret2
              exact ugot_no HF.out HB2.out
end Go.Proofs.Ytcddbffeejijpaa
