/- Marks out of bytes: what is read where; the document's own. -/
import Derived.Test.YtfjplhjlmilcfaaMkG
import Derived.Test.YtfjplhjlmilcfaaNmb
import Derived.Deep.RegionHeld3
namespace Go.Proofs.Ytfjplhjlmilcfaa
open Go.RowKit Go.Proofs
set_option linter.unusedVariables false
set_option linter.unusedSimpArgs false
set_option linter.unnecessarySimpa false

/-! ### where marks lie -/
def endN (d : List Mk) (j : Nat) : Nat := (varL d.length).length + (rowM (d.take j)).length
theorem endM_eq (B : List UInt8) (d : List Mk) (j : Nat) : endM B d j = B.length + endN d j := by
  unfold endM headM endN; simp only [List.length_append]; omega
theorem endN_zero (d : List Mk) : endN d 0 = (varL d.length).length := by unfold endN; simp [rowM]
theorem endN_succ {d : List Mk} {j : Nat} {t : Mk} (ht : d[j]? = some t) : endN d (j + 1) = endN d j + (mkL t).length := by
  unfold endN; rw [rowM_snoc ht, List.length_append]; omega
theorem endN_all {d : List Mk} {n : Nat} (h : d.length = n) : endN d n = (marksL d).length := by
  unfold endN marksL; rw [← h, List.take_length, List.length_append]
/-- The bytes from p on are marks that may be read, and whatever. -/
def MkAt (l : List UInt8) (p : Nat) (d : List Mk) : Prop := (∃ x, l.drop p = marksL d ++ x) ∧ d.length ≤ 17 ∧ ∀ t ∈ d, t.In ∧ t.nm.length ≤ 13
theorem MkAt.drop {l : List UInt8} {p : Nat} {d : List Mk} (h : MkAt l p d) (j : Nat) : ∃ x, l.drop (p + endN d j) = rowM (d.drop j) ++ x := by
  obtain ⟨⟨x, hx⟩, _⟩ := h
  refine ⟨x, ?_⟩
  rw [← List.drop_drop, hx]
  have e : marksL d ++ x = (varL d.length ++ rowM (d.take j)) ++ (rowM (d.drop j) ++ x) := by unfold marksL; rw [rowM_split d j]; simp only [List.append_assoc]
  rw [e]
  unfold endN
  rw [← List.length_append, List.drop_left]
theorem MkAt.le {l : List UInt8} {p : Nat} {d : List Mk} (h : MkAt l p d) (hp : p ≤ l.length) : p + (marksL d).length ≤ l.length := by
  obtain ⟨⟨x, hx⟩, _⟩ := h
  have := congrArg List.length hx
  rw [List.length_drop, List.length_append] at this; omega
theorem endN_le (d : List Mk) (j : Nat) : endN d j ≤ (marksL d).length := by
  unfold endN marksL; rw [rowM_split d j]; simp only [List.length_append]; omega
theorem MkAt.first {l : List UInt8} {p : Nat} {d : List Mk} (h : MkAt l p d) (hp : p ≤ l.length) {o q : Int} {z : Bool} (hg : getVA l ((p : Nat) : Int) = (o, q, z)) : o = d.length ∧ q = ((p + endN d 0 : Nat) : Int) ∧ z = true := by
  obtain ⟨⟨x, hx⟩, h2, _⟩ := h
  have := getVA_put (q := p) (d := d.length) (x := rowM d ++ x) hg hp (by rw [hx]; unfold marksL; rw [List.append_assoc]) (by omega)
  rw [endN_zero]
  exact ⟨this.1, by rw [this.2.1]; simp, this.2.2⟩
theorem MkAt.step {l : List UInt8} {p q a1 a2 a3 j : Nat} {d : List Mk} {t : Mk} {o1 o2 o3 : Int} {z1 z2 z3 : Bool} (h : MkAt l p d) (hp : p ≤ l.length) (ht : d[j]? = some t) (hq : q = p + endN d j)
    (h1 : getVA l ((q : Nat) : Int) = (o1, ((a1 : Nat) : Int), z1)) (h2 : getVA l ((a1 : Nat) : Int) = (o2, ((a2 : Nat) : Int), z2)) (h3 : getVA l ((a2 : Nat) : Int) = (o3, ((a3 : Nat) : Int), z3)) :
    o1 = t.id ∧ o2 = t.size ∧ o3 = (bitN t.gone : Nat) ∧ z1 = true ∧ z2 = true ∧ z3 = true ∧ ∀ most : Int, 13 ≤ most → gtA l ((a3 : Nat) : Int) most = some (t.nm, p + endN d (j + 1)) := by
  obtain ⟨x, e1⟩ := h.drop j
  rw [rowM_drop ht, ← hq] at e1
  obtain ⟨hi, hl13⟩ := h.2.2 t (List.mem_of_getElem? ht)
  unfold Mk.In at hi
  have e4 := endN_succ ht
  have e5 := endN_le d (j + 1)
  have e6 := h.le hp
  unfold mkL textL at e1 e4
  simp only [List.append_assoc] at e1
  simp only [List.length_append] at e4
  have g1 := getVA_put h1 (by omega) e1 (by omega)
  have q1 : a1 = q + (varL t.id.toNat).length := by omega
  have e2 : l.drop a1 = varL t.size.toNat ++ (varL (bitN t.gone) ++ (varL t.nm.length ++ (t.nm ++ (rowM (d.drop (j + 1)) ++ x)))) := by
    rw [q1, ← List.drop_drop, e1, List.drop_left]
  have g2 := getVA_put h2 (by omega) e2 (by omega)
  have q2 : a2 = a1 + (varL t.size.toNat).length := by omega
  have e3 : l.drop a2 = varL (bitN t.gone) ++ (varL t.nm.length ++ (t.nm ++ (rowM (d.drop (j + 1)) ++ x))) := by
    rw [q2, ← List.drop_drop, e2, List.drop_left]
  have g3 := getVA_put h3 (by omega) e3 (bitN_lt _)
  have q3 : a3 = a2 + (varL (bitN t.gone)).length := by omega
  have e7 : l.drop a3 = varL t.nm.length ++ (t.nm ++ (rowM (d.drop (j + 1)) ++ x)) := by
    rw [q3, ← List.drop_drop, e3, List.drop_left]
  refine ⟨by omega, by omega, g3.1, g1.2.2, g2.2.2, g3.2.2, fun most hm => ?_⟩
  unfold gtA
  rw [gvA_nat (by omega), e7, getV_varL hi.2.2.2.2]
  simp only [Int.toNat_natCast]
  rw [if_pos (by omega)]
  rw [← List.drop_drop, e7, List.drop_left, List.take_left]
  congr 2
  omega
theorem gotT_any (l : List UInt8) (p most : Int) (hl : l.length ≤ 100000) : ∃ (s : ByteArray) (q : Nat) (z : Bool), GotT (gtA l p most) = .tuple #[.string s, .int .i64 (q : Nat), .bool z] ∧ q ≤ l.length ∧ s.size ≤ 100000 ∧ ∀ t e, gtA l p most = some (t, e) → s.data.toList = t ∧ q = e ∧ z = true := by
  cases hg : gtA l p most with
  | none => exact ⟨⟨#[]⟩, 0, false, rfl, Nat.zero_le _, by simp [ByteArray.size], fun t e h => by cases h⟩
  | some y =>
    obtain ⟨t, e⟩ := y
    refine ⟨⟨t.toArray⟩, e, true, rfl, ?_, ?_, fun t' e' h => by cases h; exact ⟨rfl, rfl, rfl⟩⟩
    · unfold gtA at hg
      split at hg
      · split at hg
        · cases hg; omega
        · cases hg
      · cases hg
    · unfold gtA at hg
      split at hg
      · split at hg
        · cases hg
          simp [ByteArray.size]; omega
        · cases hg
      · cases hg
theorem bit_pos (b : Bool) : decide ((0 : Int) < (bitN b : Nat)) = b := by cases b <;> rfl
theorem three {vs : List Nat} (h : vs.length = 3) : ∃ a b c, vs = [a, b, c] := by
  match vs, h with
  | [a, b, c], _ => exact ⟨a, b, c, rfl⟩
theorem MkAt.nums {l : List UInt8} {p j : Nat} {d : List Mk} {t : Mk} (h : MkAt l p d) (hp : p ≤ l.length) (ht : d[j]? = some t) : ∃ a3, numsA l (p + endN d j) 3 = some ([t.id.toNat, t.size.toNat, bitN t.gone], a3) ∧ ∀ most : Int, 13 ≤ most → gtA l ((a3 : Nat) : Int) most = some (t.nm, p + endN d (j + 1)) := by
  obtain ⟨o1, q1, z1, g1⟩ : ∃ o q z, getVA l ((p + endN d j : Nat) : Int) = (o, q, z) := ⟨_, _, _, rfl⟩
  obtain ⟨a1, rfl, _⟩ := getVA_place g1 (Int.natCast_nonneg _)
  obtain ⟨o2, q2, z2, g2⟩ : ∃ o q z, getVA l ((a1 : Nat) : Int) = (o, q, z) := ⟨_, _, _, rfl⟩
  obtain ⟨a2, rfl, _⟩ := getVA_place g2 (Int.natCast_nonneg _)
  obtain ⟨o3, q3, z3, g3⟩ : ∃ o q z, getVA l ((a2 : Nat) : Int) = (o, q, z) := ⟨_, _, _, rfl⟩
  obtain ⟨a3, rfl, _⟩ := getVA_place g3 (Int.natCast_nonneg _)
  obtain ⟨r1, r2, r3, rfl, rfl, rfl, r4⟩ := h.step hp ht rfl g1 g2 g3
  have n0 : numsA l (p + endN d j) 0 = some ([], p + endN d j) := rfl
  have n1 := numsA_yes n0 g1
  have n2 := numsA_yes n1 g2
  have n3 := numsA_yes n2 g3
  refine ⟨a3, ?_, r4⟩
  rw [n3, r1, r2, r3]
  rfl
/-- What is got of the bytes from p on: marks that lie there are got. -/
def MGot (l : List UInt8) (p : Nat) (w : World) (e : Ending) (w' : World) : Prop :=
  ∃ v q z us, e = .returned (.tuple #[v, .int .i64 (q : Nat), .bool z]) ∧ MOwn w w' v us ∧ us.length ≤ 17 ∧ q ≤ l.length ∧ ∀ d, MkAt l p d → z = true ∧ us = d ∧ q = p + (marksL d).length
theorem mgot_no {l : List UInt8} {p : Nat} {w w' : World} (h : ∀ d, ¬ MkAt l p d) (hb : Below w.heap.size w w') : MGot l p w (.returned (.tuple #[.slice none 0 0, .int .i64 0, .bool false])) w' :=
  ⟨_, 0, false, [], rfl, GOwn.nil' hb, by simp, Nat.zero_le _, fun d hd => absurd hd (h d)⟩
set_option maxRecDepth 100000 in
set_option maxHeartbeats 6400000 in
theorem rgetMarks_any (ad : Option Addr) (n c : Nat) (l : List UInt8) (p : Nat) (w : World) (hr : Row w ad c l) (hn : l.length = n) (hlen : n ≤ 100000) (hp : p ≤ n) :
    Calls Try.prog 38 #[.slice ad n c, .int .i64 (p : Nat)] w (MGot l p w) := by
  have HR := Lib.hid hr
  have HN := Lib.hid hn
  have HPL : Hid (p ≤ l.length) := Lib.hid (by omega)
  obtain ⟨o, q, z, hg⟩ : ∃ o q z, getVA l ((p : Nat) : Int) = (o, q, z) := ⟨_, _, _, rfl⟩
  have hpl := getVA_place hg (Int.natCast_nonneg _)
  obtain ⟨a, rfl, ha⟩ := hpl
  have ho := getVA_nat hg
  have HF : Hid (∀ d, MkAt l p d → o = d.length ∧ a = p + endN d 0 ∧ z = true) := Lib.hid (fun d hd => by
    have := hd.first HPL.out hg
    exact ⟨this.1, by omega, this.2.2⟩)
  have HK := Lib.hid (rgetvar_any ad n c l ((p : Nat) : Int) w hr hn hlen (by omega) (by omega))
  rw [hg] at HK
  simp only [Got3] at HK
  have HA : Hid (a ≤ l.length) := Lib.hid ha
  clear hr hn hg ha
  cases z with
  | false =>
    have HG : Hid (∀ d, ¬ MkAt l p d) := Lib.hid (fun d hd => by have := (HF.out d hd).2.2; cases this)
    go_enter Try.func38, Try.ntmps38
    go_wp2_with fail
    refine HK.out.mono ?_
    rintro e w1 ⟨rfl, rfl⟩
    go_wp2_with fail
    go_returns
    exact mgot_no HG.out (Below.refl _ _)
  | true =>
    by_cases h4 : 17 < o
    · have HG : Hid (∀ d, ¬ MkAt l p d) := Lib.hid (fun d hd => by have h1 := (HF.out d hd).1; have := hd.2.1; omega)
      go_enter Try.func38, Try.ntmps38
      go_wp2_with fail
      refine HK.out.mono ?_
      rintro e w1 ⟨rfl, rfl⟩
      go_wp2_with fail
      go_returns
      exact mgot_no HG.out (Below.refl _ _)
    · obtain ⟨N, hN⟩ : ∃ N : Nat, o = N := ⟨o.toNat, by omega⟩
      subst hN
      have hN4 : N ≤ 17 := by omega
      have HFN : Hid (∀ d, MkAt l p d → N = d.length) := Lib.hid (fun d hd => by have := (HF.out d hd).1; omega)
      have HFA : Hid (∀ d, MkAt l p d → a = p + endN d 0) := Lib.hid (fun d hd => (HF.out d hd).2.1)
      clear HF h4 ho
      go_enter Try.func38, Try.ntmps38
      go_wp2_with fail
      refine HK.out.mono ?_
      rintro e w1 ⟨rfl, rfl⟩
      clear HK
      go_wp2_with fail
      go_loopw [1, 9, 10, 11, 12, 13, 14, 15, 16] (fun at' v i _ _ _ _ _ _ wr => ∃ (j q : Nat) (us : List Mk), i = .int .i64 j ∧ at' = .int .i64 (q : Nat) ∧ j ≤ N ∧ Hid (q ≤ l.length) ∧ Hid (us.length = j) ∧ Hid (MOwn w wr v us) ∧ Hid (∀ d, MkAt l p d → us = d.take j ∧ q = p + endN d j)) (fun _ _ i _ _ _ _ _ _ _ => N - (intOf i).toNat)
      case atStart => exact ⟨0, a, [], rfl, rfl, by omega, HA, Lib.hid rfl, Lib.hid (GOwn.nil _ w), Lib.hid (fun d hd => ⟨rfl, HFA.out d hd⟩)⟩
      case round =>
        obtain ⟨j, q, us, rfl, rfl, hj, hq, hul, hO, hU⟩ := hrel
        by_cases hjn : (j : Int) < N
        · have HNM := Lib.hid (numbersK_any ad n c l q 3 wr (HR.out.later hO.out.below) HN.out hlen (by have := hq.out; have := HN.out; omega) (by decide) 3 rfl)
          have HCH : Hid (∀ d, MkAt l p d → ∃ t' a3, d[j]? = some t' ∧ numsA l q 3 = some ([t'.id.toNat, t'.size.toNat, bitN t'.gone], a3) ∧ gtA l ((a3 : Nat) : Int) 20 = some (t'.nm, p + endN d (j + 1))) := Lib.hid (fun d hd => by
            have h1 := HFN.out d hd
            have ht : d[j]? = some (d[j]'(by omega)) := List.getElem?_eq_getElem (by omega)
            obtain ⟨a3, h2, h3⟩ := hd.nums HPL.out ht
            rw [← (hU.out d hd).2] at h2
            exact ⟨_, a3, ht, h2, h3 20 (by decide)⟩)
          go_wp2_with fail
          refine HNM.out.mono ?_
          rintro e w2 (⟨v2, vs, q2, hA2, rfl, o2, hvl, hq2, hz⟩ | ⟨hA2, rfl, hb2⟩)
          · obtain ⟨x0, x1, x2, rfl⟩ := three hvl
            obtain ⟨a2, c2, rfl, hc4, hcell⟩ := o2.row_n hvl
            obtain ⟨g, rfl, y0⟩ := hcell 0 x0 rfl
            obtain ⟨_, e1, y1⟩ := hcell 1 x1 rfl
            cases e1
            obtain ⟨_, e1, y2⟩ := hcell 2 x2 rfl
            cases e1
            have hb0 := hz x0 (by simp)
            have hb1 := hz x1 (by simp)
            have HB2 := Lib.hid (hO.out.below.trans (o2.2.mono hO.out.below.size))
            by_cases hx2 : 1 < x2
            · have HG : Hid (∀ d, ¬ MkAt l p d) := Lib.hid (fun d hd => by
                obtain ⟨t', a3, _, hx, _⟩ := HCH.out d hd
                rw [hA2] at hx
                simp only [Option.some.injEq, Prod.mk.injEq, List.cons.injEq, and_true] at hx
                have := hx.1.2.2
                cases h : t'.gone <;> rw [h] at this <;> simp [bitN] at this <;> omega)
              clear hA2 hvl hq2 hz hcell o2 hO hb0 hb1 HNM
              go_wp2_with fail
              go_returns
              exact mgot_no HG.out HB2.out
            · obtain ⟨b, hb⟩ : ∃ b, (((x2 : Nat) : Int) == 1) = b := ⟨_, rfl⟩
              have HXB : Hid (x2 = bitN b) := Lib.hid (by
                rcases (show x2 = 0 ∨ x2 = 1 by omega) with h | h
                · subst h; rw [← hb]; rfl
                · subst h; rw [← hb]; rfl)
              obtain ⟨s, qe, zt, hgt, hqe, hss, hgs⟩ := gotT_any l ((q2 : Nat) : Int) 20 (by have := HN.out; omega)
              have HGT := Lib.hid (rgettext_any ad n c l ((q2 : Nat) : Int) 20 w2 (HR.out.later HB2.out) HN.out hlen (by omega) (by have := HN.out; omega))
              rw [hgt] at HGT
              have HQE : Hid (qe ≤ l.length) := Lib.hid hqe
              have HGS : Hid (∀ d, MkAt l p d → ∃ t', d[j]? = some t' ∧ t'.id = (x0 : Nat) ∧ t'.name = s ∧ t'.size = (x1 : Nat) ∧ t'.gone = b ∧ qe = p + endN d (j + 1) ∧ zt = true) := Lib.hid (fun d hd => by
                obtain ⟨t', a3, ht, hx, hgx⟩ := HCH.out d hd
                rw [hA2] at hx
                simp only [Option.some.injEq, Prod.mk.injEq, List.cons.injEq, and_true] at hx
                obtain ⟨⟨e0, e1, e2⟩, rfl⟩ := hx
                have hi := (hd.2.2 t' (List.mem_of_getElem? ht)).1
                unfold Mk.In at hi
                obtain ⟨s1, s2, s3⟩ := hgs _ _ hgx
                exact ⟨t', ht, by omega, (bytes_ext s1).symm, by omega, (bitN_inj (HXB.out.symm.trans e2)).symm, s2, s3⟩)
              have HTB : Hid (Mk.B ⟨(x0 : Nat), s, (x1 : Nat), b⟩) := Lib.hid (by unfold Mk.B W64; simp only; omega)
              have HO2 := Lib.hid (hO.out.later o2.2)
              have HU2 : Hid (∀ d, MkAt l p d → us ++ [⟨(x0 : Nat), s, (x1 : Nat), b⟩] = d.take (j + 1) ∧ qe = p + endN d (j + 1)) := Lib.hid (fun d hd => by
                obtain ⟨t', ht, e0, e1, e2, e3, e4, _⟩ := HGS.out d hd
                obtain ⟨h, rfl⟩ := List.getElem?_eq_some_iff.1 ht
                refine ⟨?_, e4⟩
                rw [List.take_succ_eq_append_getElem h, (hU.out d hd).1, ← e0, ← e1, ← e2, ← e3])
              have HUL : Hid ((us ++ [(⟨(x0 : Nat), s, (x1 : Nat), b⟩ : Mk)]).length = j + 1) := Lib.hid (by rw [List.length_append, hul.out]; rfl)
              have HGB : Hid (wr.heap.size ≤ g) := Lib.hid (World.ownsRow.lt o2.1 g rfl).1
              have HNE : Hid (∀ v, MOwn w wr v us → some g ≠ v.ownBlock) := Lib.hid (fun v h e => by
                have := (World.ownsRow.lt h.1 g e.symm).2; have := HGB.out; omega)
              have HY : Hid (∀ W, Below w2.heap.size w2 W → W.cell? ⟨g, 0, none⟩ = some (.int .i64 (x0 : Nat)) ∧ W.cell? ⟨g, 1, none⟩ = some (.int .i64 (x1 : Nat)) ∧ W.cell? ⟨g, 2, none⟩ = some (.int .i64 (x2 : Nat))) := by
                have z0 := y0; have z1 := y1; have z2 := y2
                exact Lib.hid (fun W h => ⟨(Below.cell h (World.block_lt_of_cell? _ _ z0)).trans z0, (Below.cell h (World.block_lt_of_cell? _ _ z1)).trans z1, (Below.cell h (World.block_lt_of_cell? _ _ z2)).trans z2⟩)
              have HNV := Lib.hid (HNE.out _ hO.out)
              have HLT : Hid (us.length + [(⟨(x0 : Nat), s, (x1 : Nat), b⟩ : Mk)].length ≤ 1000000) := Lib.hid (by rw [hul.out]; simp; omega)
              clear hA2 hvl hq2 hz hcell o2 hO hb0 hb1 HNM HNE hgt hqe hss hgs
              go_wp2_with fail
              refine HGT.out.mono ?_
              rintro e w3 ⟨rfl, rfl⟩
              cases zt with
              | false =>
                have HG : Hid (∀ d, ¬ MkAt l p d) := Lib.hid (fun d hd => by obtain ⟨t', _, _, _, _, _, _, h⟩ := HGS.out d hd; cases h)
                clear HY y0 y1 y2
                go_wp2_with fail
                go_returns
                exact mgot_no HG.out HB2.out
              | true =>
                go_upto_region 14 with fail
                go_region_held3 (fun w' => w'.cell? ⟨g, 0, none⟩ = some (.int .i64 (x0 : Nat)) ∧ w'.cell? ⟨g, 1, none⟩ = some (.int .i64 (x1 : Nat)) ∧ w'.cell? ⟨g, 2, none⟩ = some (.int .i64 (x2 : Nat))) (first | go_keep | exact ⟨g4.cell (HY.out _ ((below_drewN w2 _).alloc (by simp) _)).1 HNV.out, g4.cell (HY.out _ ((below_drewN w2 _).alloc (by simp) _)).2.1 HNV.out, g4.cell (HY.out _ ((below_drewN w2 _).alloc (by simp) _)).2.2 HNV.out⟩)
                  ((refine step_gapp mkOk (by rfl) _ _ (by rfl) rfl _ us (by rfl) w (HO2.out.later ((below_drewN w2 _).alloc (Nat.le_refl _) _)) _ _ _ [(⟨(x0 : Nat), s, (x1 : Nat), b⟩ : Mk)] (grow_new mkOk (w2.drewN _) HTB.out rfl _) rfl (by rfl) HLT.out ?_; intro v4 w4 o4 g4 h4))
                clear HY y0 y1 y2
                have HO4 := Lib.hid o4
                clear o4 g4 h4
                go_wp2_with fail
                go_roundw
                case rel => exact ⟨j + 1, qe, _, by go_num, rfl, by omega, HQE, HUL, HO4, HU2⟩
                case measure => simp [intOf]; omega
          · have HG : Hid (∀ d, ¬ MkAt l p d) := Lib.hid (fun d hd => by
              obtain ⟨t', a3, _, hx, _⟩ := HCH.out d hd
              rw [hA2] at hx; cases hx)
            have HB2 := Lib.hid (hO.out.below.trans (hb2.mono hO.out.below.size))
            clear hA2 hb2
            go_wp2_with fail
            go_returns
            exact mgot_no HG.out HB2.out
        · have : j = N := by omega
          subst this
          go_wp2_with fail
          go_returns
          exact ⟨_, q, true, us, rfl, hO.out, by have := hul.out; omega, hq.out, fun d hd => ⟨rfl, by rw [(hU.out d hd).1, HFN.out d hd, List.take_length], by rw [(hU.out d hd).2, endN_all (HFN.out d hd).symm]⟩⟩
end Go.Proofs.Ytfjplhjlmilcfaa
