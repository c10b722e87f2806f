/- Records of an image: what bytes are: the document's own. -/
import Derived.Test.YtfjplhjlmilcfaaHdG
import Derived.Test.YtfjplhjlmilcfaaMkH
import Derived.Deep.RegionHeld3
namespace Go.Proofs.Ytfjplhjlmilcfaa
open Go.RowKit Go.Proofs
set_option linter.unusedVariables false
set_option linter.unusedSimpArgs false
set_option linter.unnecessarySimpa false

theorem GOwn.keptBy {α : Type} {R : RT α} {W0 w w' : World} {v : Value} {ts : List α} {g : Option Nat} (h : GOwn R W0 w v ts) (hg : w.grownBy w' g) (hne : v.ownBlock = none ∨ v.ownBlock ≠ g) (hge : ∀ k, g = some k → W0.heap.size ≤ k) : GOwn R W0 w' v ts :=
  ⟨h.1.kept hg hne, h.2.1.grown hg h.2.1.size hge, h.2.2⟩
theorem RecAt.grown {w w' : World} {x : Nat} {cs : Array Value} {t : TypeId} {row : Option Nat} (h : RecAt w x cs t) (hg : w.grownBy w' row) (hne : some x ≠ row) : RecAt w' x cs t := by
  have hl := h.lt
  unfold RecAt at *
  rw [← h]
  exact hg.block x hl hne
theorem two_recs (w : World) (cs ds : Array Value) (t u : TypeId) : RecAt ((w.alloc (.cells cs t)).alloc (.cells ds u)) w.heap.size cs t ∧ RecAt ((w.alloc (.cells cs t)).alloc (.cells ds u)) (w.heap.size + 1) ds u ∧ Below w.heap.size w ((w.alloc (.cells cs t)).alloc (.cells ds u)) := by
  have h1 := RecAt.new w cs t
  have h2 := RecAt.new (w.alloc (.cells cs t)) ds u
  rw [show (w.alloc (.cells cs t)).heap.size = w.heap.size + 1 by simp] at h2
  have b1 : Below w.heap.size w (w.alloc (.cells cs t)) := (Below.refl _ _).alloc (Nat.le_refl _) _
  have b2 : Below (w.alloc (.cells cs t)).heap.size (w.alloc (.cells cs t)) ((w.alloc (.cells cs t)).alloc (.cells ds u)) := (Below.refl _ _).alloc (Nat.le_refl _) _
  exact ⟨h1.later b2, h2, b1.trans (b2.mono b1.size)⟩
abbrev zeroHd : Array Value := #[.int .i64 0, .int .i64 0, .int .i64 0, .int .i64 0, .int .i64 0, .int .i64 0, .slice none 0 0]
/-- What is got, and why not. -/
def HGot (l : List UInt8) (w : World) (e : Ending) (w' : World) : Prop := ∃ a c, e = .returned (.tuple #[hdA (getHd l).1 a (getHd l).1.marks.length c, .int .i64 (getHd l).2]) ∧ MOwn w w' (.slice a (getHd l).1.marks.length c) (getHd l).1.marks
theorem hgot_no {l : List UInt8} {k : Int} {w w' : World} (h : getHd l = (noHd, k)) (hb : Below w.heap.size w w') : HGot l w (.returned (.tuple #[.agg zeroHd, .int .i64 k])) w' := by
  unfold HGot; rw [h]
  exact ⟨none, 0, rfl, GOwn.nil' hb⟩
/-- A record's marks lie where they should. -/
theorem HdOk.at {d : Hd} {l : List UInt8} (h : HdOk d) (hl : bodyH d = l) : MkAt l (numsH d).length d.marks := by
  refine ⟨⟨[], ?_⟩, h.2.1, fun t ht => ⟨h.2.in (by have := h.1; unfold NumsOk at this; omega) t ht, (markL_len (h.2.2.2.2.1 t ht).1).2⟩⟩
  rw [← hl, List.append_nil]
  unfold bodyH
  rw [List.drop_left]
theorem NumsOk.nat {d : Hd} (h : NumsOk d) : 0 ≤ d.size ∧ 0 ≤ d.order ∧ 0 ≤ d.unit ∧ 0 ≤ d.count ∧ 0 ≤ d.next ∧ 0 ≤ d.seq ∧ d.size < 9223372036854775808 ∧ d.order < 9223372036854775808 ∧ d.unit < 9223372036854775808 ∧ d.count < 9223372036854775808 ∧ d.next < 9223372036854775808 ∧ d.seq < 9223372036854775808 := by
  unfold NumsOk ShapeOk at h; omega
theorem get_nums {d : Hd} {l : List UInt8} (h : HdOk d) (hl : bodyH d = l) : numsA l 0 6 = some ([d.size.toNat, d.order.toNat, d.unit.toNat, d.count.toNat, d.next.toNat, d.seq.toNat], (numsH d).length) := by
  have hn := h.1.nat
  have hlen : (numsH d).length ≤ l.length := by rw [← hl]; unfold bodyH; rw [List.length_append]; omega
  have e0 : l.drop 0 = varL d.size.toNat ++ (varL d.order.toNat ++ (varL d.unit.toNat ++ (varL d.count.toNat ++ (varL d.next.toNat ++ (varL d.seq.toNat ++ marksL d.marks))))) := by
    rw [List.drop_zero, ← hl]; unfold bodyH numsH; simp only [List.append_assoc]
  unfold numsH at hlen ⊢
  simp only [List.length_append] at hlen ⊢
  obtain ⟨o1, q1, z1, g1⟩ : ∃ o q z, getVA l ((0 : Nat) : Int) = (o, q, z) := ⟨_, _, _, rfl⟩
  obtain ⟨a1, rfl, _⟩ := getVA_place g1 (Int.natCast_nonneg _)
  have r1 := getVA_put g1 (by omega) e0 (by omega)
  have s1 : a1 = 0 + (varL d.size.toNat).length := by omega
  have e1 : l.drop a1 = varL d.order.toNat ++ (varL d.unit.toNat ++ (varL d.count.toNat ++ (varL d.next.toNat ++ (varL d.seq.toNat ++ marksL d.marks)))) := by rw [s1, ← List.drop_drop, e0, List.drop_left]
  obtain ⟨o2, q2, z2, g2⟩ : ∃ o q z, getVA l ((a1 : Nat) : Int) = (o, q, z) := ⟨_, _, _, rfl⟩
  obtain ⟨a2, rfl, _⟩ := getVA_place g2 (Int.natCast_nonneg _)
  have r2 := getVA_put g2 (by omega) e1 (by omega)
  have s2 : a2 = a1 + (varL d.order.toNat).length := by omega
  have e2 : l.drop a2 = varL d.unit.toNat ++ (varL d.count.toNat ++ (varL d.next.toNat ++ (varL d.seq.toNat ++ marksL d.marks))) := by rw [s2, ← List.drop_drop, e1, List.drop_left]
  obtain ⟨o3, q3, z3, g3⟩ : ∃ o q z, getVA l ((a2 : Nat) : Int) = (o, q, z) := ⟨_, _, _, rfl⟩
  obtain ⟨a3, rfl, _⟩ := getVA_place g3 (Int.natCast_nonneg _)
  have r3 := getVA_put g3 (by omega) e2 (by omega)
  have s3 : a3 = a2 + (varL d.unit.toNat).length := by omega
  have e3 : l.drop a3 = varL d.count.toNat ++ (varL d.next.toNat ++ (varL d.seq.toNat ++ marksL d.marks)) := by rw [s3, ← List.drop_drop, e2, List.drop_left]
  obtain ⟨o4, q4, z4, g4⟩ : ∃ o q z, getVA l ((a3 : Nat) : Int) = (o, q, z) := ⟨_, _, _, rfl⟩
  obtain ⟨a4, rfl, _⟩ := getVA_place g4 (Int.natCast_nonneg _)
  have r4 := getVA_put g4 (by omega) e3 (by omega)
  have s4 : a4 = a3 + (varL d.count.toNat).length := by omega
  have e4 : l.drop a4 = varL d.next.toNat ++ (varL d.seq.toNat ++ marksL d.marks) := by rw [s4, ← List.drop_drop, e3, List.drop_left]
  obtain ⟨o5, q5, z5, g5⟩ : ∃ o q z, getVA l ((a4 : Nat) : Int) = (o, q, z) := ⟨_, _, _, rfl⟩
  obtain ⟨a5, rfl, _⟩ := getVA_place g5 (Int.natCast_nonneg _)
  have r5 := getVA_put g5 (by omega) e4 (by omega)
  have s5 : a5 = a4 + (varL d.next.toNat).length := by omega
  have e5 : l.drop a5 = varL d.seq.toNat ++ marksL d.marks := by rw [s5, ← List.drop_drop, e4, List.drop_left]
  obtain ⟨o6, q6, z6, g6⟩ : ∃ o q z, getVA l ((a5 : Nat) : Int) = (o, q, z) := ⟨_, _, _, rfl⟩
  obtain ⟨a6, rfl, _⟩ := getVA_place g6 (Int.natCast_nonneg _)
  have r6 := getVA_put g6 (by omega) e5 (by omega)
  obtain ⟨rfl, t1, rfl⟩ := r1
  obtain ⟨rfl, t2, rfl⟩ := r2
  obtain ⟨rfl, t3, rfl⟩ := r3
  obtain ⟨rfl, t4, rfl⟩ := r4
  obtain ⟨rfl, t5, rfl⟩ := r5
  obtain ⟨rfl, t6, rfl⟩ := r6
  have n0 : numsA l 0 0 = some ([], 0) := rfl
  have n1 := numsA_yes n0 g1
  have n2 := numsA_yes n1 g2
  have n3 := numsA_yes n2 g3
  have n4 := numsA_yes n3 g4
  have n5 := numsA_yes n4 g5
  have n6 := numsA_yes n5 g6
  rw [n6]
  simp only [List.nil_append, List.cons_append, Int.toNat_natCast, Option.some.injEq, Prod.mk.injEq, true_and]
  omega
theorem six {vs : List Nat} (h : vs.length = 6) : ∃ a b c d e f, vs = [a, b, c, d, e, f] := by
  match vs, h with
  | [a, b, c, d, e, f], _ => exact ⟨a, b, c, d, e, f, rfl⟩
theorem getHd_vain {l p : List UInt8} (ho : openL l = some p) (h : ∀ d, HdOk d → bodyH d = p → False) : getHd l = (noHd, 2) := getHd_none ho fun d hd hl => h d hd hl
set_option maxRecDepth 100000 in
set_option maxHeartbeats 6400000 in
theorem rgetH_any (ad : Option Addr) (n c : Nat) (l : List UInt8) (w : World) (hr : Row w ad c l) (hn : l.length = n) (hlen : n ≤ 100000) :
    Calls Try.prog 13 #[.slice ad n c] w (HGot l w) := by
  have HR := Lib.hid hr
  have HN := Lib.hid hn
  clear hr hn
  go_enter Try.func13, Try.ntmps13
  obtain ⟨HX2, HX4, HB2⟩ : Hid (RecAt ((w.alloc (.cells zeroHd 26)).alloc (.cells zeroHd 26)) w.heap.size zeroHd 26) ∧ Hid (RecAt ((w.alloc (.cells zeroHd 26)).alloc (.cells zeroHd 26)) (w.heap.size + 1) zeroHd 26) ∧ Hid (Below w.heap.size w ((w.alloc (.cells zeroHd 26)).alloc (.cells zeroHd 26))) := two_recs w zeroHd zeroHd _ _
  go_upto_region 2 with fail
  generalize ((w.alloc (.cells zeroHd 26)).alloc (.cells zeroHd 26)) = w2 at *
  obtain ⟨P4, hP4⟩ : ∃ P, w.heap.size + 1 = P := ⟨_, rfl⟩
  have HP4 := Lib.hid hP4
  rw [hP4] at HX4 ⊢
  clear hP4
  obtain ⟨P2, hP2⟩ : ∃ P, w.heap.size = P := ⟨_, rfl⟩
  have HP2 := Lib.hid hP2
  rw [hP2]
  rw [hP2] at HX2 HP4
  clear hP2
  have HOP := Lib.hid (ropen_any ad n c l w2 (HR.out.later HB2.out) HN.out hlen)
  cases hop : openL l with
  | none =>
    have HF := Lib.hid (getHd_sum hop)
    rw [hop] at HOP
    clear hop
    go_wp2_with fail
    refine HOP.out.mono ?_
    rintro e w3 ⟨v3, rfl, o3⟩
    have HB3 := Lib.hid (HB2.out.trans (o3.below.mono HB2.out.size))
    have HX3 := Lib.hid (HX2.out.later o3.below)
    have HX5 := Lib.hid (HX4.out.later o3.below)
    clear o3
    obtain ⟨y0, y1, y2, y3, y4, y5, y6⟩ := HX5.out.c7
    go_wp2_with (refine wpList_rec rfl rfl P2 zeroHd zeroHd rfl rfl HX3.out rfl (by kernel_rfl) (by kernel_rfl) ?_; intro w4 r1 r2 r3 r4)
    refine bodyPost_ret (results_ct rfl rfl r1 Try.underlying26 rfl (by kernel_rfl)) rfl ?_
    exact hgot_no HF.out (HB3.out.grown r4 HB3.out.size (fun q e => by cases e; exact Nat.le_of_eq HP2.out))
  | some p =>
    have HOO := Lib.hid hop
    rw [hop] at HOP
    obtain ⟨m, hm⟩ : ∃ m, p.length = m := ⟨_, rfl⟩
    have HM := Lib.hid hm
    have hml : m ≤ n := by
      have h1 := congrArg List.length (open_is hop)
      rw [sealL_len, HN.out, hm] at h1; omega
    clear hop hm
    go_upto_region 5 with (go_at_call 36; refine HOP.out.mono ?_; rintro e w3 ⟨v3, rfl, o3⟩; have HO3 := Lib.hid o3; clear o3)
    obtain ⟨a3, c3, rfl, r3⟩ := HO3.out.row_n (show ((some p).getD []).length = m from HM.out)
    have HR3 : Hid (Row w3 a3 c3 p) := Lib.hid r3
    have HB3 := Lib.hid (HB2.out.trans (HO3.out.below.mono HB2.out.size))
    have HX3 := Lib.hid (HX2.out.later HO3.out.below)
    have HX5 := Lib.hid (HX4.out.later HO3.out.below)
    have HNM := Lib.hid (numbersK_any a3 m c3 p 0 6 w3 HR3.out HM.out (by omega) (by omega) (by decide) 6 rfl)
    clear HX2 HX4 HOP HO3 r3
    obtain ⟨y0, y1, y2, y3, y4, y5, y6⟩ := HX5.out.c7
    go_wp2_with fail
    refine HNM.out.mono ?_
    rintro e w4 (⟨v4, vs, q4, hA4, rfl, o4, hvl, hq4, hz⟩ | ⟨hA4, rfl, hb4⟩)
    · obtain ⟨k0, k1, k2, k3, k4, k5, rfl⟩ := six hvl
      obtain ⟨a4, c4, rfl, hc4, hcell⟩ := o4.row_n hvl
      obtain ⟨g, rfl, z0⟩ := hcell 0 k0 rfl
      obtain ⟨_, e1, z1⟩ := hcell 1 k1 rfl
      cases e1
      obtain ⟨_, e1, z2⟩ := hcell 2 k2 rfl
      cases e1
      obtain ⟨_, e1, z3⟩ := hcell 3 k3 rfl
      cases e1
      obtain ⟨_, e1, z4⟩ := hcell 4 k4 rfl
      cases e1
      obtain ⟨_, e1, z5⟩ := hcell 5 k5 rfl
      cases e1
      have HZ : Hid (k0 < 9223372036854775808 ∧ k1 < 9223372036854775808 ∧ k2 < 9223372036854775808 ∧ k3 < 9223372036854775808 ∧ k4 < 9223372036854775808 ∧ k5 < 9223372036854775808) := Lib.hid ⟨hz k0 (by simp), hz k1 (by simp), hz k2 (by simp), hz k3 (by simp), hz k4 (by simp), hz k5 (by simp)⟩
      have HA4 : Hid (∀ d, HdOk d → bodyH d = p → d.size = (k0 : Nat) ∧ d.order = (k1 : Nat) ∧ d.unit = (k2 : Nat) ∧ d.count = (k3 : Nat) ∧ d.next = (k4 : Nat) ∧ d.seq = (k5 : Nat) ∧ q4 = (numsH d).length) := Lib.hid (fun d hd hl => by
        have h1 := get_nums hd hl
        rw [hA4] at h1
        simp only [Option.some.injEq, Prod.mk.injEq, List.cons.injEq, and_true] at h1
        obtain ⟨⟨h2, h3, h4, h5, h6, h7⟩, h8⟩ := h1
        have := hd.1.nat
        omega)
      have HB4 := Lib.hid (HB3.out.trans (o4.2.mono HB3.out.size))
      have HX6 := Lib.hid (HX3.out.later o4.2)
      have HX7 := Lib.hid (HX5.out.later o4.2)
      have HPL4 := Lib.hid HX6.out.lt
      have HGL : Hid (∀ W, Below w4.heap.size w4 W → W.cell? ⟨g, 0, none⟩ = some (.int .i64 (k0 : Nat)) ∧ W.cell? ⟨g, 1, none⟩ = some (.int .i64 (k1 : Nat)) ∧ W.cell? ⟨g, 2, none⟩ = some (.int .i64 (k2 : Nat)) ∧ W.cell? ⟨g, 3, none⟩ = some (.int .i64 (k3 : Nat)) ∧ W.cell? ⟨g, 4, none⟩ = some (.int .i64 (k4 : Nat)) ∧ W.cell? ⟨g, 5, none⟩ = some (.int .i64 (k5 : Nat))) := by
        have x0 := z0; have x1 := z1; have x2 := z2; have x3 := z3; have x4 := z4; have x5 := z5
        exact Lib.hid (fun W h => ⟨(Below.cell h (World.block_lt_of_cell? _ _ x0)).trans x0, (Below.cell h (World.block_lt_of_cell? _ _ x1)).trans x1, (Below.cell h (World.block_lt_of_cell? _ _ x2)).trans x2, (Below.cell h (World.block_lt_of_cell? _ _ x3)).trans x3, (Below.cell h (World.block_lt_of_cell? _ _ x4)).trans x4, (Below.cell h (World.block_lt_of_cell? _ _ x5)).trans x5⟩)
      have HGM := Lib.hid (rgetMarks_any a3 m c3 p q4 w4 (HR3.out.later o4.2) HM.out (by omega) (by rw [HM.out] at hq4; exact hq4))
      clear hA4 hvl hq4 hz hcell o4 HNM y0 y1 y2 y3 y4 y5 y6 z0 z1 z2 z3 z4 z5 HX3 HX5
      obtain ⟨y0, y1, y2, y3, y4, y5, y6⟩ := HX7.out.c7
      go_upto_region 8 with fail
      go_wp2_with fail
      refine HGM.out.mono ?_
      rintro e w5 ⟨v5, q5, zb, us, rfl, o5, hul, hq5, hus⟩
      have HB5 := Lib.hid (HB4.out.trans (o5.below.mono HB4.out.size))
      have HX8 := Lib.hid (HX6.out.later o5.below)
      have HX9 := Lib.hid (HX7.out.later o5.below)
      have HUS : Hid (∀ d, HdOk d → bodyH d = p → zb = true ∧ us = d.marks) := Lib.hid (fun d hd hl => by
        have h1 := hus d.marks (by rw [(HA4.out d hd hl).2.2.2.2.2.2]; exact hd.at hl)
        exact ⟨h1.1, h1.2.1⟩)
      clear y0 y1 y2 y3 y4 y5 y6 HX6 HX7 HGM
      obtain ⟨y0, y1, y2, y3, y4, y5, y6⟩ := HX9.out.c7
      cases zb with
      | false =>
        have HF := Lib.hid (getHd_vain HOO.out fun d hd hl => by have := (HUS.out d hd hl).1; cases this)
        clear o5 hus
        go_wp2_with (refine wpList_rec rfl rfl P2 zeroHd zeroHd rfl rfl HX8.out rfl (by kernel_rfl) (by kernel_rfl) ?_; intro w6 r1 r2 r3 r4)
        refine bodyPost_ret (results_ct rfl rfl r1 Try.underlying26 rfl (by kernel_rfl)) rfl ?_
        exact hgot_no HF.out (HB5.out.grown r4 HB5.out.size (fun q e => by cases e; exact Nat.le_of_eq HP2.out))
      | true =>
        obtain ⟨M, hM⟩ : ∃ M, us.length = M := ⟨_, rfl⟩
        obtain ⟨a5, c5, rfl, r5⟩ := o5.row_n mkOk hM
        have HG5 := Lib.hid (HGL.out w5 o5.below)
        have HO5 := Lib.hid (o5.back HB4.out)
        have HM5 := Lib.hid hM
        have HP25 : Hid (∀ k, (Value.slice a5 M c5).ownBlock = some k → P2 < k) := Lib.hid (fun k hk => by
          have h1 := (World.ownsRow.lt o5.1 k hk).1
          have h2 := HPL4.out
          omega)
        clear o5 r5 hM hus HGL
        go_upto_region 11 with fail
        obtain ⟨z0, z1, z2, z3, z4, z5⟩ := HG5.out
        clear y0 y1 y2 y3 y4 y5 y6
        go_region_held3 (fun w' => w'.cell? ⟨g, 0, none⟩ = some (.int .i64 (k0 : Nat)) ∧ w'.cell? ⟨g, 1, none⟩ = some (.int .i64 (k1 : Nat)) ∧ w'.cell? ⟨g, 2, none⟩ = some (.int .i64 (k2 : Nat)) ∧ w'.cell? ⟨g, 3, none⟩ = some (.int .i64 (k3 : Nat)) ∧ w'.cell? ⟨g, 4, none⟩ = some (.int .i64 (k4 : Nat)) ∧ w'.cell? ⟨g, 5, none⟩ = some (.int .i64 (k5 : Nat))) (first | go_keep) ((fail))
        clear z0 z1 z2 z3 z4 z5 HG5
        have hb6 : Below w5.heap.size w5 (w5.alloc (.cells #[.int .i64 (k0 : Nat), .int .i64 (k1 : Nat), .int .i64 (k2 : Nat), .int .i64 (k3 : Nat), .int .i64 (k4 : Nat), .int .i64 (k5 : Nat), .slice a5 M c5] 26)).drew := ((Below.refl _ _).alloc (Nat.le_refl _) _).drew
        have HX13 := Lib.hid ((RecAt.new w5 #[.int .i64 (k0 : Nat), .int .i64 (k1 : Nat), .int .i64 (k2 : Nat), .int .i64 (k3 : Nat), .int .i64 (k4 : Nat), .int .i64 (k5 : Nat), .slice a5 M c5] 26).later (Below.refl _ _).drew)
        have HX6 := Lib.hid (HX8.out.later hb6)
        have HX7 := Lib.hid (HX9.out.later hb6)
        have HO6 := Lib.hid (HO5.out.later hb6)
        have HB6 := Lib.hid (HB5.out.trans (hb6.mono HB5.out.size))
        have HR6 := Lib.hid (HR.out.later HB6.out)
        clear hb6
        generalize (w5.alloc (.cells #[.int .i64 (k0 : Nat), .int .i64 (k1 : Nat), .int .i64 (k2 : Nat), .int .i64 (k3 : Nat), .int .i64 (k4 : Nat), .int .i64 (k5 : Nat), .slice a5 M c5] 26)).drew = w6 at *
        generalize w5.heap.size = P13 at *
        obtain ⟨y0, y1, y2, y3, y4, y5, y6⟩ := HX13.out.c7
        obtain ⟨_, _, ev6, r6⟩ := HO6.out.row_n mkOk HM5.out
        cases ev6
        have HPH := Lib.hid (rputH_any ⟨(k0 : Nat), (k1 : Nat), (k2 : Nat), (k3 : Nat), (k4 : Nat), (k5 : Nat), us⟩ a5 M c5 w6 r6 HM5.out)
        have HGS : Hid (GuessH p ⟨(k0 : Nat), (k1 : Nat), (k2 : Nat), (k3 : Nat), (k4 : Nat), (k5 : Nat), us⟩) := Lib.hid (fun d hd hl => by
          obtain ⟨e0, e1, e2, e3, e4, e5, _⟩ := HA4.out d hd hl
          obtain ⟨_, e6⟩ := HUS.out d hd hl
          obtain ⟨ds, d1, d2, d3, d4, d5, dm⟩ := d
          simp only at e0 e1 e2 e3 e4 e5 e6
          rw [e0, e1, e2, e3, e4, e5, e6])
        clear r6
        cases hx : rightH ⟨(k0 : Nat), (k1 : Nat), (k2 : Nat), (k3 : Nat), (k4 : Nat), (k5 : Nat), us⟩ with
        | false =>
          rw [putHd_no hx] at HPH
          have HF := Lib.hid (guessH_not HOO.out HGS.out (.inl hx))
          clear hx
          go_wp2_with fail
          refine HPH.out.mono ?_
          rintro e w7 ⟨v7, rfl, o7⟩
          have HB7 := Lib.hid (HB6.out.trans (o7.below.mono HB6.out.size))
          have HX8 := Lib.hid (HX6.out.later o7.below)
          have HX9 := Lib.hid (HX7.out.later o7.below)
          clear o7 y0 y1 y2 y3 y4 y5 y6
          obtain ⟨y0, y1, y2, y3, y4, y5, y6⟩ := HX9.out.c7
          go_wp2_with (refine wpList_rec rfl rfl P2 zeroHd zeroHd rfl rfl HX8.out rfl (by kernel_rfl) (by kernel_rfl) ?_; intro w8 r1 r2 r3 r4)
          refine bodyPost_ret (results_ct rfl rfl r1 Try.underlying26 rfl (by kernel_rfl)) rfl ?_
          exact hgot_no HF.out (HB7.out.grown r4 HB7.out.size (fun q e => by cases e; exact Nat.le_of_eq HP2.out))
        | true =>
          rw [putHd_yes hx] at HPH
          have HXX := Lib.hid hx
          clear hx
          go_wp2_with fail
          refine HPH.out.mono ?_
          rintro e w7 ⟨v7, rfl, o7⟩
          obtain ⟨m7, hm7⟩ : ∃ m, (sealL (bodyH ⟨(k0 : Nat), (k1 : Nat), (k2 : Nat), (k3 : Nat), (k4 : Nat), (k5 : Nat), us⟩)).length = m := ⟨_, rfl⟩
          obtain ⟨a7, c7, rfl, r7⟩ := o7.row_n hm7
          have HB7 := Lib.hid (HB6.out.trans (o7.below.mono HB6.out.size))
          have HX8 := Lib.hid (HX6.out.later o7.below)
          have HX9 := Lib.hid (HX7.out.later o7.below)
          have HX14 := Lib.hid (HX13.out.later o7.below)
          have HO7 := Lib.hid (HO6.out.later o7.below)
          have q1 := conv_row_n r7 hm7
          have q2 := conv_row_n (HR.out.later HB7.out) HN.out
          have HBE : Hid (((⟨(sealL (bodyH ⟨(k0 : Nat), (k1 : Nat), (k2 : Nat), (k3 : Nat), (k4 : Nat), (k5 : Nat), us⟩)).toArray⟩ : ByteArray) = ⟨l.toArray⟩) ↔ sealL (bodyH ⟨(k0 : Nat), (k1 : Nat), (k2 : Nat), (k3 : Nat), (k4 : Nat), (k5 : Nat), us⟩) = l) := Lib.hid bytes_eq
          generalize (⟨(sealL (bodyH ⟨(k0 : Nat), (k1 : Nat), (k2 : Nat), (k3 : Nat), (k4 : Nat), (k5 : Nat), us⟩)).toArray⟩ : ByteArray) = S1 at *
          generalize (⟨l.toArray⟩ : ByteArray) = S2 at *
          clear o7 r7 hm7 y0 y1 y2 y3 y4 y5 y6
          by_cases he : sealL (bodyH ⟨(k0 : Nat), (k1 : Nat), (k2 : Nat), (k3 : Nat), (k4 : Nat), (k5 : Nat), us⟩) = l
          · have HF := Lib.hid (guessH_yes HOO.out HXX.out he)
            have hd : (S1.toList == S2.toList) = true := (sbeq_iff _ _).2 (HBE.out.2 he)
            have hd2 : (S1.toList != S2.toList) = false := by rw [bne, hd]; rfl
            clear he
            obtain ⟨y0, y1, y2, y3, y4, y5, y6⟩ := HX14.out.c7
            go_wp2_with (refine wpList_rec rfl rfl P2 zeroHd #[.int .i64 (k0 : Nat), .int .i64 (k1 : Nat), .int .i64 (k2 : Nat), .int .i64 (k3 : Nat), .int .i64 (k4 : Nat), .int .i64 (k5 : Nat), .slice a5 M c5] rfl rfl HX8.out rfl (by kernel_rfl) (by kernel_rfl) ?_; intro w8 r1 r2 r3 r4)
            refine bodyPost_ret (results_ct rfl rfl r1 Try.underlying26 rfl (by kernel_rfl)) rfl ?_
            unfold HGot
            rw [HF.out]
            simp only [HM5.out]
            refine ⟨a5, c5, rfl, HO7.out.keptBy r4 ?_ (fun k e => by cases e; exact Nat.le_of_eq HP2.out)⟩
            cases hob : (Value.slice a5 M c5).ownBlock with
            | none => exact .inl rfl
            | some k => exact .inr (by have := HP25.out k hob; simp; omega)
          · have HF := Lib.hid (guessH_not HOO.out HGS.out (.inr he))
            have hd : (S1.toList == S2.toList) = false := sbeq_no fun h => he (HBE.out.1 h)
            have hd2 : (S1.toList != S2.toList) = true := by rw [bne, hd]; rfl
            clear he
            obtain ⟨y0, y1, y2, y3, y4, y5, y6⟩ := HX9.out.c7
            go_wp2_with (refine wpList_rec rfl rfl P2 zeroHd zeroHd rfl rfl HX8.out rfl (by kernel_rfl) (by kernel_rfl) ?_; intro w8 r1 r2 r3 r4)
            refine bodyPost_ret (results_ct rfl rfl r1 Try.underlying26 rfl (by kernel_rfl)) rfl ?_
            exact hgot_no HF.out (HB7.out.grown r4 HB7.out.size (fun q e => by cases e; exact Nat.le_of_eq HP2.out))
    · have HF := Lib.hid (getHd_vain HOO.out fun d hd hl => by rw [get_nums hd hl] at hA4; cases hA4)
      have HB4 := Lib.hid (HB3.out.trans (hb4.mono HB3.out.size))
      have HX6 := Lib.hid (HX3.out.later hb4)
      have HX7 := Lib.hid (HX5.out.later hb4)
      clear hA4 hb4 y0 y1 y2 y3 y4 y5 y6
      obtain ⟨y0, y1, y2, y3, y4, y5, y6⟩ := HX7.out.c7
      go_wp2_with (refine wpList_rec rfl rfl P2 zeroHd zeroHd rfl rfl HX6.out rfl (by kernel_rfl) (by kernel_rfl) ?_; intro w6 r1 r2 r3 r4)
      refine bodyPost_ret (results_ct rfl rfl r1 Try.underlying26 rfl (by kernel_rfl)) rfl ?_
      exact hgot_no HF.out (HB4.out.grown r4 HB4.out.size (fun q e => by cases e; exact Nat.le_of_eq HP2.out))
end Go.Proofs.Ytfjplhjlmilcfaa
