/- Messages: what bytes are: the document's GetMsg. -/
import Derived.Test.YtiahifpbofkimaaMsR
import Derived.Test.YtiahifpbofkimaaGO
import Derived.Test.YtiahifpbofkimaaMsL
import Derived.Deep.RegionHeld3
import Derived.Deep.DeepCutAuto
import Derived.Test.YtiahifpbofkimaaPhW
namespace Go.Proofs.Ytiahifpbofkimaa
open Go.RowKit Go.Proofs
set_option linter.unusedVariables false
set_option linter.unusedSimpArgs false
set_option linter.unnecessarySimpa false

theorem rest_any (ad : Option Addr) (m c : Nat) (l : List UInt8) (p : Nat) (k n o f s u : Int) (w : World) (hr : Row w ad c l) (hm : l.length = m) (hlen : m ≤ 100000) (hp : p ≤ m) (h1m : 0 < m) :
    Calls Try.prog 35 #[.agg #[.int .i64 k, .int .i64 n, .int .i64 o, .int .i64 f, .int .i64 s, .int .i64 u, .slice none 0 0, .slice none 0 0, .slice none 0 0, .slice none 0 0], .slice ad m c, .int .i64 (p : Nat)] w (RestP l p k n o f s u w) := by
  by_cases h2 : k = 2
  · exact rest_2 ad m c l p k n o f s u w hr hm hlen hp h1m h2
  by_cases h4 : k = 4
  · exact rest_4 ad m c l p k n o f s u w hr hm hlen hp h1m h4
  by_cases h6 : k = 6
  · exact rest_6 ad m c l p k n o f s u w hr hm hlen hp h1m h6
  exact rest_x ad m c l p k n o f s u w hr hm hlen hp h1m h2 h4 h6
theorem get_nums5 {d : Ms} {l : List UInt8} (hd : MsOk d) (hl : bodyMs d = l) : ∀ k, k ≤ 5 → numsA l 1 k = some (((L5 d).take k).map Int.toNat, 1 + (preN (L5 d) k).length)
  | 0, _ => by rw [preN_zero]; rfl
  | k + 1, hk => by
    have ih := get_nums5 hd hl k (by omega)
    obtain ⟨o, q, z, hg⟩ : ∃ o q z, getVA l (((1 + (preN (L5 d) k).length : Nat)) : Int) = (o, q, z) := ⟨_, _, _, rfl⟩
    obtain ⟨a, rfl, _⟩ := getVA_place hg (Int.natCast_nonneg _)
    obtain ⟨h1, h2, h3⟩ := preN_step hd hl (show k < 5 by omega) rfl hg
    rw [h3] at hg
    rw [numsA_yes ih hg, h2]
    congr 2
    rw [List.take_add_one, h1]
    simp
theorem five {vs : List Nat} (h : vs.length = 5) : ∃ a b c d e, vs = [a, b, c, d, e] := by
  match vs, h with
  | [a, b, c, d, e], _ => exact ⟨a, b, c, d, e, rfl⟩
theorem nums5_all {l : List UInt8} {k0 k1 k2 k3 k4 q : Nat} (h : numsA l 1 5 = some ([k0, k1, k2, k3, k4], q)) : ∀ d, MsOk d → bodyMs d = l → d.nonce = (k0 : Nat) ∧ d.pos = (k1 : Nat) ∧ d.fin = (k2 : Nat) ∧ d.stage = (k3 : Nat) ∧ d.num = (k4 : Nat) ∧ l.drop q = tailM d := fun d hd hl => by
  have h1 := get_nums5 hd hl 5 (by omega)
  rw [h] at h1
  simp only [L5, List.take_succ_cons, List.take_zero, List.map_cons, List.map_nil, Option.some.injEq, Prod.mk.injEq, List.cons.injEq, and_true] at h1
  obtain ⟨⟨h2, h3, h4, h5, h6⟩, h7⟩ := h1
  have hN := hd.1
  unfold NumsM at hN
  refine ⟨by omega, by omega, by omega, by omega, by omega, ?_⟩
  rw [h7, body_split hl, ← List.drop_drop, show ([UInt8.ofNat d.kind.toNat] ++ (preN (L5 d) 5 ++ tailM d)).drop 1 = preN (L5 d) 5 ++ tailM d from rfl]
  exact List.drop_left
theorem kind_head {d : Ms} {ub : UInt8} {tb : List UInt8} (hd : MsOk d) (h : bodyMs d = ub :: tb) : d.kind = (ub.toNat : Nat) := by
  have h1 := congrArg List.head? h
  rw [body_split rfl] at h1
  simp only [List.cons_append, List.nil_append, List.head?_cons, Option.some.injEq] at h1
  have hN := hd.1
  unfold NumsM at hN
  rw [← h1, UInt8.toNat_ofNat']
  omega
/-- Marks of the region that calls rest. -/
theorem noB8_zero : NoB8 zeroMs := noB8_ms _ _ _ _ _ _ _ _ _ _ _ _ _ _ _ _ _ _
theorem MsRows.later2 {w w' : World} {m : Ms} {p : MsAt} (h : MsRows w m p) (hb : Below w.heap.size w w') : MsRows w' m p := h.later hb
def gtV (p : List UInt8) : SV := ⟨fun w v => ∃ gm q z, v = .tuple #[msV gm q, .bool z] ∧ MsRows w gm q ∧ MsNo w q ∧ ∀ d, MsOk d → bodyMs d = p → z = true ∧ gm = d, fun w w' v ⟨gm, q, z, h1, h2, h3, h4⟩ hb => ⟨gm, q, z, h1, h2.later2 hb, h3.later hb, h4⟩⟩
def gmV (p : List UInt8) : SV := ⟨fun w v => ∃ gm q, v = msV gm q ∧ MsRows w gm q ∧ MsNo w q ∧ ∀ d, MsOk d → bodyMs d = p → gm = d, fun w w' v ⟨gm, q, h1, h2, h3, h4⟩ hb => ⟨gm, q, h1, h2.later2 hb, h3.later hb, h4⟩⟩
def zbV (p : List UInt8) : SV := ⟨fun w v => ∃ z, v = .bool z ∧ ∀ d, MsOk d → bodyMs d = p → z = true, fun w w' v h hb => h⟩
def reV (W : World) : SV := ⟨fun w v => ∃ PX, v = .pointer (some ⟨PX, 0, none⟩) ∧ RecAt w PX zeroMs 27 ∧ W.heap.size ≤ PX, fun w w' v ⟨x, h1, h2, h3⟩ hb => ⟨x, h1, h2.later hb, h3⟩⟩
def stV (W : World) (p : List UInt8) : SV := ⟨fun w v => ∃ PX gm q, v = .pointer (some ⟨PX, 0, none⟩) ∧ W.heap.size ≤ PX ∧ RecAt w PX (msC gm q) 27 ∧ MsRows w gm q ∧ MsNo w q ∧ ∀ d, MsOk d → bodyMs d = p → gm = d, fun w w' v ⟨x, gm, q, h1, h2, h3, h4, h5, h6⟩ hb => ⟨x, gm, q, h1, h2, h3.later hb, h4.later2 hb, h5.later hb, h6⟩⟩
set_option maxRecDepth 100000 in
set_option maxHeartbeats 12800000 in
theorem rmsget_any (ad : Option Addr) (n c : Nat) (l : List UInt8) (w : World) (hr : Row w ad c l) (hn : l.length = n) (hlen : n ≤ 100000) :
    Calls Try.prog 13 #[.slice ad n c] w (MsGot l w) := by
  obtain ⟨X2, X4, B2⟩ := two_recsM w zeroMs zeroMs 27 27
  have HX2 := Lib.hid X2
  have HX4 := Lib.hid X4
  have HB2 := Lib.hid B2
  have HR := Lib.hid hr
  have HN := Lib.hid hn
  obtain ⟨Q, hQ⟩ : ∃ Q, MsGot l w = Q := ⟨_, rfl⟩
  rw [hQ]
  have HQN : Hid (∀ k w', getMs l = (noMs, k) → Below w.heap.size w w' → Q (.returned (.tuple #[.agg zeroMs, .int .i64 k])) w') := Lib.hid (fun k w' h hb => by rw [← hQ]; exact msgot_no h hb)
  have HQY : Hid (∀ g q w', getMs l = (g, 0) → MsRows w' g q → Below w.heap.size w w' → Q (.returned (.tuple #[msV g q, .int .i64 0])) w') := Lib.hid (fun g q w' h h2 hb => by rw [← hQ]; exact msgot_yes h h2 hb)
  clear hr hn hQ X2 X4 B2
  go_enter Try.func13, Try.ntmps13
  go_upto_region 2 with fail
  simp only [zeroMs] at HX2 HX4 HB2
  generalize ((w.alloc (.cells #[.int .i64 0, .int .i64 0, .int .i64 0, .int .i64 0, .int .i64 0, .int .i64 0, .slice none 0 0, .slice none 0 0, .slice none 0 0, .slice none 0 0] 27)).alloc (.cells #[.int .i64 0, .int .i64 0, .int .i64 0, .int .i64 0, .int .i64 0, .int .i64 0, .slice none 0 0, .slice none 0 0, .slice none 0 0, .slice none 0 0] 27)) = w2 at *
  obtain ⟨P4, hP4⟩ : ∃ P, w.heap.size + 1 = P := ⟨_, rfl⟩
  have HP4 := Lib.hid hP4
  rw [hP4] at HX4 ⊢
  clear hP4
  obtain ⟨P2, hP2⟩ : ∃ P, w.heap.size = P := ⟨_, rfl⟩
  have HP2 := Lib.hid hP2
  rw [hP2]
  rw [hP2] at HX2 HP4
  clear hP2
  have HOP := Lib.hid (ropen_any ad n c l w2 (HR.out.later HB2.out) HN.out hlen)
  cases hop : openL l with
  | none =>
    have HF := Lib.hid (getMs_sum hop)
    rw [hop] at HOP
    clear hop
    go_wp2_with (first
      | (go_at_call 33; refine HOP.out.mono ?_; rintro e w3 ⟨v3, rfl, o3⟩; simp only [Option.isSome]; have HB3 := Lib.hid (HB2.out.trans (o3.below.mono HB2.out.size)); have HX3 := Lib.hid (HX2.out.later o3.below); have HX5 := Lib.hid (HX4.out.later o3.below); clear o3; obtain ⟨y0, y1, y2, y3, y4, y5, y6, y7, y8, y9⟩ := HX5.out.c10)
      | (refine wpList_rec rfl rfl P2 zeroMs zeroMs rfl rfl HX3.out rfl (by kernel_rfl) (by kernel_rfl) ?_; intro w4 r1 r2 r3 r4))
    refine bodyPost_ret (results_ct rfl rfl r1 Try.underlying27 rfl (by kernel_rfl)) rfl ?_
    exact HQN.out _ _ HF.out (HB3.out.grown r4 HB3.out.size (fun q e => by cases e; exact Nat.le_of_eq HP2.out))
  | some p =>
    have HOO := Lib.hid hop
    rw [hop] at HOP
    obtain ⟨m, hm⟩ : ∃ m, p.length = m := ⟨_, rfl⟩
    have HM := Lib.hid hm
    have hml : m ≤ n := by
      have h1 := congrArg List.length (open_is hop)
      rw [sealL_len, HN.out, hm] at h1; omega
    clear hop hm
    go_upto_region 5 with (go_at_call 33; refine HOP.out.mono ?_; rintro e w3 ⟨v3, rfl, o3⟩; simp only [Option.isSome, Option.getD] at o3 ⊢; obtain ⟨a3, c3, rfl, r3⟩ := o3.row_n HM.out; have HR3 := Lib.hid r3; have HB3 := Lib.hid (HB2.out.trans (o3.below.mono HB2.out.size)); have HX3 := Lib.hid (HX2.out.later o3.below); have HX5 := Lib.hid (HX4.out.later o3.below); clear o3 r3)
    obtain ⟨y0, y1, y2, y3, y4, y5, y6, y7, y8, y9⟩ := HX5.out.c10
    clear HX2 HX4 HOP HB2
    by_cases hm0 : m = 0
    · have HF : Hid (getMs l = (noMs, 2)) := Lib.hid (getMs_none HOO.out (fun d hd hl => by have := bodyMs_len hd; rw [hl, HM.out] at this; omega))
      have hmz : ((m : Int) == 0) = true := by simp; omega
      clear hm0
      go_wp2_with (refine wpList_rec rfl rfl P2 zeroMs zeroMs rfl rfl HX3.out rfl (by kernel_rfl) (by kernel_rfl) ?_; intro w4 r1 r2 r3 r4)
      refine bodyPost_ret (results_ct rfl rfl r1 Try.underlying27 rfl (by kernel_rfl)) rfl ?_
      exact HQN.out _ _ HF.out (HB3.out.grown r4 HB3.out.size (fun q e => by cases e; exact Nat.le_of_eq HP2.out))
    have hmz : ((m : Int) == 0) = false := by simp; omega
    obtain ⟨ub, tb, hpl⟩ : ∃ ub tb, p = ub :: tb := by
      cases p with
      | nil => have := HM.out; simp at this; omega
      | cons ub tb => exact ⟨ub, tb, rfl⟩
    obtain ⟨bp, op, ha3, hcp⟩ := HR3.out.at (by have := HM.out; omega)
    have hcb := hcp 0 ub (by rw [hpl]; rfl)
    have HPL := Lib.hid hpl
    subst ha3
    rw [Nat.add_zero] at hcb
    have HCB := Lib.hid hcb
    clear hcp hpl hcb
    have hub := ub.toNat_lt
    have HNM := Lib.hid (numbersK_any (some ⟨bp, op, none⟩) m c3 p 1 5 w3 HR3.out HM.out (by omega) (by omega) (by decide) 5 rfl)
    go_wp2_with fail
    refine HNM.out.mono ?_
    rintro e w4 (⟨v4, vs, q4, hA4, rfl, o4, hvl, hq4, hz⟩ | ⟨hA4, rfl, hb4⟩)
    · obtain ⟨k0, k1, k2, k3, k4, rfl⟩ := five hvl
      obtain ⟨a4, c4, rfl, hc4, hcell⟩ := o4.row_n hvl
      obtain ⟨g, rfl, z0⟩ := hcell 0 k0 rfl
      obtain ⟨_, e1, z1⟩ := hcell 1 k1 rfl
      cases e1
      obtain ⟨_, e1, z2⟩ := hcell 2 k2 rfl
      cases e1
      obtain ⟨_, e1, z3⟩ := hcell 3 k3 rfl
      cases e1
      obtain ⟨_, e1, z4⟩ := hcell 4 k4 rfl
      cases e1
      have HNU := Lib.hid (nums5_all hA4)
      have HB4 := Lib.hid (HB3.out.trans (o4.2.mono HB3.out.size))
      have HX6 := Lib.hid (HX3.out.later o4.2)
      have HX7 := Lib.hid (HX5.out.later o4.2)
      have hcb4 : w4.cell? ⟨bp, op, none⟩ = some (.int .u8 (ub.toNat : Nat)) := by
        have := HCB.out
        rw [Below.cell o4.2 (World.block_lt_of_cell? _ _ this)]; exact this
      obtain ⟨K8, hK8⟩ : ∃ K, ub.toNat = K := ⟨_, rfl⟩
      have HK8 := Lib.hid hK8
      rw [hK8] at hcb4 hub
      have HRS : Hid (∀ W, Below w4.heap.size w4 W → Calls Try.prog 35 #[.agg #[.int .i64 (K8 : Nat), .int .i64 (k0 : Nat), .int .i64 (k1 : Nat), .int .i64 (k2 : Nat), .int .i64 (k3 : Nat), .int .i64 (k4 : Nat), .slice none 0 0, .slice none 0 0, .slice none 0 0, .slice none 0 0], .slice (some ⟨bp, op, none⟩) m c3, .int .i64 (q4 : Nat)] W (RestP p q4 (K8 : Nat) (k0 : Nat) (k1 : Nat) (k2 : Nat) (k3 : Nat) (k4 : Nat) W)) :=
        Lib.hid (fun W hb => rest_any (some ⟨bp, op, none⟩) m c3 p q4 _ _ _ _ _ _ W (HR3.out.later (o4.2.trans (hb.mono o4.2.size))) HM.out (by omega) (by have := HM.out; omega) (by omega))
      have HGL : Hid (∀ W, Below w4.heap.size w4 W → W.cell? ⟨bp, op, none⟩ = some (.int .u8 (K8 : Nat)) ∧ W.cell? ⟨g, 0, none⟩ = some (.int .i64 (k0 : Nat)) ∧ W.cell? ⟨g, 1, none⟩ = some (.int .i64 (k1 : Nat)) ∧ W.cell? ⟨g, 2, none⟩ = some (.int .i64 (k2 : Nat)) ∧ W.cell? ⟨g, 3, none⟩ = some (.int .i64 (k3 : Nat)) ∧ W.cell? ⟨g, 4, none⟩ = some (.int .i64 (k4 : Nat))) := by
        have x0 := z0; have x1 := z1; have x2 := z2; have x3 := z3; have x4 := z4; have x5 := hcb4
        exact Lib.hid (fun W h => ⟨(Below.cell h (World.block_lt_of_cell? _ _ x5)).trans x5, (Below.cell h (World.block_lt_of_cell? _ _ x0)).trans x0, (Below.cell h (World.block_lt_of_cell? _ _ x1)).trans x1, (Below.cell h (World.block_lt_of_cell? _ _ x2)).trans x2, (Below.cell h (World.block_lt_of_cell? _ _ x3)).trans x3, (Below.cell h (World.block_lt_of_cell? _ _ x4)).trans x4⟩)
      have hw8 : ((K8 : Nat) : Int) % 256 = (K8 : Nat) := by omega
      clear hA4 hvl hq4 hz hcell o4 HNM y0 y1 y2 y3 y4 y5 y6 y7 y8 y9 HX3 HX5 hK8
      go_upto_region 10 with fail
      have HRC : Hid (∀ W, Below w4.heap.size w4 W → Calls Try.prog 35 #[.agg #[.int .i64 (K8 : Nat), .int .i64 (k0 : Nat), .int .i64 (k1 : Nat), .int .i64 (k2 : Nat), .int .i64 (k3 : Nat), .int .i64 (k4 : Nat), .slice none 0 0, .slice none 0 0, .slice none 0 0, .slice none 0 0], .slice (some ⟨bp, op, none⟩) m c3, .int .i64 (q4 : Nat)] W fun e w' => ∃ v, e = .returned v ∧ (gtV p).p w' v ∧ Below W.heap.size W w') :=
        Lib.hid (fun W hb => (HRS.out W hb).mono fun e w' ⟨gm, q, z, h1, h2, h3, h4, h5⟩ => ⟨_, h1, ⟨gm, q, z, rfl, h3, h4, fun d hd hl => by
          obtain ⟨t1, t2, t3, t4, t5, t6⟩ := HNU.out d hd hl
          exact h5 d hd (by
            have e1 := hl
            rw [HPL.out] at e1
            have e2 := kind_head hd e1
            rw [e2, HK8.out]) t1 t2 t3 t4 t5 t6⟩, h2⟩)
      go_cut [10, 11] (fun pv zv wx => ∃ (PX : Nat) (gm : Ms) (q : MsAt) (z : Bool), pv = .pointer (some ⟨PX, 0, none⟩) ∧ zv = .bool z ∧ Hid (w4.heap.size ≤ PX) ∧ Hid (RecAt wx PX (msC gm q) 27) ∧ Hid (Below w4.heap.size w4 wx) ∧ Hid (MsRows wx gm q) ∧ Hid (MsNo wx q) ∧ Hid (∀ d, MsOk d → bodyMs d = p → z = true) ∧ Hid (∀ d, MsOk d → bodyMs d = p → gm = d))
      case first =>
        clear HX6 HX7 HB4 HB3 HQN HQY
        have hm1 : (0 : Int) < (m : Int) := by omega
        have hm2 : 0 < m := by omega
        have hwk : IntKind.i64.wrap ((K8 : Nat) : Int) = (K8 : Nat) := by rw [IntKind.wrap_i64]; omega
        have ub0 := Try.underlying27
        have ub1 := Try.sizeOf27
        have cu3 := Try.underlying3
        have cu5 := Try.underlying5
        clear hm0 hmz
        -- REG A
        refine wp_region_ptabW (L := fun ph => match ph with | 0 => [cV (.slice (some ⟨bp, op, none⟩) m c3), cV (.pointer (some ⟨bp, op, none⟩)), cV (.int .u8 (K8 : Nat)), cV (.int .i64 (K8 : Nat)), cV (.slice (some ⟨g, 0, none⟩) 5 c4), cV (.pointer (some ⟨g, 0, none⟩)), cV (.int .i64 (k0 : Nat)), cV (.slice (some ⟨g, 0, none⟩) 5 c4), cV (.pointer (some ⟨g, 1, none⟩)), cV (.int .i64 (k1 : Nat)), cV (.slice (some ⟨g, 0, none⟩) 5 c4), cV (.pointer (some ⟨g, 2, none⟩)), cV (.int .i64 (k2 : Nat)), cV (.slice (some ⟨g, 0, none⟩) 5 c4), cV (.pointer (some ⟨g, 3, none⟩)), cV (.int .i64 (k3 : Nat)), cV (.slice (some ⟨g, 0, none⟩) 5 c4), cV (.pointer (some ⟨g, 4, none⟩)), cV (.int .i64 (k4 : Nat)), cV (.agg #[.int .i64 (K8 : Nat), .int .i64 (k0 : Nat), .int .i64 (k1 : Nat), .int .i64 (k2 : Nat), .int .i64 (k3 : Nat), .int .i64 (k4 : Nat), .slice none 0 0, .slice none 0 0, .slice none 0 0, .slice none 0 0]), cV (.slice (some ⟨bp, op, none⟩) m c3), cV (.int .i64 (q4 : Nat)), gtV p, gtV p, gmV p, zbV p, reV w4, tV, zbV p] | _ => [cV (.slice (some ⟨bp, op, none⟩) m c3), cV (.pointer (some ⟨bp, op, none⟩)), cV (.int .u8 (K8 : Nat)), cV (.int .i64 (K8 : Nat)), cV (.slice (some ⟨g, 0, none⟩) 5 c4), cV (.pointer (some ⟨g, 0, none⟩)), cV (.int .i64 (k0 : Nat)), cV (.slice (some ⟨g, 0, none⟩) 5 c4), cV (.pointer (some ⟨g, 1, none⟩)), cV (.int .i64 (k1 : Nat)), cV (.slice (some ⟨g, 0, none⟩) 5 c4), cV (.pointer (some ⟨g, 2, none⟩)), cV (.int .i64 (k2 : Nat)), cV (.slice (some ⟨g, 0, none⟩) 5 c4), cV (.pointer (some ⟨g, 3, none⟩)), cV (.int .i64 (k3 : Nat)), cV (.slice (some ⟨g, 0, none⟩) 5 c4), cV (.pointer (some ⟨g, 4, none⟩)), cV (.int .i64 (k4 : Nat)), cV (.agg #[.int .i64 (K8 : Nat), .int .i64 (k0 : Nat), .int .i64 (k1 : Nat), .int .i64 (k2 : Nat), .int .i64 (k3 : Nat), .int .i64 (k4 : Nat), .slice none 0 0, .slice none 0 0, .slice none 0 0, .slice none 0 0]), cV (.slice (some ⟨bp, op, none⟩) m c3), cV (.int .i64 (q4 : Nat)), gtV p, gtV p, gmV p, zbV p, stV w4 p, tV, zbV p]) (fun _ wq => Below w4.heap.size w4 wq) [27] [(0, 0), (0, 0), (0, 0), (0, 0), (0, 0), (0, 0), (0, 0), (0, 0), (0, 0), (0, 0), (0, 0), (0, 0), (0, 0), (0, 0), (0, 0), (0, 0), (0, 0), (0, 0), (0, 0), (0, 0), (0, 0), (0, 0), (0, 0), (0, 0), (0, 0), (0, 1), (0, 0), (0, 1), (0, 1)] [[(5, none)], [(36, some 0)], [(37, some 1)], [(38, some 2)], [(7, none)], [(40, some 4)], [(41, some 5)], [(7, none)], [(43, some 7)], [(44, some 8)], [(7, none)], [(46, some 10)], [(47, some 11)], [(7, none)], [(49, some 13)], [(50, some 14)], [(7, none)], [(52, some 16)], [(53, some 17)], [(39, some 3), (42, some 6), (45, some 9), (48, some 12), (51, some 15), (54, some 18)], [(5, none)], [(8, none)], [(55, some 19), (56, some 20), (57, some 21)], [(58, some 22)], [(35, some 23)], [(35, some 23)], [], [(10, some 26), (59, some 24)], [(60, some 25)]] 29 1 80 (by kernel_rfl) rfl rfl rfl (by kernel_rfl) (by kernel_rfl) (by decide) (by kernel_rfl) ?_ ?_ ?_ ?_ ?_
        · exact fun ph w1 w2 h hb => h.trans (hb.mono h.size)
        · exact (Below.refl _ _)
        · show ∀ i, i < 29 → _
          iterate 29 (refine fls ?_ ?_)
          · exact fl0
          · intro hne lo hi ph hran hp1 hp2 a w1 hJ hsz hs      -- 0: slot 36
            obtain ⟨rfl, rfl⟩ : 0 = lo ∧ 0 = hi := Prod.mk.inj (Option.some.inj hran)
            obtain rfl : ph = 0 := by omega
            obtain ⟨h0, _⟩ := hs
            have h0 : a.tmps.getD 5 undef = .slice (some ⟨bp, op, none⟩) m c3 := h0
            refine op_run rfl rfl (v := .slice (some ⟨bp, op, none⟩) m c3) (w' := w1) ?_ rfl (Below.refl _ _)
            simp [execOp, Act.eval, h0, go_sem]
          · intro hne lo hi ph hran hp1 hp2 a w1 hJ hsz hs      -- 1: slot 37
            obtain ⟨rfl, rfl⟩ : 0 = lo ∧ 0 = hi := Prod.mk.inj (Option.some.inj hran)
            obtain rfl : ph = 0 := by omega
            obtain ⟨h0, _⟩ := hs
            have h0 : a.tmps.getD 36 undef = .slice (some ⟨bp, op, none⟩) m c3 := h0
            refine op_run rfl rfl (v := .pointer (some ⟨bp, op, none⟩)) (w' := w1) ?_ rfl (Below.refl _ _)
            simp [execOp, Act.eval, h0, hm1, hm2, go_sem]
          · intro hne lo hi ph hran hp1 hp2 a w1 hJ hsz hs      -- 2: slot 38
            obtain ⟨rfl, rfl⟩ : 0 = lo ∧ 0 = hi := Prod.mk.inj (Option.some.inj hran)
            obtain rfl : ph = 0 := by omega
            obtain ⟨h0, _⟩ := hs
            have h0 : a.tmps.getD 37 undef = .pointer (some ⟨bp, op, none⟩) := h0
            obtain ⟨x5, x0, x1, x2, x3, x4⟩ := HGL.out w1 hJ
            refine op_run rfl rfl (v := .int .u8 (K8 : Nat)) (w' := w1) ?_ rfl (Below.refl _ _)
            simp [execOp, Act.eval, h0, x5, go_sem]
          · intro hne lo hi ph hran hp1 hp2 a w1 hJ hsz hs      -- 3: slot 39
            obtain ⟨rfl, rfl⟩ : 0 = lo ∧ 0 = hi := Prod.mk.inj (Option.some.inj hran)
            obtain rfl : ph = 0 := by omega
            obtain ⟨h0, _⟩ := hs
            have h0 : a.tmps.getD 38 undef = .int .u8 (K8 : Nat) := h0
            exact op_run rfl rfl (v := .int .i64 (K8 : Nat)) (w' := w1) (by simp [execOp, Act.eval, h0, go_sem, cu3, cu5, hwk]) rfl (Below.refl _ _)
          · intro hne lo hi ph hran hp1 hp2 a w1 hJ hsz hs      -- 4: slot 40
            obtain ⟨rfl, rfl⟩ : 0 = lo ∧ 0 = hi := Prod.mk.inj (Option.some.inj hran)
            obtain rfl : ph = 0 := by omega
            obtain ⟨h0, _⟩ := hs
            have h0 : a.tmps.getD 7 undef = .slice (some ⟨g, 0, none⟩) 5 c4 := h0
            refine op_run rfl rfl (v := .slice (some ⟨g, 0, none⟩) 5 c4) (w' := w1) ?_ rfl (Below.refl _ _)
            simp [execOp, Act.eval, h0, go_sem]
          · intro hne lo hi ph hran hp1 hp2 a w1 hJ hsz hs      -- 5: slot 41
            obtain ⟨rfl, rfl⟩ : 0 = lo ∧ 0 = hi := Prod.mk.inj (Option.some.inj hran)
            obtain rfl : ph = 0 := by omega
            obtain ⟨h0, _⟩ := hs
            have h0 : a.tmps.getD 40 undef = .slice (some ⟨g, 0, none⟩) 5 c4 := h0
            refine op_run rfl rfl (v := .pointer (some ⟨g, 0, none⟩)) (w' := w1) ?_ rfl (Below.refl _ _)
            simp [execOp, Act.eval, h0, go_sem]
          · intro hne lo hi ph hran hp1 hp2 a w1 hJ hsz hs      -- 6: slot 42
            obtain ⟨rfl, rfl⟩ : 0 = lo ∧ 0 = hi := Prod.mk.inj (Option.some.inj hran)
            obtain rfl : ph = 0 := by omega
            obtain ⟨h0, _⟩ := hs
            have h0 : a.tmps.getD 41 undef = .pointer (some ⟨g, 0, none⟩) := h0
            obtain ⟨x5, x0, x1, x2, x3, x4⟩ := HGL.out w1 hJ
            refine op_run rfl rfl (v := .int .i64 (k0 : Nat)) (w' := w1) ?_ rfl (Below.refl _ _)
            simp [execOp, Act.eval, h0, x0, go_sem]
          · intro hne lo hi ph hran hp1 hp2 a w1 hJ hsz hs      -- 7: slot 43
            obtain ⟨rfl, rfl⟩ : 0 = lo ∧ 0 = hi := Prod.mk.inj (Option.some.inj hran)
            obtain rfl : ph = 0 := by omega
            obtain ⟨h0, _⟩ := hs
            have h0 : a.tmps.getD 7 undef = .slice (some ⟨g, 0, none⟩) 5 c4 := h0
            refine op_run rfl rfl (v := .slice (some ⟨g, 0, none⟩) 5 c4) (w' := w1) ?_ rfl (Below.refl _ _)
            simp [execOp, Act.eval, h0, go_sem]
          · intro hne lo hi ph hran hp1 hp2 a w1 hJ hsz hs      -- 8: slot 44
            obtain ⟨rfl, rfl⟩ : 0 = lo ∧ 0 = hi := Prod.mk.inj (Option.some.inj hran)
            obtain rfl : ph = 0 := by omega
            obtain ⟨h0, _⟩ := hs
            have h0 : a.tmps.getD 43 undef = .slice (some ⟨g, 0, none⟩) 5 c4 := h0
            refine op_run rfl rfl (v := .pointer (some ⟨g, 1, none⟩)) (w' := w1) ?_ rfl (Below.refl _ _)
            simp [execOp, Act.eval, h0, go_sem]
          · intro hne lo hi ph hran hp1 hp2 a w1 hJ hsz hs      -- 9: slot 45
            obtain ⟨rfl, rfl⟩ : 0 = lo ∧ 0 = hi := Prod.mk.inj (Option.some.inj hran)
            obtain rfl : ph = 0 := by omega
            obtain ⟨h0, _⟩ := hs
            have h0 : a.tmps.getD 44 undef = .pointer (some ⟨g, 1, none⟩) := h0
            obtain ⟨x5, x0, x1, x2, x3, x4⟩ := HGL.out w1 hJ
            refine op_run rfl rfl (v := .int .i64 (k1 : Nat)) (w' := w1) ?_ rfl (Below.refl _ _)
            simp [execOp, Act.eval, h0, x1, go_sem]
          · intro hne lo hi ph hran hp1 hp2 a w1 hJ hsz hs      -- 10: slot 46
            obtain ⟨rfl, rfl⟩ : 0 = lo ∧ 0 = hi := Prod.mk.inj (Option.some.inj hran)
            obtain rfl : ph = 0 := by omega
            obtain ⟨h0, _⟩ := hs
            have h0 : a.tmps.getD 7 undef = .slice (some ⟨g, 0, none⟩) 5 c4 := h0
            refine op_run rfl rfl (v := .slice (some ⟨g, 0, none⟩) 5 c4) (w' := w1) ?_ rfl (Below.refl _ _)
            simp [execOp, Act.eval, h0, go_sem]
          · intro hne lo hi ph hran hp1 hp2 a w1 hJ hsz hs      -- 11: slot 47
            obtain ⟨rfl, rfl⟩ : 0 = lo ∧ 0 = hi := Prod.mk.inj (Option.some.inj hran)
            obtain rfl : ph = 0 := by omega
            obtain ⟨h0, _⟩ := hs
            have h0 : a.tmps.getD 46 undef = .slice (some ⟨g, 0, none⟩) 5 c4 := h0
            refine op_run rfl rfl (v := .pointer (some ⟨g, 2, none⟩)) (w' := w1) ?_ rfl (Below.refl _ _)
            simp [execOp, Act.eval, h0, go_sem]
          · intro hne lo hi ph hran hp1 hp2 a w1 hJ hsz hs      -- 12: slot 48
            obtain ⟨rfl, rfl⟩ : 0 = lo ∧ 0 = hi := Prod.mk.inj (Option.some.inj hran)
            obtain rfl : ph = 0 := by omega
            obtain ⟨h0, _⟩ := hs
            have h0 : a.tmps.getD 47 undef = .pointer (some ⟨g, 2, none⟩) := h0
            obtain ⟨x5, x0, x1, x2, x3, x4⟩ := HGL.out w1 hJ
            refine op_run rfl rfl (v := .int .i64 (k2 : Nat)) (w' := w1) ?_ rfl (Below.refl _ _)
            simp [execOp, Act.eval, h0, x2, go_sem]
          · intro hne lo hi ph hran hp1 hp2 a w1 hJ hsz hs      -- 13: slot 49
            obtain ⟨rfl, rfl⟩ : 0 = lo ∧ 0 = hi := Prod.mk.inj (Option.some.inj hran)
            obtain rfl : ph = 0 := by omega
            obtain ⟨h0, _⟩ := hs
            have h0 : a.tmps.getD 7 undef = .slice (some ⟨g, 0, none⟩) 5 c4 := h0
            refine op_run rfl rfl (v := .slice (some ⟨g, 0, none⟩) 5 c4) (w' := w1) ?_ rfl (Below.refl _ _)
            simp [execOp, Act.eval, h0, go_sem]
          · intro hne lo hi ph hran hp1 hp2 a w1 hJ hsz hs      -- 14: slot 50
            obtain ⟨rfl, rfl⟩ : 0 = lo ∧ 0 = hi := Prod.mk.inj (Option.some.inj hran)
            obtain rfl : ph = 0 := by omega
            obtain ⟨h0, _⟩ := hs
            have h0 : a.tmps.getD 49 undef = .slice (some ⟨g, 0, none⟩) 5 c4 := h0
            refine op_run rfl rfl (v := .pointer (some ⟨g, 3, none⟩)) (w' := w1) ?_ rfl (Below.refl _ _)
            simp [execOp, Act.eval, h0, go_sem]
          · intro hne lo hi ph hran hp1 hp2 a w1 hJ hsz hs      -- 15: slot 51
            obtain ⟨rfl, rfl⟩ : 0 = lo ∧ 0 = hi := Prod.mk.inj (Option.some.inj hran)
            obtain rfl : ph = 0 := by omega
            obtain ⟨h0, _⟩ := hs
            have h0 : a.tmps.getD 50 undef = .pointer (some ⟨g, 3, none⟩) := h0
            obtain ⟨x5, x0, x1, x2, x3, x4⟩ := HGL.out w1 hJ
            refine op_run rfl rfl (v := .int .i64 (k3 : Nat)) (w' := w1) ?_ rfl (Below.refl _ _)
            simp [execOp, Act.eval, h0, x3, go_sem]
          · intro hne lo hi ph hran hp1 hp2 a w1 hJ hsz hs      -- 16: slot 52
            obtain ⟨rfl, rfl⟩ : 0 = lo ∧ 0 = hi := Prod.mk.inj (Option.some.inj hran)
            obtain rfl : ph = 0 := by omega
            obtain ⟨h0, _⟩ := hs
            have h0 : a.tmps.getD 7 undef = .slice (some ⟨g, 0, none⟩) 5 c4 := h0
            refine op_run rfl rfl (v := .slice (some ⟨g, 0, none⟩) 5 c4) (w' := w1) ?_ rfl (Below.refl _ _)
            simp [execOp, Act.eval, h0, go_sem]
          · intro hne lo hi ph hran hp1 hp2 a w1 hJ hsz hs      -- 17: slot 53
            obtain ⟨rfl, rfl⟩ : 0 = lo ∧ 0 = hi := Prod.mk.inj (Option.some.inj hran)
            obtain rfl : ph = 0 := by omega
            obtain ⟨h0, _⟩ := hs
            have h0 : a.tmps.getD 52 undef = .slice (some ⟨g, 0, none⟩) 5 c4 := h0
            refine op_run rfl rfl (v := .pointer (some ⟨g, 4, none⟩)) (w' := w1) ?_ rfl (Below.refl _ _)
            simp [execOp, Act.eval, h0, go_sem]
          · intro hne lo hi ph hran hp1 hp2 a w1 hJ hsz hs      -- 18: slot 54
            obtain ⟨rfl, rfl⟩ : 0 = lo ∧ 0 = hi := Prod.mk.inj (Option.some.inj hran)
            obtain rfl : ph = 0 := by omega
            obtain ⟨h0, _⟩ := hs
            have h0 : a.tmps.getD 53 undef = .pointer (some ⟨g, 4, none⟩) := h0
            obtain ⟨x5, x0, x1, x2, x3, x4⟩ := HGL.out w1 hJ
            refine op_run rfl rfl (v := .int .i64 (k4 : Nat)) (w' := w1) ?_ rfl (Below.refl _ _)
            simp [execOp, Act.eval, h0, x4, go_sem]
          · intro hne lo hi ph hran hp1 hp2 a w1 hJ hsz hs      -- 19: slot 55
            obtain ⟨rfl, rfl⟩ : 0 = lo ∧ 0 = hi := Prod.mk.inj (Option.some.inj hran)
            obtain rfl : ph = 0 := by omega
            obtain ⟨h0, h1, h2, h3, h4, h5, _⟩ := hs
            have h0 : a.tmps.getD 39 undef = .int .i64 (K8 : Nat) := h0
            have g0 : a.tmps[39]?.getD undef = .int .i64 (K8 : Nat) := (Array.getD_eq_getD_getElem? ..).symm.trans h0
            have h1 : a.tmps.getD 42 undef = .int .i64 (k0 : Nat) := h1
            have g1 : a.tmps[42]?.getD undef = .int .i64 (k0 : Nat) := (Array.getD_eq_getD_getElem? ..).symm.trans h1
            have h2 : a.tmps.getD 45 undef = .int .i64 (k1 : Nat) := h2
            have g2 : a.tmps[45]?.getD undef = .int .i64 (k1 : Nat) := (Array.getD_eq_getD_getElem? ..).symm.trans h2
            have h3 : a.tmps.getD 48 undef = .int .i64 (k2 : Nat) := h3
            have g3 : a.tmps[48]?.getD undef = .int .i64 (k2 : Nat) := (Array.getD_eq_getD_getElem? ..).symm.trans h3
            have h4 : a.tmps.getD 51 undef = .int .i64 (k3 : Nat) := h4
            have g4 : a.tmps[51]?.getD undef = .int .i64 (k3 : Nat) := (Array.getD_eq_getD_getElem? ..).symm.trans h4
            have h5 : a.tmps.getD 54 undef = .int .i64 (k4 : Nat) := h5
            have g5 : a.tmps[54]?.getD undef = .int .i64 (k4 : Nat) := (Array.getD_eq_getD_getElem? ..).symm.trans h5
            refine op_run rfl rfl (v := .agg #[.int .i64 (K8 : Nat), .int .i64 (k0 : Nat), .int .i64 (k1 : Nat), .int .i64 (k2 : Nat), .int .i64 (k3 : Nat), .int .i64 (k4 : Nat), .slice none 0 0, .slice none 0 0, .slice none 0 0, .slice none 0 0]) (w' := w1) ?_ rfl (Below.refl _ _)
            simp [execOp, Act.eval, g0, g1, g2, g3, g4, g5, go_sem]
          · intro hne lo hi ph hran hp1 hp2 a w1 hJ hsz hs      -- 20: slot 56
            obtain ⟨rfl, rfl⟩ : 0 = lo ∧ 0 = hi := Prod.mk.inj (Option.some.inj hran)
            obtain rfl : ph = 0 := by omega
            obtain ⟨h0, _⟩ := hs
            have h0 : a.tmps.getD 5 undef = .slice (some ⟨bp, op, none⟩) m c3 := h0
            refine op_run rfl rfl (v := .slice (some ⟨bp, op, none⟩) m c3) (w' := w1) ?_ rfl (Below.refl _ _)
            simp [execOp, Act.eval, h0, go_sem]
          · intro hne lo hi ph hran hp1 hp2 a w1 hJ hsz hs      -- 21: slot 57
            obtain ⟨rfl, rfl⟩ : 0 = lo ∧ 0 = hi := Prod.mk.inj (Option.some.inj hran)
            obtain rfl : ph = 0 := by omega
            obtain ⟨h0, _⟩ := hs
            have h0 : a.tmps.getD 8 undef = .int .i64 (q4 : Nat) := h0
            refine op_run rfl rfl (v := .int .i64 (q4 : Nat)) (w' := w1) ?_ rfl (Below.refl _ _)
            simp [execOp, Act.eval, h0, go_sem]
          · intro hne lo hi ph hran hp1 hp2 a w1 hJ hsz hs      -- 22: slot 58
            obtain ⟨rfl, rfl⟩ : 0 = lo ∧ 0 = hi := Prod.mk.inj (Option.some.inj hran)
            obtain rfl : ph = 0 := by omega
            obtain ⟨h0, h1, h2, _⟩ := hs
            have h0 : a.tmps.getD 55 undef = .agg #[.int .i64 (K8 : Nat), .int .i64 (k0 : Nat), .int .i64 (k1 : Nat), .int .i64 (k2 : Nat), .int .i64 (k3 : Nat), .int .i64 (k4 : Nat), .slice none 0 0, .slice none 0 0, .slice none 0 0, .slice none 0 0] := h0
            have h1 : a.tmps.getD 56 undef = .slice (some ⟨bp, op, none⟩) m c3 := h1
            have h2 : a.tmps.getD 57 undef = .int .i64 (q4 : Nat) := h2
            refine op_call rfl rfl (f := 35) (args := #[.agg #[.int .i64 (K8 : Nat), .int .i64 (k0 : Nat), .int .i64 (k1 : Nat), .int .i64 (k2 : Nat), .int .i64 (k3 : Nat), .int .i64 (k4 : Nat), .slice none 0 0, .slice none 0 0, .slice none 0 0, .slice none 0 0], .slice (some ⟨bp, op, none⟩) m c3, .int .i64 (q4 : Nat)]) (by simp [execOp, Act.eval, resolve, h0, h1, h2, go_sem]) ?_
            exact HRC.out w1 hJ
          · intro hne lo hi ph hran hp1 hp2 a w1 hJ hsz hs      -- 23: slot 35
            obtain ⟨rfl, rfl⟩ : 0 = lo ∧ 0 = hi := Prod.mk.inj (Option.some.inj hran)
            obtain rfl : ph = 0 := by omega
            obtain ⟨h0, _⟩ := hs
            have m0 : (gtV p).p w1 (a.tmps.getD 58 undef) := h0
            exact op_run rfl rfl (v := a.tmps.getD 58 undef) (w' := w1) (by simp [execOp, Act.eval, go_sem]) m0 (Below.refl _ _)
          · intro hne lo hi ph hran hp1 hp2 a w1 hJ hsz hs      -- 24: slot 59
            obtain ⟨rfl, rfl⟩ : 0 = lo ∧ 0 = hi := Prod.mk.inj (Option.some.inj hran)
            obtain rfl : ph = 0 := by omega
            obtain ⟨h0, _⟩ := hs
            have m0 : (gtV p).p w1 (a.tmps.getD 35 undef) := h0
            obtain ⟨gm, q, z, hv9, hrw, hno, hd⟩ := m0
            exact op_run rfl rfl (v := msV gm q) (w' := w1) (by simp [execOp, Act.eval, hv9, go_sem]) ⟨gm, q, rfl, hrw, hno, fun d h1 h2 => (hd d h1 h2).2⟩ (Below.refl _ _)
          · intro hne lo hi ph hran hp1 hp2 a w1 hJ hsz hs      -- 25: slot 60
            obtain ⟨rfl, rfl⟩ : 0 = lo ∧ 1 = hi := Prod.mk.inj (Option.some.inj hran)
            rcases (by omega : ph = 0 ∨ ph = 1) with rfl | rfl
            · obtain ⟨h0, _⟩ := hs
              have m0 : (gtV p).p w1 (a.tmps.getD 35 undef) := h0
              obtain ⟨gm, q, z, hv9, hrw, hno, hd⟩ := m0
              exact op_run rfl rfl (v := .bool z) (w' := w1) (by simp [execOp, Act.eval, hv9, go_sem]) ⟨z, rfl, fun d h1 h2 => (hd d h1 h2).1⟩ (Below.refl _ _)
            · obtain ⟨h0, _⟩ := hs
              have m0 : (gtV p).p w1 (a.tmps.getD 35 undef) := h0
              obtain ⟨gm, q, z, hv9, hrw, hno, hd⟩ := m0
              exact op_run rfl rfl (v := .bool z) (w' := w1) (by simp [execOp, Act.eval, hv9, go_sem]) ⟨z, rfl, fun d h1 h2 => (hd d h1 h2).1⟩ (Below.refl _ _)
          · intro hne lo hi ph hran hp1 hp2 a w1 hJ hsz hs      -- 26: slot 10
            obtain ⟨rfl, rfl⟩ : 0 = lo ∧ 0 = hi := Prod.mk.inj (Option.some.inj hran)
            obtain rfl : ph = 0 := by omega
            refine op_run rfl rfl (v := .pointer (some ⟨w1.heap.size, 0, none⟩)) (w' := w1.alloc (.cells zeroMs 27)) ?_ ⟨w1.heap.size, rfl, RecAt.new w1 _ _, (show Below w4.heap.size w4 w1 from hJ).size⟩ ((Below.refl _ _).alloc (Nat.le_refl _) _)
            simp [execOp, Act.eval, go_sem, ub0, ub1, zeroMs]
          · intro hne lo hi ph hran hp1 hp2 a w1 hJ hsz hs      -- 27: slot None
            exact absurd (by decide) hne
          · intro hne lo hi ph hran hp1 hp2 a w1 hJ hsz hs      -- 28: slot 11
            obtain ⟨rfl, rfl⟩ : 0 = lo ∧ 1 = hi := Prod.mk.inj (Option.some.inj hran)
            rcases (by omega : ph = 0 ∨ ph = 1) with rfl | rfl
            · obtain ⟨h0, _⟩ := hs
              have m0 : (zbV p).p w1 (a.tmps.getD 60 undef) := h0
              exact op_run rfl rfl (v := a.tmps.getD 60 undef) (w' := w1) (by simp [execOp, Act.eval, go_sem]) m0 (Below.refl _ _)
            · obtain ⟨h0, _⟩ := hs
              have m0 : (zbV p).p w1 (a.tmps.getD 60 undef) := h0
              exact op_run rfl rfl (v := a.tmps.getD 60 undef) (w' := w1) (by simp [execOp, Act.eval, go_sem]) m0 (Below.refl _ _)
        · show ∀ ph, ph < 1 → _
          iterate 1 (refine fls ?_ ?_)
          · exact fl0
          · intro i hi a w1 hJ hsz hs      -- heavy 0: op 27 slot None
            obtain rfl : 27 = i := Option.some.inj hi
            obtain ⟨h0, h1, _⟩ := hs
            have m0 : (reV w4).p w1 (a.tmps.getD 10 undef) := h0
            have m1 : (gmV p).p w1 (a.tmps.getD 59 undef) := h1
            obtain ⟨PX, hv10, hX, hXs⟩ := m0
            obtain ⟨gm, q, hv59, hrw, hno, hgd⟩ := m1
            refine hv_recW rfl rfl (x := PX) (p := .tmp 10) (v := .tmp 59) (cs := zeroMs) (vs := msC gm q) rfl hv10 hv59 hX rfl (by kernel_rfl) (by kernel_rfl) (fun w' => trivial) ?_
            intro w' r1 r2 r3 r4
            have hb : Below w4.heap.size w4 w' := (show Below w4.heap.size w4 w1 from hJ).grown r4 (show Below w4.heap.size w4 w1 from hJ).size (fun q e => by cases e; exact hXs)
            have hst : ∀ v, v = a.tmps.getD 10 undef → (stV w4 p).p w' v := fun v hh => ⟨PX, gm, q, hh.trans hv10, hXs, r1, hrw.onlyN hno r3 hX noB8_zero, hno.only r3 hX, hgd⟩
            have hgt : ∀ v, (gtV p).p w1 v → (gtV p).p w' v := fun v ⟨gm, q, z, h1, h2, h3, h4⟩ => ⟨gm, q, z, h1, h2.onlyN h3 r3 hX noB8_zero, h3.only r3 hX, h4⟩
            have hgm : ∀ v, (gmV p).p w1 v → (gmV p).p w' v := fun v ⟨gm, q, h1, h2, h3, h4⟩ => ⟨gm, q, h1, h2.onlyN h3 r3 hX noB8_zero, h3.only r3 hX, h4⟩
            exact ⟨hb, CalmW.all ⟨.inr fun _ _ h => h, .inr fun _ _ h => h, .inr fun _ _ h => h, .inr fun _ _ h => h, .inr fun _ _ h => h, .inr fun _ _ h => h, .inr fun _ _ h => h, .inr fun _ _ h => h, .inr fun _ _ h => h, .inr fun _ _ h => h, .inr fun _ _ h => h, .inr fun _ _ h => h, .inr fun _ _ h => h, .inr fun _ _ h => h, .inr fun _ _ h => h, .inr fun _ _ h => h, .inr fun _ _ h => h, .inr fun _ _ h => h, .inr fun _ _ h => h, .inr fun _ _ h => h, .inr fun _ _ h => h, .inr fun _ _ h => h, .inr fun v _ h => hgt v h, .inr fun v _ h => hgt v h, .inr fun v _ h => hgm v h, .inr fun _ _ h => h, .inr fun v hh _ => hst v (hh _ _ rfl rfl), .inl rfl, .inr fun _ _ h => h, trivial⟩⟩
        intro f w1 hJ hv
        have e10 : (stV w4 p).p w1 (f 10) := hv 26 _ 10 rfl rfl
        have e11 : (zbV p).p w1 (f 11) := hv 28 _ 11 rfl rfl
        clear hv
        try simp only [Exit.then]
        simp only [putAll, List.foldl_cons, List.foldl_nil, Option.getD_some, Act.put, List.setIfInBounds_toArray, List.set_cons_succ, List.set_cons_zero]
        obtain ⟨PX, gm, q, e1, hXs, hX, hrw, hno, hgd⟩ := e10
        obtain ⟨z, e2, hz⟩ := e11
        rw [e1, e2]
        -- END A
        go_wp2_with fail
        go_meet
        all_goals exact ⟨PX, gm, q, z, rfl, rfl, Lib.hid hXs, Lib.hid hX, Lib.hid (show Below w4.heap.size w4 w1 from hJ), Lib.hid hrw, Lib.hid hno, Lib.hid hz, Lib.hid hgd⟩
      case rest =>
        obtain ⟨PX, gm, q, z, rfl, rfl, hPX, hX, hB, hRW, hNO, hZ, hG⟩ := hcut
        have HB5 := Lib.hid (HB4.out.trans (hB.out.mono HB4.out.size))
        have HXa := Lib.hid (HX6.out.later hB.out)
        have HXb := Lib.hid (HX7.out.later hB.out)
        clear HX6 HX7 z0 z1 z2 z3 z4 hcb4
        obtain ⟨y0, y1, y2, y3, y4, y5, y6, y7, y8, y9⟩ := HXb.out.c10
        cases z with
        | false =>
          have HF := Lib.hid (getMs_vain HOO.out (fun d hd hl => by have := hZ.out d hd hl; cases this))
          go_wp2_with (refine wpList_rec rfl rfl P2 zeroMs zeroMs rfl rfl HXa.out rfl (by kernel_rfl) (by kernel_rfl) ?_; intro w8 r1 r2 r3 r4)
          refine bodyPost_ret (results_ct rfl rfl r1 Try.underlying27 rfl (by kernel_rfl)) rfl ?_
          exact HQN.out _ _ HF.out (HB5.out.grown r4 HB5.out.size (fun q e => by cases e; exact Nat.le_of_eq HP2.out))
        | true =>
          have HPU := Lib.hid (msrput_any gm q _ hRW.out)
          obtain ⟨k, nn, o, f, s, u, C, E, T, D⟩ := gm
          obtain ⟨ac, nc, cc, ae, ne, ce, am, nm, cm, ad', nd, cd⟩ := q
          simp only [msC] at hX HPU
          obtain ⟨v0, v1, v2, v3, v4, v5, v6, v7, v8, v9⟩ := hX.out.c10
          obtain ⟨G, hGG⟩ : ∃ G : Ms, (⟨k, nn, o, f, s, u, C, E, T, D⟩ : Ms) = G := ⟨_, rfl⟩
          obtain ⟨q, hq⟩ : ∃ q : MsAt, (⟨ac, nc, cc, ae, ne, ce, am, nm, cm, ad', nd, cd⟩ : MsAt) = q := ⟨_, rfl⟩
          have HGG := Lib.hid hGG
          have HQQ := Lib.hid hq
          rw [hGG] at hG hRW
          rw [hq] at hRW hNO
          clear hGG hq
          cases hrt : rightMs G with
          | false =>
            have HE : Hid (getMs l = (noMs, 2)) := Lib.hid (guessMs_not (g := G) HOO.out hG.out (.inl hrt))
            have HPU : Hid (Calls Try.prog 11 #[.agg #[.int .i64 k, .int .i64 nn, .int .i64 o, .int .i64 f, .int .i64 s, .int .i64 u, .slice ac nc cc, .slice ae ne ce, .slice am nm cm, .slice ad' nd cd]] wc fun e w' => ∃ v, e = .returned (.tuple #[v, .int .i64 1]) ∧ Own wc w' v []) := Lib.hid (HPU.out.mono fun e w' ⟨v, h1, h2⟩ => ⟨v, by rw [HGG.out, putMs_no hrt] at h1; exact h1, by rw [HGG.out, putMs_no hrt] at h2; exact h2⟩)
            clear hrt
            go_wp2_with fail
            refine HPU.out.mono ?_
            rintro e w7 ⟨v7, rfl, o7⟩
            have HB7 := Lib.hid (HB5.out.trans (o7.below.mono HB5.out.size))
            have HX8 := Lib.hid (HXa.out.later o7.below)
            have HX9 := Lib.hid (HXb.out.later o7.below)
            clear o7 y0 y1 y2 y3 y4 y5 y6 y7 y8 y9
            obtain ⟨y0, y1, y2, y3, y4, y5, y6, y7, y8, y9⟩ := HX9.out.c10
            go_wp2_with (refine wpList_rec rfl rfl P2 zeroMs zeroMs rfl rfl HX8.out rfl (by kernel_rfl) (by kernel_rfl) ?_; intro w8 r1 r2 r3 r4)
            refine bodyPost_ret (results_ct rfl rfl r1 Try.underlying27 rfl (by kernel_rfl)) rfl ?_
            exact HQN.out _ _ HE.out (HB7.out.grown r4 HB7.out.size (fun q e => by cases e; exact Nat.le_of_eq HP2.out))
          | true =>
            have HPU : Hid (Calls Try.prog 11 #[.agg #[.int .i64 k, .int .i64 nn, .int .i64 o, .int .i64 f, .int .i64 s, .int .i64 u, .slice ac nc cc, .slice ae ne ce, .slice am nm cm, .slice ad' nd cd]] wc fun e w' => ∃ v, e = .returned (.tuple #[v, .int .i64 0]) ∧ Own wc w' v (sealL (bodyMs G))) := Lib.hid (HPU.out.mono fun e w' ⟨v, h1, h2⟩ => ⟨v, by rw [HGG.out, putMs_yes hrt] at h1; exact h1, by rw [HGG.out, putMs_yes hrt] at h2; exact h2⟩)
            have HRT := Lib.hid hrt
            clear hrt
            obtain ⟨S, hS⟩ : ∃ S, sealL (bodyMs G) = S := ⟨_, rfl⟩
            rw [hS] at HPU
            have HSS := Lib.hid hS
            clear hS
            go_wp2_with fail
            refine HPU.out.mono ?_
            rintro e w7 ⟨v7, rfl, o7⟩
            obtain ⟨m7, hm7⟩ : ∃ m, S.length = m := ⟨_, rfl⟩
            obtain ⟨a7, c7, rfl, r7⟩ := o7.row_n hm7
            have HB7 := Lib.hid (HB5.out.trans (o7.below.mono HB5.out.size))
            have HX8 := Lib.hid (HXa.out.later o7.below)
            have HX9 := Lib.hid (HXb.out.later o7.below)
            have HX14 := Lib.hid (hX.out.later o7.below)
            have HRW7 := Lib.hid (hRW.out.later o7.below)
            have HNO7 := Lib.hid (hNO.out.later o7.below)
            have q1 := conv_row_n r7 hm7
            have q2 := conv_row_n (HR.out.later HB7.out) HN.out
            have HBE : Hid (((⟨S.toArray⟩ : ByteArray) = ⟨l.toArray⟩) ↔ S = l) := Lib.hid bytes_eq
            generalize (⟨S.toArray⟩ : ByteArray) = S1 at *
            generalize (⟨l.toArray⟩ : ByteArray) = S2 at *
            clear o7 r7 hm7 y0 y1 y2 y3 y4 y5 y6 y7 y8 y9 v0 v1 v2 v3 v4 v5 v6 v7 v8 v9
            by_cases he : S = l
            · have HF := Lib.hid (guessMs_yes HOO.out HRT.out (by rw [HSS.out]; exact he))
              have hd : (S1.toList == S2.toList) = true := (sbeq_iff _ _).2 (HBE.out.2 he)
              have hd2 : (S1.toList != S2.toList) = false := by rw [bne, hd]; rfl
              clear he
              obtain ⟨y0, y1, y2, y3, y4, y5, y6, y7, y8, y9⟩ := HX14.out.c10
              go_wp2_with (refine wpList_rec rfl rfl P2 zeroMs #[.int .i64 k, .int .i64 nn, .int .i64 o, .int .i64 f, .int .i64 s, .int .i64 u, .slice ac nc cc, .slice ae ne ce, .slice am nm cm, .slice ad' nd cd] rfl rfl HX8.out rfl (by kernel_rfl) (by kernel_rfl) ?_; intro w8 r1 r2 r3 r4)
              refine bodyPost_ret (results_ct rfl rfl r1 Try.underlying27 rfl (by kernel_rfl)) rfl ?_
              have hfin := HQY.out G q w8 HF.out (HRW7.out.onlyN HNO7.out r3 HX8.out (noB8_ms _ _ _ _ _ _ _ _ _ _ _ _ _ _ _ _ _ _)) (HB7.out.grown r4 HB7.out.size (fun q e => by cases e; exact Nat.le_of_eq HP2.out))
              rw [← HGG.out, ← HQQ.out] at hfin
              exact hfin
            · have HF := Lib.hid (guessMs_not (g := G) HOO.out hG.out (.inr (by rw [HSS.out]; exact he)))
              have hd : (S1.toList == S2.toList) = false := sbeq_no fun h => he (HBE.out.1 h)
              have hd2 : (S1.toList != S2.toList) = true := by rw [bne, hd]; rfl
              clear he
              obtain ⟨y0, y1, y2, y3, y4, y5, y6, y7, y8, y9⟩ := HX9.out.c10
              go_wp2_with (refine wpList_rec rfl rfl P2 zeroMs zeroMs rfl rfl HX8.out rfl (by kernel_rfl) (by kernel_rfl) ?_; intro w8 r1 r2 r3 r4)
              refine bodyPost_ret (results_ct rfl rfl r1 Try.underlying27 rfl (by kernel_rfl)) rfl ?_
              exact HQN.out _ _ HF.out (HB7.out.grown r4 HB7.out.size (fun q e => by cases e; exact Nat.le_of_eq HP2.out))
    · have HF := Lib.hid (getMs_vain HOO.out (fun d hd hl => by rw [get_nums5 hd hl 5 (by omega)] at hA4; cases hA4))
      have HB5 := Lib.hid (HB3.out.trans (hb4.mono HB3.out.size))
      have HXa := Lib.hid (HX3.out.later hb4)
      have HXb := Lib.hid (HX5.out.later hb4)
      clear hA4 y0 y1 y2 y3 y4 y5 y6 y7 y8 y9
      obtain ⟨y0, y1, y2, y3, y4, y5, y6, y7, y8, y9⟩ := HXb.out.c10
      go_wp2_with (refine wpList_rec rfl rfl P2 zeroMs zeroMs rfl rfl HXa.out rfl (by kernel_rfl) (by kernel_rfl) ?_; intro w8 r1 r2 r3 r4)
      refine bodyPost_ret (results_ct rfl rfl r1 Try.underlying27 rfl (by kernel_rfl)) rfl ?_
      exact HQN.out _ _ HF.out (HB5.out.grown r4 HB5.out.size (fun q e => by cases e; exact Nat.le_of_eq HP2.out))
end Go.Proofs.Ytiahifpbofkimaa
