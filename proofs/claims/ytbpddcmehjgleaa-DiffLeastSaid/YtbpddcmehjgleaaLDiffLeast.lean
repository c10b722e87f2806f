/- The law 'DiffLeast', walked. -/
import Derived.Test.YtbpddcmehjgleaaGDd
import Derived.Test.YtbpddcmehjgleaaGDa
namespace Go.Proofs.Ytbpddcmehjgleaa
open Go.RowKit Go.Proofs
set_option linter.unusedVariables false
set_option linter.unusedSimpArgs false
set_option linter.unnecessarySimpa false

/-- All that was there stays, but for v's own block. -/
def KeepV (w w' : World) (v : Value) : Prop := w.heap.size ≤ w'.heap.size ∧ ∀ b, b < w.heap.size → v.ownBlock ≠ some b → w'.heap[b]? = w.heap[b]?
theorem KeepV.refl (w : World) (v : Value) : KeepV w w v := ⟨Nat.le_refl _, fun _ _ _ => rfl⟩
theorem KeepV.later {w w1 w2 : World} {v : Value} (h : KeepV w w1 v) (hb : Below w1.heap.size w1 w2) : KeepV w w2 v := ⟨Nat.le_trans h.1 hb.size, fun b hlt hn => (hb.block b (by have := h.1; omega)).trans (h.2 b hlt hn)⟩
theorem KeepV.grown {w w1 w2 : World} {v : Value} {g : Nat} (h : KeepV w w1 v) (hg : w1.grownBy w2 (some g)) (hv : v.ownBlock = some g) : KeepV w w2 v := ⟨Nat.le_trans h.1 hg.size, fun b hlt hn => (hg.block b (by have := h.1; omega) (fun e => hn (by rw [hv, e]))).trans (h.2 b hlt hn)⟩
theorem KeepV.trans {w w1 w2 : World} {v : Value} (h : KeepV w w1 v) (k : KeepV w1 w2 v) : KeepV w w2 v := ⟨Nat.le_trans h.1 k.1, fun b hlt hn => (k.2 b (by have := h.1; omega) hn).trans (h.2 b hlt hn)⟩
theorem KeepV.qe {w w' : World} {v : Value} {a : Option Addr} {n c : Nat} {l : List Ev} (hk : KeepV w w' v) (h : QE (fun b => v.ownBlock ≠ some b) w (.slice a n c) l) : QE (fun b => v.ownBlock ≠ some b) w' (.slice a n c) l := h.keep ev_rel (fun b hb hj => hk.2 b hb hj) hk.1
theorem layB_part {t b : List UInt8} {O N q : Nat} {y : UInt8} (ht : t.length = b.length) (hO : O + N ≤ b.length) (hq : q < N) (hy : b[O + q]? = some y) : (layB t O ((b.drop O).take q)).set (O + q) y = layB t O ((b.drop O).take (q + 1)) := by
  have hl : ((b.drop O).take q).length = q := by rw [List.length_take, List.length_drop]; omega
  have hl2 : ((b.drop O).take (q + 1)).length = q + 1 := by rw [List.length_take, List.length_drop]; omega
  apply List.ext_getElem?
  intro j
  rw [List.getElem?_set, layB_get (by rw [hl]; omega), layB_get (by rw [hl2]; omega), hl, hl2, layB_len (by rw [hl]; omega)]
  by_cases c : O + q = j
  · subst c
    rw [if_pos rfl, if_pos (by omega), if_neg (by omega), if_pos (by omega), List.getElem?_take, if_pos (by omega), List.getElem?_drop, ← hy]
    congr 1; omega
  · rw [if_neg c]
    by_cases c2 : j < O
    · rw [if_pos c2, if_pos c2]
    · rw [if_neg c2, if_neg c2]
      by_cases c3 : j < O + q
      · rw [if_pos c3, if_pos (by omega), List.getElem?_take, List.getElem?_take, if_pos (by omega), if_pos (by omega)]
      · rw [if_neg c3, if_neg (by omega)]
theorem layB_take0 (t b : List UInt8) (O : Nat) : layB t O ((b.drop O).take 0) = t := by unfold layB; simp
theorem u8_ne {x y : UInt8} (h : x ≠ y) : (((x.toNat : Nat) : Int) == ((y.toNat : Nat) : Int)) = false := by
  rw [beq_eq_false_iff_ne]; intro e; exact h (UInt8.toNat_inj.1 (by omega))
set_option maxRecDepth 100000 in
set_option maxHeartbeats 12800000 in
theorem diffLeast_walk (a1 a2 : Option Addr) (n m c1 c2 : Nat) (la lb : List UInt8) (w : World) (h1 : Row w a1 c1 la) (h2 : Row w a2 c2 lb) (hn : la.length = n) (hm : lb.length = m) :
    Calls Try.prog 7 #[.slice a1 n c1, .slice a2 m c2] w fun e w' => e = .returned (.bool true) ∧ Below w.heap.size w w' := by
  have hc1 := h1.lim hn
  have hc2 := h2.lim hm
  have HR1 := Lib.hid h1
  have HR2 := Lib.hid h2
  have HN := Lib.hid hn
  have HM := Lib.hid hm
  clear h1 h2 hn hm
  go_enter Try.func7, Try.ntmps7
  by_cases g1 : (n : Int) > 512
  · have gd1 : decide ((n : Int) > 512) = true := decide_eq_true g1
    have HBG : Hid (bytesD la lb = []) := Lib.hid (bytesD_big (by rw [HN.out, HM.out]; omega))
    go_wp2_with fail
    refine (pbytes15_any a1 a2 n m c1 c2 la lb _ HR1.out HR2.out HN.out HM.out).mono ?_
    rw [HBG.out]
    rintro e w1 ⟨v1, rfl, o1⟩
    obtain ⟨a9, c9, rfl⟩ := o1.val evT_ok (n := 0) rfl
    have HB1 := Lib.hid o1.below
    clear o1
    go_wp2_with fail
    refine (known15_any _).mono ?_
    rintro e wk ⟨rfl, bk⟩
    have HBk := Lib.hid (HB1.out.trans (bk.mono HB1.out.size))
    clear bk
    go_wp2_with fail
    go_ret
    exact ⟨rfl, HBk.out⟩
  have gd1 : decide ((n : Int) > 512) = false := decide_eq_false g1
  by_cases g2 : (m : Int) > 512
  · have gd2 : decide ((m : Int) > 512) = true := decide_eq_true g2
    have HBG : Hid (bytesD la lb = []) := Lib.hid (bytesD_big (by rw [HN.out, HM.out]; omega))
    go_wp2_with fail
    refine (pbytes15_any a1 a2 n m c1 c2 la lb _ HR1.out HR2.out HN.out HM.out).mono ?_
    rw [HBG.out]
    rintro e w1 ⟨v1, rfl, o1⟩
    obtain ⟨a9, c9, rfl⟩ := o1.val evT_ok (n := 0) rfl
    have HB1 := Lib.hid o1.below
    clear o1
    go_wp2_with fail
    refine (known15_any _).mono ?_
    rintro e wk ⟨rfl, bk⟩
    have HBk := Lib.hid (HB1.out.trans (bk.mono HB1.out.size))
    clear bk
    go_wp2_with fail
    go_ret
    exact ⟨rfl, HBk.out⟩
  have gd2 : decide ((m : Int) > 512) = false := decide_eq_false g2
  have hn5 : n ≤ 512 := by omega
  have hm5 : m ≤ 512 := by omega
  have HAS : Hid (bytesD la lb = (if n = m then [] else [⟨4, 0, (m : Int), [], []⟩]) ++ piecesF (sizedL la m) lb (m + 1) 0) := Lib.hid (by have := bytesD_as (a := la) (b := lb) (by rw [HN.out]; omega) (by rw [HM.out]; omega); rw [HN.out, HM.out] at this; exact this)
  have HLS : Hid (LeastM lb (sizedL la m) (-1) false (piecesF (sizedL la m) lb (m + 1) 0)) := Lib.hid (by have := bytes_least (a := la) (b := lb) (by rw [HM.out]; omega); rw [HM.out] at this; exact this)
  have HSL0 : Hid ((sizedL la m).length = m) := Lib.hid (sizedL_len _ _)
  go_wp2_with fail
  clear gd1 gd2 g1 g2
  refine (rsized_any a1 n c1 la m w HR1.out HN.out (by omega) (by omega)).mono ?_
  rintro e w3 ⟨sv, rfl, o3⟩
  obtain ⟨SS, hSS⟩ : ∃ z, sizedL la m = z := ⟨_, rfl⟩
  rw [hSS] at o3 HAS HLS HSL0
  obtain ⟨sa, cs, rfl, -⟩ := o3.row_n HSL0.out
  have HO3 := Lib.hid o3
  obtain ⟨PF, hPF⟩ : ∃ z, piecesF SS lb (m + 1) 0 = z := ⟨_, rfl⟩
  rw [hPF] at HAS HLS
  clear o3 hSS hPF
  go_wp2_with fail
  refine (pbytes15_any a1 a2 n m c1 c2 la lb w3 (HR1.out.later HO3.out.below) (HR2.out.later HO3.out.below) HN.out HM.out).mono ?_
  rw [HAS.out]
  rintro e w4 ⟨v4, rfl, o4⟩
  obtain ⟨NL, hNL⟩ : ∃ z, ((if n = m then [] else [⟨4, 0, (m : Int), [], []⟩]) ++ PF : List Ev).length = z := ⟨_, rfl⟩
  obtain ⟨a4, c4, rfl⟩ := o4.val evT_ok hNL
  have HO4 := Lib.hid (HO3.out.later o4.below)
  have HQ4 : Hid (QE (fun b => (Value.slice sa m cs).ownBlock ≠ some b) w4 (.slice a4 NL c4) ((if n = m then [] else [⟨4, 0, (m : Int), [], []⟩]) ++ PF)) := Lib.hid (((o4.row evT_ok ev_rel (fun b h => h)).q).weak ev_rel fun b _ hj e => by have := (HO3.out.ltB e).2; unfold newB at hj; omega)
  have HNL := Lib.hid hNL
  have HLC := Lib.hid HQ4.out.lim
  obtain ⟨NP, hNP⟩ : ∃ z, PF.length = z := ⟨_, rfl⟩
  have HNP := Lib.hid hNP
  clear o4 hNL hNP HO3
  obtain ⟨DB, hDB⟩ : ∃ z : Bool, ((n : Int) != (m : Int)) = z := ⟨_, rfl⟩
  have HDB := Lib.hid hDB
  go_upto_if 40 with fail
  clear hDB
  go_cut [6] (fun v wx => ∃ (a : Option Addr) (c : Nat), v = .slice a NP c ∧ Hid (QE (fun b => (Value.slice sa m cs).ownBlock ≠ some b) w4 (.slice a NP c) PF) ∧ Hid (NP ≤ c ∧ c ≤ 9223372036854775807) ∧ wx = w4)
  case first =>
    cases DB with
    | false =>
      have hnm : n = m := by have := HDB.out; simp at this; omega
      have hq := HQ4.out
      have hl := HNL.out
      rw [if_pos hnm, List.nil_append] at hq hl
      obtain rfl : NP = NL := by rw [← HNP.out, hl]
      have HQ := Lib.hid hq
      clear hnm hq hl
      go_wp2_with fail
      go_meet
      exact ⟨_, _, rfl, HQ, HLC, rfl⟩
    | true =>
      have hnm : ¬ n = m := by have := HDB.out; simp at this; omega
      have hq := HQ4.out
      have hl := HNL.out
      rw [if_neg hnm] at hq hl
      have hl2 : NL = NP + 1 := by rw [← hl, ← HNP.out]; simp
      subst hl2
      obtain ⟨b1, f1, S, e1, k1, rfl, p0, p1, p2, p3, p4, -, -, -⟩ := hq.e5 (i := 0) rfl
      simp only [Nat.zero_mul, Nat.add_zero] at p0 p1 p2 p3 p4
      have HQ := Lib.hid (hq.drop (k := 1) (by omega))
      rw [show NP + 1 - 1 = NP by omega] at HQ
      have hsl := fun W => run_slG_end evT_ok (W := W) (a := some ⟨b1, f1, none⟩) (n := NP + 1) (cap := c4) (lo := 1) (S := 23) rfl HLC.out.1 (by omega)
      rw [show NP + 1 - 1 = NP by omega] at hsl
      simp only [show ((1 : Nat) : Int) = 1 from rfl] at hsl
      obtain ⟨A1, hA1⟩ : ∃ z, cutA 5 (some ⟨b1, f1, none⟩) 1 c4 = z := ⟨_, rfl⟩
      rw [hA1] at hsl HQ
      clear hA1
      have hne0 : (((NP + 1 : Nat) : Int) == 0) = false := by rw [beq_eq_false_iff_ne]; omega
      have hne1 : ((NP : Int) + 1 == 0) = false := by rw [beq_eq_false_iff_ne]; omega
      have hne2 : (((m : Nat) : Int) != ((m : Nat) : Int)) = false := by simp
      have hlt0 : (0 : Int) < (NP : Int) + 1 := by omega
      have hcx := HLC.out
      clear hnm hq hl
      go_wp2_with fail
      go_meet
      exact ⟨_, _, rfl, HQ, Lib.hid ⟨by omega, by omega⟩, rfl⟩
  case rest =>
    obtain ⟨al, cap, rfl, HQ, HCP, rfl⟩ := hcut
    clear HQ4 HNL HLC HDB HAS
    obtain ⟨hcp1, hcp2⟩ := HCP.out
    obtain ⟨wq0, hwq0⟩ : ∃ W, W = wc := ⟨_, rfl⟩
    subst hwq0
    go_wp2_with fail
    go_loopw [7, 8, 9] (fun en fu i wr => ∃ (j : Nat) (E : Int) (F : Bool) (t : List UInt8), en = .int .i64 E ∧ fu = .bool F ∧ i = .int .i64 j ∧ j ≤ NP ∧ t.length = m ∧ -1 ≤ E ∧ E ≤ 512 ∧ Hid (Own w wr (.slice sa m cs) t) ∧ Hid (LeastM lb t E F (PF.drop j)) ∧ Hid (KeepV wq0 wr (.slice sa m cs))) (fun _ _ i _ => NP - (intOf i).toNat)
    case atStart => exact ⟨0, -1, false, SS, rfl, rfl, rfl, by omega, HSL0.out, by omega, by omega, HO4, by simpa using HLS, Lib.hid (KeepV.refl _ _)⟩
    case round =>
      obtain ⟨j, E, F, t, rfl, rfl, rfl, hj, htl, hE1, hE2, HO, HLE, HK⟩ := hrel
      obtain ⟨wz, hwz⟩ : ∃ W, W = wr := ⟨_, rfl⟩
      subst hwz
      by_cases hjn : (j : Int) < NP
      · have hjd : decide ((j : Int) < (NP : Int)) = true := decide_eq_true hjn
        have hjn2 : j < NP := by omega
        obtain ⟨ev, hev⟩ : ∃ e, PF[j]? = some e := ⟨PF[j]'(by have := HNP.out; omega), List.getElem?_eq_getElem _⟩
        have hdr : PF.drop j = ev :: PF.drop (j + 1) := by
          obtain ⟨hj2, rfl⟩ := List.getElem?_eq_some_iff.1 hev
          exact List.drop_eq_getElem_cons hj2
        have hle := HLE.out
        rw [hdr] at hle
        obtain ⟨hr, hkd, O, N, hsp, hN1, hN2, hEO, hON, hnt, hby, hle2⟩ := hle
        rw [HM.out] at hON
        have HLE2 := Lib.hid hle2
        have HBY := Lib.hid hby
        have HTL := Lib.hid htl
        obtain ⟨b1, f1, S, a5, c5, rfl, p0, p1, p2, p3, p4, hS, hS2, hrw⟩ := (HK.out.qe HQ.out).e5 hev
        have HSP := Lib.hid (rspan_any ev.kind ev.off ev.len a5 ev.data.length c5 ev.data S wz hrw rfl hS2)
        rw [show (⟨ev.kind, ev.off, ev.len, ev.data, S.data.toList⟩ : Ev) = ev by rw [hS], hsp] at HSP
        simp only at HSP
        obtain ⟨K1, hK1⟩ : ∃ z, ev.kind = z := ⟨_, rfl⟩
        obtain ⟨K2, hK2⟩ : ∃ z, ev.off = z := ⟨_, rfl⟩
        obtain ⟨K3, hK3⟩ : ∃ z, ev.len = z := ⟨_, rfl⟩
        obtain ⟨L1, hL1⟩ : ∃ z, ev.data.length = z := ⟨_, rfl⟩
        obtain ⟨DD, hDD⟩ : ∃ z, ev.data = z := ⟨_, rfl⟩
        rw [hK1, hK2, hK3, hL1] at HSP
        rw [hK1] at p0
        rw [hK2] at p1
        rw [hK3] at p2
        rw [hL1] at p3
        rw [hDD] at hL1 hrw
        have HL1 := Lib.hid hL1
        have HRW := Lib.hid hrw
        simp only [hK1, hDD] at HBY hkd
        have HEV : Hid (∀ W, KeepV wz W (.slice sa m cs) → W.cell? ⟨b1, f1 + j * 5, none⟩ = some (.int .i64 K1) ∧ W.cell? ⟨b1, f1 + j * 5 + 3, none⟩ = some (.slice a5 L1 c5)) := Lib.hid fun W hk => by
          have hq := (hk.qe (HK.out.qe HQ.out))
          obtain ⟨bb, ff, S', a5', c5', ee, q0, q1, q2, q3, q4, -⟩ := hq.e5 hev
          simp only [Option.some.injEq, Addr.mk.injEq, and_true] at ee
          obtain ⟨rfl, rfl⟩ := ee
          have hb1 : (Value.slice sa m cs).ownBlock ≠ some b1 := fun e => by
            obtain ⟨css, a', cap', hv, g1, g3, g2⟩ := HQ.out
            simp only [Value.slice.injEq] at hv
            obtain ⟨rfl, -, -⟩ := hv
            exact (g3 (fun e2 => by rw [e2] at hev; simp at hev) _ rfl).2 e
          have hlt := World.block_lt_of_cell? _ _ p0
          have hcc : ∀ o, W.cell? ⟨b1, o, none⟩ = wz.cell? ⟨b1, o, none⟩ := fun o => World.cell?_of_block (hk.2 b1 hlt hb1)
          exact ⟨by rw [hcc]; exact p0, by rw [hcc]; exact p3⟩
        have HDR : Hid (∀ W, KeepV wz W (.slice sa m cs) → Row W a5 c5 DD) := Lib.hid fun W hk => by
          have hq := (hk.qe (HK.out.qe HQ.out))
          obtain ⟨bb, ff, cs5, ee, -, ⟨v5, S5, e5', -, -, hbq⟩, hcc⟩ := hq.at hev
          simp only [Option.some.injEq, Addr.mk.injEq, and_true] at ee
          obtain ⟨rfl, rfl⟩ := ee
          have q3 := hcc 3 v5 (by rw [e5']; rfl)
          have q4 := (HEV.out W hk).2
          rw [q3] at q4
          obtain ⟨a6, c6, e6, r6⟩ := hbq.row_n rfl
          rw [e6] at q4
          simp only [Option.some.injEq, Value.slice.injEq] at q4
          obtain ⟨rfl, -, rfl⟩ := q4
          rw [← hDD]; exact r6
        clear hev hdr hr hsp hle2 hby hS hrw hK1 hK2 hK3 hL1 hDD HLE
        have hlt5 : ¬ (j : Int) < 0 := by omega
        go_wp2_with fail
        refine HSP.out.mono ?_
        rintro e wo ⟨rfl, b5⟩
        have HOo := Lib.hid (HO.out.later b5)
        have HKo := Lib.hid (HK.out.later b5)
        have HKr : Hid (KeepV wz wo (.slice sa m cs)) := Lib.hid ((KeepV.refl wz _).later b5)
        clear b5 p0 p1 p2 p3 p4 HSP HO HK
        have d1 : decide ((N : Int) < 1) = false := decide_eq_false (by omega)
        have d2 : decide ((N : Int) > 64) = false := decide_eq_false (by omega)
        have d3 : decide ((O : Int) < E) = false := decide_eq_false (by omega)
        have d4 : wrap64 ((m : Int) - (N : Int)) = (m : Int) - (N : Int) := IntWalk.wrap64_in _ (by omega)
        have d5 : decide ((O : Int) > (m : Int) - (N : Int)) = false := decide_eq_false (by omega)
        obtain ⟨g, cs', hsv, hcs1, hcs2, -, -⟩ := HOo.out.atG htl (by omega)
        simp only [Value.slice.injEq] at hsv
        obtain ⟨rfl, -, rfl⟩ := hsv
        unfold maxLen at hcs2
        have hq14 : (∃ B, ((O : Int) == E) = B ∧ (B = true → F = true)) := ⟨_, rfl, fun h => by
          cases F with
          | true => rfl
          | false => exact absurd ⟨by simpa using h, rfl⟩ hnt⟩
        obtain ⟨B14, hB14, hB14b⟩ := hq14
        go_upto_region 14 with fail
        go_cut [103] (fun v wx => v = .bool false ∧ wx = wo)
        case first =>
          cases B14 with
          | true =>
            have hF := hB14b rfl
            subst hF
            clear hB14b
            go_wp2_with fail
            go_meet
            exact ⟨rfl, rfl⟩
          | false =>
            clear hB14b
            cases F with
            | true =>
              go_wp2_with fail
              go_meet
              exact ⟨rfl, rfl⟩
            | false =>
              go_wp2_with fail
              go_meet
              exact ⟨rfl, rfl⟩
        case rest =>
          obtain ⟨rfl, rfl⟩ := hcut
          clear d1 d2 d3 d4 d5 hB14 hB14b B14
          have HK0 : Hid (KeepV wc wc (.slice (some ⟨g, 0, none⟩) m cs)) := Lib.hid (KeepV.refl _ _)
          have hON2 : IntKind.i64.wrap ((O : Int) + (N : Int)) = ((O + N : Nat) : Int) := by rw [IntKind.wrap_i64]; omega
          have HE0 : Hid (Own w wc (.slice (some ⟨g, 0, none⟩) m cs) (layB t O ((lb.drop O).take 0))) := Lib.hid (by rw [layB_take0]; exact HOo.out)
          go_wp2_with fail
          go_loopw [12] (fun k wr2 => ∃ q : Nat, k = .int .i64 q ∧ q ≤ N ∧ Hid (Own w wr2 (.slice (some ⟨g, 0, none⟩) m cs) (layB t O ((lb.drop O).take q))) ∧ Hid (KeepV wc wr2 (.slice (some ⟨g, 0, none⟩) m cs))) (fun k _ => N - (intOf k).toNat)
          case atStart => exact ⟨0, rfl, by omega, HE0, HK0⟩
          case round =>
            obtain ⟨q, rfl, hqN, HO2, HK2⟩ := hrel
            by_cases hqn : (q : Int) < N
            · have hqd : decide ((q : Int) < (N : Int)) = true := decide_eq_true hqn
              obtain ⟨P, hP⟩ : ∃ P, O + q = P := ⟨_, rfl⟩
              have hw1 : IntKind.i64.wrap ((O : Int) + (q : Int)) = (P : Int) := by rw [IntKind.wrap_i64]; omega
              have hPm : P < m := by omega
              have hPm2 : ¬ (P : Int) < 0 := by omega
              have hq2 : ¬ (q : Int) < 0 := by omega
              obtain ⟨y, hy⟩ : ∃ x, lb[P]? = some x := ⟨_, List.getElem?_eq_getElem (by rw [HM.out]; exact hPm)⟩
              obtain ⟨x, hx⟩ : ∃ x, t[P]? = some x := ⟨_, List.getElem?_eq_getElem (by rw [HTL.out]; exact hPm)⟩
              obtain ⟨hb1, hb2, hb3⟩ := HBY.out q (by omega)
              rw [hP, hx, hy] at hb1
              rw [hP, hy] at hb2 hb3
              have hxy : x ≠ y := fun e => hb1 (by rw [e])
              have hlq : ((lb.drop O).take q).length = q := by rw [List.length_take, List.length_drop, HM.out]; omega
              have hll : (layB t O ((lb.drop O).take q)).length = m := by rw [layB_len (by rw [hlq, HTL.out]; omega), HTL.out]
              have hxl : (layB t O ((lb.drop O).take q))[P]? = some x := by rw [layB_get (by rw [hlq, HTL.out]; omega), hlq, if_neg (by omega), if_neg (by omega)]; exact hx
              obtain ⟨b2, f2, hb2e, p2⟩ := HR2.out.at (by rw [HM.out]; omega)
              subst hb2e
              have HCB : Hid (∀ W, Below w.heap.size w W → W.cell? ⟨b2, f2 + P, none⟩ = some (B8 y)) := Lib.hid fun W hb => (hb.cell (World.block_lt_of_cell? _ _ (p2 P y hy))).trans (p2 P y hy)
              have HLL := Lib.hid hll
              have HXL := Lib.hid hxl
              have HPT : Hid ((layB t O ((lb.drop O).take q)).set P y = layB t O ((lb.drop O).take (q + 1))) := Lib.hid (by
                have := layB_part (t := t) (b := lb) (O := O) (N := N) (q := q) (y := y) (by rw [HTL.out, HM.out]) (by rw [HM.out]; omega) (by omega) (by rw [hP]; exact hy)
                rw [hP] at this
                exact this)
              have hcs := HO2.out.cellAt hll hxl
              have hcb := HCB.out wr HO2.out.below
              have hkr : KeepV wz wr (.slice (some ⟨g, 0, none⟩) m cs) := HKr.out.trans HK2.out
              obtain ⟨e0, e3⟩ := HEV.out wr hkr
              have hdr := HDR.out wr hkr
              have hne := u8_ne hxy
              obtain ⟨XV, hXV⟩ : ∃ v, ((x.toNat : Nat) : Int) = v := ⟨_, rfl⟩
              obtain ⟨YV, hYV⟩ : ∃ v, ((y.toNat : Nat) : Int) = v := ⟨_, rfl⟩
              have HX8 : Hid (B8 x = .int .u8 XV) := Lib.hid (by rw [← hXV]; rfl)
              have HY8 : Hid (B8 y = .int .u8 YV) := Lib.hid (by rw [← hYV]; rfl)
              rw [HX8.out] at hcs
              rw [HY8.out] at hcb
              rw [hXV, hYV] at hne
              have hyy : (YV != YV) = false := by simp
              rcases hkd with hk1 | hk3
              · subst hk1
                have hdq := hb3 rfl
                obtain ⟨b6, f6, h6, p6⟩ := hdr.at (by have := (List.getElem?_eq_some_iff.1 hdq).1; omega)
                subst h6
                have hcd := p6 q y hdq
                rw [HY8.out] at hcd
                have hqL : q < L1 := by have := (List.getElem?_eq_some_iff.1 hdq).1; rw [HL1.out] at this; exact this
                clear hb1 hb2 hb3 hx hy hxl hlq hXV hYV p2 p6 hdr hdq hkr hll hxy hP
                go_upto_region 19 with fail
                go_quiet (fail)
                have HO3 := Lib.hid (HO2.out.later (below_drewN wr nq))
                have HK3 := Lib.hid (HK2.out.later (below_drewN wr nq))
                clear e0 e3 hcs hcb hcd hne hyy HO2 HK2
                generalize wr.drewN nq = wq at HO3 HK3 ⊢
                have hcs3 := HO3.out.cellAt HLL.out HXL.out
                have hfz3 := HO3.out.frozenAt HLL.out P
                have hcb3 := HCB.out wq HO3.out.below
                have hsto := HO3.out.stored HLL.out P y
                rw [HPT.out] at hsto
                have hks := HK3.out.grown (grown_set wq g P (B8 y)) rfl
                rw [HX8.out] at hcs3
                rw [HY8.out] at hcb3 hsto hks
                have HSTO := Lib.hid hsto
                have HKS := Lib.hid hks
                clear hsto hks HO3 HK3
                go_wp2_with fail
                go_roundw
                case rel => exact ⟨q + 1, by go_num, by omega, HSTO, HKS⟩
                case measure => simp [intOf]; omega
              · subst hk3
                have hy0 := hb2 rfl
                have hYZ : YV = 0 := by rw [← hYV]; simp only [Option.some.injEq] at hy0; rw [hy0]; rfl
                have hyz : (YV != 0) = false := by rw [hYZ]; rfl
                have hcd : True := trivial
                clear hb1 hb2 hb3 hx hy hxl hlq hXV hYV p2 hdr hkr hll hxy hP hy0 hYZ
                go_upto_region 19 with fail
                go_quiet (fail)
                have HO3 := Lib.hid (HO2.out.later (below_drewN wr nq))
                have HK3 := Lib.hid (HK2.out.later (below_drewN wr nq))
                clear e0 e3 hcs hcb hcd hne hyy HO2 HK2
                generalize wr.drewN nq = wq at HO3 HK3 ⊢
                have hcs3 := HO3.out.cellAt HLL.out HXL.out
                have hfz3 := HO3.out.frozenAt HLL.out P
                have hcb3 := HCB.out wq HO3.out.below
                have hsto := HO3.out.stored HLL.out P y
                rw [HPT.out] at hsto
                have hks := HK3.out.grown (grown_set wq g P (B8 y)) rfl
                rw [HX8.out] at hcs3
                rw [HY8.out] at hcb3 hsto hks
                have HSTO := Lib.hid hsto
                have HKS := Lib.hid hks
                clear hsto hks HO3 HK3
                go_wp2_with fail
                go_roundw
                case rel => exact ⟨q + 1, by go_num, by omega, HSTO, HKS⟩
                case measure => simp [intOf]; omega
            · have hqN2 : q = N := by omega
              subst hqN2
              have HON : Hid (Own w wr (.slice (some ⟨g, 0, none⟩) m cs) (layB t O ((lb.drop O).take q))) := HO2
              have HKN : Hid (KeepV wq0 wr (.slice (some ⟨g, 0, none⟩) m cs)) := Lib.hid (HKo.out.trans HK2.out)
              have hlq : ((lb.drop O).take q).length = q := by rw [List.length_take, List.length_drop, HM.out]; omega
              have hll : (layB t O ((lb.drop O).take q)).length = m := by rw [layB_len (by rw [hlq, HTL.out]; omega), HTL.out]
              have HLL := Lib.hid hll
              have hb64 : ((q : Int) == 64) = decide (q = 64) := by rw [Bool.eq_iff_iff]; simp; omega
              clear hlq hll hqn HK2 HO2
              go_wp2_with fail
              go_roundw
              case rel => exact ⟨j + 1, _, _, _, rfl, by first | rfl | (rw [hb64]), by go_num, by omega, HLL.out, by omega, by omega, HON, HLE2, HKN⟩
              case measure => simp [intOf]; omega
      · have hjN : j = NP := by omega
        have hle := HLE.out
        rw [hjN, List.drop_of_length_le (Nat.le_of_eq HNP.out)] at hle
        have htb : t = lb := hle
        subst htb
        have HOE := Lib.hid (HO.out)
        obtain ⟨a9, c9, hv9, r9⟩ := HO.out.row_n HM.out
        simp only [Value.slice.injEq, true_and] at hv9
        obtain ⟨rfl, rfl⟩ := hv9
        have hs1 := conv_row_n r9 HM.out
        have hs2 := conv_row_n (HR2.out.later HO.out.below) HM.out
        have HBW := Lib.hid HO.out.below
        generalize (⟨t.toArray⟩ : ByteArray) = SB at *
        have hSS : (SB.toList == SB.toList) = true := (sbeq_iff _ _).2 rfl
        clear hjN r9
        go_wp2_with fail
        refine (known15_any _).mono ?_
        rintro e wk ⟨rfl, bk⟩
        have HBk := Lib.hid (HBW.out.trans (bk.mono HBW.out.size))
        clear bk
        go_wp2_with fail
        go_ret
        exact ⟨rfl, HBk.out⟩
end Go.Proofs.Ytbpddcmehjgleaa
