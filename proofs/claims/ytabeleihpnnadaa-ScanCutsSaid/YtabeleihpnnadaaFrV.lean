/- Frames: the document's own TakeFrame. -/
import Derived.Test.YtabeleihpnnadaaFrU
import Derived.BigQuiet
namespace Go.Proofs.Ytabeleihpnnadaa
open Go.RowKit
set_option linter.unusedVariables false
set_option linter.unusedSimpArgs false

theorem getL_inj : ∀ {a b : List UInt8}, a.length = b.length → getL a = getL b → a = b
  | [], [], _, _ => rfl
  | [], _ :: _, h, _ => by simp at h
  | _ :: _, [], h, _ => by simp at h
  | c :: a, d :: b, h, h2 => by
    have hc := c.toNat_lt
    have hd := d.toNat_lt
    simp only [getL] at h2
    have e1 : c.toNat = d.toNat := by omega
    have e2 : getL a = getL b := by omega
    rw [getL_inj (by simpa using h) e2, UInt8.toNat_inj.1 e1]
theorem head_is {M : List UInt8} (h : 4 ≤ M.length) : (M.take 4 = hgje) ↔ fieldL M 0 4 = 1162495816 := by
  unfold fieldL
  rw [List.drop_zero]
  constructor
  · intro e; rw [e]; decide
  · intro e
    exact getL_inj (by simp [hgje]; omega) (by rw [e]; decide)
theorem get_at {l M : List UInt8} {q m o k : Nat} (hM : l.drop q = M) (hm : l.length = m) (hk : 1 ≤ k ∧ k ≤ 8) (h : q + o + k ≤ m) : getA l ((q : Int) + o) k = (fieldL M o k, true) := by
  unfold getA fieldL
  rw [if_pos (by omega)]
  subst hM
  rw [List.drop_drop, show ((q : Int) + o).toNat = q + o by omega]
  rfl

/-- The world behind TakeFrame's two first variables. -/
structure TW (w w2 : World) : Prop where
  b : Below w.heap.size w w2
  x : RecAt w2 w.heap.size #[.int .i64 0, .int .i64 0, .slice none 0 0] 38
  z : RecAt w2 (w.heap.size + 1) #[.int .i64 0, .int .i64 0, .slice none 0 0] 38
theorem TW.new (w : World) : TW w ((w.alloc (.cells #[.int .i64 0, .int .i64 0, .slice none 0 0] 38)).alloc (.cells #[.int .i64 0, .int .i64 0, .slice none 0 0] 38)) := by
  have hba : Below w.heap.size w (w.alloc (.cells #[.int .i64 0, .int .i64 0, .slice none 0 0] 38)) := (Below.refl _ _).alloc (Nat.le_refl _) _
  refine ⟨hba.alloc hba.size _, (RecAt.new _ _ _).later ((Below.refl _ _).alloc (Nat.le_refl _) _), ?_⟩
  have h := RecAt.new (w.alloc (.cells #[.int .i64 0, .int .i64 0, .slice none 0 0] 38)) #[.int .i64 0, .int .i64 0, .slice none 0 0] 38
  rw [show (w.alloc (.cells #[.int .i64 0, .int .i64 0, .slice none 0 0] 38)).heap.size = w.heap.size + 1 by simp] at h
  exact h
theorem TW.later {w w2 w3 : World} (h : TW w w2) (hb : Below w2.heap.size w2 w3) : TW w w3 := ⟨h.b.trans (hb.mono h.b.size), h.x.later hb, h.z.later hb⟩

set_option maxRecDepth 20000 in
set_option maxHeartbeats 3200000 in
theorem rtake_few (ad : Option Addr) (m cap : Nat) (l : List UInt8) (p : Int) (w : World) (hr : Row w ad cap l) (hm : l.length = m) (hlen : m ≤ 100000) (hp0 : -9223372036854775808 ≤ p) (hp1 : p ≤ 9223372036854775807)
    (h : (p < 0 ∨ (m : Int) < p) ∨ (0 ≤ p ∧ p = m) ∨ (0 ≤ p ∧ p < m ∧ (m : Int) - p < 22)) :
    Calls Try.prog 24 #[.slice ad m cap, .int .i64 p] w fun e w' => Took (takeA l p) w e w' := by
  have HT := Lib.hid (TW.new w)
  rcases h with h | h | h
  · have HA := Lib.hid (takeA_out (l := l) (p := p) (by omega))
    clear hr hm
    rcases (show p < 0 ∨ (0 ≤ p ∧ (m : Int) < p) by omega) with h | h
    all_goals
      go_enter Try.func24, Try.ntmps24
      go_upto_region 2 with fail
      generalize ((w.alloc (.cells #[.int .i64 0, .int .i64 0, .slice none 0 0] 38)).alloc (.cells #[.int .i64 0, .int .i64 0, .slice none 0 0] 38)) = w2 at *
      obtain ⟨c0, c1, c2⟩ := HT.out.z.c3
      go_wp2_with (refine wpList_rec rfl rfl w.heap.size #[.int .i64 0, .int .i64 0, .slice none 0 0] #[.int .i64 0, .int .i64 0, .slice none 0 0] rfl rfl HT.out.x rfl (by kernel_rfl) (by kernel_rfl) ?_; intro w5 q1 q2 q3 q4)
      refine bodyPost_ret (results_ctt rfl rfl q1 Try.underlying38 rfl (by kernel_rfl)) rfl ?_
      rw [HA.out]
      exact ⟨none, 0, rfl, Row.none _, HT.out.b.grown q4 HT.out.b.size (fun k e => by cases e; exact Nat.le_refl _), fun x h => nomatch h⟩
  · obtain ⟨h0, rfl⟩ := h
    have HA : Hid (takeA l (m : Int) = (noE, 0, 4)) := by
      have h1 := takeA_in (l := l) (p := m) (by omega)
      rw [takeM_nil (by simp; omega)] at h1
      exact Lib.hid h1
    clear hr hm
    have hd : decide ((m : Int) < 0) = false := by simp
    go_enter Try.func24, Try.ntmps24
    go_upto_region 2 with fail
    generalize ((w.alloc (.cells #[.int .i64 0, .int .i64 0, .slice none 0 0] 38)).alloc (.cells #[.int .i64 0, .int .i64 0, .slice none 0 0] 38)) = w2 at *
    obtain ⟨c0, c1, c2⟩ := HT.out.z.c3
    go_wp2_with (refine wpList_rec rfl rfl w.heap.size #[.int .i64 0, .int .i64 0, .slice none 0 0] #[.int .i64 0, .int .i64 0, .slice none 0 0] rfl rfl HT.out.x rfl (by kernel_rfl) (by kernel_rfl) ?_; intro w5 q1 q2 q3 q4)
    refine bodyPost_ret (results_ctt rfl rfl q1 Try.underlying38 rfl (by kernel_rfl)) rfl ?_
    rw [HA.out]
    exact ⟨none, 0, rfl, Row.none _, HT.out.b.grown q4 HT.out.b.size (fun k e => by cases e; exact Nat.le_refl _), fun x h => nomatch h⟩
  · obtain ⟨h0, h1, h2⟩ := h
    obtain ⟨q, rfl⟩ := Int.eq_ofNat_of_zero_le h0
    have HA : Hid (takeA l (q : Int) = (noE, 0, 2)) := by
      have h1 := takeA_in (l := l) (p := q) (by omega)
      rw [takeM_form (by simp; omega) (begunA_none (fun h => by have := h.1; simp at this; omega))] at h1
      exact Lib.hid h1
    clear hr hm h0
    have hd : decide ((q : Int) < 0) = false := by simp
    go_enter Try.func24, Try.ntmps24
    go_upto_region 2 with fail
    generalize ((w.alloc (.cells #[.int .i64 0, .int .i64 0, .slice none 0 0] 38)).alloc (.cells #[.int .i64 0, .int .i64 0, .slice none 0 0] 38)) = w2 at *
    obtain ⟨c0, c1, c2⟩ := HT.out.z.c3
    go_wp2_with (refine wpList_rec rfl rfl w.heap.size #[.int .i64 0, .int .i64 0, .slice none 0 0] #[.int .i64 0, .int .i64 0, .slice none 0 0] rfl rfl HT.out.x rfl (by kernel_rfl) (by kernel_rfl) ?_; intro w5 q1 q2 q3 q4)
    refine bodyPost_ret (results_ctt rfl rfl q1 Try.underlying38 rfl (by kernel_rfl)) rfl ?_
    rw [HA.out]
    exact ⟨none, 0, rfl, Row.none _, HT.out.b.grown q4 HT.out.b.size (fun k e => by cases e; exact Nat.le_refl _), fun x h => nomatch h⟩

set_option maxRecDepth 20000 in
set_option maxHeartbeats 3200000 in
theorem rtake_any (ad : Option Addr) (m cap : Nat) (l : List UInt8) (p : Int) (w : World) (hr : Row w ad cap l) (hm : l.length = m) (hlen : m ≤ 100000) (hp0 : -9223372036854775808 ≤ p) (hp1 : p ≤ 9223372036854775807) :
    Calls Try.prog 24 #[.slice ad m cap, .int .i64 p] w fun e w' => Took (takeA l p) w e w' := by
  by_cases hfew : (p < 0 ∨ (m : Int) < p) ∨ (0 ≤ p ∧ p = m) ∨ (0 ≤ p ∧ p < m ∧ (m : Int) - p < 22)
  · exact rtake_few ad m cap l p w hr hm hlen hp0 hp1 hfew
  · have HT := Lib.hid (TW.new w)
    obtain ⟨q, rfl⟩ := Int.eq_ofNat_of_zero_le (show 0 ≤ p by omega)
    have hq22 : (q : Int) + 22 ≤ m := by omega
    clear hfew
    obtain ⟨bk, off, rfl, hcell⟩ := hr.at (by omega)
    have hmc := hr.1
    rw [hm] at hmc
    have hTA := takeA_in (l := l) (p := q) (by omega)
    have hr2 := hr.drop q (by omega)
    have hl2 : (l.drop q).length = m - q := by simp; omega
    have g4 : getA l ((q : Int) + 4) 4 = (fieldL (l.drop q) 4 4, true) := get_at (l := l) (M := l.drop q) (o := 4) (k := 4) rfl hm (by omega) (by omega)
    have g8 : getA l ((q : Int) + 8) 8 = (fieldL (l.drop q) 8 8, true) := get_at (l := l) (M := l.drop q) (o := 8) (k := 8) rfl hm (by omega) (by omega)
    have g16 : getA l ((q : Int) + 16) 2 = (fieldL (l.drop q) 16 2, true) := get_at (l := l) (M := l.drop q) (o := 16) (k := 2) rfl hm (by omega) (by omega)
    have HR := Lib.hid hr
    have HM := Lib.hid hm
    generalize hM : l.drop q = M at *
    have HR2 := Lib.hid hr2
    have HL2 := Lib.hid hl2
    have hd : decide ((q : Int) < 0) = false := by simp
    have hd2 : decide ((m : Int) - q < 22) = false := by simp; omega
    have hd3 : decide (m < q) = false := by simp; omega
    have hd4 : ((q : Int) == (m : Int)) = false := by simp; omega
    have hhd := head_is (M := M) (by omega)
    clear hr hm hcell hr2
    have HS : Hid (((⟨(M.take 4).toArray⟩ : ByteArray).toList == [72, 71, 74, 69]) = decide (fieldL M 0 4 = 1162495816)) := by
      refine Lib.hid ?_
      rw [ByteArray.toList_mk]
      by_cases h : fieldL M 0 4 = 1162495816
      · rw [decide_eq_true h, hhd.2 h]; rfl
      · rw [decide_eq_false h, beq_eq_false_iff_ne]
        exact fun e => h (hhd.1 e)
    have HC4 : Hid (∀ W, Row W (some ⟨bk, off + q, none⟩) (cap - q) M → (convert 34 9 (.slice (some ⟨bk, off + q, none⟩) 4 (cap - q))).run Try.prog W = .ok (.string ⟨(M.take 4).toArray⟩) W) :=
      Lib.hid fun W h => conv_row_n (h.take 4) (by simp; omega)
    generalize hSS : (⟨(M.take 4).toArray⟩ : ByteArray) = S at *
    clear hhd hSS
    by_cases hh : fieldL M 0 4 = 1162495816
    · have hs : (S.toList == [72, 71, 74, 69]) = true := by rw [HS.out, decide_eq_true hh]
      have h4 := fieldL_lt M 4 4
      have h8 := fieldL_lt M 8 8
      have h16 := fieldL_lt M 16 2
      rw [show (256 : Nat) ^ 4 = 4294967296 from rfl] at h4
      rw [show (256 : Nat) ^ 8 = 18446744073709551616 from rfl] at h8
      rw [show (256 : Nat) ^ 2 = 65536 from rfl] at h16
      have G4 := Lib.hid g4
      have G8 := Lib.hid g8
      have G16 := Lib.hid g16
      clear HS g4 g8 g16
      have hbg : begunA M = if rightE (fieldL M 4 4) (fieldL M 8 8) (fieldL M 16 2) = true ∧ fieldL M 16 2 + 22 ≤ m - q then some (fieldL M 4 4, fieldL M 8 8, fieldL M 16 2) else none := by
        unfold begunA
        rw [hl2]
        by_cases c : rightE (fieldL M 4 4) (fieldL M 8 8) (fieldL M 16 2) = true ∧ fieldL M 16 2 + 22 ≤ m - q
        · rw [if_pos c, if_pos ⟨by omega, hh, c⟩]
        · rw [if_neg c, if_neg (fun h => c ⟨h.2.2.1, h.2.2.2⟩)]
      generalize fieldL M 4 4 = T at *
      generalize fieldL M 8 8 = Z at *
      generalize fieldL M 16 2 = N at *
      clear hh
      have GG4 := Lib.hid (fun W (h : Row W (some ⟨bk, off, none⟩) cap l) => rget_any (some ⟨bk, off, none⟩) m cap l ((q : Int) + 4) 4 W h HM.out hlen (by omega) (by omega) (by omega) (by omega))
      have GG8 := Lib.hid (fun W (h : Row W (some ⟨bk, off, none⟩) cap l) => rget_any (some ⟨bk, off, none⟩) m cap l ((q : Int) + 8) 8 W h HM.out hlen (by omega) (by omega) (by omega) (by omega))
      have GG16 := Lib.hid (fun W (h : Row W (some ⟨bk, off, none⟩) cap l) => rget_any (some ⟨bk, off, none⟩) m cap l ((q : Int) + 16) 2 W h HM.out hlen (by omega) (by omega) (by omega) (by omega))
      by_cases hc : rightE (T : Nat) (Z : Nat) N = true ∧ N + 22 ≤ m - q
      · have hb : begunA M = some (T, Z, N) := by rw [hbg, if_pos hc]
        have hrt := rightE_iff.1 hc.1
        have hNm : (N : Int) + 22 ≤ (m : Int) - q := by omega
        have HRT : Hid (Row w (some ⟨bk, off + q, none⟩) (cap - q) (M.take (N + 22))) := Lib.hid (HR2.out.take (N + 22))
        have HTL : Hid ((M.take (N + 22)).length = N + 22) := Lib.hid (by have := HL2.out; simp; omega)
        have HSUM := Lib.hid (fun h => takeM_sum hb h)
        have HOK := Lib.hid (fun b h => takeM_ok (b := b) hb h)
        have HTA := Lib.hid hTA
        clear hTA hbg hc hb
        obtain ⟨r1, r2, r3, r4, r5, r6⟩ := hrt
        go_enter Try.func24, Try.ntmps24
        go_upto_region 2 with fail
        generalize ((w.alloc (.cells #[.int .i64 0, .int .i64 0, .slice none 0 0] 38)).alloc (.cells #[.int .i64 0, .int .i64 0, .slice none 0 0] 38)) = w2 at *
        have hcv := HC4.out w2 (HR2.out.later HT.out.b)
        go_wp2_with fail
        refine (GG4.out w2 (HR.out.later HT.out.b)).mono ?_
        rw [G4.out]
        rintro e w3 ⟨rfl, rfl⟩
        go_wp2_with fail
        refine (GG8.out w2 (HR.out.later HT.out.b)).mono ?_
        rw [G8.out]
        rintro e w3 ⟨rfl, rfl⟩
        go_wp2_with fail
        refine (GG16.out w2 (HR.out.later HT.out.b)).mono ?_
        rw [G16.out]
        rintro e w3 ⟨rfl, rfl⟩
        go_wp2_with fail
        rw [show q + N + 22 - q = N + 22 by omega]
        refine (ropen_any (some ⟨bk, off + q, none⟩) (N + 22) (cap - q) _ w2 (HRT.out.later HT.out.b) HTL.out (by omega)).mono ?_
        rintro e w3 ⟨v3, rfl, o3⟩
        have HT3 := Lib.hid (HT.out.later o3.below)
        cases ho : openL (M.take (N + 22)) with
        | none =>
          rw [ho] at o3
          have HA : Hid (takeA l (q : Int) = (noE, 0, 13)) := by
            have := HTA.out
            rw [HSUM.out ho] at this
            exact Lib.hid this
          clear HTA ho o3
          rw [Option.isSome_none]
          obtain ⟨c0, c1, c2⟩ := HT3.out.z.c3
          go_wp2_with (refine wpList_rec rfl rfl w.heap.size #[.int .i64 0, .int .i64 0, .slice none 0 0] #[.int .i64 0, .int .i64 0, .slice none 0 0] rfl rfl HT3.out.x rfl (by kernel_rfl) (by kernel_rfl) ?_; intro w4 q1 q2 q3 q4)
          refine bodyPost_ret (results_ctt rfl rfl q1 Try.underlying38 rfl (by kernel_rfl)) rfl ?_
          rw [HA.out]
          exact ⟨none, 0, rfl, Row.none _, HT3.out.b.grown q4 HT3.out.b.size (fun k e => by cases e; exact Nat.le_refl _), fun x h => nomatch h⟩
        | some b =>
          rw [ho, Option.getD_some] at o3
          have hbl : b.length = N + 18 := by
            have := (openL_some ho).1
            rw [this]; simp; have := HL2.out; omega
          have HA : Hid (takeA l (q : Int) = (⟨(T : Nat), (Z : Nat), b.drop 18⟩, (q : Int) + ((N : Int) + 22), 0)) := by
            have := HTA.out
            rw [HOK.out b ho] at this
            exact Lib.hid (by rw [this]; rfl)
          have HBL : Hid ((b.drop 18).length = N) := Lib.hid (by simp; omega)
          obtain ⟨g, c3, rfl, hc3, hm3⟩ := o3.at hbl (by omega)
          obtain ⟨a5, c5, hv5, ro⟩ := o3.row_n hbl
          cases hv5
          have HGE : Hid (w.heap.size < g) := Lib.hid (Nat.lt_of_lt_of_le HT.out.x.lt o3.ge.1)
          have HRO := Lib.hid (ro.drop (b := g) (off := 0) 18 (by omega))
          clear HTA ho o3 ro
          rw [Option.isSome_some]
          go_wp2_with (refine wpList_rec rfl rfl w.heap.size #[.int .i64 0, .int .i64 0, .slice none 0 0] #[.int .i64 (T : Nat), .int .i64 (Z : Nat), .slice (some ⟨g, 18, none⟩) N (c3 - 18)] rfl rfl HT3.out.x rfl (by kernel_rfl) (by kernel_rfl) ?_; intro w5 q1 q2 q3 q4)
          refine bodyPost_ret (results_ctt rfl rfl q1 Try.underlying38 rfl (by kernel_rfl)) rfl ?_
          rw [HA.out]
          refine ⟨some ⟨g, 18, none⟩, c3 - 18, ?_, ?_, HT3.out.b.grown q4 HT3.out.b.size (fun k e => by cases e; exact Nat.le_refl _), fun x h => by cases h; have := HGE.out; have := HTL.out; exact ⟨Nat.le_of_lt (HGE.out), (HRO.out.same (q3 g (fun e => by have := HGE.out; omega))).lt_of (by rw [HBL.out]; omega)⟩⟩
          · unfold entV; simp only; rw [HBL.out, ← Int.add_assoc]; rfl
          · exact HRO.out.same (q3 g (fun e => by have := HGE.out; omega))
      · have HA : Hid (takeA l (q : Int) = (noE, 0, 2)) := by
          rw [takeM_form (by omega) (by rw [hbg, if_neg hc])] at hTA
          exact Lib.hid hTA
        have hcs : (T : Int) < 1 ∨ (1 ≤ (T : Int) ∧ 1073741824 < (T : Int)) ∨ (1 ≤ (T : Int) ∧ (T : Int) ≤ 1073741824 ∧ (Z : Int) < 1) ∨ (1 ≤ (T : Int) ∧ (T : Int) ≤ 1073741824 ∧ 1 ≤ (Z : Int) ∧ 1099511627776 < (Z : Int)) ∨
            (1 ≤ (T : Int) ∧ (T : Int) ≤ 1073741824 ∧ 1 ≤ (Z : Int) ∧ (Z : Int) ≤ 1099511627776 ∧ (N : Int) < 1) ∨ (1 ≤ (T : Int) ∧ (T : Int) ≤ 1073741824 ∧ 1 ≤ (Z : Int) ∧ (Z : Int) ≤ 1099511627776 ∧ 1 ≤ (N : Int) ∧ 90 < (N : Int)) ∨
            (1 ≤ (T : Int) ∧ (T : Int) ≤ 1073741824 ∧ 1 ≤ (Z : Int) ∧ (Z : Int) ≤ 1099511627776 ∧ 1 ≤ (N : Int) ∧ (N : Int) ≤ 90 ∧ (m : Int) - q < (N : Int) + 22) := by
          rw [rightE_iff] at hc; omega
        clear hTA hbg hc HL2
        rcases hcs with h | h | h | h | h | h | h
        all_goals
          go_enter Try.func24, Try.ntmps24
          go_upto_region 2 with fail
          generalize ((w.alloc (.cells #[.int .i64 0, .int .i64 0, .slice none 0 0] 38)).alloc (.cells #[.int .i64 0, .int .i64 0, .slice none 0 0] 38)) = w2 at *
          obtain ⟨c0, c1, c2⟩ := HT.out.z.c3
          have hcv := HC4.out w2 (HR2.out.later HT.out.b)
          go_wp2_with fail
          refine (GG4.out w2 (HR.out.later HT.out.b)).mono ?_
          rw [G4.out]
          rintro e w3 ⟨rfl, rfl⟩
          go_wp2_with fail
          refine (GG8.out w2 (HR.out.later HT.out.b)).mono ?_
          rw [G8.out]
          rintro e w3 ⟨rfl, rfl⟩
          go_wp2_with fail
          refine (GG16.out w2 (HR.out.later HT.out.b)).mono ?_
          rw [G16.out]
          rintro e w3 ⟨rfl, rfl⟩
          go_wp2_with (refine wpList_rec rfl rfl w.heap.size #[.int .i64 0, .int .i64 0, .slice none 0 0] #[.int .i64 0, .int .i64 0, .slice none 0 0] rfl rfl HT.out.x rfl (by kernel_rfl) (by kernel_rfl) ?_; intro w5 q1 q2 q3 q4)
          refine bodyPost_ret (results_ctt rfl rfl q1 Try.underlying38 rfl (by kernel_rfl)) rfl ?_
          rw [HA.out]
          exact ⟨none, 0, rfl, Row.none _, HT.out.b.grown q4 HT.out.b.size (fun k e => by cases e; exact Nat.le_refl _), fun x h => nomatch h⟩
    · have HA : Hid (takeA l (q : Int) = (noE, 0, 2)) := by
        rw [takeM_form (by omega) (begunA_none (fun h => hh h.2.1))] at hTA
        exact Lib.hid hTA
      have hs : (S.toList == [72, 71, 74, 69]) = false := by rw [HS.out, decide_eq_false hh]
      clear HS hTA g4 g8 g16 hh
      go_enter Try.func24, Try.ntmps24
      go_upto_region 2 with fail
      generalize ((w.alloc (.cells #[.int .i64 0, .int .i64 0, .slice none 0 0] 38)).alloc (.cells #[.int .i64 0, .int .i64 0, .slice none 0 0] 38)) = w2 at *
      obtain ⟨c0, c1, c2⟩ := HT.out.z.c3
      have hcv := HC4.out w2 (HR2.out.later HT.out.b)
      go_wp2_with (refine wpList_rec rfl rfl w.heap.size #[.int .i64 0, .int .i64 0, .slice none 0 0] #[.int .i64 0, .int .i64 0, .slice none 0 0] rfl rfl HT.out.x rfl (by kernel_rfl) (by kernel_rfl) ?_; intro w5 q1 q2 q3 q4)
      refine bodyPost_ret (results_ctt rfl rfl q1 Try.underlying38 rfl (by kernel_rfl)) rfl ?_
      rw [HA.out]
      exact ⟨none, 0, rfl, Row.none _, HT.out.b.grown q4 HT.out.b.size (fun k e => by cases e; exact Nat.le_refl _), fun x h => nomatch h⟩
end Go.Proofs.Ytabeleihpnnadaa
