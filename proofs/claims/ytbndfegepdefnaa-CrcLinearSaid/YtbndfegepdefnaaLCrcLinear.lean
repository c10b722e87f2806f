/- The law CrcLinear, walked. -/
import Derived.Test.YtbndfegepdefnaaCrcKnown
import Derived.StillTailTactics
import Derived.Deep.DeepCutAuto
import Derived.RegionTactic
namespace Go.Proofs.Ytbndfegepdefnaa
open Go.RowKit
set_option linter.unusedVariables false

/-! ### three rows turned into one another -/
def XorTo (j : Nat) (la lb lc ld : List UInt8) : Prop := ∀ i, i < j → ∀ a b c d : UInt8, la[i]? = some a → lb[i]? = some b → lc[i]? = some c → ld[i]? = some d → d = a ^^^ b ^^^ c
theorem xorTo_all : ∀ (la lb lc ld : List UInt8), lb.length = la.length → lc.length = la.length → ld.length = la.length → XorTo la.length la lb lc ld → bv ld = xorL (xorL (bv la) (bv lb)) (bv lc) := by
  intro la
  induction la with
  | nil => intro lb lc ld h1 h2 h3 _; rw [List.length_eq_zero_iff.1 h3]; rfl
  | cons a la ih =>
    intro lb lc ld h1 h2 h3 hx
    obtain ⟨b, lb, rfl⟩ : ∃ b t, lb = b :: t := by cases lb with
      | nil => simp at h1
      | cons b t => exact ⟨b, t, rfl⟩
    obtain ⟨c, lc, rfl⟩ : ∃ b t, lc = b :: t := by cases lc with
      | nil => simp at h2
      | cons b t => exact ⟨b, t, rfl⟩
    obtain ⟨d, ld, rfl⟩ : ∃ b t, ld = b :: t := by cases ld with
      | nil => simp at h3
      | cons b t => exact ⟨b, t, rfl⟩
    have h0 := hx 0 (by simp) a b c d rfl rfl rfl rfl
    have := ih lb lc ld (by simpa using h1) (by simpa using h2) (by simpa using h3) (fun i hi a b c d e1 e2 e3 e4 => hx (i + 1) (by simpa using hi) a b c d e1 e2 e3 e4)
    subst h0
    show (a ^^^ b ^^^ c).toBitVec :: bv ld = (a.toBitVec ^^^ b.toBitVec ^^^ c.toBitVec) :: xorL (xorL (bv la) (bv lb)) (bv lc)
    rw [this]; rfl
theorem xorL_len {l m : List (BitVec 8)} (h : m.length = l.length) : (xorL l m).length = l.length := by simp [xorL, h]
theorem crc_three {la lb lc ld : List UInt8} (h1 : lb.length = la.length) (h2 : lc.length = la.length) (h3 : ld.length = la.length) (hx : XorTo la.length la lb lc ld) : crcL la ^^^ crcL lb ^^^ crcL lc = crcL ld := by
  unfold crcL ofB
  rw [xorTo_all la lb lc ld h1 h2 h3 hx]
  have e := runB_xor (xorL (bv la) (bv lb)) (bv lc) (ones ^^^ ones) ones (by rw [xorL_len (by simp [bv_len, h1])]; simp [bv_len, h2])
  rw [runB_xor (bv la) (bv lb) ones ones (by simp [bv_len, h1]), BitVec.xor_self, BitVec.zero_xor] at e
  rw [e]
  generalize runB ones (bv la) = x
  generalize runB ones (bv lb) = y
  generalize runB ones (bv lc) = z
  apply BitVec.eq_of_getLsbD_eq
  intro i hi
  simp only [BitVec.getLsbD_xor]
  cases x.getLsbD i <;> cases y.getLsbD i <;> cases z.getLsbD i <;> cases ones.getLsbD i <;> rfl
theorem xorTo_step {j : Nat} {la lb lc ld : List UInt8} {a b c : UInt8} (h : XorTo j la lb lc ld) (ha : la[j]? = some a) (hb : lb[j]? = some b) (hc : lc[j]? = some c) : XorTo (j + 1) la lb lc (ld.set j (a ^^^ b ^^^ c)) := by
  intro i hi a' b' c' d' e1 e2 e3 e4
  by_cases hij : i = j
  · subst hij
    rw [List.getElem?_set] at e4
    simp only [if_true] at e4
    split at e4
    · rw [ha] at e1; rw [hb] at e2; rw [hc] at e3; cases e1; cases e2; cases e3; cases e4; rfl
    · cases e4
  · rw [List.getElem?_set, if_neg (fun e => hij e.symm)] at e4
    exact h i (by omega) a' b' c' d' e1 e2 e3 e4
theorem xorTo_b {j : Nat} {la lb lc ld : List UInt8} (h : XorTo j la lb lc ld) (u : UInt8) : XorTo j la (lb.set j u) lc ld := by
  intro i hi a' b' c' d' e1 e2 e3 e4
  rw [List.getElem?_set, if_neg (by omega)] at e2
  exact h i hi a' b' c' d' e1 e2 e3 e4
theorem xorTo_c {j : Nat} {la lb lc ld : List UInt8} (h : XorTo j la lb lc ld) (u : UInt8) : XorTo j la lb (lc.set j u) ld := by
  intro i hi a' b' c' d' e1 e2 e3 e4
  rw [List.getElem?_set, if_neg (by omega)] at e3
  exact h i hi a' b' c' d' e1 e2 e3 e4
theorem own_drew {W0 w : World} {v : Value} {l : List UInt8} (h : Own W0 w v l) : Own W0 w.drew v l := h.later ⟨rfl, rfl, rfl, Nat.le_refl _, fun _ _ => rfl⟩
theorem byte_of {l : List UInt8} {m j : Nat} (h : l.length = m) (hj : j < m) : ∃ u, l[j]? = some u := ⟨l[j]'(by omega), List.getElem?_eq_getElem _⟩

set_option maxRecDepth 100000 in
set_option maxHeartbeats 3200000 in
theorem linear_walk (a0 a1 a2 : Option Addr) (m cap0 m1 cap1 m2 cap2 : Nat) (l0 l1 l2 : List UInt8) (w : World) (hr0 : Row w a0 cap0 l0) (hr1 : Row w a1 cap1 l1) (hr2 : Row w a2 cap2 l2)
    (hl0 : l0.length = m) (hl1 : l1.length = m1) (hl2 : l2.length = m2) (h0 : m ≤ 200) (hm : 0 < m) :
    Calls Try.prog 7 #[.slice a0 m cap0, .slice a1 m1 cap1, .slice a2 m2 cap2] w fun e w' => e = .returned (.bool true) ∧ Below w.heap.size w w' := by
  have HL0 := Lib.hid hl0
  have HL1 := Lib.hid hl1
  have HL2 := Lib.hid hl2
  clear hl0 hl1 hl2
  have hcap1 := hr1.1
  have hcap2 := hr2.1
  have hcap0 := hr0.1
  have hmx := hr1.2.1
  have hmy := hr2.2.1
  unfold maxLen at hmx hmy
  rw [HL1.out] at hcap1
  rw [HL2.out] at hcap2
  rw [HL0.out] at hcap0
  have he := own_empty (Below.refl w.heap.size w)
  go_enter Try.func7, Try.ntmps7
  go_wp2_with (first
    | (at_builtin; refine wp_row rfl (.tmp 15) (.tmp 16) rfl _ _ rfl w he a0 cap0 m l0 (hr0.later ((Below.refl _ _).alloc (Nat.le_refl _) _)) HL0.out rfl (by have := HL0.out; simp; omega) ?_; intro v1 w1 o1
       rw [List.nil_append] at o1
       obtain ⟨g1, c1, rfl, hc1, hd1⟩ := o1.at HL0.out hm
       have q1 := o1.below
       clear he
       have he := own_empty (Below.refl w1.heap.size w1))
    | (at_builtin; refine wp_row rfl (.tmp 18) (.tmp 19) rfl _ _ rfl w1 he a0 cap0 m l0 ((hr0.later q1).later ((Below.refl _ _).alloc (Nat.le_refl _) _)) HL0.out rfl (by have := HL0.out; simp; omega) ?_; intro v2 w2 o2
       rw [List.nil_append] at o2
       obtain ⟨g2, c2, rfl, hc2, hd2⟩ := o2.at HL0.out hm
       have q2 := q1.trans (o2.below.mono q1.size)
       clear he
       have he := own_empty (Below.refl w2.heap.size w2))
    | (at_builtin; refine wp_row rfl (.tmp 21) (.tmp 22) rfl _ _ rfl w2 he a0 cap0 m l0 ((hr0.later q2).later ((Below.refl _ _).alloc (Nat.le_refl _) _)) HL0.out rfl (by have := HL0.out; simp; omega) ?_; intro v3 w3 o3
       rw [List.nil_append] at o3
       obtain ⟨g3, c3, rfl, hc3, hd3⟩ := o3.at HL0.out hm
       have q3 := q2.trans (o3.below.mono q2.size)
       clear he))
  have k1 := o1.ge
  have k2 := o2.ge
  have k3 := o3.ge
  have p1 := (o1.later o2.below).later o3.below
  have p2 := (o2.later o3.below).back q1
  have p3 := o3.back q2
  have z1 := q1.size
  have z2 := o2.below.size
  clear o1 o2 o3 q1 q2 q3
  have n12 : Hid (g1 ≠ g2) := by unfold Hid; omega
  have n13 : Hid (g1 ≠ g3) := by unfold Hid; omega
  have n23 : Hid (g2 ≠ g3) := by unfold Hid; omega
  have y1 : Hid (w.heap.size ≤ g1) := by unfold Hid; omega
  have y2 : Hid (w.heap.size ≤ g2) := by unfold Hid; omega
  have y3 : Hid (w.heap.size ≤ g3) := by unfold Hid; omega
  clear k1 k2 k3 z1 z2
  go_wp2
  go_loopw [10] (fun i wr => ∃ (j : Nat) (lb lc ld : List UInt8), i = .int .i64 j ∧ j ≤ m ∧ Own w wr (.slice (some ⟨g1, 0, none⟩) m c1) lb ∧ Own w wr (.slice (some ⟨g2, 0, none⟩) m c2) lc ∧ Own w wr (.slice (some ⟨g3, 0, none⟩) m c3) ld ∧ Hid (lb.length = m) ∧ Hid (lc.length = m) ∧ Hid (ld.length = m) ∧ XorTo j l0 lb lc ld) (fun i _ => m - (intOf i).toNat)
  case atStart => exact ⟨0, l0, l0, l0, rfl, by omega, p1, p2, p3, HL0, HL0, HL0, fun i hi => by omega⟩
  case round =>
    obtain ⟨j, lb, lc, ld, rfl, hj, ob, oc, od, hb, hc, hd, hx⟩ := hrel
    clear p1 p2 p3
    by_cases hjm : j < m
    · go_upto_if 33 with (fail)
      go_cut [] (fun wx => ∃ l' : List UInt8, Own w wx (.slice (some ⟨g1, 0, none⟩) m c1) l' ∧ Own w wx (.slice (some ⟨g2, 0, none⟩) m c2) lc ∧ Own w wx (.slice (some ⟨g3, 0, none⟩) m c3) ld ∧ Hid (l'.length = m) ∧ XorTo j l0 l' lc ld)
      case first =>
        by_cases h : j < m1
        · obtain ⟨bx, offx, rfl, hcx⟩ := (hr1.later ob.below).at (by have := HL1.out; omega)
          obtain ⟨ux, hux⟩ := byte_of HL1.out h
          have fx := hcx j ux hux
          have hu8 := ux.toNat_lt
          unfold B8 at fx
          clear hcx hux
          obtain ⟨ub, hub⟩ := byte_of hb.out hjm
          have fb := ob.cellAt hb.out hub
          have rb := ob.frozenAt hb.out j
          clear hub
          go_wp2_with fail
          go_meet
          exact ⟨lb.set j ux, ob.stored hb.out j ux, oc.besides y1.out (by simp [Value.ownBlock]; exact fun e => n12.out e.symm) _ _, od.besides y1.out (by simp [Value.ownBlock]; exact fun e => n13.out e.symm) _ _, by have := hb.out; unfold Hid; simpa using this, xorTo_b hx ux⟩
        · go_wp2_with fail
          go_meet
          exact ⟨lb, ob, oc, od, hb, hx⟩
      case rest =>
        clear ob oc od hb hx lb
        obtain ⟨lb, ob, oc, od, hb, hx⟩ := hcut
        go_upto_if 44 with (fail)
        go_cut [] (fun wx => ∃ l' : List UInt8, Own w wx (.slice (some ⟨g1, 0, none⟩) m c1) lb ∧ Own w wx (.slice (some ⟨g2, 0, none⟩) m c2) l' ∧ Own w wx (.slice (some ⟨g3, 0, none⟩) m c3) ld ∧ Hid (l'.length = m) ∧ XorTo j l0 lb l' ld)
        case first =>
          by_cases h : j < m2
          · obtain ⟨bx, offx, rfl, hcx⟩ := (hr2.later ob.below).at (by have := HL2.out; omega)
            obtain ⟨ux, hux⟩ := byte_of HL2.out h
            have fx := hcx j ux hux
            have hu8 := ux.toNat_lt
            unfold B8 at fx
            clear hcx hux
            obtain ⟨ub, hub⟩ := byte_of hc.out hjm
            have fb := oc.cellAt hc.out hub
            have rb := oc.frozenAt hc.out j
            clear hub
            go_wp2_with fail
            go_meet
            exact ⟨lc.set j ux, ob.besides y2.out (by simp [Value.ownBlock]; exact n12.out) _ _, oc.stored hc.out j ux, od.besides y2.out (by simp [Value.ownBlock]; exact fun e => n23.out e.symm) _ _, by have := hc.out; unfold Hid; simpa using this, xorTo_c hx ux⟩
          · go_wp2_with fail
            go_meet
            exact ⟨lc, ob, oc, od, hc, hx⟩
        case rest =>
          clear ob oc od hc hx lc
          obtain ⟨lc, ob, oc, od, hc, hx⟩ := hcut
          obtain ⟨ba, offa, rfl, hca⟩ := (hr0.later ob.below).at (by have := HL0.out; omega)
          obtain ⟨ua, hua⟩ := byte_of HL0.out hjm
          obtain ⟨ub, hub⟩ := byte_of hb.out hjm
          obtain ⟨uc, huc⟩ := byte_of hc.out hjm
          obtain ⟨ud, hud⟩ := byte_of hd.out hjm
          have fa := hca j ua hua
          have fb := ob.cellAt hb.out hub
          have fc := oc.cellAt hc.out huc
          have fd := od.cellAt hd.out hud
          have rd := od.frozenAt hd.out j
          have hS := Lib.hid (xorTo_step hx hua hub huc)
          have x1 := Lib.hid (u8_xor ua ub)
          have x2 := Lib.hid (u8_xor (ua ^^^ ub) uc)
          have oS := od.stored hd.out j (ua ^^^ ub ^^^ uc)
          have b1 := ua.toNat_lt
          have b2 := ub.toNat_lt
          have b3 := uc.toNat_lt
          unfold B8 at fa fb fc fd oS
          clear hca hua hub huc hud
          go_wp2_with fail
          go_region
          all_goals
            go_wp2_with fail
            go_roundw
            case rel =>
              rw [x1.out, x2.out]
              exact ⟨j + 1, lb, lc, _, by go_num, by omega, own_drew (ob.besides y3.out (by simp [Value.ownBlock]; exact n13.out) _ _), own_drew (oc.besides y3.out (by simp [Value.ownBlock]; exact n23.out) _ _), own_drew oS, hb, hc, by have := hd.out; unfold Hid; simpa using this, hS.out⟩
            case measure => simp [intOf]; omega
    · obtain rfl : j = m := by omega
      have e3 : crcL l0 ^^^ crcL lb ^^^ crcL lc = crcL ld := crc_three (by have := hb.out; have := HL0.out; omega) (by have := hc.out; have := HL0.out; omega) (by have := hd.out; have := HL0.out; omega) (by rw [HL0.out]; exact hx)
      have x1 := xor_cI (crcL l0) (crcL lb)
      have x2 := xor_cI (crcL l0 ^^^ crcL lb) (crcL lc)
      rw [e3] at x2
      have X1 := Lib.hid x1
      have X2 := Lib.hid x2
      clear x1 x2 e3 hx hjm
      obtain ⟨a5, c5, hv5, rb⟩ := ob.row_n hb.out
      cases hv5
      obtain ⟨a6, c6, hv6, rc⟩ := oc.row_n hc.out
      cases hv6
      obtain ⟨a7, c7, hv7, rd⟩ := od.row_n hd.out
      cases hv7
      have t := ob.below
      have r0 := hr0.later t
      clear ob oc od
      go_wp2_with fail
      refine (of_any a0 j cap0 l0 wr r0 HL0.out (by omega)).mono ?_
      rintro e w5 ⟨rfl, rfl⟩
      go_wp2_with fail
      refine (of_any _ j _ lb wr rb hb.out (by omega)).mono ?_
      rintro e w5 ⟨rfl, rfl⟩
      have x1 := X1.out
      go_wp2_with fail
      clear x1
      refine (of_any _ j _ lc wr rc hc.out (by omega)).mono ?_
      rintro e w5 ⟨rfl, rfl⟩
      have x2 := X2.out
      go_wp2_with fail
      clear x2
      refine (of_any _ j _ ld wr rd hd.out (by omega)).mono ?_
      rintro e w5 ⟨rfl, rfl⟩
      go_wp2_with fail
      refine (crc_known _).mono ?_
      rintro e w5 ⟨rfl, hk⟩
      go_wp2
      go_ret
      exact ⟨rfl, t.trans (hk.mono t.size)⟩

set_option maxRecDepth 100000 in
set_option maxHeartbeats 3200000 in
theorem linear_none (a0 a1 a2 : Option Addr) (cap0 m1 cap1 m2 cap2 : Nat) (w : World) (hr0 : Row w a0 cap0 []) :
    Calls Try.prog 7 #[.slice a0 0 cap0, .slice a1 m1 cap1, .slice a2 m2 cap2] w fun e w' => e = .returned (.bool true) ∧ Below w.heap.size w w' := by
  have he := own_empty (Below.refl w.heap.size w)
  go_enter Try.func7, Try.ntmps7
  go_wp2_with (first
    | (at_builtin; refine wp_row rfl (.tmp 15) (.tmp 16) rfl _ _ rfl w he a0 cap0 0 [] (hr0.later ((Below.refl _ _).alloc (Nat.le_refl _) _)) rfl rfl (by simp) ?_; intro v1 w1 o1
       rw [List.nil_append] at o1
       obtain ⟨g1, c1, rfl, r1⟩ := o1.row_n (n := 0) rfl
       have q1 := o1.below
       clear he o1
       have he := own_empty (Below.refl w1.heap.size w1))
    | (at_builtin; refine wp_row rfl (.tmp 18) (.tmp 19) rfl _ _ rfl w1 he a0 cap0 0 [] ((hr0.later q1).later ((Below.refl _ _).alloc (Nat.le_refl _) _)) rfl rfl (by simp) ?_; intro v2 w2 o2
       rw [List.nil_append] at o2
       obtain ⟨g2, c2, rfl, r2⟩ := o2.row_n (n := 0) rfl
       have q2 := q1.trans (o2.below.mono q1.size)
       have s1 := r1.later o2.below
       clear he o2
       have he := own_empty (Below.refl w2.heap.size w2))
    | (at_builtin; refine wp_row rfl (.tmp 21) (.tmp 22) rfl _ _ rfl w2 he a0 cap0 0 [] ((hr0.later q2).later ((Below.refl _ _).alloc (Nat.le_refl _) _)) rfl rfl (by simp) ?_; intro v3 w3 o3
       rw [List.nil_append] at o3
       obtain ⟨g3, c3, rfl, r3⟩ := o3.row_n (n := 0) rfl
       have q3 := q2.trans (o3.below.mono q2.size)
       have s2 := r2.later o3.below
       have s3 := s1.later o3.below
       clear he o3))
  have r0 := hr0.later q3
  clear q1 q2 r1 s1 r2
  have x1 := xor_cI (crcL []) (crcL [])
  have x2 := xor_cI (crcL [] ^^^ crcL []) (crcL [])
  have X1 := Lib.hid x1
  have X2 := Lib.hid x2
  have X3 : Hid (crcL [] ^^^ crcL [] ^^^ crcL [] = crcL []) := by unfold Hid; rw [BitVec.xor_self, BitVec.zero_xor]
  clear x1 x2
  go_wp2
  refine wp_loop_rounds 1 ?_
  rw [rounds_succ]
  go_wp2_with fail
  refine (of_any a0 0 cap0 [] w3 r0 rfl (by omega)).mono ?_
  rintro e w5 ⟨rfl, rfl⟩
  go_wp2_with fail
  refine (of_any _ 0 _ [] w3 s3 rfl (by omega)).mono ?_
  rintro e w5 ⟨rfl, rfl⟩
  have x1 := X1.out
  go_wp2_with fail
  clear x1
  refine (of_any _ 0 _ [] w3 s2 rfl (by omega)).mono ?_
  rintro e w5 ⟨rfl, rfl⟩
  have x2 := X2.out
  rw [X3.out] at x2
  go_wp2_with fail
  clear x2
  refine (of_any _ 0 _ [] w3 r3 rfl (by omega)).mono ?_
  rintro e w5 ⟨rfl, rfl⟩
  go_wp2_with fail
  refine (crc_known _).mono ?_
  rintro e w5 ⟨rfl, hk⟩
  go_wp2
  go_ret
  exact ⟨rfl, q3.trans (hk.mono q3.size)⟩

theorem crcLinear_walk (a0 : Option Addr) (cap0 : Nat) (l0 : List UInt8) (a1 : Option Addr) (cap1 : Nat) (l1 : List UInt8) (a2 : Option Addr) (cap2 : Nat) (l2 : List UInt8) (w : World) (hr0 : Row w a0 cap0 l0) (hr1 : Row w a1 cap1 l1) (hr2 : Row w a2 cap2 l2) :
    Calls Try.prog 7 #[.slice a0 l0.length cap0, .slice a1 l1.length cap1, .slice a2 l2.length cap2] w fun e w' => e = .returned (.bool true) ∧ Below w.heap.size w w' := by
  by_cases hb : 200 < l0.length
  · generalize l0.length = m at *
    go_enter Try.func7, Try.ntmps7
    go_wp2_with fail
    refine (crc_known _).mono ?_
    rintro e w1 ⟨rfl, hb⟩
    go_wp2
    go_ret
    exact ⟨rfl, hb⟩
  · by_cases h0 : l0.length = 0
    · obtain rfl := List.length_eq_zero_iff.1 h0
      exact linear_none a0 a1 a2 cap0 _ cap1 _ cap2 w hr0
    · exact linear_walk a0 a1 a2 _ cap0 _ cap1 _ cap2 l0 l1 l2 w hr0 hr1 hr2 rfl rfl rfl (by omega) (by omega)
end Go.Proofs.Ytbndfegepdefnaa
