/- The law 'ChainBack', walked. -/
import Derived.Test.YtpeamfndanbhiaaChW
namespace Go.Proofs.Ytpeamfndanbhiaa
open Go.RowKit Go.Proofs
set_option linter.unusedVariables false
set_option linter.unusedSimpArgs false

/-- 's[:hi]' of bytes that are there. -/
theorem run_slB {w W : World} {a : Option Addr} {m cap hi : Nat} {l : List UInt8} (h : Row w a cap l) (hm : l.length = m) (h2 : hi ≤ m) :
    (Instr.slice 23 (.slice a m cap) none (some (.int .i64 hi)) none).run Try.prog W = .ok (.slice a hi cap) W := by
  have hc := h.1
  have h3 : hi ≤ cap := by omega
  cases a with
  | none =>
    have := h.2.2.1 rfl
    obtain rfl : hi = 0 := by omega
    subst this
    simp [Instr.slice, Instr.sliceBounds, Instr.sliceBound, asIntOf, run_underlying Try.underlying23, Result.andThen]
  | some x =>
    by_cases h0 : cap = 0
    · obtain rfl : hi = 0 := by omega
      subst h0
      simp [Instr.slice, Instr.sliceBounds, Instr.sliceBound, asIntOf, run_underlying Try.underlying23, Result.andThen]
    · have e0 : x.add 0 = x := by unfold Addr.add; obtain ⟨b, o, s⟩ := x; cases s <;> simp_all
      simp [Instr.slice, Instr.sliceBounds, Instr.sliceBound, asIntOf, run_underlying Try.underlying23, Result.andThen, h3]
      simp [show ¬ cap = 0 by omega, e0]
set_option maxRecDepth 100000 in
set_option maxHeartbeats 6400000 in
theorem chainBack_known (a0 a1 : Option Addr) (n c0 m c1 : Nat) (x : Int) (w : World) (hb : 40 < n ∨ 200 < m) :
    Calls Try.prog 5 #[.slice a0 n c0, .slice a1 m c1, .int .u8 x] w fun x w' => x = .returned (.bool true) ∧ Below w.heap.size w w' := by
  rcases (show 40 < (n : Int) ∨ (decide (40 < (n : Int)) = false ∧ 200 < (m : Int)) by simp only [decide_eq_false_iff_not]; omega) with h | ⟨h1, h⟩
  all_goals
    clear hb
    go_enter Try.func5, Try.ntmps5
    go_wp2_with fail
    refine (known_any _).mono ?_
    rintro y w2 ⟨rfl, hb2⟩
    go_wp2_with fail
    go_ret
    exact ⟨rfl, hb2⟩
set_option maxRecDepth 100000 in
set_option maxHeartbeats 12800000 in
theorem chainBack_main (a0 a1 : Option Addr) (n c0 m c1 : Nat) (zs : List Int) (p : List UInt8) (u : UInt8) (w : World) (hr : ZRow w a0 c0 zs) (hn : zs.length = n) (hn2 : n ≤ 40) (hp : Row w a1 c1 p) (hm : p.length = m) (hm2 : m ≤ 200) :
    Calls Try.prog 5 #[.slice a0 n c0, .slice a1 m c1, .int .u8 (u.toNat : Int)] w fun x w' => x = .returned (.bool true) ∧ Below w.heap.size w w' := by
  have hd1 : decide (40 < (n : Int)) = false := by simp; omega
  have hd2 : decide (200 < (m : Int)) = false := by simp; omega
  have HG := Lib.hid (grow_any a0 n c0 zs w hr hn (by omega))
  have HP := Lib.hid hp
  have HPN := Lib.hid hm
  clear hr hn hp hm
  go_enter Try.func5, Try.ntmps5
  go_wp2_with fail
  refine HG.out.mono ?_
  rintro e w1 ⟨v, ts, E, rfl, o1, hg⟩
  obtain ⟨k, hk⟩ : ∃ k, ts.length = k := ⟨_, rfl⟩
  obtain ⟨b1, d1, rfl, r1⟩ := o1.row_n hk
  have HCH := Lib.hid hg.1
  have HK := Lib.hid hk
  have HB1 := Lib.hid o1.below
  have HR1 := Lib.hid r1
  have HPU : Hid (putCh ts = (putC ts, 0)) := Lib.hid (putCh_yes (rightC_iff.2 hg.1))
  have hlen := putC_len hg.1
  have HG0 := Lib.hid (getCh_some hg.1 rfl)
  obtain ⟨X, hX⟩ : ∃ X, putC ts = X := ⟨_, rfl⟩
  obtain ⟨k2, hk2⟩ : ∃ k, X.length = k := ⟨_, rfl⟩
  rw [hX, hk2] at hlen
  have HXX := Lib.hid hX
  have HK2 := Lib.hid hk2
  rw [hX] at HPU HG0
  have HGL : Hid (getCh (X.take (k2 - 1)) = ([], 2)) := Lib.hid (getCh_less hg.1 (x := X.take (k2 - 1)) (y := X.drop (k2 - 1)) (by rw [hX, List.take_append_drop]) (by
    intro e; have := congrArg List.length e; rw [List.length_drop, hk2] at this; simp at this; omega))
  have HGM : Hid (getCh (X ++ [u]) = ([], 2)) := Lib.hid (by rw [← hX]; exact getCh_more hg.1 (by simp))
  clear o1 hg r1 hk hX hk2 HG
  go_wp2_with fail
  refine (put_any b1 k d1 ts w1 HR1.out HK.out).mono ?_
  rw [HPU.out]
  rintro e w2 ⟨v2, rfl, o2⟩
  simp only at o2
  obtain ⟨b2, d2, rfl, r2⟩ := o2.row_n HK2.out
  have HB2 := Lib.hid (HB1.out.trans (o2.below.mono HB1.out.size))
  have HR2 := Lib.hid (HR1.out.later o2.below)
  have HX2 := Lib.hid r2
  clear o2 r2
  go_wp2_with fail
  refine (get_any b2 k2 d2 X w2 HX2.out HK2.out (by omega)).mono ?_
  unfold CGot
  rw [HG0.out]
  rintro e w3 ⟨v3, rfl, o3⟩
  simp only at o3
  obtain ⟨b3, d3, rfl, r3⟩ := o3.row_n HK.out
  have HB3 := Lib.hid (HB2.out.trans (o3.below.mono HB2.out.size))
  have HR3 := Lib.hid (HR2.out.later o3.below)
  have HX3 := Lib.hid (HX2.out.later o3.below)
  have HQ3 := Lib.hid r3
  clear o3 r3
  go_wp2_with fail
  refine (same_any b1 b3 k k d1 d3 ts ts w3 HR3.out HQ3.out HK.out HK.out).mono ?_
  rw [show decide (ts = ts) = true by simp]
  rintro e w4 ⟨rfl, hb4⟩
  have HB4 := Lib.hid (HB3.out.trans (hb4.mono HB3.out.size))
  have HX4 := Lib.hid (HX3.out.later hb4)
  clear hb4
  have hk0 : (((k2 : Nat) : Int) == 0) = false := by simp; omega
  obtain ⟨k3, hk3⟩ : ∃ k3, k2 - 1 = k3 := ⟨_, rfl⟩
  have hsub : IntKind.i64.wrap ((k2 : Nat) - 1 : Int) = (k3 : Nat) := by rw [IntKind.wrap_i64]; omega
  have hsub2 : ((k2 : Nat) - 1 : Int) = (k3 : Nat) := by omega
  rw [hk3] at HGL
  have HS := fun W => run_slB (W := W) (hi := k3) HX4.out HK2.out (by omega)
  have HT4 := Lib.hid (HX4.out.take k3)
  have HTL : Hid ((X.take k3).length = k3) := Lib.hid (by rw [List.length_take, HK2.out]; omega)
  have hk3' : k3 ≤ 417 := by omega
  clear hk3
  go_wp2_with fail
  refine (get_any b2 k3 d2 (X.take k3) w4 HT4.out HTL.out (by omega)).mono ?_
  unfold CGot
  rw [HGL.out]
  rintro e w5 ⟨v5, rfl, o5⟩
  simp only at o5
  obtain ⟨b5, d5, rfl, r5⟩ := o5.row_n (n := 0) rfl
  have HB5 := Lib.hid (HB4.out.trans (o5.below.mono HB4.out.size))
  have HX5 := Lib.hid (HX4.out.later o5.below)
  have HE0 := Lib.hid (own_empty (W0 := w5) (w := w5) (Below.refl _ _))
  have hba : Below w5.heap.size w5 (w5.alloc (.cells #[] 5)) := (Below.refl _ _).alloc (Nat.le_refl _) _
  have HX6 := Lib.hid (HX5.out.later hba)
  clear o5 r5 hba HS hsub hsub2 hk0
  go_wp2_with (first | (at_builtin; refine wp_row rfl (.tmp 72) (.tmp 73) rfl _ [] rfl w5 HE0.out b2 d2 k2 X HX6.out HK2.out rfl (by have := HK2.out; simp; omega) ?_; intro v6 w6 o6) | (at_builtin; refine wp_byte rfl (.tmp 74) (.tmp 76) rfl _ _ rfl w5 o6 _ u rfl rfl (by have := HK2.out; simp; omega) ?_; intro v7 w7 o7))
  rw [List.nil_append] at o7
  have HM7 : Hid ((X ++ [u]).length = k2 + 1) := Lib.hid (by rw [List.length_append, HK2.out]; rfl)
  obtain ⟨k4, hk4⟩ : ∃ k4, k2 + 1 = k4 := ⟨_, rfl⟩
  rw [hk4] at HM7
  have hk4' : k4 ≤ 418 := by omega
  obtain ⟨b7, d7, rfl, r7⟩ := o7.row_n HM7.out
  have HB7 := Lib.hid (HB5.out.trans (o7.below.mono HB5.out.size))
  have HX7 := Lib.hid r7
  clear o7 r7 o6 hk4
  refine (get_any b7 k4 d7 (X ++ [u]) w7 HX7.out HM7.out (by omega)).mono ?_
  unfold CGot
  rw [HGM.out]
  rintro e w8 ⟨v8, rfl, o8⟩
  simp only at o8
  obtain ⟨b8, d8, rfl, r8⟩ := o8.row_n (n := 0) rfl
  have HB8 := Lib.hid (HB7.out.trans (o8.below.mono HB7.out.size))
  have HP8 := Lib.hid (HP.out.later HB8.out)
  clear o8 r8 HX7 HX6 HX5 HX4 HT4
  have HGP := Lib.hid (get_any a1 m c1 p w8 HP8.out HPN.out (by omega))
  rcases getCh_two p with ⟨l, hl, hlc, hlp⟩ | ⟨hl, _⟩
  · obtain ⟨q, hq⟩ : ∃ q, l.length = q := ⟨_, rfl⟩
    have HQ := Lib.hid hq
    have HL := Lib.hid hl
    have HPL : Hid (putCh l = (p, 0)) := Lib.hid (by rw [putCh_yes (rightC_iff.2 hlc), hlp])
    clear hl hlc hlp hq
    go_wp2_with fail
    refine HGP.out.mono ?_
    unfold CGot
    rw [HL.out]
    rintro e w9 ⟨v9, rfl, o9⟩
    simp only at o9
    obtain ⟨b9, d9, rfl, r9⟩ := o9.row_n HQ.out
    have HB9 := Lib.hid (HB8.out.trans (o9.below.mono HB8.out.size))
    have HP9 := Lib.hid (HP8.out.later o9.below)
    have HR9 := Lib.hid r9
    clear o9 r9
    go_wp2_with fail
    refine (put_any b9 q d9 l w9 HR9.out HQ.out).mono ?_
    rw [HPL.out]
    rintro e w10 ⟨v10, rfl, o10⟩
    simp only at o10
    obtain ⟨b10, d10, rfl, r10⟩ := o10.row_n HPN.out
    have HB10 := Lib.hid (HB9.out.trans (o10.below.mono HB9.out.size))
    have q1 := conv_row_n r10 HPN.out
    have q2 := conv_row_n (HP9.out.later o10.below) HPN.out
    generalize (⟨p.toArray⟩ : ByteArray) = S1 at *
    have hd : (S1.toList == S1.toList) = true := by simp
    have hd2 : (S1.toList != S1.toList) = false := by simp
    clear o10 r10
    go_wp2_with fail
    refine (known_any _).mono ?_
    rintro y w11 ⟨rfl, hb11⟩
    go_wp2_with fail
    go_ret
    exact ⟨rfl, HB10.out.trans (hb11.mono HB10.out.size)⟩
  · have HL := Lib.hid hl
    clear hl
    go_wp2_with fail
    refine HGP.out.mono ?_
    unfold CGot
    rw [HL.out]
    rintro e w9 ⟨v9, rfl, o9⟩
    simp only at o9
    obtain ⟨b9, d9, rfl, r9⟩ := o9.row_n (n := 0) rfl
    have HB9 := Lib.hid (HB8.out.trans (o9.below.mono HB8.out.size))
    clear o9 r9
    go_wp2_with fail
    refine (known_any _).mono ?_
    rintro y w11 ⟨rfl, hb11⟩
    go_wp2_with fail
    go_ret
    exact ⟨rfl, HB9.out.trans (hb11.mono HB9.out.size)⟩
theorem wf_u8c {n : Int} (h : (Lit.int .u8 n).wf = true) : ∃ u : UInt8, n = (u.toNat : Int) := by
  simp [Lit.wf, IntKind.min, IntKind.max, IntKind.signed, IntKind.bits] at h
  exact ⟨UInt8.ofNat n.toNat, by rw [UInt8.toNat_ofNat']; omega⟩
theorem chainBack_walk (a0 a1 : Option Addr) (n c0 m c1 : Nat) (zs : List Int) (p : List UInt8) (x : Int) (w : World) (hr : ZRow w a0 c0 zs) (hn : zs.length = n) (hp : Row w a1 c1 p) (hm : p.length = m) (w2 : (Lit.int .u8 x).wf = true) :
    Calls Try.prog 5 #[.slice a0 n c0, .slice a1 m c1, .int .u8 x] w fun x w' => x = .returned (.bool true) ∧ Below w.heap.size w w' := by
  obtain ⟨u, rfl⟩ := wf_u8c w2
  by_cases hb : 40 < n ∨ 200 < m
  · exact chainBack_known a0 a1 n c0 m c1 _ w hb
  · exact chainBack_main a0 a1 n c0 m c1 zs p u w hr hn (by omega) hp hm (by omega)
end Go.Proofs.Ytpeamfndanbhiaa
