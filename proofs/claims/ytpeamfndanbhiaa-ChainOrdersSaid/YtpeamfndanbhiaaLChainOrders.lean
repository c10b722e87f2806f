/- The law 'ChainOrders', walked. -/
import Derived.Test.YtpeamfndanbhiaaChW
namespace Go.Proofs.Ytpeamfndanbhiaa
open Go.RowKit Go.Proofs
set_option linter.unusedVariables false
set_option linter.unusedSimpArgs false

theorem TOwn.lt {W0 w : World} {a : Option Addr} {n c : Nat} {ts : List Tg} (h : TOwn W0 w (.slice a n c) ts) : ∀ x, a = some x → x.block < w.heap.size := fun x hx => by
  subst hx
  exact (World.ownsRow.lt h.1 x.block rfl).2
set_option maxRecDepth 100000 in
set_option maxHeartbeats 6400000 in
theorem chainOrders_known (a0 a1 a2 : Option Addr) (n0 c0 n1 c1 n2 c2 : Nat) (p : Int) (q : Int) (w : World) (hb : 30 < n0 ∨ 30 < n1 ∨ 30 < n2) :
    Calls Try.prog 6 #[.slice a0 n0 c0, .slice a1 n1 c1, .slice a2 n2 c2, .int .i64 p, .int .i64 q] w fun x w' => x = .returned (.bool true) ∧ Below w.heap.size w w' := by
  rcases (show 30 < (n0 : Int) ∨ (decide (30 < (n0 : Int)) = false ∧ 30 < (n1 : Int)) ∨ (decide (30 < (n0 : Int)) = false ∧ decide (30 < (n1 : Int)) = false ∧ 30 < (n2 : Int)) by simp only [decide_eq_false_iff_not]; omega) with h | ⟨h1, h⟩ | ⟨h1, h2, h⟩
  all_goals
    clear hb
    go_enter Try.func6, Try.ntmps6
    go_wp2_with fail
    refine (known_any _).mono ?_
    rintro y w2 ⟨rfl, hb2⟩
    go_wp2_with fail
    go_ret
    exact ⟨rfl, hb2⟩
set_option maxRecDepth 100000 in
set_option maxHeartbeats 12800000 in
theorem chainOrders_main (a0 a1 a2 : Option Addr) (n0 c0 n1 c1 n2 c2 : Nat) (z0 z1 z2 : List Int) (p : Int) (q : Int) (w : World) (hr0 : ZRow w a0 c0 z0) (hn0 : z0.length = n0) (hm0 : n0 ≤ 30) (hr1 : ZRow w a1 c1 z1) (hn1 : z1.length = n1) (hm1 : n1 ≤ 30) (hr2 : ZRow w a2 c2 z2) (hn2 : z2.length = n2) (hm2 : n2 ≤ 30) :
    Calls Try.prog 6 #[.slice a0 n0 c0, .slice a1 n1 c1, .slice a2 n2 c2, .int .i64 p, .int .i64 q] w fun x w' => x = .returned (.bool true) ∧ Below w.heap.size w w' := by
  have hd0 : decide (30 < (n0 : Int)) = false := by simp; omega
  have hd1 : decide (30 < (n1 : Int)) = false := by simp; omega
  have hd2 : decide (30 < (n2 : Int)) = false := by simp; omega
  have HZ0 := Lib.hid hr0
  have HZ1 := Lib.hid hr1
  have HZ2 := Lib.hid hr2
  have HN0 := Lib.hid hn0
  have HN1 := Lib.hid hn1
  have HN2 := Lib.hid hn2
  have HE0 := Lib.hid (ZOwn.empty (W0 := w) (w := w) (Below.refl _ _))
  have HC0 := Lib.hid (hr2.later ((Below.refl _ _).alloc (Nat.le_refl _) (.cells #[] 3)))
  clear hr0 hr1 hr2 hn0 hn1 hn2
  go_enter Try.func6, Try.ntmps6
  go_wp2_with (first | (at_builtin; refine wp_ints rfl (.tmp 36) (.tmp 37) rfl _ [] rfl w HE0.out a2 c2 n2 z2 HC0.out HN2.out rfl (by rw [HN2.out]; simp; omega) ?_; intro v1 w1 o1) | (at_builtin; refine wp_ints rfl (.tmp 38) (.tmp 39) rfl _ _ rfl w o1 a0 c0 n0 z0 (HZ0.out.later o1.below) HN0.out rfl (by rw [HN0.out, List.nil_append, HN2.out]; omega) ?_; intro v2 w2 o2))
  rw [List.nil_append] at o2
  obtain ⟨k2, hk2⟩ : ∃ k, (z2 ++ z0).length = k := ⟨_, rfl⟩
  have hk60 : k2 ≤ 60 := by rw [← hk2, List.length_append, HN2.out, HN0.out]; omega
  obtain ⟨b2, d2, rfl, r2⟩ := o2.row_n hk2
  have HG2 := Lib.hid (grow_any b2 k2 d2 _ w2 r2 hk2 (by omega))
  have HB2 := Lib.hid o2.below
  clear o2 o1 r2 hk2
  refine HG2.out.mono ?_
  rintro e w3 ⟨v3, ts, E, rfl, o3, hg3⟩
  obtain ⟨k, hk⟩ : ∃ k, ts.length = k := ⟨_, rfl⟩
  obtain ⟨b3, d3, rfl, r3⟩ := o3.row_n hk
  have HK := Lib.hid hk
  have HR3 := Lib.hid r3
  have HB3 := Lib.hid (HB2.out.trans (o3.below.mono HB2.out.size))
  have HGT := Lib.hid hg3
  have hE : 0 ≤ E ∧ E ≤ 200 := by have := hg3.2.2.2.2; omega
  have HLT3 := Lib.hid o3.lt
  have HE3 := Lib.hid (ZOwn.empty (W0 := w3) (w := w3) (Below.refl _ _))
  have HC3 := Lib.hid ((HZ2.out.later HB3.out).later ((Below.refl _ _).alloc (Nat.le_refl _) (.cells #[] 3)))
  have HD3 := Lib.hid (HZ1.out.later HB3.out)
  have hk20 : 1 ≤ k ∧ k ≤ 20 := by rw [← hk]; exact ⟨hg3.1.1, hg3.2.1⟩
  clear o3 r3 hk hg3 HG2 HE0 HC0
  go_wp2_with (first | (at_builtin; refine wp_ints rfl (.tmp 45) (.tmp 46) rfl _ [] rfl w3 HE3.out a2 c2 n2 z2 HC3.out HN2.out rfl (by rw [HN2.out]; simp; omega) ?_; intro v4 w4 o4) | (at_builtin; refine wp_ints rfl (.tmp 47) (.tmp 48) rfl _ _ rfl w3 o4 a1 c1 n1 z1 (HD3.out.later o4.below) HN1.out rfl (by rw [HN1.out, List.nil_append, HN2.out]; omega) ?_; intro v5 w5 o5))
  rw [List.nil_append] at o5
  obtain ⟨k5, hk5⟩ : ∃ k, (z2 ++ z1).length = k := ⟨_, rfl⟩
  have hk56 : k5 ≤ 60 := by rw [← hk5, List.length_append, HN2.out, HN1.out]; omega
  obtain ⟨b5, d5, rfl, r5⟩ := o5.row_n hk5
  have HG5 := Lib.hid (grow_any b5 k5 d5 _ w5 r5 hk5 (by omega))
  have HB5 := Lib.hid (HB3.out.trans (o5.below.mono HB3.out.size))
  have HR5 := Lib.hid (HR3.out.later o5.below)
  have HS5 := Lib.hid o5.below.size
  clear o5 o4 r5 hk5
  refine HG5.out.mono ?_
  rintro e w6 ⟨v6, us, F, rfl, o6, hg6⟩
  obtain ⟨m, hm⟩ : ∃ k, us.length = k := ⟨_, rfl⟩
  obtain ⟨b6, d6, rfl, r6⟩ := o6.row_n hm
  have HM := Lib.hid hm
  have HS6 := Lib.hid r6
  have HR6 := Lib.hid (HR5.out.later o6.below)
  have HB6 := Lib.hid (HB5.out.trans (o6.below.mono HB5.out.size))
  have HGU := Lib.hid hg6
  have hF : 0 ≤ F ∧ F ≤ 200 := by have := hg6.2.2.2.2; omega
  have HLU := Lib.hid o6.lt
  have HLT : Hid (∀ x, b3 = some x → x.block < w6.heap.size) := Lib.hid (fun x hx => by have := HLT3.out x hx; have := HS5.out; have := o6.below.size; omega)
  clear o6 r6 hm hg6 HG5 HE3 HC3 HD3 HR5 HR3 HLT3 HS5 HB2 HB3 HB5 hk60 hk56 hd0 hd1 hd2
  obtain ⟨X, hX⟩ : ∃ X, compareC ts E us F = X := ⟨_, rfl⟩
  obtain ⟨Y, hY⟩ : ∃ X, compareC us F ts E = X := ⟨_, rfl⟩
  have hxy : (X = 2 ∧ Y = 2) ∨ (X = -1 ∧ Y = 1) ∨ (X = 0 ∧ Y = 0) ∨ (X = 1 ∧ Y = -1) := by
    rw [← hX, ← hY]; unfold compareC
    cases beginsC ts E us F <;> cases beginsC us F ts E <;> simp
  have HXX := Lib.hid hX
  have HYY := Lib.hid hY
  obtain ⟨d, hd⟩ : ∃ d, bits .and .i64 q 63 = d := ⟨_, rfl⟩
  have hdr : 0 ≤ d ∧ d ≤ 63 := by rw [← hd]; exact and_range q 63 (by decide)
  obtain ⟨d2, hd2'⟩ : ∃ d, bits .and .i64 p 255 = d := ⟨_, rfl⟩
  have hdr2 : 0 ≤ d2 ∧ d2 ≤ 255 := by rw [← hd2']; exact and_range p 255 (by decide)
  have her : 0 ≤ (d % (E + 1)) ∧ (d % (E + 1)) ≤ E := by
    have h1 := Int.emod_nonneg d (show (E + 1) ≠ 0 by omega)
    have h2 := Int.emod_lt_of_pos d (show 0 < E + 1 by omega)
    omega
  have hez : (E + 1 == 0) = false := by simp; omega
  have hsf := compare_self ts E
  have HSF := Lib.hid hsf
  have hcs := cut_some HGT.out.1 her.1
  obtain ⟨L, hL⟩ : ∃ L, (cutC ts (d % (E + 1))).length = L := ⟨_, rfl⟩
  have hLk : L ≤ 20 := by have := headOf_len (cut_head ts (d % (E + 1))); have := HK.out; omega
  obtain ⟨R, hR⟩ : ∃ R : Nat, 1 + d2 % (L : Int) = (R : Int) := ⟨(1 + d2 % (L : Int)).toNat, by
    have h1 := Int.emod_nonneg d2 (show (L : Int) ≠ 0 by omega)
    omega⟩
  have hRL : 1 ≤ R ∧ R ≤ L := by
    have h1 := Int.emod_nonneg d2 (show (L : Int) ≠ 0 by omega)
    have h2 := Int.emod_lt_of_pos d2 (show 0 < (L : Int) by omega)
    omega
  rw [hL] at hcs
  have HL := Lib.hid hL
  have HCB := Lib.hid (cut_begins (a := ts) her.2)
  have HLAW := Lib.hid (orders_law (a := ts) (b := us) (n := F) her.2 (r := R) (by rw [hL]; exact hRL.2))
  rw [hX] at HLAW
  have hLz : ((L : Int) == 0) = false := by simp; omega
  have HRR := Lib.hid hR
  obtain ⟨C, hC⟩ : ∃ C, cutC ts (d % (E + 1)) = C := ⟨_, rfl⟩
  have HCC := Lib.hid hC
  rw [hC] at HL HCB HLAW
  have HLT2 : Hid ((C.take R).length = R) := Lib.hid (by rw [List.length_take, HL.out]; omega)
  clear hX hY hsf hL hR hC
  rcases hxy with ⟨rfl, rfl⟩ | ⟨rfl, rfl⟩ | ⟨rfl, rfl⟩ | ⟨rfl, rfl⟩
  · go_wp2_with fail
    refine (compare_any b3 b6 k m d3 d6 ts us E F w6 HR6.out HS6.out HK.out HM.out).mono ?_
    rw [HXX.out]
    rintro e w7 ⟨rfl, hb⟩
    have HB7 := Lib.hid (HB6.out.trans (hb.mono HB6.out.size))
    have HR7 := Lib.hid (HR6.out.later hb)
    have HS7 := Lib.hid (HS6.out.later hb)
    have HZ7 := Lib.hid hb.size
    clear hb
    go_wp2_with fail
    refine (compare_any b6 b3 m k d6 d3 us ts F E w7 HS7.out HR7.out HM.out HK.out).mono ?_
    rw [HYY.out]
    rintro e w8 ⟨rfl, hb⟩
    have HB8 := Lib.hid (HB7.out.trans (hb.mono HB7.out.size))
    have HR8 := Lib.hid (HR7.out.later hb)
    have HS8 := Lib.hid (HS7.out.later hb)
    have HZ8 := Lib.hid hb.size
    clear hb
    go_wp2_with fail
    refine (compare_any b3 b3 k k d3 d3 ts ts E E w8 HR8.out HR8.out HK.out HK.out).mono ?_
    rw [HSF.out]
    rintro e w9 ⟨rfl, hb⟩
    have HB9 := Lib.hid (HB8.out.trans (hb.mono HB8.out.size))
    have HR9 := Lib.hid (HR8.out.later hb)
    have HS9 := Lib.hid (HS8.out.later hb)
    have HZ9 := Lib.hid hb.size
    clear hb
    go_wp2_with fail
    refine (cut_any b3 k d3 ts (d % (E + 1)) w9 HR9.out HK.out (by omega)).mono ?_
    rw [HCC.out]
    rintro y w10 ⟨v10, rfl, o10⟩
    obtain ⟨bc, dc, rfl, rc⟩ := o10.row_n HL.out
    have HB10 := Lib.hid (HB9.out.trans (o10.below.mono HB9.out.size))
    have HR10 := Lib.hid (HR9.out.later o10.below)
    have HS10 := Lib.hid (HS9.out.later o10.below)
    have HC10 := Lib.hid rc
    clear o10 rc
    go_wp2_with fail
    refine (begins_any bc b3 L k dc d3 C ts (d % (E + 1)) E w10 HC10.out HR10.out HL.out HK.out).mono ?_
    rw [HCB.out]
    rintro y w11 ⟨rfl, hb⟩
    have HB11 := Lib.hid (HB10.out.trans (hb.mono HB10.out.size))
    have HR11 := Lib.hid (HR10.out.later hb)
    have HS11 := Lib.hid (HS10.out.later hb)
    have HC11 := Lib.hid (HC10.out.later hb)
    clear hb
    have hsl : ∀ W, (Instr.slice 22 (.slice bc L dc) none (some (.int .i64 (1 + d2 % (L : Int)))) none).run Try.prog W = .ok (.slice bc R dc) W := fun W => by rw [HRR.out]; exact run_slR HC11.out HL.out hRL.2
    have HT11 := Lib.hid (HC11.out.take R)
    have hLd : decide (L = 0) = false := by simp; omega
    have hm1' : 0 ≤ d2 % (L : Int) := Int.emod_nonneg d2 (by omega)
    have hm2' : d2 % (L : Int) ≤ 20 := by have := Int.emod_lt_of_pos d2 (show 0 < (L : Int) by omega); omega
    by_cases hlt : R < L
    · have hlt2 : decide (R < L) = true := by simpa using hlt
      obtain ⟨t, ht⟩ : ∃ t, C[R]? = some t := ⟨C[R]'(by have := HL.out; omega), List.getElem?_eq_getElem _⟩
      obtain ⟨bt, ot, rfl, p0, p1, p2, p3⟩ := HC11.out.at ht
      obtain ⟨K, hK⟩ : ∃ K, min (d % (E + 1)) t.at' = K := ⟨_, rfl⟩
      have hk1 : minAt C R (d % (E + 1)) = K := by unfold minAt; rw [ht]; exact hK
      have HKL : Hid (minAt C R (d % (E + 1)) = K) := Lib.hid hk1
      have HAT := Lib.hid hK
      clear ht hk1
      go_wp2_with fail
      clear p0 p1 p2 p3
      refine (begins_any (some ⟨bt, ot, none⟩) (some ⟨bt, ot, none⟩) R L dc dc (C.take R) C K (d % (E + 1)) w11 HT11.out HC11.out HLT2.out HL.out).mono ?_
      rw [show beginsC (C.take R) K C (d % (E + 1)) = true by have := HLAW.out.1; rwa [HKL.out] at this]
      rintro y w12 ⟨rfl, hb⟩
      have HB12 := Lib.hid (HB11.out.trans (hb.mono HB11.out.size))
      have HR12 := Lib.hid (HR11.out.later hb)
      have HS12 := Lib.hid (HS11.out.later hb)
      have HC12 := Lib.hid (HC11.out.later hb)
      have HT12 := Lib.hid (HT11.out.later hb)
      clear hb
      go_wp2_with fail
      refine (begins_any (some ⟨bt, ot, none⟩) b3 R k dc d3 (C.take R) ts K E w12 HT12.out HR12.out HLT2.out HK.out).mono ?_
      rw [show beginsC (C.take R) K ts E = true by have := HLAW.out.2.1; rwa [HKL.out] at this]
      rintro y w13 ⟨rfl, hb⟩
      have HB13 := Lib.hid (HB12.out.trans (hb.mono HB12.out.size))
      have HS13 := Lib.hid (HS12.out.later hb)
      have HC13 := Lib.hid (HC12.out.later hb)
      clear hb
      have HB14 := HB13
      go_wp2_with fail
      refine (known_any _).mono ?_
      rintro y w20 ⟨rfl, hb20⟩
      go_wp2_with fail
      go_ret
      exact ⟨rfl, HB14.out.trans (hb20.mono HB14.out.size)⟩
    · have hlt2 : decide (R < L) = false := by simpa using hlt
      have hRL2 : R = L := by omega
      have HKL : Hid (minAt C R (d % (E + 1)) = (d % (E + 1))) := Lib.hid (by unfold minAt; rw [List.getElem?_eq_none (by have := HL.out; omega)])
      clear hRL2
      go_wp2_with fail
      refine (begins_any bc bc R L dc dc (C.take R) C (d % (E + 1)) (d % (E + 1)) w11 HT11.out HC11.out HLT2.out HL.out).mono ?_
      rw [show beginsC (C.take R) (d % (E + 1)) C (d % (E + 1)) = true by have := HLAW.out.1; rwa [HKL.out] at this]
      rintro y w12 ⟨rfl, hb⟩
      have HB12 := Lib.hid (HB11.out.trans (hb.mono HB11.out.size))
      have HR12 := Lib.hid (HR11.out.later hb)
      have HS12 := Lib.hid (HS11.out.later hb)
      have HC12 := Lib.hid (HC11.out.later hb)
      have HT12 := Lib.hid (HT11.out.later hb)
      clear hb
      go_wp2_with fail
      refine (begins_any bc b3 R k dc d3 (C.take R) ts (d % (E + 1)) E w12 HT12.out HR12.out HLT2.out HK.out).mono ?_
      rw [show beginsC (C.take R) (d % (E + 1)) ts E = true by have := HLAW.out.2.1; rwa [HKL.out] at this]
      rintro y w13 ⟨rfl, hb⟩
      have HB13 := Lib.hid (HB12.out.trans (hb.mono HB12.out.size))
      have HS13 := Lib.hid (HS12.out.later hb)
      have HC13 := Lib.hid (HC12.out.later hb)
      clear hb
      have HB14 := HB13
      go_wp2_with fail
      refine (known_any _).mono ?_
      rintro y w20 ⟨rfl, hb20⟩
      go_wp2_with fail
      go_ret
      exact ⟨rfl, HB14.out.trans (hb20.mono HB14.out.size)⟩
  · go_wp2_with fail
    refine (compare_any b3 b6 k m d3 d6 ts us E F w6 HR6.out HS6.out HK.out HM.out).mono ?_
    rw [HXX.out]
    rintro e w7 ⟨rfl, hb⟩
    have HB7 := Lib.hid (HB6.out.trans (hb.mono HB6.out.size))
    have HR7 := Lib.hid (HR6.out.later hb)
    have HS7 := Lib.hid (HS6.out.later hb)
    have HZ7 := Lib.hid hb.size
    clear hb
    go_wp2_with fail
    refine (compare_any b6 b3 m k d6 d3 us ts F E w7 HS7.out HR7.out HM.out HK.out).mono ?_
    rw [HYY.out]
    rintro e w8 ⟨rfl, hb⟩
    have HB8 := Lib.hid (HB7.out.trans (hb.mono HB7.out.size))
    have HR8 := Lib.hid (HR7.out.later hb)
    have HS8 := Lib.hid (HS7.out.later hb)
    have HZ8 := Lib.hid hb.size
    clear hb
    go_wp2_with fail
    refine (compare_any b3 b3 k k d3 d3 ts ts E E w8 HR8.out HR8.out HK.out HK.out).mono ?_
    rw [HSF.out]
    rintro e w9 ⟨rfl, hb⟩
    have HB9 := Lib.hid (HB8.out.trans (hb.mono HB8.out.size))
    have HR9 := Lib.hid (HR8.out.later hb)
    have HS9 := Lib.hid (HS8.out.later hb)
    have HZ9 := Lib.hid hb.size
    clear hb
    go_wp2_with fail
    refine (cut_any b3 k d3 ts (d % (E + 1)) w9 HR9.out HK.out (by omega)).mono ?_
    rw [HCC.out]
    rintro y w10 ⟨v10, rfl, o10⟩
    obtain ⟨bc, dc, rfl, rc⟩ := o10.row_n HL.out
    have HB10 := Lib.hid (HB9.out.trans (o10.below.mono HB9.out.size))
    have HR10 := Lib.hid (HR9.out.later o10.below)
    have HS10 := Lib.hid (HS9.out.later o10.below)
    have HC10 := Lib.hid rc
    clear o10 rc
    go_wp2_with fail
    refine (begins_any bc b3 L k dc d3 C ts (d % (E + 1)) E w10 HC10.out HR10.out HL.out HK.out).mono ?_
    rw [HCB.out]
    rintro y w11 ⟨rfl, hb⟩
    have HB11 := Lib.hid (HB10.out.trans (hb.mono HB10.out.size))
    have HR11 := Lib.hid (HR10.out.later hb)
    have HS11 := Lib.hid (HS10.out.later hb)
    have HC11 := Lib.hid (HC10.out.later hb)
    clear hb
    have hsl : ∀ W, (Instr.slice 22 (.slice bc L dc) none (some (.int .i64 (1 + d2 % (L : Int)))) none).run Try.prog W = .ok (.slice bc R dc) W := fun W => by rw [HRR.out]; exact run_slR HC11.out HL.out hRL.2
    have HT11 := Lib.hid (HC11.out.take R)
    have hLd : decide (L = 0) = false := by simp; omega
    have hm1' : 0 ≤ d2 % (L : Int) := Int.emod_nonneg d2 (by omega)
    have hm2' : d2 % (L : Int) ≤ 20 := by have := Int.emod_lt_of_pos d2 (show 0 < (L : Int) by omega); omega
    by_cases hlt : R < L
    · have hlt2 : decide (R < L) = true := by simpa using hlt
      obtain ⟨t, ht⟩ : ∃ t, C[R]? = some t := ⟨C[R]'(by have := HL.out; omega), List.getElem?_eq_getElem _⟩
      obtain ⟨bt, ot, rfl, p0, p1, p2, p3⟩ := HC11.out.at ht
      obtain ⟨K, hK⟩ : ∃ K, min (d % (E + 1)) t.at' = K := ⟨_, rfl⟩
      have hk1 : minAt C R (d % (E + 1)) = K := by unfold minAt; rw [ht]; exact hK
      have HKL : Hid (minAt C R (d % (E + 1)) = K) := Lib.hid hk1
      have HAT := Lib.hid hK
      clear ht hk1
      go_wp2_with fail
      clear p0 p1 p2 p3
      refine (begins_any (some ⟨bt, ot, none⟩) (some ⟨bt, ot, none⟩) R L dc dc (C.take R) C K (d % (E + 1)) w11 HT11.out HC11.out HLT2.out HL.out).mono ?_
      rw [show beginsC (C.take R) K C (d % (E + 1)) = true by have := HLAW.out.1; rwa [HKL.out] at this]
      rintro y w12 ⟨rfl, hb⟩
      have HB12 := Lib.hid (HB11.out.trans (hb.mono HB11.out.size))
      have HR12 := Lib.hid (HR11.out.later hb)
      have HS12 := Lib.hid (HS11.out.later hb)
      have HC12 := Lib.hid (HC11.out.later hb)
      have HT12 := Lib.hid (HT11.out.later hb)
      clear hb
      go_wp2_with fail
      refine (begins_any (some ⟨bt, ot, none⟩) b3 R k dc d3 (C.take R) ts K E w12 HT12.out HR12.out HLT2.out HK.out).mono ?_
      rw [show beginsC (C.take R) K ts E = true by have := HLAW.out.2.1; rwa [HKL.out] at this]
      rintro y w13 ⟨rfl, hb⟩
      have HB13 := Lib.hid (HB12.out.trans (hb.mono HB12.out.size))
      have HS13 := Lib.hid (HS12.out.later hb)
      have HC13 := Lib.hid (HC12.out.later hb)
      clear hb
      go_wp2_with fail
      refine (begins_any (some ⟨bt, ot, none⟩) b6 L m dc d6 C us (d % (E + 1)) F w13 HC13.out HS13.out HL.out HM.out).mono ?_
      rw [show beginsC C (d % (E + 1)) us F = true from HLAW.out.2.2.resolve_left (fun h => h rfl)]
      rintro y w14 ⟨rfl, hb⟩
      have HB14 := Lib.hid (HB13.out.trans (hb.mono HB13.out.size))
      clear hb
      go_wp2_with fail
      refine (known_any _).mono ?_
      rintro y w20 ⟨rfl, hb20⟩
      go_wp2_with fail
      go_ret
      exact ⟨rfl, HB14.out.trans (hb20.mono HB14.out.size)⟩
    · have hlt2 : decide (R < L) = false := by simpa using hlt
      have hRL2 : R = L := by omega
      have HKL : Hid (minAt C R (d % (E + 1)) = (d % (E + 1))) := Lib.hid (by unfold minAt; rw [List.getElem?_eq_none (by have := HL.out; omega)])
      clear hRL2
      go_wp2_with fail
      refine (begins_any bc bc R L dc dc (C.take R) C (d % (E + 1)) (d % (E + 1)) w11 HT11.out HC11.out HLT2.out HL.out).mono ?_
      rw [show beginsC (C.take R) (d % (E + 1)) C (d % (E + 1)) = true by have := HLAW.out.1; rwa [HKL.out] at this]
      rintro y w12 ⟨rfl, hb⟩
      have HB12 := Lib.hid (HB11.out.trans (hb.mono HB11.out.size))
      have HR12 := Lib.hid (HR11.out.later hb)
      have HS12 := Lib.hid (HS11.out.later hb)
      have HC12 := Lib.hid (HC11.out.later hb)
      have HT12 := Lib.hid (HT11.out.later hb)
      clear hb
      go_wp2_with fail
      refine (begins_any bc b3 R k dc d3 (C.take R) ts (d % (E + 1)) E w12 HT12.out HR12.out HLT2.out HK.out).mono ?_
      rw [show beginsC (C.take R) (d % (E + 1)) ts E = true by have := HLAW.out.2.1; rwa [HKL.out] at this]
      rintro y w13 ⟨rfl, hb⟩
      have HB13 := Lib.hid (HB12.out.trans (hb.mono HB12.out.size))
      have HS13 := Lib.hid (HS12.out.later hb)
      have HC13 := Lib.hid (HC12.out.later hb)
      clear hb
      go_wp2_with fail
      refine (begins_any bc b6 L m dc d6 C us (d % (E + 1)) F w13 HC13.out HS13.out HL.out HM.out).mono ?_
      rw [show beginsC C (d % (E + 1)) us F = true from HLAW.out.2.2.resolve_left (fun h => h rfl)]
      rintro y w14 ⟨rfl, hb⟩
      have HB14 := Lib.hid (HB13.out.trans (hb.mono HB13.out.size))
      clear hb
      go_wp2_with fail
      refine (known_any _).mono ?_
      rintro y w20 ⟨rfl, hb20⟩
      go_wp2_with fail
      go_ret
      exact ⟨rfl, HB14.out.trans (hb20.mono HB14.out.size)⟩
  · go_wp2_with fail
    refine (compare_any b3 b6 k m d3 d6 ts us E F w6 HR6.out HS6.out HK.out HM.out).mono ?_
    rw [HXX.out]
    rintro e w7 ⟨rfl, hb⟩
    have HB7 := Lib.hid (HB6.out.trans (hb.mono HB6.out.size))
    have HR7 := Lib.hid (HR6.out.later hb)
    have HS7 := Lib.hid (HS6.out.later hb)
    have HZ7 := Lib.hid hb.size
    clear hb
    go_wp2_with fail
    refine (compare_any b6 b3 m k d6 d3 us ts F E w7 HS7.out HR7.out HM.out HK.out).mono ?_
    rw [HYY.out]
    rintro e w8 ⟨rfl, hb⟩
    have HB8 := Lib.hid (HB7.out.trans (hb.mono HB7.out.size))
    have HR8 := Lib.hid (HR7.out.later hb)
    have HS8 := Lib.hid (HS7.out.later hb)
    have HZ8 := Lib.hid hb.size
    clear hb
    go_wp2_with fail
    refine (compare_any b3 b3 k k d3 d3 ts ts E E w8 HR8.out HR8.out HK.out HK.out).mono ?_
    rw [HSF.out]
    rintro e w9 ⟨rfl, hb⟩
    have HB9 := Lib.hid (HB8.out.trans (hb.mono HB8.out.size))
    have HR9 := Lib.hid (HR8.out.later hb)
    have HS9 := Lib.hid (HS8.out.later hb)
    have HZ9 := Lib.hid hb.size
    clear hb
    go_wp2_with fail
    refine (cut_any b3 k d3 ts (d % (E + 1)) w9 HR9.out HK.out (by omega)).mono ?_
    rw [HCC.out]
    rintro y w10 ⟨v10, rfl, o10⟩
    obtain ⟨bc, dc, rfl, rc⟩ := o10.row_n HL.out
    have HB10 := Lib.hid (HB9.out.trans (o10.below.mono HB9.out.size))
    have HR10 := Lib.hid (HR9.out.later o10.below)
    have HS10 := Lib.hid (HS9.out.later o10.below)
    have HC10 := Lib.hid rc
    clear o10 rc
    go_wp2_with fail
    refine (begins_any bc b3 L k dc d3 C ts (d % (E + 1)) E w10 HC10.out HR10.out HL.out HK.out).mono ?_
    rw [HCB.out]
    rintro y w11 ⟨rfl, hb⟩
    have HB11 := Lib.hid (HB10.out.trans (hb.mono HB10.out.size))
    have HR11 := Lib.hid (HR10.out.later hb)
    have HS11 := Lib.hid (HS10.out.later hb)
    have HC11 := Lib.hid (HC10.out.later hb)
    clear hb
    have hsl : ∀ W, (Instr.slice 22 (.slice bc L dc) none (some (.int .i64 (1 + d2 % (L : Int)))) none).run Try.prog W = .ok (.slice bc R dc) W := fun W => by rw [HRR.out]; exact run_slR HC11.out HL.out hRL.2
    have HT11 := Lib.hid (HC11.out.take R)
    have hLd : decide (L = 0) = false := by simp; omega
    have hm1' : 0 ≤ d2 % (L : Int) := Int.emod_nonneg d2 (by omega)
    have hm2' : d2 % (L : Int) ≤ 20 := by have := Int.emod_lt_of_pos d2 (show 0 < (L : Int) by omega); omega
    by_cases hlt : R < L
    · have hlt2 : decide (R < L) = true := by simpa using hlt
      obtain ⟨t, ht⟩ : ∃ t, C[R]? = some t := ⟨C[R]'(by have := HL.out; omega), List.getElem?_eq_getElem _⟩
      obtain ⟨bt, ot, rfl, p0, p1, p2, p3⟩ := HC11.out.at ht
      obtain ⟨K, hK⟩ : ∃ K, min (d % (E + 1)) t.at' = K := ⟨_, rfl⟩
      have hk1 : minAt C R (d % (E + 1)) = K := by unfold minAt; rw [ht]; exact hK
      have HKL : Hid (minAt C R (d % (E + 1)) = K) := Lib.hid hk1
      have HAT := Lib.hid hK
      clear ht hk1
      go_wp2_with fail
      clear p0 p1 p2 p3
      refine (begins_any (some ⟨bt, ot, none⟩) (some ⟨bt, ot, none⟩) R L dc dc (C.take R) C K (d % (E + 1)) w11 HT11.out HC11.out HLT2.out HL.out).mono ?_
      rw [show beginsC (C.take R) K C (d % (E + 1)) = true by have := HLAW.out.1; rwa [HKL.out] at this]
      rintro y w12 ⟨rfl, hb⟩
      have HB12 := Lib.hid (HB11.out.trans (hb.mono HB11.out.size))
      have HR12 := Lib.hid (HR11.out.later hb)
      have HS12 := Lib.hid (HS11.out.later hb)
      have HC12 := Lib.hid (HC11.out.later hb)
      have HT12 := Lib.hid (HT11.out.later hb)
      clear hb
      go_wp2_with fail
      refine (begins_any (some ⟨bt, ot, none⟩) b3 R k dc d3 (C.take R) ts K E w12 HT12.out HR12.out HLT2.out HK.out).mono ?_
      rw [show beginsC (C.take R) K ts E = true by have := HLAW.out.2.1; rwa [HKL.out] at this]
      rintro y w13 ⟨rfl, hb⟩
      have HB13 := Lib.hid (HB12.out.trans (hb.mono HB12.out.size))
      have HS13 := Lib.hid (HS12.out.later hb)
      have HC13 := Lib.hid (HC12.out.later hb)
      clear hb
      have HB14 := HB13
      go_wp2_with fail
      refine (known_any _).mono ?_
      rintro y w20 ⟨rfl, hb20⟩
      go_wp2_with fail
      go_ret
      exact ⟨rfl, HB14.out.trans (hb20.mono HB14.out.size)⟩
    · have hlt2 : decide (R < L) = false := by simpa using hlt
      have hRL2 : R = L := by omega
      have HKL : Hid (minAt C R (d % (E + 1)) = (d % (E + 1))) := Lib.hid (by unfold minAt; rw [List.getElem?_eq_none (by have := HL.out; omega)])
      clear hRL2
      go_wp2_with fail
      refine (begins_any bc bc R L dc dc (C.take R) C (d % (E + 1)) (d % (E + 1)) w11 HT11.out HC11.out HLT2.out HL.out).mono ?_
      rw [show beginsC (C.take R) (d % (E + 1)) C (d % (E + 1)) = true by have := HLAW.out.1; rwa [HKL.out] at this]
      rintro y w12 ⟨rfl, hb⟩
      have HB12 := Lib.hid (HB11.out.trans (hb.mono HB11.out.size))
      have HR12 := Lib.hid (HR11.out.later hb)
      have HS12 := Lib.hid (HS11.out.later hb)
      have HC12 := Lib.hid (HC11.out.later hb)
      have HT12 := Lib.hid (HT11.out.later hb)
      clear hb
      go_wp2_with fail
      refine (begins_any bc b3 R k dc d3 (C.take R) ts (d % (E + 1)) E w12 HT12.out HR12.out HLT2.out HK.out).mono ?_
      rw [show beginsC (C.take R) (d % (E + 1)) ts E = true by have := HLAW.out.2.1; rwa [HKL.out] at this]
      rintro y w13 ⟨rfl, hb⟩
      have HB13 := Lib.hid (HB12.out.trans (hb.mono HB12.out.size))
      have HS13 := Lib.hid (HS12.out.later hb)
      have HC13 := Lib.hid (HC12.out.later hb)
      clear hb
      have HB14 := HB13
      go_wp2_with fail
      refine (known_any _).mono ?_
      rintro y w20 ⟨rfl, hb20⟩
      go_wp2_with fail
      go_ret
      exact ⟨rfl, HB14.out.trans (hb20.mono HB14.out.size)⟩
  · go_wp2_with fail
    refine (compare_any b3 b6 k m d3 d6 ts us E F w6 HR6.out HS6.out HK.out HM.out).mono ?_
    rw [HXX.out]
    rintro e w7 ⟨rfl, hb⟩
    have HB7 := Lib.hid (HB6.out.trans (hb.mono HB6.out.size))
    have HR7 := Lib.hid (HR6.out.later hb)
    have HS7 := Lib.hid (HS6.out.later hb)
    have HZ7 := Lib.hid hb.size
    clear hb
    go_wp2_with fail
    refine (compare_any b6 b3 m k d6 d3 us ts F E w7 HS7.out HR7.out HM.out HK.out).mono ?_
    rw [HYY.out]
    rintro e w8 ⟨rfl, hb⟩
    have HB8 := Lib.hid (HB7.out.trans (hb.mono HB7.out.size))
    have HR8 := Lib.hid (HR7.out.later hb)
    have HS8 := Lib.hid (HS7.out.later hb)
    have HZ8 := Lib.hid hb.size
    clear hb
    go_wp2_with fail
    refine (compare_any b3 b3 k k d3 d3 ts ts E E w8 HR8.out HR8.out HK.out HK.out).mono ?_
    rw [HSF.out]
    rintro e w9 ⟨rfl, hb⟩
    have HB9 := Lib.hid (HB8.out.trans (hb.mono HB8.out.size))
    have HR9 := Lib.hid (HR8.out.later hb)
    have HS9 := Lib.hid (HS8.out.later hb)
    have HZ9 := Lib.hid hb.size
    clear hb
    go_wp2_with fail
    refine (cut_any b3 k d3 ts (d % (E + 1)) w9 HR9.out HK.out (by omega)).mono ?_
    rw [HCC.out]
    rintro y w10 ⟨v10, rfl, o10⟩
    obtain ⟨bc, dc, rfl, rc⟩ := o10.row_n HL.out
    have HB10 := Lib.hid (HB9.out.trans (o10.below.mono HB9.out.size))
    have HR10 := Lib.hid (HR9.out.later o10.below)
    have HS10 := Lib.hid (HS9.out.later o10.below)
    have HC10 := Lib.hid rc
    clear o10 rc
    go_wp2_with fail
    refine (begins_any bc b3 L k dc d3 C ts (d % (E + 1)) E w10 HC10.out HR10.out HL.out HK.out).mono ?_
    rw [HCB.out]
    rintro y w11 ⟨rfl, hb⟩
    have HB11 := Lib.hid (HB10.out.trans (hb.mono HB10.out.size))
    have HR11 := Lib.hid (HR10.out.later hb)
    have HS11 := Lib.hid (HS10.out.later hb)
    have HC11 := Lib.hid (HC10.out.later hb)
    clear hb
    have hsl : ∀ W, (Instr.slice 22 (.slice bc L dc) none (some (.int .i64 (1 + d2 % (L : Int)))) none).run Try.prog W = .ok (.slice bc R dc) W := fun W => by rw [HRR.out]; exact run_slR HC11.out HL.out hRL.2
    have HT11 := Lib.hid (HC11.out.take R)
    have hLd : decide (L = 0) = false := by simp; omega
    have hm1' : 0 ≤ d2 % (L : Int) := Int.emod_nonneg d2 (by omega)
    have hm2' : d2 % (L : Int) ≤ 20 := by have := Int.emod_lt_of_pos d2 (show 0 < (L : Int) by omega); omega
    by_cases hlt : R < L
    · have hlt2 : decide (R < L) = true := by simpa using hlt
      obtain ⟨t, ht⟩ : ∃ t, C[R]? = some t := ⟨C[R]'(by have := HL.out; omega), List.getElem?_eq_getElem _⟩
      obtain ⟨bt, ot, rfl, p0, p1, p2, p3⟩ := HC11.out.at ht
      obtain ⟨K, hK⟩ : ∃ K, min (d % (E + 1)) t.at' = K := ⟨_, rfl⟩
      have hk1 : minAt C R (d % (E + 1)) = K := by unfold minAt; rw [ht]; exact hK
      have HKL : Hid (minAt C R (d % (E + 1)) = K) := Lib.hid hk1
      have HAT := Lib.hid hK
      clear ht hk1
      go_wp2_with fail
      clear p0 p1 p2 p3
      refine (begins_any (some ⟨bt, ot, none⟩) (some ⟨bt, ot, none⟩) R L dc dc (C.take R) C K (d % (E + 1)) w11 HT11.out HC11.out HLT2.out HL.out).mono ?_
      rw [show beginsC (C.take R) K C (d % (E + 1)) = true by have := HLAW.out.1; rwa [HKL.out] at this]
      rintro y w12 ⟨rfl, hb⟩
      have HB12 := Lib.hid (HB11.out.trans (hb.mono HB11.out.size))
      have HR12 := Lib.hid (HR11.out.later hb)
      have HS12 := Lib.hid (HS11.out.later hb)
      have HC12 := Lib.hid (HC11.out.later hb)
      have HT12 := Lib.hid (HT11.out.later hb)
      clear hb
      go_wp2_with fail
      refine (begins_any (some ⟨bt, ot, none⟩) b3 R k dc d3 (C.take R) ts K E w12 HT12.out HR12.out HLT2.out HK.out).mono ?_
      rw [show beginsC (C.take R) K ts E = true by have := HLAW.out.2.1; rwa [HKL.out] at this]
      rintro y w13 ⟨rfl, hb⟩
      have HB13 := Lib.hid (HB12.out.trans (hb.mono HB12.out.size))
      have HS13 := Lib.hid (HS12.out.later hb)
      have HC13 := Lib.hid (HC12.out.later hb)
      clear hb
      have HB14 := HB13
      go_wp2_with fail
      refine (known_any _).mono ?_
      rintro y w20 ⟨rfl, hb20⟩
      go_wp2_with fail
      go_ret
      exact ⟨rfl, HB14.out.trans (hb20.mono HB14.out.size)⟩
    · have hlt2 : decide (R < L) = false := by simpa using hlt
      have hRL2 : R = L := by omega
      have HKL : Hid (minAt C R (d % (E + 1)) = (d % (E + 1))) := Lib.hid (by unfold minAt; rw [List.getElem?_eq_none (by have := HL.out; omega)])
      clear hRL2
      go_wp2_with fail
      refine (begins_any bc bc R L dc dc (C.take R) C (d % (E + 1)) (d % (E + 1)) w11 HT11.out HC11.out HLT2.out HL.out).mono ?_
      rw [show beginsC (C.take R) (d % (E + 1)) C (d % (E + 1)) = true by have := HLAW.out.1; rwa [HKL.out] at this]
      rintro y w12 ⟨rfl, hb⟩
      have HB12 := Lib.hid (HB11.out.trans (hb.mono HB11.out.size))
      have HR12 := Lib.hid (HR11.out.later hb)
      have HS12 := Lib.hid (HS11.out.later hb)
      have HC12 := Lib.hid (HC11.out.later hb)
      have HT12 := Lib.hid (HT11.out.later hb)
      clear hb
      go_wp2_with fail
      refine (begins_any bc b3 R k dc d3 (C.take R) ts (d % (E + 1)) E w12 HT12.out HR12.out HLT2.out HK.out).mono ?_
      rw [show beginsC (C.take R) (d % (E + 1)) ts E = true by have := HLAW.out.2.1; rwa [HKL.out] at this]
      rintro y w13 ⟨rfl, hb⟩
      have HB13 := Lib.hid (HB12.out.trans (hb.mono HB12.out.size))
      have HS13 := Lib.hid (HS12.out.later hb)
      have HC13 := Lib.hid (HC12.out.later hb)
      clear hb
      have HB14 := HB13
      go_wp2_with fail
      refine (known_any _).mono ?_
      rintro y w20 ⟨rfl, hb20⟩
      go_wp2_with fail
      go_ret
      exact ⟨rfl, HB14.out.trans (hb20.mono HB14.out.size)⟩
theorem chainOrders_walk (a0 a1 a2 : Option Addr) (n0 c0 n1 c1 n2 c2 : Nat) (z0 z1 z2 : List Int) (p : Int) (q : Int) (w : World) (hr0 : ZRow w a0 c0 z0) (hn0 : z0.length = n0) (hr1 : ZRow w a1 c1 z1) (hn1 : z1.length = n1) (hr2 : ZRow w a2 c2 z2) (hn2 : z2.length = n2) :
    Calls Try.prog 6 #[.slice a0 n0 c0, .slice a1 n1 c1, .slice a2 n2 c2, .int .i64 p, .int .i64 q] w fun x w' => x = .returned (.bool true) ∧ Below w.heap.size w w' := by
  by_cases hb : 30 < n0 ∨ 30 < n1 ∨ 30 < n2
  · exact chainOrders_known a0 a1 a2 n0 c0 n1 c1 n2 c2 p q w hb
  · exact chainOrders_main a0 a1 a2 n0 c0 n1 c1 n2 c2 z0 z1 z2 p q w hr0 hn0 (by omega) hr1 hn1 (by omega) hr2 hn2 (by omega)
end Go.Proofs.Ytpeamfndanbhiaa
