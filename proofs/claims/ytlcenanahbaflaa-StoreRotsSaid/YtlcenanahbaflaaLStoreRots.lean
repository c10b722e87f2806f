/- The law 'StoreRots', walked. -/
import Derived.Test.YtlcenanahbaflaaStX
namespace Go.Proofs.Ytlcenanahbaflaa
open Go.RowKit
set_option linter.unusedVariables false

def krK : K4 := ⟨2, 0, 0, 0⟩
theorem kr_ok : krK.ok := KEY_ok 2 0 0 0 (by omega)
theorem k3_ok : (⟨3, 0, 0, 0⟩ : K4).ok := KEY_ok 3 0 0 0 (by omega)

theorem byteAt {l : List UInt8} {n i : Nat} (h : l.length = n) (hi : i < n) : ∃ u, l[i]? = some u := ⟨_, List.getElem?_eq_getElem (by omega)⟩
theorem One.other {S : St} {k k' : K4} {room : Int} {o : Ob} {n : Nat} (h : One S k room o n) (hk : k'.ok) (hne : k' ≠ k) : S.seen k' = .none := by
  cases hs : S.seen k' with
  | none => rfl
  | some o' =>
    have := (h.good.wf.sks k').2 ⟨by simp [hs], hk⟩
    rw [h.sks] at this
    simp at this
    exact absurd this hne
set_option maxRecDepth 20000 in
set_option maxHeartbeats 1000000 in
theorem rots_walk (a0 : Option Addr) (m cap : Nat) (l : List UInt8) (at_ : Int) (z : UInt8) (w : World) (hr : Row w a0 cap l) (hm : l.length = m) (hm2 : m ≤ 200) (hat : -9223372036854775808 ≤ at_ ∧ at_ ≤ 9223372036854775807) :
    Calls Try.prog 6 #[.slice a0 m cap, .int .i64 at_, .int .u8 z.toNat] w fun e w' => e = .returned (.bool true) ∧ Below w.heap.size w w' := by
  obtain ⟨hat1, hat2⟩ := hat
  have HN := Lib.hid (new_any w 1000)
  have HR := Lib.hid hr
  have HM := Lib.hid hm
  have hmc : m ≤ cap := by have := hr.1; omega
  clear hr hm
  go_enter Try.func6, Try.ntmps6
  go_wp2_with fail
  refine HN.out.mono ?_
  rintro e w1 ⟨b, g1, rfl, s1, hb1, hlb1, hj1⟩
  clear HN
  have H1 : Hid (NSto w w1 b g1 (St.new 1000)) := Lib.hid ⟨s1, hb1, hj1⟩
  have hbk : Below w1.heap.size w1 (w1.alloc (.cells #[.int .i64 2, .int .i64 0, .int .i64 0, .int .i64 0] 27)) := (Below.refl _ _).alloc (Nat.le_refl _) _
  have HK1 : Hid (KeyAt (w1.alloc (.cells #[.int .i64 2, .int .i64 0, .int .i64 0, .int .i64 0] 27)) w1.heap.size krK) := Lib.hid (KeyAt.new w1 krK)
  have H2 := Lib.hid (H1.out.later hbk)
  have HO1 := Lib.hid (One.made 1000 krK kr_ok rfl)
  have HM1 := Lib.hid (make_any _ b g1 _ (H2.out.sto) krK kr_ok rfl rfl (by decide) (St.Good.new 1000).wf 0 ((St.Good.new 1000).sm (by omega)) (by omega))
  have HJ1 : Hid (g1.r w1.heap.size = .junk) := Lib.hid (s1.dom _ (Nat.le_refl _))
  unfold kv krK at HM1
  clear s1 hb1 hj1 hbk hlb1
  go_wp2_with fail
  refine HM1.out.mono ?_
  rintro e w2 ⟨rfl, g2, s2, f2⟩
  have HK2 := Lib.hid (HK1.out.jk (Jk.of_fr f2 (by simp [ours])) HJ1.out)
  have HJ2 : Hid (g2.r w1.heap.size = .junk) := Lib.hid (by rw [f2.role _ HK1.out.lt]; exact HJ1.out)
  obtain ⟨S2, hS2⟩ : ∃ S2, (St.new 1000).did krK ⟨0, 0, [], []⟩ = S2 := ⟨_, rfl⟩
  have HW0 : Hid (∀ k, k ≠ krK → S2.wet k = .none) := Lib.hid (by rw [← hS2]; intro k hk; rw [St.did_wet, upd_other _ _ hk]; rfl)
  have H3 : Hid (NSto w w2 b g2 S2) := Lib.hid (by rw [← hS2]; exact H2.out.fr s2 f2)
  have HO2 : Hid (One S2 krK 1000 Ob.none 1) := Lib.hid (by rw [← hS2]; exact HO1.out)
  clear HM1 H1 H2 HK1 HJ1 s2 f2 hS2 HO1
  obtain ⟨kb, hkb⟩ : ∃ kb, w1.heap.size = kb := ⟨_, rfl⟩
  rw [hkb] at HK2 HJ2 ⊢
  clear hkb
  have hst := HO2.out.wr (by omega) 0 l (by have := HM.out; omega) (.inl (by simp only [Ob.wr, Ob.none, writeL_0]; have := HM.out; omega))
  obtain ⟨S3, hS3⟩ : ∃ S3, S2.did krK ⟨1, (0 : Nat), [], l⟩ = S3 := ⟨_, rfl⟩
  rw [hS3] at hst
  have hrow : Row w2 a0 cap l := HR.out.later H3.out.below
  have HA := Lib.hid (append_any w2 b g2 _ H3.out.sto krK kr_ok Ob.none HO2.out.seen HO2.out.why a0 cap m l hrow HM.out (by omega) HO2.out.good.wf 1 (HO2.out.good.sm (by omega)) (by omega) (by rw [HO2.out.used]; decide))
  have e0 : S2.wr krK Ob.none (Ob.none.bytes.length : Int) l = (0, S3) := hst.1
  rw [e0] at HA
  have HO3 : Hid (One S3 krK 1000 (Ob.none.wr 0 l) 2) := Lib.hid hst.2
  obtain ⟨k0, k1, k2, k3⟩ : w2.cell? ⟨kb, 0, .none⟩ = some (.int .i64 2) ∧ w2.cell? ⟨kb, 1, .none⟩ = some (.int .i64 0) ∧ w2.cell? ⟨kb, 2, .none⟩ = some (.int .i64 0) ∧ w2.cell? ⟨kb, 3, .none⟩ = some (.int .i64 0) := HK2.out.cells
  unfold kv krK at HA
  clear hst hrow e0 hS3
  go_wp2_with fail
  refine HA.out.mono ?_
  rintro e w3 ⟨rfl, g3, s3, f3⟩
  have HK3 := Lib.hid (HK2.out.jk (Jk.of_fr f3 (by simp [ours])) HJ2.out)
  have HJ3 : Hid (g3.r kb = .junk) := Lib.hid (by rw [f3.role _ HK2.out.lt]; exact HJ2.out)
  have H4 : Hid (NSto w w3 b g3 S3) := Lib.hid (H3.out.fr s3 f3)
  clear HA H3 HK2 HJ2 s3 f3 k0 k1 k2 k3
  have HB := Lib.hid (barrier_any w3 b g3 _ H4.out.sto HO3.out.off (by have := HO3.out.good.deeds; omega))
  go_wp2_with fail
  refine HB.out.mono ?_
  rintro e w4 ⟨rfl, g4, s4, f4⟩
  have HK4 := Lib.hid (HK3.out.jk (Jk.of_fr f4 (by simp [ours])) HJ3.out)
  have HJ4 : Hid (g4.r kb = .junk) := Lib.hid (by rw [f4.role _ HK3.out.lt]; exact HJ3.out)
  have H5 : Hid (NSto w w4 b g4 S3.dried) := Lib.hid (H4.out.fr s4 f4)
  have HO4 : Hid (∃ o, o.bytes = l ∧ One S3.dried krK 1000 o 3) := Lib.hid ⟨_, by simp only [Ob.wr, Ob.none, writeL_0], HO3.out.dried⟩
  have HW4 : Hid (∀ k, S3.dried.wet k = .none) := Lib.hid (fun _ => rfl)
  have HX4 : Hid (S3.dried.wks = []) := Lib.hid rfl
  obtain ⟨S4, hS4⟩ : ∃ S4, S3.dried = S4 := ⟨_, rfl⟩
  rw [hS4] at H5 HO4 HW4 HX4
  clear HB H4 HK3 HJ3 s4 f4 hS4
  obtain ⟨o4, ho4, one4⟩ := HO4.out
  obtain ⟨o5, ho5, one5, hw5, hx5, hb5⟩ := one4.rot (HW4.out krK) at_ z
  have HRT := Lib.hid (rot_any w4 b g4 _ H5.out.sto krK kr_ok o4 one4.seen one4.why (HW4.out krK) at_ ⟨hat1, hat2⟩ z (by rw [ho4]; have := HM.out; omega))
  obtain ⟨u, hu⟩ : ∃ u, decide (0 ≤ at_ ∧ at_ < (m : Int)) = u := ⟨_, rfl⟩
  have HU := Lib.hid hu
  rw [hb5, ho4, HM.out, hu] at HRT
  obtain ⟨S5, hS5⟩ : ∃ S5, (S4.rot krK o4 at_ z).2 = S5 := ⟨_, rfl⟩
  rw [hS5] at HRT one5 hw5 hx5
  have HO5 : Hid (∃ o, o.bytes = rotL l at_ z ∧ One S5 krK 1000 o 3) := Lib.hid ⟨o5, by rw [ho5, ho4], one5⟩
  have HW5 : Hid (∀ k, S5.wet k = .none) := Lib.hid (by rw [hw5]; exact HW4.out)
  have HX5 : Hid (S5.wks = []) := Lib.hid (by rw [hx5]; exact HX4.out)
  obtain ⟨k0, k1, k2, k3⟩ : w4.cell? ⟨kb, 0, .none⟩ = some (.int .i64 2) ∧ w4.cell? ⟨kb, 1, .none⟩ = some (.int .i64 0) ∧ w4.cell? ⟨kb, 2, .none⟩ = some (.int .i64 0) ∧ w4.cell? ⟨kb, 3, .none⟩ = some (.int .i64 0) := HK4.out.cells
  unfold kv krK at HRT
  clear HO4 ho4 one4 ho5 one5 hw5 hx5 hb5 hS5 hu HX4 HW4 HW0 HO2 HO3
  go_wp2_with fail
  refine HRT.out.mono ?_
  rintro e w5 ⟨rfl, g5, s5, f5⟩
  have HK5 := Lib.hid (HK4.out.jk (Jk.of_fr f5 (by simp [ours])) HJ4.out)
  have HJ5 : Hid (g5.r kb = .junk) := Lib.hid (by rw [f5.role _ HK4.out.lt]; exact HJ4.out)
  have H6 : Hid (NSto w w5 b g5 S5) := Lib.hid (H5.out.fr s5 f5)
  clear HRT H5 HK4 HJ4 s5 f5 k0 k1 k2 k3
  obtain ⟨l5, hl5⟩ : ∃ l5, rotL l at_ z = l5 := ⟨_, rfl⟩
  have hl5m : l5.length = m := by rw [← hl5, rotL_len]; exact HM.out
  have HL5 := Lib.hid hl5
  rw [hl5] at HO5
  have HLM := Lib.hid hl5m
  obtain ⟨o6, ho6, one6⟩ := HO5.out
  have HRD := Lib.hid (read_any w5 b g5 _ H6.out.sto krK kr_ok o6 one6.seen one6.why 0 1000 (by omega) (by omega) (by rw [ho6]; omega))
  have e6 : (o6.bytes.drop 0).take 1000 = l5 := by rw [ho6, List.drop_zero, List.take_of_length_le (by omega)]
  rw [e6, hl5m] at HRD
  obtain ⟨k0, k1, k2, k3⟩ : w5.cell? ⟨kb, 0, .none⟩ = some (.int .i64 2) ∧ w5.cell? ⟨kb, 1, .none⟩ = some (.int .i64 0) ∧ w5.cell? ⟨kb, 2, .none⟩ = some (.int .i64 0) ∧ w5.cell? ⟨kb, 3, .none⟩ = some (.int .i64 0) := HK5.out.cells
  unfold kv krK at HRD
  simp only [show ((0 : Nat) : Int) = 0 from rfl, show ((1000 : Nat) : Int) = 1000 from rfl] at HRD
  clear hl5 hl5m ho6 one6 e6
  go_wp2_with fail
  refine HRD.out.mono ?_
  rintro e w6 ⟨a6, c6, rfl, hr6, hb6⟩
  have H7 : Hid (NSto w w6 b g5 S5) := Lib.hid (H6.out.later hb6)
  have HK6 := Lib.hid (HK5.out.later hb6)
  have HR6 := Lib.hid hr6
  clear HRD H6 HK5 hr6 hb6 k0 k1 k2 k3
  go_upto_region 9 with fail
  go_cut [69] (fun c wx => c = .bool false ∧ wx = w6)
  case first =>
    by_cases h0 : 0 ≤ at_
    · by_cases h1 : at_ < m
      · have hu : u = true := by rw [← HU.out]; simp [h0, h1]
        subst hu
        go_wp2_with fail
        go_meet
        exact ⟨rfl, rfl⟩
      · have hu : u = false := by rw [← HU.out]; simp [h1]
        subst hu
        go_wp2_with fail
        go_meet
        exact ⟨rfl, rfl⟩
    · have hu : u = false := by rw [← HU.out]; simp [h0]
      subst hu
      have h1 : at_ < 0 := by omega
      go_wp2_with fail
      go_meet
      exact ⟨rfl, rfl⟩
  case rest =>
    obtain ⟨rfl, rfl⟩ := hcut
    go_wp2_with fail
    go_loop [12] (fun i => ∃ j : Nat, i = .int .i64 j ∧ j ≤ m) (fun i => m - (intOf i).toNat)
    case atStart => exact ⟨0, rfl, by omega⟩
    case round =>
      obtain ⟨j, rfl, hj⟩ := hrel
      by_cases hjm : j < m
      · obtain ⟨u0, hu0⟩ := byteAt HM.out hjm
        have hrl := HR.out.later H7.out.below
        obtain ⟨bx, ox, rfl, hcx⟩ := hrl.at (by have := HM.out; omega)
        obtain ⟨by_, oy, rfl, hcy⟩ := HR6.out.at (by have := HLM.out; omega)
        have hmc6 : m ≤ c6 := by have h1 := HR6.out.1; have h2 := HLM.out; omega
        have fx := hcx j u0 hu0
        have hg := rotL_get l at_ z j u0 hu0
        rw [HL5.out] at hg
        have fy := hcy j _ hg
        have hu8 := u0.toNat_lt
        have hz8 := z.toNat_lt
        have hx8 := xor_u8 u0 z
        unfold B8 at fx fy
        by_cases hja : (j : Int) = at_
        · rw [if_pos hja] at fy
          subst hja
          clear hcx hcy hrl hg hu0
          go_wp2_with fail
          go_round
          case rel => exact ⟨j + 1, by go_num, by omega⟩
          case measure => simp [intOf]; omega
        · rw [if_neg hja] at fy
          have hjb : ((j : Int) == at_) = false := by simp [hja]
          clear hcx hcy hrl hg hu0 hx8
          go_wp2_with fail
          go_round
          case rel => exact ⟨j + 1, by go_num, by omega⟩
          case measure => simp [intOf]; omega
      · obtain rfl : j = m := by omega
        obtain ⟨o7, ho7, one7⟩ := HO5.out
        obtain ⟨o8, ho8, one8, hw8, hx8, hb8⟩ := one7.rot (HW5.out krK) at_ z
        have HRT := Lib.hid (rot_any wc b g5 _ H7.out.sto krK kr_ok o7 one7.seen one7.why (HW5.out krK) at_ ⟨hat1, hat2⟩ z (by rw [ho7]; have := HLM.out; omega))
        obtain ⟨u2, hu2⟩ : ∃ u2, (S5.rot krK o7 at_ z).1 = u2 := ⟨_, rfl⟩
        obtain ⟨S6, hS6⟩ : ∃ S6, (S5.rot krK o7 at_ z).2 = S6 := ⟨_, rfl⟩
        rw [hS6, hu2] at HRT
        rw [hS6] at one8 hw8 hx8
        have HO8 : Hid (∃ o, o.bytes = l ∧ One S6 krK 1000 o 3) := Lib.hid ⟨o8, by rw [ho8, ho7, ← HL5.out, rotL_rotL], one8⟩
        have HX8 : Hid (S6.wks = []) := Lib.hid (by rw [hx8]; exact HX5.out)
        obtain ⟨k0, k1, k2, k3⟩ : wc.cell? ⟨kb, 0, .none⟩ = some (.int .i64 2) ∧ wc.cell? ⟨kb, 1, .none⟩ = some (.int .i64 0) ∧ wc.cell? ⟨kb, 2, .none⟩ = some (.int .i64 0) ∧ wc.cell? ⟨kb, 3, .none⟩ = some (.int .i64 0) := HK6.out.cells
        unfold kv krK at HRT
        clear ho7 one7 ho8 one8 hw8 hx8 hb8 hu2 hS6 HO5 HX5 HW5 hjm hj
        go_wp2_with fail
        refine HRT.out.mono ?_
        rintro e w7 ⟨rfl, g7, s7, f7⟩
        have HK7 := Lib.hid (HK6.out.jk (Jk.of_fr f7 (by simp [ours])) HJ5.out)
        have H8 : Hid (NSto w w7 b g7 S6) := Lib.hid (H7.out.fr s7 f7)
        clear HRT H7 HK6 HJ5 s7 f7 k0 k1 k2 k3
        obtain ⟨o9, ho9, one9⟩ := HO8.out
        have HRD := Lib.hid (read_any w7 b g7 _ H8.out.sto krK kr_ok o9 one9.seen one9.why 0 1000 (by omega) (by omega) (by rw [ho9]; have := HM.out; omega))
        have e9 : (o9.bytes.drop 0).take 1000 = l := by rw [ho9, List.drop_zero, List.take_of_length_le (by have := HM.out; omega)]
        rw [e9, HM.out] at HRD
        obtain ⟨k0, k1, k2, k3⟩ : w7.cell? ⟨kb, 0, .none⟩ = some (.int .i64 2) ∧ w7.cell? ⟨kb, 1, .none⟩ = some (.int .i64 0) ∧ w7.cell? ⟨kb, 2, .none⟩ = some (.int .i64 0) ∧ w7.cell? ⟨kb, 3, .none⟩ = some (.int .i64 0) := HK7.out.cells
        unfold kv krK at HRD
        simp only [show ((0 : Nat) : Int) = 0 from rfl, show ((1000 : Nat) : Int) = 1000 from rfl] at HRD
        clear ho9 one9 e9
        go_wp2_with fail
        refine HRD.out.mono ?_
        rintro e w8 ⟨a8, c8, rfl, hr8, hb8⟩
        have H9 : Hid (NSto w w8 b g7 S6) := Lib.hid (H8.out.later hb8)
        have hcv := conv_row_n hr8 HM.out
        have hcv2 := conv_row_n (HR.out.later H9.out.below) HM.out
        obtain ⟨G, hG⟩ : ∃ G : ByteArray, (⟨l.toArray⟩ : ByteArray) = G := ⟨_, rfl⟩
        rw [hG] at hcv hcv2
        clear HRD H8 HK7 hr8 hb8 k0 k1 k2 k3 hG
        obtain ⟨o10, ho10, one10⟩ := HO8.out
        have HRN := Lib.hid (rot_none w8 b g7 _ H9.out.sto ⟨3, 0, 0, 0⟩ k3_ok (one10.other k3_ok (by decide)) (by unfold whyNot; rw [one10.off]; rfl) 0 1)
        unfold kv at HRN
        have HGD := Lib.hid one10.good
        clear ho10 one10
        go_wp2_with fail
        refine HRN.out.mono ?_
        rintro e w9 ⟨rfl, hb9⟩
        have H10 : Hid (NSto w w9 b g7 S6) := Lib.hid (H9.out.later hb9)
        clear HRN hb9 hcv hcv2
        have HWT := Lib.hid (wet_any w9 b g7 _ H10.out.sto HGD.out.wf 3 (HGD.out.sm (by omega)) (by omega))
        have hz : S6.wetN = 0 := by unfold St.wetN; rw [HX8.out]; rfl
        rw [hz] at HWT
        simp only [show ((0 : Nat) : Int) = 0 from rfl] at HWT
        clear hz
        go_wp2_with fail
        refine HWT.out.mono ?_
        rintro e w10 ⟨rfl, hb10⟩
        have HB10 := Lib.hid (H10.out.below.trans (hb10.mono H10.out.below.size))
        clear HWT hb10
        go_wp2_with fail
        refine (known_any _).mono ?_
        rintro e w11 ⟨rfl, hb11⟩
        have HB11 := Lib.hid (HB10.out.trans (hb11.mono HB10.out.size))
        clear hb11
        go_wp2_with fail
        go_ret
        exact ⟨rfl, HB11.out⟩

theorem storeRots_walk (a0 : Option Addr) (cap0 : Nat) (l0 : List UInt8) (at_ x : Int) (w : World) (hr0 : Row w a0 cap0 l0)
    (w1 : (Lit.int .i64 at_).wf = true) (w2 : (Lit.int .u8 x).wf = true) :
    Calls Try.prog 6 #[.slice a0 l0.length cap0, .int .i64 at_, .int .u8 x] w fun e w' => e = .returned (.bool true) ∧ Below w.heap.size w w' := by
  simp [Lit.wf, IntKind.min, IntKind.max, IntKind.signed, IntKind.bits] at w1 w2
  obtain ⟨z, rfl⟩ : ∃ z : UInt8, x = (z.toNat : Int) := ⟨UInt8.ofNat x.toNat, by rw [UInt8.toNat_ofNat']; omega⟩
  by_cases h : l0.length ≤ 200
  · exact rots_walk a0 _ cap0 l0 at_ z w hr0 rfl h w1
  · obtain ⟨m, hm⟩ : ∃ m, l0.length = m := ⟨_, rfl⟩
    rw [hm] at h ⊢
    have hgt : 200 < m := by omega
    clear hm hr0 h w1 w2
    go_enter Try.func6, Try.ntmps6
    go_wp2_with fail
    refine (known_any _).mono ?_
    rintro e w11 ⟨rfl, hb11⟩
    go_wp2_with fail
    go_ret
    exact ⟨rfl, hb11⟩
end Go.Proofs.Ytlcenanahbaflaa
