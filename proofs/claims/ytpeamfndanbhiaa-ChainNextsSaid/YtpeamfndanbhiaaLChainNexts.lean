/- The law 'ChainNexts', walked. -/
import Derived.Test.YtpeamfndanbhiaaChW
namespace Go.Proofs.Ytpeamfndanbhiaa
open Go.RowKit Go.Proofs
set_option linter.unusedVariables false
set_option linter.unusedSimpArgs false

set_option maxRecDepth 100000 in
set_option maxHeartbeats 6400000 in
theorem chainNexts_walk (ad : Option Addr) (n c : Nat) (zs : List Int) (site : Int) (w : World) (hr : ZRow w ad c zs) (hn : zs.length = n) :
    Calls Try.prog 8 #[.slice ad n c, .int .i64 site] w fun x w' => x = .returned (.bool true) ∧ Below w.heap.size w w' := by
  by_cases h40 : n ≤ 40
  · have hd : decide (40 < (n : Int)) = false := by simp; omega
    have HG := Lib.hid (grow_any ad n c zs w hr hn (by omega))
    clear hr hn
    go_enter Try.func8, Try.ntmps8
    go_wp2_with fail
    refine HG.out.mono ?_
    rintro e w1 ⟨v, ts, E, rfl, o1, hg⟩
    obtain ⟨m, hm⟩ : ∃ m, ts.length = m := ⟨_, rfl⟩
    obtain ⟨a1, c1, rfl, r1⟩ := o1.row_n hm
    have hm20 : m ≤ 20 := by rw [← hm]; exact hg.2.1
    have hE : 0 ≤ E ∧ E ≤ 3 * 40 := by have := hg.2.2.2.2; omega
    have HGR := Lib.hid hg
    have HM := Lib.hid hm
    have HB1 := Lib.hid o1.below
    have HR1 := Lib.hid r1
    obtain ⟨N1, hN1⟩ : ∃ N, nextC ts 1 = N := ⟨_, rfl⟩
    obtain ⟨N2, hN2⟩ : ∃ N, nextC ts 2 = N := ⟨_, rfl⟩
    have HN1 := Lib.hid hN1
    have HN2 := Lib.hid hN2
    have HA1 : Hid (∀ t ∈ ts, t.id < N1) := Lib.hid (by rw [← hN1]; exact (next_above hg.ids 1).2.1)
    have HA2 : Hid (∀ t ∈ ts, t.id < N2) := Lib.hid (by rw [← hN2]; exact (next_above hg.ids 2).2.1)
    have hk : nextMost ts ≤ 2 * ts.length := foldl_top ts 0 _ (by omega) hg.2.2.1
    have hr1 : 1 ≤ N1 ∧ N1 ≤ 42 := by have h1 := next_above hg.ids 1; rw [hN1] at h1; omega
    have hr2 : 1 ≤ N2 ∧ N2 ≤ 42 := by have h1 := next_above hg.ids 2; rw [hN2] at h1; omega
    have ho1 : N1 % 2 = 1 := by rw [← hN1]; exact next_odd hg.ids
    have ho2 : N2 % 2 = 0 := by rw [← hN2]; exact next_even hg.ids (by decide)
    have hne : N1 ≠ N2 := by omega
    have HLAW := Lib.hid (nexts_law hg (by omega))
    rw [hN1] at HLAW
    have hx1 : (N1 % 2 == 1) = true := by simpa using ho1
    have hx1' : (N1 % 2 != 1) = false := by simpa using ho1
    have hx2 : (N2 % 2 == 0) = true := by simpa using ho2
    have hx2' : (N2 % 2 != 0) = false := by simpa using ho2
    have hx3 : (N1 == N2) = false := by simpa using hne
    have hx4 : (N2 == N1) = false := by simpa using Ne.symm hne
    have hx4' : (N2 != N1) = true := by simpa using Ne.symm hne
    clear ho1 ho2 hne hk hN1 hN2 hg o1 r1 hm HG
    go_wp2_with fail
    refine (next_any a1 m c1 ts 1 w1 HR1.out HM.out).mono ?_
    rw [HN1.out]
    rintro e w2 ⟨rfl, hb2⟩
    have HB2 := Lib.hid (HB1.out.trans (hb2.mono HB1.out.size))
    have HR2 := Lib.hid (HR1.out.later hb2)
    clear hb2
    go_wp2_with fail
    refine (next_any a1 m c1 ts 2 w2 HR2.out HM.out).mono ?_
    rw [HN2.out]
    rintro e w3 ⟨rfl, hb3⟩
    have HB3 := Lib.hid (HB2.out.trans (hb3.mono HB2.out.size))
    have HR3 := Lib.hid (HR2.out.later hb3)
    clear hb3
    go_wp2_with fail
    by_cases hs : site = 1
    · subst hs
      refine (next_any a1 m c1 ts 1 w3 HR3.out HM.out).mono ?_
      rw [HN1.out]
      rintro e w5 ⟨rfl, hb4⟩
      have HB5 := Lib.hid (HB3.out.trans (hb4.mono HB3.out.size))
      have HR5 := Lib.hid (HR3.out.later hb4)
      clear hb4
      go_wp2_with fail
      clear hx1 hx1' hx2 hx2' hx3 hx4 hx4'
      go_loop [9] (fun i => ∃ j : Nat, i = .int .i64 (j : Nat) ∧ j ≤ m) (fun i => m - (intOf i).toNat)
      case atStart => exact ⟨0, rfl, by omega⟩
      case round =>
        obtain ⟨j, rfl, hj⟩ := hrel
        by_cases hjm : (j : Int) < m
        · obtain ⟨t, ht⟩ : ∃ t, ts[j]? = some t := ⟨ts[j]'(by have := HM.out; omega), List.getElem?_eq_getElem _⟩
          obtain ⟨b0, o0, rfl, p0, p1, p2, p3⟩ := HR5.out.at ht
          have hy1 := HA1.out t (List.mem_of_getElem? ht)
          have hy2 := HA2.out t (List.mem_of_getElem? ht)
          have hz1 : decide (N1 ≤ t.id) = false := by simp; omega
          have hz2 : decide (N2 ≤ t.id) = false := by simp; omega
          clear ht hy1 hy2
          go_wp2_with fail
          go_round
          case rel => exact ⟨j + 1, by go_num, by omega⟩
          case measure => simp [intOf]; omega
        · obtain ⟨v1, hv1⟩ : ∃ v, Value.slice a1 m c1 = v := ⟨_, rfl⟩
          have HE0 := Lib.hid (TOwn.empty (W0 := w5) (w := w5) (Below.refl _ _))
          have hba : Below w5.heap.size w5 (w5.alloc (.cells #[] 43)) := (Below.refl _ _).alloc (Nat.le_refl _) _
          have HR6 := Lib.hid (HR5.out.later hba)
          have HTB : Hid (Tg.B ⟨N1, 1, 0, E⟩) := Lib.hid (by unfold Tg.B I64; simp only; omega)
          clear hv1 hba
          go_upto_region 13 with (first | (at_builtin; refine wp_tags rfl (.tmp 73) (.tmp 74) rfl _ [] rfl w5 HE0.out a1 c1 m ts HR6.out HM.out rfl (by have := HM.out; simp; omega) ?_; intro v6 w6 o6) | (at_builtin; refine wp_tag rfl (.tmp 75) (.tmp 79) rfl _ _ rfl w5 o6 ⟨N1, 1, 0, E⟩ HTB.out rfl (by have := HM.out; simp; omega) ?_; intro v7 w7 o7 _))
          rw [List.nil_append] at o7
          obtain ⟨m7, hm7⟩ : ∃ m, (ts ++ [(⟨N1, 1, 0, E⟩ : Tg)]).length = m := ⟨_, rfl⟩
          obtain ⟨a7, c7, rfl, r7⟩ := o7.row_n hm7
          have HB7 := Lib.hid (HB5.out.trans (o7.below.mono HB5.out.size))
          have HR7 := Lib.hid (HR5.out.later o7.below)
          have HS7 := Lib.hid r7
          have HM7 := Lib.hid hm7
          clear o7 r7 hm7 o6
          go_wp2_with fail
          refine (right_any a7 m7 c7 _ w7 HS7.out HM7.out).mono ?_
          rw [HLAW.out.1]
          rintro e w8 ⟨rfl, hb8⟩
          have HB8 := Lib.hid (HB7.out.trans (hb8.mono HB7.out.size))
          have HR8 := Lib.hid (HR7.out.later hb8)
          have HS8 := Lib.hid (HS7.out.later hb8)
          clear hb8
          go_wp2_with fail
          refine (begins_any a1 a7 m m7 c1 c7 ts _ E E w8 HR8.out HS8.out HM.out HM7.out).mono ?_
          rw [HLAW.out.2.1]
          rintro e w9 ⟨rfl, hb9⟩
          have HB9 := Lib.hid (HB8.out.trans (hb9.mono HB8.out.size))
          have HR9 := Lib.hid (HR8.out.later hb9)
          have HS9 := Lib.hid (HS8.out.later hb9)
          clear hb9
          go_wp2_with fail
          refine (compare_any a1 a7 m m7 c1 c7 ts _ E (E + 1) w9 HR9.out HS9.out HM.out HM7.out).mono ?_
          rw [HLAW.out.2.2]
          rintro e w10 ⟨rfl, hb10⟩
          have HB10 := Lib.hid (HB9.out.trans (hb10.mono HB9.out.size))
          clear hb10
          go_wp2_with fail
          refine (known_any w10).mono ?_
          rintro e w11 ⟨rfl, hb11⟩
          go_wp2_with fail
          go_ret
          exact ⟨rfl, HB10.out.trans (hb11.mono HB10.out.size)⟩
    · have HS : Hid (nextC ts site = N2) := Lib.hid (by rw [next_one ts site hs, HN2.out])
      clear hs
      refine (next_any a1 m c1 ts site w3 HR3.out HM.out).mono ?_
      rw [HS.out]
      rintro e w4 ⟨rfl, hb4⟩
      have HB4 := Lib.hid (HB3.out.trans (hb4.mono HB3.out.size))
      have HR4 := Lib.hid (HR3.out.later hb4)
      clear hb4
      go_wp2_with fail
      refine (next_any a1 m c1 ts site w4 HR4.out HM.out).mono ?_
      rw [HS.out]
      rintro e w5 ⟨rfl, hb4⟩
      have HB5 := Lib.hid (HB4.out.trans (hb4.mono HB4.out.size))
      have HR5 := Lib.hid (HR4.out.later hb4)
      clear hb4
      go_wp2_with fail
      clear hx1 hx1' hx2 hx2' hx3 hx4 hx4'
      go_loop [9] (fun i => ∃ j : Nat, i = .int .i64 (j : Nat) ∧ j ≤ m) (fun i => m - (intOf i).toNat)
      case atStart => exact ⟨0, rfl, by omega⟩
      case round =>
        obtain ⟨j, rfl, hj⟩ := hrel
        by_cases hjm : (j : Int) < m
        · obtain ⟨t, ht⟩ : ∃ t, ts[j]? = some t := ⟨ts[j]'(by have := HM.out; omega), List.getElem?_eq_getElem _⟩
          obtain ⟨b0, o0, rfl, p0, p1, p2, p3⟩ := HR5.out.at ht
          have hy1 := HA1.out t (List.mem_of_getElem? ht)
          have hy2 := HA2.out t (List.mem_of_getElem? ht)
          have hz1 : decide (N1 ≤ t.id) = false := by simp; omega
          have hz2 : decide (N2 ≤ t.id) = false := by simp; omega
          clear ht hy1 hy2
          go_wp2_with fail
          go_round
          case rel => exact ⟨j + 1, by go_num, by omega⟩
          case measure => simp [intOf]; omega
        · obtain ⟨v1, hv1⟩ : ∃ v, Value.slice a1 m c1 = v := ⟨_, rfl⟩
          have HE0 := Lib.hid (TOwn.empty (W0 := w5) (w := w5) (Below.refl _ _))
          have hba : Below w5.heap.size w5 (w5.alloc (.cells #[] 43)) := (Below.refl _ _).alloc (Nat.le_refl _) _
          have HR6 := Lib.hid (HR5.out.later hba)
          have HTB : Hid (Tg.B ⟨N1, 1, 0, E⟩) := Lib.hid (by unfold Tg.B I64; simp only; omega)
          clear hv1 hba
          go_upto_region 13 with (first | (at_builtin; refine wp_tags rfl (.tmp 73) (.tmp 74) rfl _ [] rfl w5 HE0.out a1 c1 m ts HR6.out HM.out rfl (by have := HM.out; simp; omega) ?_; intro v6 w6 o6) | (at_builtin; refine wp_tag rfl (.tmp 75) (.tmp 79) rfl _ _ rfl w5 o6 ⟨N1, 1, 0, E⟩ HTB.out rfl (by have := HM.out; simp; omega) ?_; intro v7 w7 o7 _))
          rw [List.nil_append] at o7
          obtain ⟨m7, hm7⟩ : ∃ m, (ts ++ [(⟨N1, 1, 0, E⟩ : Tg)]).length = m := ⟨_, rfl⟩
          obtain ⟨a7, c7, rfl, r7⟩ := o7.row_n hm7
          have HB7 := Lib.hid (HB5.out.trans (o7.below.mono HB5.out.size))
          have HR7 := Lib.hid (HR5.out.later o7.below)
          have HS7 := Lib.hid r7
          have HM7 := Lib.hid hm7
          clear o7 r7 hm7 o6
          go_wp2_with fail
          refine (right_any a7 m7 c7 _ w7 HS7.out HM7.out).mono ?_
          rw [HLAW.out.1]
          rintro e w8 ⟨rfl, hb8⟩
          have HB8 := Lib.hid (HB7.out.trans (hb8.mono HB7.out.size))
          have HR8 := Lib.hid (HR7.out.later hb8)
          have HS8 := Lib.hid (HS7.out.later hb8)
          clear hb8
          go_wp2_with fail
          refine (begins_any a1 a7 m m7 c1 c7 ts _ E E w8 HR8.out HS8.out HM.out HM7.out).mono ?_
          rw [HLAW.out.2.1]
          rintro e w9 ⟨rfl, hb9⟩
          have HB9 := Lib.hid (HB8.out.trans (hb9.mono HB8.out.size))
          have HR9 := Lib.hid (HR8.out.later hb9)
          have HS9 := Lib.hid (HS8.out.later hb9)
          clear hb9
          go_wp2_with fail
          refine (compare_any a1 a7 m m7 c1 c7 ts _ E (E + 1) w9 HR9.out HS9.out HM.out HM7.out).mono ?_
          rw [HLAW.out.2.2]
          rintro e w10 ⟨rfl, hb10⟩
          have HB10 := Lib.hid (HB9.out.trans (hb10.mono HB9.out.size))
          clear hb10
          go_wp2_with fail
          refine (known_any w10).mono ?_
          rintro e w11 ⟨rfl, hb11⟩
          go_wp2_with fail
          go_ret
          exact ⟨rfl, HB10.out.trans (hb11.mono HB10.out.size)⟩
  · have hd : decide (40 < (n : Int)) = true := by simp; omega
    clear hr hn
    go_enter Try.func8, Try.ntmps8
    go_wp2_with fail
    refine (known_any w).mono ?_
    rintro e w1 ⟨rfl, hb⟩
    go_wp2_with fail
    go_ret
    exact ⟨rfl, hb⟩
end Go.Proofs.Ytpeamfndanbhiaa
