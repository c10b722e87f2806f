/- The law 'HeaderSeen', walked. -/
import Derived.Test.YtfjplhjlmilcfaaHdQ
import Derived.Test.YtfjplhjlmilcfaaHdLaw
import Derived.Test.YtfjplhjlmilcfaaFree
import Derived.Lib.MinMax
namespace Go.Proofs.Ytfjplhjlmilcfaa
open Go.RowKit Go.Proofs
set_option linter.unusedVariables false
set_option linter.unusedSimpArgs false
set_option linter.unnecessarySimpa false

theorem mk_same (w : World) (t : Mk) : (binOp .eql 39 (mkA t) (mkA t)).run Try.prog w = .ok (.bool true) w := by
  have := mk_eql w t t
  simpa using this
theorem mk_same_ne (w : World) (t : Mk) : (binOp .neq 39 (mkA t) (mkA t)).run Try.prog w = .ok (.bool false) w := by
  have := mk_neq w t t
  simpa using this
set_option maxRecDepth 100000 in
set_option maxHeartbeats 6400000 in
theorem headerSeen_known (sz : Int) (ad : Option Addr) (n c : Nat) (nm : ByteArray) (w : World) (hb : 30 < n ∨ 30 < nm.size) :
    Calls Try.prog 6 #[.int .i64 sz, .slice ad n c, .string nm] w fun x w' => x = .returned (.bool true) ∧ Below w.heap.size w w' := by
  obtain ⟨m, hm⟩ : ∃ m, nm.size = m := ⟨_, rfl⟩
  rw [hm] at hb
  rcases (show 30 < (n : Int) ∨ (decide (30 < (n : Int)) = false ∧ 30 < (m : Int)) by simp only [decide_eq_false_iff_not]; omega) with h | ⟨h1, h⟩
  all_goals
    clear hb
    go_enter Try.func6, Try.ntmps6
    go_wp2_with fail
    refine (knownH_any _).mono ?_
    rintro y w2 ⟨rfl, hb2⟩
    go_wp2_with fail
    go_ret
    exact ⟨rfl, hb2⟩
set_option maxRecDepth 100000 in
set_option maxHeartbeats 25600000 in
theorem headerSeen_main (sz : Int) (ad : Option Addr) (n c : Nat) (zs : List Int) (nm : ByteArray) (w : World) (hr : ZRow w ad c zs) (hn : zs.length = n) (hn2 : n ≤ 30) (hs2 : nm.size ≤ 30) :
    Calls Try.prog 6 #[.int .i64 sz, .slice ad n c, .string nm] w fun x w' => x = .returned (.bool true) ∧ Below w.heap.size w w' := by
  obtain ⟨m, hm⟩ : ∃ m, nm.size = m := ⟨_, rfl⟩
  have hd0 : decide (30 < (n : Int)) = false := by simp; omega
  have hd1 : decide (30 < (m : Int)) = false := by simp; omega
  have HMK := Lib.hid (makeH_any sz 0 0 0 ad n c zs w hr hn)
  clear hr hn hs2
  go_enter Try.func6, Try.ntmps6
  go_wp2_with fail
  refine HMK.out.mono ?_
  rintro e w1 ⟨H, am, cp, N, rfl, hok, hap, hlen, h16, ho1⟩
  have HOK := Lib.hid hok
  have HAP := Lib.hid hap
  have HLN := Lib.hid hlen
  obtain ⟨_, _, e1, r1⟩ := ho1.row_n mkOk hlen
  cases e1
  have HB1 := Lib.hid ho1.below
  have HR1 := Lib.hid r1
  have hc1 := r1.1
  have hcm : cp ≤ 9223372036854775807 := by have := r1.2.1; unfold maxLen at this; omega
  rw [hlen] at hc1
  have HNL := Lib.hid (newest_less hok)
  clear hok hap hlen ho1 r1 HMK hd0 hd1 hm
  obtain ⟨hs, ho, hu, hc, hx, hq, ms⟩ := H
  simp only at HLN HAP HNL
  have hba : Below w1.heap.size w1 (w1.alloc (.cells #[.int .i64 hs, .int .i64 ho, .int .i64 hu, .int .i64 hc, .int .i64 hx, .int .i64 hq, .slice am N cp] 26)) := (Below.refl _ _).alloc (Nat.le_refl _) _
  have HX2 := Lib.hid (RecAt.new w1 #[.int .i64 hs, .int .i64 ho, .int .i64 hu, .int .i64 hc, .int .i64 hx, .int .i64 hq, .slice am N cp] 26)
  have HB2 := Lib.hid (HB1.out.trans (hba.mono HB1.out.size))
  have HR2 := Lib.hid (HR1.out.later hba)
  clear hba HR1
  go_upto_region 4 with fail
  generalize (w1.alloc (.cells #[.int .i64 hs, .int .i64 ho, .int .i64 hu, .int .i64 hc, .int .i64 hx, .int .i64 hq, .slice am N cp] 26)) = w2 at *
  generalize w1.heap.size = P7 at *
  obtain ⟨y0, y1, y2, y3, y4, y5, y6⟩ := HX2.out.c7
  have HSE := Lib.hid (seen_any ⟨hs, ho, hu, hc, hx, hq, ms⟩ am N cp w2 HR2.out HLN.out (by omega))
  go_wp2_with fail
  refine HSE.out.mono ?_
  rintro e w4 ⟨v4, rfl, o4⟩
  have o4 : MOwn w2 w4 v4 (seenL ms) := o4
  obtain ⟨M, hM⟩ : ∃ M, (seenL ms).length = M := ⟨_, rfl⟩
  have HM8 : Hid (M ≤ 8) := Lib.hid (by rw [← hM]; exact HOK.out.2.2.2.2.2.1)
  have HML := Lib.hid hM
  obtain ⟨a4, c4, rfl, r4⟩ := o4.row_n mkOk hM
  have HB4 := Lib.hid (HB2.out.trans (o4.below.mono HB2.out.size))
  have HX4 := Lib.hid (HX2.out.later o4.below)
  have HR4 := Lib.hid (HR2.out.later o4.below)
  have HS4 := Lib.hid r4
  clear o4 r4 hM HSE y0 y1 y2 y3 y4 y5 y6 HX2 HR2
  go_wp2_with fail
  go_loopw [9, 10] (fun kv i wr => ∃ (j K : Nat), i = .int .i64 j ∧ kv = .int .i64 K ∧ j ≤ N ∧ Hid (K = (seenL (ms.take j)).length) ∧ Hid (Below w4.heap.size w4 wr)) (fun _ i _ => N - (intOf i).toNat)
  case atStart => exact ⟨0, 0, rfl, rfl, by omega, Lib.hid rfl, Lib.hid (Below.refl _ _)⟩
  case round =>
    obtain ⟨j, K, rfl, rfl, hj, hK, hB⟩ := hrel
    have HBw := Lib.hid (HB4.out.trans (hB.out.mono HB4.out.size))
    have HX5 := Lib.hid (HX4.out.later hB.out)
    obtain ⟨y0, y1, y2, y3, y4, y5, y6⟩ := HX5.out.c7
    by_cases hjn : (j : Int) < N
    · obtain ⟨t, ht⟩ : ∃ t, ms[j]? = some t := ⟨ms[j]'(by have := HLN.out; omega), List.getElem?_eq_getElem _⟩
      obtain ⟨b0, o0, rfl, p0, p1, p2, p3⟩ := (HR4.out.later hB.out).c4 ht
      have HT := Lib.hid ht
      have hnp := name_pos HOK.out (t := t) (List.mem_of_getElem? ht)
      have HUP := Lib.hid (seen_upto ht)
      have hba : Below wr.heap.size wr (wr.alloc (.cells #[.int .i64 t.id, .string t.name, .int .i64 t.size, .bool t.gone] 39)) := (Below.refl _ _).alloc (Nat.le_refl _) _
      have HM6 := Lib.hid (RecAt.new wr #[.int .i64 t.id, .string t.name, .int .i64 t.size, .bool t.gone] 39)
      have HB6 := Lib.hid (hB.out.trans (hba.mono hB.out.size))
      have HX6 := Lib.hid (HX5.out.later hba)
      have HR6 := Lib.hid (HR4.out.later HB6.out)
      clear hba ht
      go_upto_region 10 with fail
      clear p0 p1 p2 p3
      obtain ⟨ti, tn, tz, tg⟩ := t
      simp only at HT HUP HM6 HB6 HX6 HR6 hnp ⊢
      generalize (wr.alloc (.cells #[.int .i64 ti, .string tn, .int .i64 tz, .bool tg] 39)) = w6 at *
      generalize wr.heap.size = p11 at *
      clear y0 y1 y2 y3 y4 y5 y6 HX5
      obtain ⟨y0, y1, y2, y3, y4, y5, y6⟩ := HX6.out.c7
      obtain ⟨m0, m1, m2, m3⟩ := HM6.out.c4
      have HFI := Lib.hid (findH_any ⟨hs, ho, hu, hc, hx, hq, ms⟩ tn (some ⟨b0, o0, none⟩) N cp w6 HR6.out HLN.out)
      have hnl : 0 < tn.size := by omega
      have hf := held_first hnl
      cases hsn : (Mk.mk ti tn tz tg).seen with
      | false =>
        rw [foundM_none (found_hid HAP.out HT.out hsn)] at HFI
        rw [hsn] at HUP
        have hor : tg = true ∨ tg = false ∧ heldL tn.data.toList = true := by
          unfold Mk.seen Mk.held Mk.nm at hsn
          cases tg <;> simp at hsn ⊢
          exact hsn
        clear hsn
        go_wp2_with fail
        refine HFI.out.mono ?_
        rintro e w7 ⟨rfl, hb7⟩
        have hba : Below w7.heap.size w7 (w7.alloc (.cells zeroMk 39)) := (Below.refl _ _).alloc (Nat.le_refl _) _
        have hb8 := hb7.trans (hba.mono hb7.size)
        have HB8 := Lib.hid (HB6.out.trans (hb8.mono HB6.out.size))
        have HM8' := Lib.hid (HM6.out.later hb8)
        clear hba hb7 hb8 y0 y1 y2 y3 y4 y5 y6 m0 m1 m2 m3
        go_upto_region 11 with fail
        simp only [noMk]
        generalize (w7.alloc (.cells zeroMk 39)) = w8 at *
        obtain ⟨m0, m1, m2, m3⟩ := HM8'.out.c4
        have HK2 : Hid (K = (seenL (ms.take (j + 1))).length) := Lib.hid (by rw [HUP.out, ← hK.out]; rfl)
        rcases hor with rfl | ⟨rfl, hhd⟩
        · go_wp2_with fail
          go_roundw
          case rel => exact ⟨j + 1, K, by go_num, rfl, by omega, HK2, HB8⟩
          case measure => simp [intOf]; omega
        · rw [hhd] at hf
          go_wp2_with fail
          go_roundw
          case rel => exact ⟨j + 1, K, by go_num, rfl, by omega, HK2, HB8⟩
          case measure => simp [intOf]; omega
      | true =>
        rw [foundM_some (found_seen HAP.out HT.out hsn)] at HFI
        rw [hsn] at HUP
        have HSK := Lib.hid (seen_at HT.out hsn)
        rw [← hK.out] at HSK
        have hand : tg = false ∧ heldL tn.data.toList = false := by
          unfold Mk.seen Mk.held Mk.nm at hsn
          cases tg <;> simp at hsn ⊢
          exact hsn
        obtain ⟨rfl, hhd⟩ := hand
        rw [hhd] at hf
        have HKM : Hid (K < M) := Lib.hid (by have := (List.getElem?_eq_some_iff.1 HSK.out).1; have := HML.out; omega)
        clear hsn hhd
        go_wp2_with fail
        refine HFI.out.mono ?_
        rintro e w7 ⟨rfl, hb7⟩
        have hba : Below w7.heap.size w7 (w7.alloc (.cells #[.int .i64 ti, .string tn, .int .i64 tz, .bool false] 39)) := (Below.refl _ _).alloc (Nat.le_refl _) _
        have hb8 := hb7.trans (hba.mono hb7.size)
        have HB8 := Lib.hid (HB6.out.trans (hb8.mono HB6.out.size))
        have HM11 := Lib.hid (HM6.out.later hb8)
        have HM12 := Lib.hid (RecAt.new w7 #[.int .i64 ti, .string tn, .int .i64 tz, .bool false] 39)
        clear hba hb7 hb8 y0 y1 y2 y3 y4 y5 y6 m0 m1 m2 m3
        go_upto_region 11 with fail
        generalize (w7.alloc (.cells #[.int .i64 ti, .string tn, .int .i64 tz, .bool false] 39)) = w8 at *
        generalize w7.heap.size = p12 at *
        obtain ⟨m0, m1, m2, m3⟩ := HM11.out.c4
        go_upto_region 14 with fail
        clear m0 m1 m2 m3 hf
        have HSR := Lib.hid (HS4.out.later HB8.out)
        obtain ⟨b2, o2, rfl, _⟩ := HSR.out.c4 HSK.out
        -- REG 14
        refine wp_region_tab (L := [cV (.bool true), cV (.bool false), cV (.bool false), cV (.agg #[.int .i64 ti, .string tn, .int .i64 tz, .bool false]), cV (.agg #[.int .i64 ti, .string tn, .int .i64 tz, .bool false]), cV (.bool false), cV (.bool false), cV (.bool false), cV (.int .i64 (K : Nat)), cV (.slice (some ⟨b2, o2, none⟩) M c4), cV (.int .i64 (M : Nat)), cV (.bool false), cV (.bool false), cV (.bool false), cV (.slice (some ⟨b2, o2, none⟩) M c4), cV (.int .i64 (K : Nat)), cV (.pointer (some ⟨b2, o2 + K * 4, none⟩)), cV (.agg #[.int .i64 ti, .string tn, .int .i64 tz, .bool false]), cV (.agg #[.int .i64 ti, .string tn, .int .i64 tz, .bool false]), cV (.bool false), cV (.bool false)]) [[(13, none)], [(58, some 0)], [(59, some 1)], [(12, none), (60, some 2)], [(11, none), (60, some 2)], [(61, some 3), (62, some 4), (60, some 2)], [(60, some 2), (63, some 5)], [(64, some 6)], [(9, none), (65, some 7)], [(8, none), (65, some 7)], [(67, some 9), (65, some 7)], [(66, some 8), (68, some 10), (65, some 7)], [(65, some 7), (69, some 11)], [(70, some 12)], [(8, none), (71, some 13)], [(9, none), (71, some 13)], [(72, some 14), (73, some 15), (71, some 13)], [(74, some 16), (71, some 13)], [(11, none), (71, some 13)], [(75, some 17), (76, some 18), (71, some 13)], [(71, some 13), (77, some 19)]] 21 121 (by kernel_rfl) rfl rfl (by kernel_rfl) (by kernel_rfl) ?_ ?_
        · show ∀ i, i < 21 → _
          iterate 21 (refine fls ?_ ?_)
          · exact fl0
          · intro a w1 hR hsz hs      -- 0: slot 58
            obtain ⟨h0, _⟩ := hs
            have h0 : a.tmps.getD 13 undef = .bool true := h0
            refine op_run rfl rfl (v := .bool true) (w' := w1) ?_ rfl (Below.refl _ _)
            simp [execOp, Act.eval, h0, go_sem]
          · intro a w1 hR hsz hs      -- 1: slot 59
            obtain ⟨h0, _⟩ := hs
            have h0 : a.tmps.getD 58 undef = .bool true := h0
            refine op_run rfl rfl (v := .bool false) (w' := w1) ?_ rfl (Below.refl _ _)
            simp [execOp, Act.eval, h0, go_sem]
          · intro a w1 hR hsz hs      -- 2: slot 60
            obtain ⟨h0, _⟩ := hs
            have h0 : a.tmps.getD 59 undef = .bool false := h0
            refine op_run rfl rfl (v := .bool false) (w' := w1) ?_ rfl (Below.refl _ _)
            simp [execOp, Act.eval, h0, go_sem]
          · intro a w1 hR hsz hs      -- 3: slot 61
            obtain ⟨h0, h1, _⟩ := hs
            have h0 : a.tmps.getD 12 undef = .pointer (some ⟨p12, 0, none⟩) := h0
            have h1 : a.tmps.getD 60 undef = .bool false := h1
            obtain ⟨x0, x1, x2, x3⟩ := (HM12.out.later hR).c4
            refine opg_run rfl rfl rfl (by rw [hsz]; decide) h1 (v := .agg #[.int .i64 ti, .string tn, .int .i64 tz, .bool false]) (w' := w1) ?_ rfl (Below.refl _ _)
            simp [execOp, Act.eval, h0, x0, x1, x2, x3, go_sem]
          · intro a w1 hR hsz hs      -- 4: slot 62
            obtain ⟨h0, h1, _⟩ := hs
            have h0 : a.tmps.getD 11 undef = .pointer (some ⟨p11, 0, none⟩) := h0
            have h1 : a.tmps.getD 60 undef = .bool false := h1
            obtain ⟨x0, x1, x2, x3⟩ := (HM11.out.later hR).c4
            refine opg_run rfl rfl rfl (by rw [hsz]; decide) h1 (v := .agg #[.int .i64 ti, .string tn, .int .i64 tz, .bool false]) (w' := w1) ?_ rfl (Below.refl _ _)
            simp [execOp, Act.eval, h0, x0, x1, x2, x3, go_sem]
          · intro a w1 hR hsz hs      -- 5: slot 63
            obtain ⟨h0, h1, h2, _⟩ := hs
            have h0 : a.tmps.getD 61 undef = .agg #[.int .i64 ti, .string tn, .int .i64 tz, .bool false] := h0
            have h1 : a.tmps.getD 62 undef = .agg #[.int .i64 ti, .string tn, .int .i64 tz, .bool false] := h1
            have h2 : a.tmps.getD 60 undef = .bool false := h2
            have k0 := mk_same_ne w1 ⟨ti, tn, tz, false⟩
            refine opg_run rfl rfl rfl (by rw [hsz]; decide) h2 (v := .bool false) (w' := w1) ?_ rfl (Below.refl _ _)
            simp [execOp, Act.eval, h0, h1, k0, mk_guard, go_sem]
          · intro a w1 hR hsz hs      -- 6: slot 64
            obtain ⟨h0, h1, _⟩ := hs
            have h0 : a.tmps.getD 60 undef = .bool false := h0
            have h1 : a.tmps.getD 63 undef = .bool false := h1
            refine op_run rfl rfl (v := .bool false) (w' := w1) ?_ rfl (Below.refl _ _)
            simp [execOp, Act.eval, h0, h1, go_sem]
          · intro a w1 hR hsz hs      -- 7: slot 65
            obtain ⟨h0, _⟩ := hs
            have h0 : a.tmps.getD 64 undef = .bool false := h0
            refine op_run rfl rfl (v := .bool false) (w' := w1) ?_ rfl (Below.refl _ _)
            simp [execOp, Act.eval, h0, go_sem]
          · intro a w1 hR hsz hs      -- 8: slot 66
            obtain ⟨h0, h1, _⟩ := hs
            have h0 : a.tmps.getD 9 undef = .int .i64 (K : Nat) := h0
            have h1 : a.tmps.getD 65 undef = .bool false := h1
            refine opg_run rfl rfl rfl (by rw [hsz]; decide) h1 (v := .int .i64 (K : Nat)) (w' := w1) ?_ rfl (Below.refl _ _)
            simp [execOp, Act.eval, h0, go_sem]
          · intro a w1 hR hsz hs      -- 9: slot 67
            obtain ⟨h0, h1, _⟩ := hs
            have h0 : a.tmps.getD 8 undef = .slice (some ⟨b2, o2, none⟩) M c4 := h0
            have h1 : a.tmps.getD 65 undef = .bool false := h1
            refine opg_run rfl rfl rfl (by rw [hsz]; decide) h1 (v := .slice (some ⟨b2, o2, none⟩) M c4) (w' := w1) ?_ rfl (Below.refl _ _)
            simp [execOp, Act.eval, h0, go_sem]
          · intro a w1 hR hsz hs      -- 10: slot 68
            obtain ⟨h0, h1, _⟩ := hs
            have h0 : a.tmps.getD 67 undef = .slice (some ⟨b2, o2, none⟩) M c4 := h0
            have h1 : a.tmps.getD 65 undef = .bool false := h1
            refine opg_run rfl rfl rfl (by rw [hsz]; decide) h1 (v := .int .i64 (M : Nat)) (w' := w1) ?_ rfl (Below.refl _ _)
            simp [execOp, Act.eval, h0, go_sem]
          · intro a w1 hR hsz hs      -- 11: slot 69
            obtain ⟨h0, h1, h2, _⟩ := hs
            have h0 : a.tmps.getD 66 undef = .int .i64 (K : Nat) := h0
            have h1 : a.tmps.getD 68 undef = .int .i64 (M : Nat) := h1
            have h2 : a.tmps.getD 65 undef = .bool false := h2
            have k0 : decide (((M : Nat) : Int) ≤ ((K : Nat) : Int)) = false := by have := HKM.out; simp; omega
            have k1 : K < M := HKM.out
            refine opg_run rfl rfl rfl (by rw [hsz]; decide) h2 (v := .bool false) (w' := w1) ?_ rfl (Below.refl _ _)
            simp [execOp, Act.eval, h0, h1, k0, k1, go_sem]
          · intro a w1 hR hsz hs      -- 12: slot 70
            obtain ⟨h0, h1, _⟩ := hs
            have h0 : a.tmps.getD 65 undef = .bool false := h0
            have h1 : a.tmps.getD 69 undef = .bool false := h1
            refine op_run rfl rfl (v := .bool false) (w' := w1) ?_ rfl (Below.refl _ _)
            simp [execOp, Act.eval, h0, h1, go_sem]
          · intro a w1 hR hsz hs      -- 13: slot 71
            obtain ⟨h0, _⟩ := hs
            have h0 : a.tmps.getD 70 undef = .bool false := h0
            refine op_run rfl rfl (v := .bool false) (w' := w1) ?_ rfl (Below.refl _ _)
            simp [execOp, Act.eval, h0, go_sem]
          · intro a w1 hR hsz hs      -- 14: slot 72
            obtain ⟨h0, h1, _⟩ := hs
            have h0 : a.tmps.getD 8 undef = .slice (some ⟨b2, o2, none⟩) M c4 := h0
            have h1 : a.tmps.getD 71 undef = .bool false := h1
            refine opg_run rfl rfl rfl (by rw [hsz]; decide) h1 (v := .slice (some ⟨b2, o2, none⟩) M c4) (w' := w1) ?_ rfl (Below.refl _ _)
            simp [execOp, Act.eval, h0, go_sem]
          · intro a w1 hR hsz hs      -- 15: slot 73
            obtain ⟨h0, h1, _⟩ := hs
            have h0 : a.tmps.getD 9 undef = .int .i64 (K : Nat) := h0
            have h1 : a.tmps.getD 71 undef = .bool false := h1
            refine opg_run rfl rfl rfl (by rw [hsz]; decide) h1 (v := .int .i64 (K : Nat)) (w' := w1) ?_ rfl (Below.refl _ _)
            simp [execOp, Act.eval, h0, go_sem]
          · intro a w1 hR hsz hs      -- 16: slot 74
            obtain ⟨h0, h1, h2, _⟩ := hs
            have h0 : a.tmps.getD 72 undef = .slice (some ⟨b2, o2, none⟩) M c4 := h0
            have h1 : a.tmps.getD 73 undef = .int .i64 (K : Nat) := h1
            have h2 : a.tmps.getD 71 undef = .bool false := h2
            have k0 : ((K : Nat) : Int) < (M : Int) := by have := HKM.out; omega
            have k1 : K < M := HKM.out
            refine opg_run rfl rfl rfl (by rw [hsz]; decide) h2 (v := .pointer (some ⟨b2, o2 + K * 4, none⟩)) (w' := w1) ?_ rfl (Below.refl _ _)
            simp [execOp, Act.eval, h0, h1, k0, k1, go_sem]
          · intro a w1 hR hsz hs      -- 17: slot 75
            obtain ⟨h0, h1, _⟩ := hs
            have h0 : a.tmps.getD 74 undef = .pointer (some ⟨b2, o2 + K * 4, none⟩) := h0
            have h1 : a.tmps.getD 71 undef = .bool false := h1
            obtain ⟨b, o, e, x0, x1, x2, x3⟩ := (HSR.out.later hR).c4 HSK.out
            cases e
            simp only at x0 x1 x2 x3
            refine opg_run rfl rfl rfl (by rw [hsz]; decide) h1 (v := .agg #[.int .i64 ti, .string tn, .int .i64 tz, .bool false]) (w' := w1) ?_ rfl (Below.refl _ _)
            simp [execOp, Act.eval, h0, x0, x1, x2, x3, go_sem]
          · intro a w1 hR hsz hs      -- 18: slot 76
            obtain ⟨h0, h1, _⟩ := hs
            have h0 : a.tmps.getD 11 undef = .pointer (some ⟨p11, 0, none⟩) := h0
            have h1 : a.tmps.getD 71 undef = .bool false := h1
            obtain ⟨x0, x1, x2, x3⟩ := (HM11.out.later hR).c4
            refine opg_run rfl rfl rfl (by rw [hsz]; decide) h1 (v := .agg #[.int .i64 ti, .string tn, .int .i64 tz, .bool false]) (w' := w1) ?_ rfl (Below.refl _ _)
            simp [execOp, Act.eval, h0, x0, x1, x2, x3, go_sem]
          · intro a w1 hR hsz hs      -- 19: slot 77
            obtain ⟨h0, h1, h2, _⟩ := hs
            have h0 : a.tmps.getD 75 undef = .agg #[.int .i64 ti, .string tn, .int .i64 tz, .bool false] := h0
            have h1 : a.tmps.getD 76 undef = .agg #[.int .i64 ti, .string tn, .int .i64 tz, .bool false] := h1
            have h2 : a.tmps.getD 71 undef = .bool false := h2
            have k0 := mk_same_ne w1 ⟨ti, tn, tz, false⟩
            refine opg_run rfl rfl rfl (by rw [hsz]; decide) h2 (v := .bool false) (w' := w1) ?_ rfl (Below.refl _ _)
            simp [execOp, Act.eval, h0, h1, k0, mk_guard, go_sem]
          · intro a w1 hR hsz hs      -- 20: slot 78
            obtain ⟨h0, h1, _⟩ := hs
            have h0 : a.tmps.getD 71 undef = .bool false := h0
            have h1 : a.tmps.getD 77 undef = .bool false := h1
            refine op_run rfl rfl (v := .bool false) (w' := w1) ?_ rfl (Below.refl _ _)
            simp [execOp, Act.eval, h0, h1, go_sem]
        intro f w1 hR hv
        have e78 : f 78 = .bool false := hv 20 _ 78 rfl rfl
        clear hv
        try simp only [Exit.then]
        simp only [putAll, List.foldl_cons, List.foldl_nil, Option.getD_some, Act.put, List.setIfInBounds_toArray, List.set_cons_succ, List.set_cons_zero]
        rw [e78]
        clear e78
        -- END 14
        have HB9 := Lib.hid (HB8.out.trans (hR.mono HB8.out.size))
        have hk8 : K < 8 := by have := HKM.out; have := HM8.out; omega
        go_wp2_with fail
        go_roundw
        case rel => exact ⟨j + 1, K + 1, by go_num, by go_num, by omega, Lib.hid (by rw [HUP.out, ← hK.out]; rfl), HB9⟩
        case measure => simp [intOf]; omega
    · have : j = N := by omega
      subst this
      have HKM : Hid (K = M) := Lib.hid (by rw [hK.out, List.take_of_length_le (by have := HLN.out; omega), HML.out])
      obtain rfl : K = M := HKM.out
      have HR5 := Lib.hid (HR4.out.later hB.out)
      have HFI := Lib.hid (findH_any ⟨hs, ho, hu, hc, hx, hq, ms⟩ nm am j cp wr HR5.out HLN.out)
      cases hfm : findM ms nm with
      | some t =>
        obtain ⟨htn, htg, -⟩ := findM_is hfm
        rw [foundM_some hfm] at HFI
        clear hfm
        obtain ⟨ti, tn, tz, tg⟩ := t
        simp only at htn htg
        subst htn htg
        go_wp2_with fail
        refine HFI.out.mono ?_
        rintro e w7 ⟨rfl, hb7⟩
        have hba : Below w7.heap.size w7 (w7.alloc (.cells #[.int .i64 ti, .string tn, .int .i64 tz, .bool false] 39)) := (Below.refl _ _).alloc (Nat.le_refl _) _
        have hb8 := hb7.trans (hba.mono hb7.size)
        have HB14 := Lib.hid (HBw.out.trans (hb8.mono HBw.out.size))
        have HX7 := Lib.hid (HX5.out.later hb8)
        have HR7 := Lib.hid (HR5.out.later hb8)
        have HM14 := Lib.hid (RecAt.new w7 #[.int .i64 ti, .string tn, .int .i64 tz, .bool false] 39)
        clear hba hb7 hb8 y0 y1 y2 y3 y4 y5 y6
        go_upto_region 18 with fail
        generalize (w7.alloc (.cells #[.int .i64 ti, .string tn, .int .i64 tz, .bool false] 39)) = w8 at *
        generalize w7.heap.size = p14 at *
        obtain ⟨NW, hNW⟩ : ∃ x, newestM ms = x := ⟨_, rfl⟩
        have HNW := Lib.hid (fun W (h : Below w8.heap.size w8 W) => newestH_any ⟨hs, ho, hu, hc, hx, hq, ms⟩ am j cp W (HR7.out.later h) HLN.out)
        simp only at HNW
        rw [hNW] at HNW HNL
        -- REG Y
        refine wp_region_tab (L := [cV (.int .i64 (K : Nat)), cV (.slice a4 K c4), cV (.int .i64 (K : Nat)), cV (.bool true), cV (.bool true), cV (.slice a4 K c4), cV (.int .i64 (K : Nat)), cV (.bool true), cV (.bool true), cV (.bool true), cV (.bool true), cV (.bool false), cV (.bool false), cV (.pointer (some ⟨p14, 1, none⟩)), cV (.string tn), cV (.string tn), cV (.bool true), cV (.bool true), cV (.pointer (some ⟨p14, 3, none⟩)), cV (.bool false), cV (.bool true), cV (.bool true), cV (.bool true), cV (.bool true), cV (.bool true), cV (.agg #[.int .i64 hs, .int .i64 ho, .int .i64 hu, .int .i64 hc, .int .i64 hx, .int .i64 hq, .slice am j cp]), cV (.int .i64 NW), cV (.pointer (some ⟨P7, 4, none⟩)), cV (.int .i64 hx), cV (.bool true), cV (.bool true), cV (.bool true), cV (.bool true), cV (.bool true), cV (.bool true)]) [[(9, none)], [(8, none)], [(88, some 1)], [(87, some 0), (89, some 2)], [(90, some 3)], [(8, none), (91, some 4)], [(92, some 5), (91, some 4)], [(93, some 6), (91, some 4)], [(91, some 4), (94, some 7)], [(95, some 8)], [(15, none), (96, some 9)], [(97, some 10), (96, some 9)], [(98, some 11), (96, some 9)], [(14, none), (99, some 12)], [(100, some 13), (99, some 12)], [(2, none), (99, some 12)], [(101, some 14), (102, some 15), (99, some 12)], [(103, some 16), (99, some 12)], [(14, none), (104, some 17)], [(105, some 18), (104, some 17)], [(106, some 19), (104, some 17)], [(104, some 17), (107, some 20), (99, some 12)], [(99, some 12), (108, some 21), (96, some 9)], [(96, some 9), (109, some 22)], [(110, some 23)], [(7, none), (111, some 24)], [(112, some 25), (111, some 24)], [(7, none), (111, some 24)], [(114, some 27), (111, some 24)], [(113, some 26), (115, some 28), (111, some 24)], [(111, some 24), (116, some 29)], [(117, some 30)], [(118, some 31)], [(118, some 31), (119, some 32)], [(120, some 33)]] 35 121 (by kernel_rfl) rfl rfl (by kernel_rfl) (by kernel_rfl) ?_ ?_
        · show ∀ i, i < 35 → _
          iterate 35 (refine fls ?_ ?_)
          · exact fl0
          · intro a w1 hR hsz hs      -- 0: slot 87
            obtain ⟨h0, _⟩ := hs
            have h0 : a.tmps.getD 9 undef = .int .i64 (K : Nat) := h0
            refine op_run rfl rfl (v := .int .i64 (K : Nat)) (w' := w1) ?_ rfl (Below.refl _ _)
            simp [execOp, Act.eval, h0, go_sem]
          · intro a w1 hR hsz hs      -- 1: slot 88
            obtain ⟨h0, _⟩ := hs
            have h0 : a.tmps.getD 8 undef = .slice a4 K c4 := h0
            refine op_run rfl rfl (v := .slice a4 K c4) (w' := w1) ?_ rfl (Below.refl _ _)
            simp [execOp, Act.eval, h0, go_sem]
          · intro a w1 hR hsz hs      -- 2: slot 89
            obtain ⟨h0, _⟩ := hs
            have h0 : a.tmps.getD 88 undef = .slice a4 K c4 := h0
            refine op_run rfl rfl (v := .int .i64 (K : Nat)) (w' := w1) ?_ rfl (Below.refl _ _)
            simp [execOp, Act.eval, h0, go_sem]
          · intro a w1 hR hsz hs      -- 3: slot 90
            obtain ⟨h0, h1, _⟩ := hs
            have h0 : a.tmps.getD 87 undef = .int .i64 (K : Nat) := h0
            have h1 : a.tmps.getD 89 undef = .int .i64 (K : Nat) := h1
            have k0 : (((K : Nat) : Int) == ((K : Nat) : Int)) = true := by simp
            refine op_run rfl rfl (v := .bool true) (w' := w1) ?_ rfl (Below.refl _ _)
            simp [execOp, Act.eval, h0, h1, k0, go_sem]
          · intro a w1 hR hsz hs      -- 4: slot 91
            obtain ⟨h0, _⟩ := hs
            have h0 : a.tmps.getD 90 undef = .bool true := h0
            refine op_run rfl rfl (v := .bool true) (w' := w1) ?_ rfl (Below.refl _ _)
            simp [execOp, Act.eval, h0, go_sem]
          · intro a w1 hR hsz hs      -- 5: slot 92
            obtain ⟨h0, h1, _⟩ := hs
            have h0 : a.tmps.getD 8 undef = .slice a4 K c4 := h0
            have h1 : a.tmps.getD 91 undef = .bool true := h1
            refine opg_run rfl rfl rfl (by rw [hsz]; decide) h1 (v := .slice a4 K c4) (w' := w1) ?_ rfl (Below.refl _ _)
            simp [execOp, Act.eval, h0, go_sem]
          · intro a w1 hR hsz hs      -- 6: slot 93
            obtain ⟨h0, h1, _⟩ := hs
            have h0 : a.tmps.getD 92 undef = .slice a4 K c4 := h0
            have h1 : a.tmps.getD 91 undef = .bool true := h1
            refine opg_run rfl rfl rfl (by rw [hsz]; decide) h1 (v := .int .i64 (K : Nat)) (w' := w1) ?_ rfl (Below.refl _ _)
            simp [execOp, Act.eval, h0, go_sem]
          · intro a w1 hR hsz hs      -- 7: slot 94
            obtain ⟨h0, h1, _⟩ := hs
            have h0 : a.tmps.getD 93 undef = .int .i64 (K : Nat) := h0
            have h1 : a.tmps.getD 91 undef = .bool true := h1
            have k0 : decide (((K : Nat) : Int) ≤ 8) = true := by have := HM8.out; simp; omega
            refine opg_run rfl rfl rfl (by rw [hsz]; decide) h1 (v := .bool true) (w' := w1) ?_ rfl (Below.refl _ _)
            simp [execOp, Act.eval, h0, k0, go_sem]
          · intro a w1 hR hsz hs      -- 8: slot 95
            obtain ⟨h0, h1, _⟩ := hs
            have h0 : a.tmps.getD 91 undef = .bool true := h0
            have h1 : a.tmps.getD 94 undef = .bool true := h1
            refine op_run rfl rfl (v := .bool true) (w' := w1) ?_ rfl (Below.refl _ _)
            simp [execOp, Act.eval, h0, h1, go_sem]
          · intro a w1 hR hsz hs      -- 9: slot 96
            obtain ⟨h0, _⟩ := hs
            have h0 : a.tmps.getD 95 undef = .bool true := h0
            refine op_run rfl rfl (v := .bool true) (w' := w1) ?_ rfl (Below.refl _ _)
            simp [execOp, Act.eval, h0, go_sem]
          · intro a w1 hR hsz hs      -- 10: slot 97
            obtain ⟨h0, h1, _⟩ := hs
            have h0 : a.tmps.getD 15 undef = .bool true := h0
            have h1 : a.tmps.getD 96 undef = .bool true := h1
            refine opg_run rfl rfl rfl (by rw [hsz]; decide) h1 (v := .bool true) (w' := w1) ?_ rfl (Below.refl _ _)
            simp [execOp, Act.eval, h0, go_sem]
          · intro a w1 hR hsz hs      -- 11: slot 98
            obtain ⟨h0, h1, _⟩ := hs
            have h0 : a.tmps.getD 97 undef = .bool true := h0
            have h1 : a.tmps.getD 96 undef = .bool true := h1
            refine opg_run rfl rfl rfl (by rw [hsz]; decide) h1 (v := .bool false) (w' := w1) ?_ rfl (Below.refl _ _)
            simp [execOp, Act.eval, h0, go_sem]
          · intro a w1 hR hsz hs      -- 12: slot 99
            obtain ⟨h0, h1, _⟩ := hs
            have h0 : a.tmps.getD 98 undef = .bool false := h0
            have h1 : a.tmps.getD 96 undef = .bool true := h1
            refine opg_run rfl rfl rfl (by rw [hsz]; decide) h1 (v := .bool false) (w' := w1) ?_ rfl (Below.refl _ _)
            simp [execOp, Act.eval, h0, go_sem]
          · intro a w1 hR hsz hs      -- 13: slot 100
            obtain ⟨h0, h1, _⟩ := hs
            have h0 : a.tmps.getD 14 undef = .pointer (some ⟨p14, 0, none⟩) := h0
            have h1 : a.tmps.getD 99 undef = .bool false := h1
            refine opg_run rfl rfl rfl (by rw [hsz]; decide) h1 (v := .pointer (some ⟨p14, 1, none⟩)) (w' := w1) ?_ rfl (Below.refl _ _)
            simp [execOp, Act.eval, h0, go_sem]
          · intro a w1 hR hsz hs      -- 14: slot 101
            obtain ⟨h0, h1, _⟩ := hs
            have h0 : a.tmps.getD 100 undef = .pointer (some ⟨p14, 1, none⟩) := h0
            have h1 : a.tmps.getD 99 undef = .bool false := h1
            obtain ⟨x0, x1, x2, x3⟩ := (HM14.out.later hR).c4
            refine opg_run rfl rfl rfl (by rw [hsz]; decide) h1 (v := .string tn) (w' := w1) ?_ rfl (Below.refl _ _)
            simp [execOp, Act.eval, h0, x1, go_sem]
          · intro a w1 hR hsz hs      -- 15: slot 102
            obtain ⟨h0, h1, _⟩ := hs
            have h0 : a.tmps.getD 2 undef = .string tn := h0
            have h1 : a.tmps.getD 99 undef = .bool false := h1
            refine opg_run rfl rfl rfl (by rw [hsz]; decide) h1 (v := .string tn) (w' := w1) ?_ rfl (Below.refl _ _)
            simp [execOp, Act.eval, h0, go_sem]
          · intro a w1 hR hsz hs      -- 16: slot 103
            obtain ⟨h0, h1, h2, _⟩ := hs
            have h0 : a.tmps.getD 101 undef = .string tn := h0
            have h1 : a.tmps.getD 102 undef = .string tn := h1
            have h2 : a.tmps.getD 99 undef = .bool false := h2
            have k0 : (tn.toList == tn.toList) = true := by simp
            refine opg_run rfl rfl rfl (by rw [hsz]; decide) h2 (v := .bool true) (w' := w1) ?_ rfl (Below.refl _ _)
            simp [execOp, Act.eval, h0, h1, k0, go_sem]
          · intro a w1 hR hsz hs      -- 17: slot 104
            obtain ⟨h0, h1, _⟩ := hs
            have h0 : a.tmps.getD 103 undef = .bool true := h0
            have h1 : a.tmps.getD 99 undef = .bool false := h1
            refine opg_run rfl rfl rfl (by rw [hsz]; decide) h1 (v := .bool true) (w' := w1) ?_ rfl (Below.refl _ _)
            simp [execOp, Act.eval, h0, go_sem]
          · intro a w1 hR hsz hs      -- 18: slot 105
            obtain ⟨h0, h1, _⟩ := hs
            have h0 : a.tmps.getD 14 undef = .pointer (some ⟨p14, 0, none⟩) := h0
            have h1 : a.tmps.getD 104 undef = .bool true := h1
            refine opg_run rfl rfl rfl (by rw [hsz]; decide) h1 (v := .pointer (some ⟨p14, 3, none⟩)) (w' := w1) ?_ rfl (Below.refl _ _)
            simp [execOp, Act.eval, h0, go_sem]
          · intro a w1 hR hsz hs      -- 19: slot 106
            obtain ⟨h0, h1, _⟩ := hs
            have h0 : a.tmps.getD 105 undef = .pointer (some ⟨p14, 3, none⟩) := h0
            have h1 : a.tmps.getD 104 undef = .bool true := h1
            obtain ⟨x0, x1, x2, x3⟩ := (HM14.out.later hR).c4
            refine opg_run rfl rfl rfl (by rw [hsz]; decide) h1 (v := .bool false) (w' := w1) ?_ rfl (Below.refl _ _)
            simp [execOp, Act.eval, h0, x3, go_sem]
          · intro a w1 hR hsz hs      -- 20: slot 107
            obtain ⟨h0, h1, _⟩ := hs
            have h0 : a.tmps.getD 106 undef = .bool false := h0
            have h1 : a.tmps.getD 104 undef = .bool true := h1
            refine opg_run rfl rfl rfl (by rw [hsz]; decide) h1 (v := .bool true) (w' := w1) ?_ rfl (Below.refl _ _)
            simp [execOp, Act.eval, h0, go_sem]
          · intro a w1 hR hsz hs      -- 21: slot 108
            obtain ⟨h0, h1, h2, _⟩ := hs
            have h0 : a.tmps.getD 104 undef = .bool true := h0
            have h1 : a.tmps.getD 107 undef = .bool true := h1
            have h2 : a.tmps.getD 99 undef = .bool false := h2
            refine opg_run rfl rfl rfl (by rw [hsz]; decide) h2 (v := .bool true) (w' := w1) ?_ rfl (Below.refl _ _)
            simp [execOp, Act.eval, h0, h1, go_sem]
          · intro a w1 hR hsz hs      -- 22: slot 109
            obtain ⟨h0, h1, h2, _⟩ := hs
            have h0 : a.tmps.getD 99 undef = .bool false := h0
            have h1 : a.tmps.getD 108 undef = .bool true := h1
            have h2 : a.tmps.getD 96 undef = .bool true := h2
            refine opg_run rfl rfl rfl (by rw [hsz]; decide) h2 (v := .bool true) (w' := w1) ?_ rfl (Below.refl _ _)
            simp [execOp, Act.eval, h0, h1, go_sem]
          · intro a w1 hR hsz hs      -- 23: slot 110
            obtain ⟨h0, h1, _⟩ := hs
            have h0 : a.tmps.getD 96 undef = .bool true := h0
            have h1 : a.tmps.getD 109 undef = .bool true := h1
            refine op_run rfl rfl (v := .bool true) (w' := w1) ?_ rfl (Below.refl _ _)
            simp [execOp, Act.eval, h0, h1, go_sem]
          · intro a w1 hR hsz hs      -- 24: slot 111
            obtain ⟨h0, _⟩ := hs
            have h0 : a.tmps.getD 110 undef = .bool true := h0
            refine op_run rfl rfl (v := .bool true) (w' := w1) ?_ rfl (Below.refl _ _)
            simp [execOp, Act.eval, h0, go_sem]
          · intro a w1 hR hsz hs      -- 25: slot 112
            obtain ⟨h0, h1, _⟩ := hs
            have h0 : a.tmps.getD 7 undef = .pointer (some ⟨P7, 0, none⟩) := h0
            have h1 : a.tmps.getD 111 undef = .bool true := h1
            obtain ⟨x0, x1, x2, x3, x4, x5, x6⟩ := (HX7.out.later hR).c7
            refine opg_run rfl rfl rfl (by rw [hsz]; decide) h1 (v := .agg #[.int .i64 hs, .int .i64 ho, .int .i64 hu, .int .i64 hc, .int .i64 hx, .int .i64 hq, .slice am j cp]) (w' := w1) ?_ rfl (Below.refl _ _)
            simp [execOp, Act.eval, h0, x0, x1, x2, x3, x4, x5, x6, go_sem]
          · intro a w1 hR hsz hs      -- 26: slot 113
            obtain ⟨h0, h1, _⟩ := hs
            have h0 : a.tmps.getD 112 undef = .agg #[.int .i64 hs, .int .i64 ho, .int .i64 hu, .int .i64 hc, .int .i64 hx, .int .i64 hq, .slice am j cp] := h0
            have h1 : a.tmps.getD 111 undef = .bool true := h1
            refine opg_call rfl rfl rfl (by rw [hsz]; decide) h1 (f := 23) (args := #[.agg #[.int .i64 hs, .int .i64 ho, .int .i64 hu, .int .i64 hc, .int .i64 hx, .int .i64 hq, .slice am j cp]]) (by simp [execOp, Act.eval, resolve, h0, go_sem]) ?_
            exact calls_c (HNW.out w1 hR)
          · intro a w1 hR hsz hs      -- 27: slot 114
            obtain ⟨h0, h1, _⟩ := hs
            have h0 : a.tmps.getD 7 undef = .pointer (some ⟨P7, 0, none⟩) := h0
            have h1 : a.tmps.getD 111 undef = .bool true := h1
            refine opg_run rfl rfl rfl (by rw [hsz]; decide) h1 (v := .pointer (some ⟨P7, 4, none⟩)) (w' := w1) ?_ rfl (Below.refl _ _)
            simp [execOp, Act.eval, h0, go_sem]
          · intro a w1 hR hsz hs      -- 28: slot 115
            obtain ⟨h0, h1, _⟩ := hs
            have h0 : a.tmps.getD 114 undef = .pointer (some ⟨P7, 4, none⟩) := h0
            have h1 : a.tmps.getD 111 undef = .bool true := h1
            obtain ⟨x0, x1, x2, x3, x4, x5, x6⟩ := (HX7.out.later hR).c7
            refine opg_run rfl rfl rfl (by rw [hsz]; decide) h1 (v := .int .i64 hx) (w' := w1) ?_ rfl (Below.refl _ _)
            simp [execOp, Act.eval, h0, x4, go_sem]
          · intro a w1 hR hsz hs      -- 29: slot 116
            obtain ⟨h0, h1, h2, _⟩ := hs
            have h0 : a.tmps.getD 113 undef = .int .i64 NW := h0
            have h1 : a.tmps.getD 115 undef = .int .i64 hx := h1
            have h2 : a.tmps.getD 111 undef = .bool true := h2
            have k0 : decide (NW < hx) = true := by have := HNL.out; simp; omega
            refine opg_run rfl rfl rfl (by rw [hsz]; decide) h2 (v := .bool true) (w' := w1) ?_ rfl (Below.refl _ _)
            simp [execOp, Act.eval, h0, h1, k0, go_sem]
          · intro a w1 hR hsz hs      -- 30: slot 117
            obtain ⟨h0, h1, _⟩ := hs
            have h0 : a.tmps.getD 111 undef = .bool true := h0
            have h1 : a.tmps.getD 116 undef = .bool true := h1
            refine op_run rfl rfl (v := .bool true) (w' := w1) ?_ rfl (Below.refl _ _)
            simp [execOp, Act.eval, h0, h1, go_sem]
          · intro a w1 hR hsz hs      -- 31: slot 118
            obtain ⟨h0, _⟩ := hs
            have h0 : a.tmps.getD 117 undef = .bool true := h0
            refine op_run rfl rfl (v := .bool true) (w' := w1) ?_ rfl (Below.refl _ _)
            simp [execOp, Act.eval, h0, go_sem]
          · intro a w1 hR hsz hs      -- 32: slot 119
            obtain ⟨h0, _⟩ := hs
            have h0 : a.tmps.getD 118 undef = .bool true := h0
            refine opg_call rfl rfl rfl (by rw [hsz]; decide) h0 (f := 8) (args := #[]) (by simp [execOp, Act.eval, resolve, go_sem]) ?_
            exact calls_c (knownH_any w1)
          · intro a w1 hR hsz hs      -- 33: slot 120
            obtain ⟨h0, h1, _⟩ := hs
            have h0 : a.tmps.getD 118 undef = .bool true := h0
            have h1 : a.tmps.getD 119 undef = .bool true := h1
            refine op_run rfl rfl (v := .bool true) (w' := w1) ?_ rfl (Below.refl _ _)
            simp [execOp, Act.eval, h0, h1, go_sem]
          · intro a w1 hR hsz hs      -- 34: slot 6
            obtain ⟨h0, _⟩ := hs
            have h0 : a.tmps.getD 120 undef = .bool true := h0
            refine op_run rfl rfl (v := .bool true) (w' := w1) ?_ rfl (Below.refl _ _)
            simp [execOp, Act.eval, h0, go_sem]
        · intro f w1 hR hv
          have e6 : f 6 = .bool true := hv 34 _ 6 rfl rfl
          clear hv
          try simp only [Exit.then]
          simp only [putAll, List.foldl_cons, List.foldl_nil, Option.getD_some, Act.put, List.setIfInBounds_toArray, List.set_cons_succ, List.set_cons_zero]
          go_wp2_with fail
          go_ret
          exact ⟨congrArg Ending.returned e6, HB14.out.trans (hR.mono HB14.out.size)⟩
        -- END Y
      | none =>
        rw [foundM_none hfm] at HFI
        clear hfm
        go_wp2_with fail
        refine HFI.out.mono ?_
        rintro e w7 ⟨rfl, hb7⟩
        have hba : Below w7.heap.size w7 (w7.alloc (.cells zeroMk 39)) := (Below.refl _ _).alloc (Nat.le_refl _) _
        have hb8 := hb7.trans (hba.mono hb7.size)
        have HB14 := Lib.hid (HBw.out.trans (hb8.mono HBw.out.size))
        have HX7 := Lib.hid (HX5.out.later hb8)
        have HR7 := Lib.hid (HR5.out.later hb8)
        clear hba hb7 hb8 y0 y1 y2 y3 y4 y5 y6
        go_upto_region 18 with fail
        simp only [noMk]
        generalize (w7.alloc (.cells zeroMk 39)) = w8 at *
        generalize w7.heap.size = p14 at *
        obtain ⟨NW, hNW⟩ : ∃ x, newestM ms = x := ⟨_, rfl⟩
        have HNW := Lib.hid (fun W (h : Below w8.heap.size w8 W) => newestH_any ⟨hs, ho, hu, hc, hx, hq, ms⟩ am j cp W (HR7.out.later h) HLN.out)
        simp only at HNW
        rw [hNW] at HNW HNL
        -- REG N
        refine wp_region_tab (L := [cV (.int .i64 (K : Nat)), cV (.slice a4 K c4), cV (.int .i64 (K : Nat)), cV (.bool true), cV (.bool true), cV (.slice a4 K c4), cV (.int .i64 (K : Nat)), cV (.bool true), cV (.bool true), cV (.bool true), cV (.bool false), cV (.bool true), cV (.bool true), cV (undef), cV (undef), cV (undef), cV (undef), cV (undef), cV (undef), cV (undef), cV (undef), cV (undef), cV (Value.bool true), cV (Value.bool true), cV (Value.bool true), cV (.agg #[.int .i64 hs, .int .i64 ho, .int .i64 hu, .int .i64 hc, .int .i64 hx, .int .i64 hq, .slice am j cp]), cV (.int .i64 NW), cV (.pointer (some ⟨P7, 4, none⟩)), cV (.int .i64 hx), cV (.bool true), cV (.bool true), cV (.bool true), cV (.bool true), cV (.bool true), cV (.bool true)]) [[(9, none)], [(8, none)], [(88, some 1)], [(87, some 0), (89, some 2)], [(90, some 3)], [(8, none), (91, some 4)], [(92, some 5), (91, some 4)], [(93, some 6), (91, some 4)], [(91, some 4), (94, some 7)], [(95, some 8)], [(15, none), (96, some 9)], [(97, some 10), (96, some 9)], [(98, some 11), (96, some 9)], [(14, none), (99, some 12)], [(100, some 13), (99, some 12)], [(2, none), (99, some 12)], [(101, some 14), (102, some 15), (99, some 12)], [(103, some 16), (99, some 12)], [(14, none), (104, some 17)], [(105, some 18), (104, some 17)], [(106, some 19), (104, some 17)], [(104, some 17), (107, some 20), (99, some 12)], [(99, some 12), (108, some 21), (96, some 9)], [(96, some 9), (109, some 22)], [(110, some 23)], [(7, none), (111, some 24)], [(112, some 25), (111, some 24)], [(7, none), (111, some 24)], [(114, some 27), (111, some 24)], [(113, some 26), (115, some 28), (111, some 24)], [(111, some 24), (116, some 29)], [(117, some 30)], [(118, some 31)], [(118, some 31), (119, some 32)], [(120, some 33)]] 35 121 (by kernel_rfl) rfl rfl (by kernel_rfl) (by kernel_rfl) ?_ ?_
        · show ∀ i, i < 35 → _
          iterate 35 (refine fls ?_ ?_)
          · exact fl0
          · intro a w1 hR hsz hs      -- 0: slot 87
            obtain ⟨h0, _⟩ := hs
            have h0 : a.tmps.getD 9 undef = .int .i64 (K : Nat) := h0
            refine op_run rfl rfl (v := .int .i64 (K : Nat)) (w' := w1) ?_ rfl (Below.refl _ _)
            simp [execOp, Act.eval, h0, go_sem]
          · intro a w1 hR hsz hs      -- 1: slot 88
            obtain ⟨h0, _⟩ := hs
            have h0 : a.tmps.getD 8 undef = .slice a4 K c4 := h0
            refine op_run rfl rfl (v := .slice a4 K c4) (w' := w1) ?_ rfl (Below.refl _ _)
            simp [execOp, Act.eval, h0, go_sem]
          · intro a w1 hR hsz hs      -- 2: slot 89
            obtain ⟨h0, _⟩ := hs
            have h0 : a.tmps.getD 88 undef = .slice a4 K c4 := h0
            refine op_run rfl rfl (v := .int .i64 (K : Nat)) (w' := w1) ?_ rfl (Below.refl _ _)
            simp [execOp, Act.eval, h0, go_sem]
          · intro a w1 hR hsz hs      -- 3: slot 90
            obtain ⟨h0, h1, _⟩ := hs
            have h0 : a.tmps.getD 87 undef = .int .i64 (K : Nat) := h0
            have h1 : a.tmps.getD 89 undef = .int .i64 (K : Nat) := h1
            have k0 : (((K : Nat) : Int) == ((K : Nat) : Int)) = true := by simp
            refine op_run rfl rfl (v := .bool true) (w' := w1) ?_ rfl (Below.refl _ _)
            simp [execOp, Act.eval, h0, h1, k0, go_sem]
          · intro a w1 hR hsz hs      -- 4: slot 91
            obtain ⟨h0, _⟩ := hs
            have h0 : a.tmps.getD 90 undef = .bool true := h0
            refine op_run rfl rfl (v := .bool true) (w' := w1) ?_ rfl (Below.refl _ _)
            simp [execOp, Act.eval, h0, go_sem]
          · intro a w1 hR hsz hs      -- 5: slot 92
            obtain ⟨h0, h1, _⟩ := hs
            have h0 : a.tmps.getD 8 undef = .slice a4 K c4 := h0
            have h1 : a.tmps.getD 91 undef = .bool true := h1
            refine opg_run rfl rfl rfl (by rw [hsz]; decide) h1 (v := .slice a4 K c4) (w' := w1) ?_ rfl (Below.refl _ _)
            simp [execOp, Act.eval, h0, go_sem]
          · intro a w1 hR hsz hs      -- 6: slot 93
            obtain ⟨h0, h1, _⟩ := hs
            have h0 : a.tmps.getD 92 undef = .slice a4 K c4 := h0
            have h1 : a.tmps.getD 91 undef = .bool true := h1
            refine opg_run rfl rfl rfl (by rw [hsz]; decide) h1 (v := .int .i64 (K : Nat)) (w' := w1) ?_ rfl (Below.refl _ _)
            simp [execOp, Act.eval, h0, go_sem]
          · intro a w1 hR hsz hs      -- 7: slot 94
            obtain ⟨h0, h1, _⟩ := hs
            have h0 : a.tmps.getD 93 undef = .int .i64 (K : Nat) := h0
            have h1 : a.tmps.getD 91 undef = .bool true := h1
            have k0 : decide (((K : Nat) : Int) ≤ 8) = true := by have := HM8.out; simp; omega
            refine opg_run rfl rfl rfl (by rw [hsz]; decide) h1 (v := .bool true) (w' := w1) ?_ rfl (Below.refl _ _)
            simp [execOp, Act.eval, h0, k0, go_sem]
          · intro a w1 hR hsz hs      -- 8: slot 95
            obtain ⟨h0, h1, _⟩ := hs
            have h0 : a.tmps.getD 91 undef = .bool true := h0
            have h1 : a.tmps.getD 94 undef = .bool true := h1
            refine op_run rfl rfl (v := .bool true) (w' := w1) ?_ rfl (Below.refl _ _)
            simp [execOp, Act.eval, h0, h1, go_sem]
          · intro a w1 hR hsz hs      -- 9: slot 96
            obtain ⟨h0, _⟩ := hs
            have h0 : a.tmps.getD 95 undef = .bool true := h0
            refine op_run rfl rfl (v := .bool true) (w' := w1) ?_ rfl (Below.refl _ _)
            simp [execOp, Act.eval, h0, go_sem]
          · intro a w1 hR hsz hs      -- 10: slot 97
            obtain ⟨h0, h1, _⟩ := hs
            have h0 : a.tmps.getD 15 undef = .bool false := h0
            have h1 : a.tmps.getD 96 undef = .bool true := h1
            refine opg_run rfl rfl rfl (by rw [hsz]; decide) h1 (v := .bool false) (w' := w1) ?_ rfl (Below.refl _ _)
            simp [execOp, Act.eval, h0, go_sem]
          · intro a w1 hR hsz hs      -- 11: slot 98
            obtain ⟨h0, h1, _⟩ := hs
            have h0 : a.tmps.getD 97 undef = .bool false := h0
            have h1 : a.tmps.getD 96 undef = .bool true := h1
            refine opg_run rfl rfl rfl (by rw [hsz]; decide) h1 (v := .bool true) (w' := w1) ?_ rfl (Below.refl _ _)
            simp [execOp, Act.eval, h0, go_sem]
          · intro a w1 hR hsz hs      -- 12: slot 99
            obtain ⟨h0, h1, _⟩ := hs
            have h0 : a.tmps.getD 98 undef = .bool true := h0
            have h1 : a.tmps.getD 96 undef = .bool true := h1
            refine opg_run rfl rfl rfl (by rw [hsz]; decide) h1 (v := .bool true) (w' := w1) ?_ rfl (Below.refl _ _)
            simp [execOp, Act.eval, h0, go_sem]
          · intro a w1 hR hsz hs      -- 13: slot 100
            obtain ⟨h0, h1, _⟩ := hs
            have h0 : a.tmps.getD 14 undef = .pointer (some ⟨p14, 0, none⟩) := h0
            have h1 : a.tmps.getD 99 undef = .bool true := h1
            exact opg_skip rfl rfl rfl (by rw [hsz]; decide) h1 rfl rfl
          · intro a w1 hR hsz hs      -- 14: slot 101
            obtain ⟨h0, h1, _⟩ := hs
            have h0 : a.tmps.getD 100 undef = undef := h0
            have h1 : a.tmps.getD 99 undef = .bool true := h1
            exact opg_skip rfl rfl rfl (by rw [hsz]; decide) h1 rfl rfl
          · intro a w1 hR hsz hs      -- 15: slot 102
            obtain ⟨h0, h1, _⟩ := hs
            have h0 : a.tmps.getD 2 undef = .string nm := h0
            have h1 : a.tmps.getD 99 undef = .bool true := h1
            exact opg_skip rfl rfl rfl (by rw [hsz]; decide) h1 rfl rfl
          · intro a w1 hR hsz hs      -- 16: slot 103
            obtain ⟨h0, h1, h2, _⟩ := hs
            have h0 : a.tmps.getD 101 undef = undef := h0
            have h1 : a.tmps.getD 102 undef = undef := h1
            have h2 : a.tmps.getD 99 undef = .bool true := h2
            exact opg_skip rfl rfl rfl (by rw [hsz]; decide) h2 rfl rfl
          · intro a w1 hR hsz hs      -- 17: slot 104
            obtain ⟨h0, h1, _⟩ := hs
            have h0 : a.tmps.getD 103 undef = undef := h0
            have h1 : a.tmps.getD 99 undef = .bool true := h1
            exact opg_skip rfl rfl rfl (by rw [hsz]; decide) h1 rfl rfl
          · intro a w1 hR hsz hs      -- 18: slot 105
            obtain ⟨h0, h1, _⟩ := hs
            have h0 : a.tmps.getD 14 undef = .pointer (some ⟨p14, 0, none⟩) := h0
            have h1 : a.tmps.getD 104 undef = undef := h1
            exact opg_skipU rfl rfl rfl (by rw [hsz]; decide) h1 rfl
          · intro a w1 hR hsz hs      -- 19: slot 106
            obtain ⟨h0, h1, _⟩ := hs
            have h0 : a.tmps.getD 105 undef = undef := h0
            have h1 : a.tmps.getD 104 undef = undef := h1
            exact opg_skipU rfl rfl rfl (by rw [hsz]; decide) h1 rfl
          · intro a w1 hR hsz hs      -- 20: slot 107
            obtain ⟨h0, h1, _⟩ := hs
            have h0 : a.tmps.getD 106 undef = undef := h0
            have h1 : a.tmps.getD 104 undef = undef := h1
            exact opg_skipU rfl rfl rfl (by rw [hsz]; decide) h1 rfl
          · intro a w1 hR hsz hs      -- 21: slot 108
            obtain ⟨h0, h1, h2, _⟩ := hs
            have h0 : a.tmps.getD 104 undef = undef := h0
            have h1 : a.tmps.getD 107 undef = undef := h1
            have h2 : a.tmps.getD 99 undef = .bool true := h2
            exact opg_skip rfl rfl rfl (by rw [hsz]; decide) h2 rfl rfl
          · intro a w1 hR hsz hs      -- 22: slot 109
            obtain ⟨h0, h1, h2, _⟩ := hs
            have h0 : a.tmps.getD 99 undef = .bool true := h0
            have h1 : a.tmps.getD 108 undef = undef := h1
            have h2 : a.tmps.getD 96 undef = .bool true := h2
            refine opg_run rfl rfl rfl (by rw [hsz]; decide) h2 (v := Value.bool true) (w' := w1) ?_ rfl (Below.refl _ _)
            simp [execOp, Act.eval, h0, go_sem]
          · intro a w1 hR hsz hs      -- 23: slot 110
            obtain ⟨h0, h1, _⟩ := hs
            have h0 : a.tmps.getD 96 undef = .bool true := h0
            have h1 : a.tmps.getD 109 undef = Value.bool true := h1
            refine op_run rfl rfl (v := Value.bool true) (w' := w1) ?_ rfl (Below.refl _ _)
            simp [execOp, Act.eval, h0, h1, go_sem]
          · intro a w1 hR hsz hs      -- 24: slot 111
            obtain ⟨h0, _⟩ := hs
            have h0 : a.tmps.getD 110 undef = Value.bool true := h0
            refine op_run rfl rfl (v := Value.bool true) (w' := w1) ?_ rfl (Below.refl _ _)
            simp [execOp, Act.eval, h0, go_sem]
          · intro a w1 hR hsz hs      -- 25: slot 112
            obtain ⟨h0, h1, _⟩ := hs
            have h0 : a.tmps.getD 7 undef = .pointer (some ⟨P7, 0, none⟩) := h0
            have h1 : a.tmps.getD 111 undef = Value.bool true := h1
            obtain ⟨x0, x1, x2, x3, x4, x5, x6⟩ := (HX7.out.later hR).c7
            refine opg_run rfl rfl rfl (by rw [hsz]; decide) h1 (v := .agg #[.int .i64 hs, .int .i64 ho, .int .i64 hu, .int .i64 hc, .int .i64 hx, .int .i64 hq, .slice am j cp]) (w' := w1) ?_ rfl (Below.refl _ _)
            simp [execOp, Act.eval, h0, x0, x1, x2, x3, x4, x5, x6, go_sem]
          · intro a w1 hR hsz hs      -- 26: slot 113
            obtain ⟨h0, h1, _⟩ := hs
            have h0 : a.tmps.getD 112 undef = .agg #[.int .i64 hs, .int .i64 ho, .int .i64 hu, .int .i64 hc, .int .i64 hx, .int .i64 hq, .slice am j cp] := h0
            have h1 : a.tmps.getD 111 undef = Value.bool true := h1
            refine opg_call rfl rfl rfl (by rw [hsz]; decide) h1 (f := 23) (args := #[.agg #[.int .i64 hs, .int .i64 ho, .int .i64 hu, .int .i64 hc, .int .i64 hx, .int .i64 hq, .slice am j cp]]) (by simp [execOp, Act.eval, resolve, h0, go_sem]) ?_
            exact calls_c (HNW.out w1 hR)
          · intro a w1 hR hsz hs      -- 27: slot 114
            obtain ⟨h0, h1, _⟩ := hs
            have h0 : a.tmps.getD 7 undef = .pointer (some ⟨P7, 0, none⟩) := h0
            have h1 : a.tmps.getD 111 undef = Value.bool true := h1
            refine opg_run rfl rfl rfl (by rw [hsz]; decide) h1 (v := .pointer (some ⟨P7, 4, none⟩)) (w' := w1) ?_ rfl (Below.refl _ _)
            simp [execOp, Act.eval, h0, go_sem]
          · intro a w1 hR hsz hs      -- 28: slot 115
            obtain ⟨h0, h1, _⟩ := hs
            have h0 : a.tmps.getD 114 undef = .pointer (some ⟨P7, 4, none⟩) := h0
            have h1 : a.tmps.getD 111 undef = Value.bool true := h1
            obtain ⟨x0, x1, x2, x3, x4, x5, x6⟩ := (HX7.out.later hR).c7
            refine opg_run rfl rfl rfl (by rw [hsz]; decide) h1 (v := .int .i64 hx) (w' := w1) ?_ rfl (Below.refl _ _)
            simp [execOp, Act.eval, h0, x4, go_sem]
          · intro a w1 hR hsz hs      -- 29: slot 116
            obtain ⟨h0, h1, h2, _⟩ := hs
            have h0 : a.tmps.getD 113 undef = .int .i64 NW := h0
            have h1 : a.tmps.getD 115 undef = .int .i64 hx := h1
            have h2 : a.tmps.getD 111 undef = Value.bool true := h2
            have k0 : decide (NW < hx) = true := by have := HNL.out; simp; omega
            refine opg_run rfl rfl rfl (by rw [hsz]; decide) h2 (v := .bool true) (w' := w1) ?_ rfl (Below.refl _ _)
            simp [execOp, Act.eval, h0, h1, k0, go_sem]
          · intro a w1 hR hsz hs      -- 30: slot 117
            obtain ⟨h0, h1, _⟩ := hs
            have h0 : a.tmps.getD 111 undef = Value.bool true := h0
            have h1 : a.tmps.getD 116 undef = .bool true := h1
            refine op_run rfl rfl (v := .bool true) (w' := w1) ?_ rfl (Below.refl _ _)
            simp [execOp, Act.eval, h0, h1, go_sem]
          · intro a w1 hR hsz hs      -- 31: slot 118
            obtain ⟨h0, _⟩ := hs
            have h0 : a.tmps.getD 117 undef = .bool true := h0
            refine op_run rfl rfl (v := .bool true) (w' := w1) ?_ rfl (Below.refl _ _)
            simp [execOp, Act.eval, h0, go_sem]
          · intro a w1 hR hsz hs      -- 32: slot 119
            obtain ⟨h0, _⟩ := hs
            have h0 : a.tmps.getD 118 undef = .bool true := h0
            refine opg_call rfl rfl rfl (by rw [hsz]; decide) h0 (f := 8) (args := #[]) (by simp [execOp, Act.eval, resolve, go_sem]) ?_
            exact calls_c (knownH_any w1)
          · intro a w1 hR hsz hs      -- 33: slot 120
            obtain ⟨h0, h1, _⟩ := hs
            have h0 : a.tmps.getD 118 undef = .bool true := h0
            have h1 : a.tmps.getD 119 undef = .bool true := h1
            refine op_run rfl rfl (v := .bool true) (w' := w1) ?_ rfl (Below.refl _ _)
            simp [execOp, Act.eval, h0, h1, go_sem]
          · intro a w1 hR hsz hs      -- 34: slot 6
            obtain ⟨h0, _⟩ := hs
            have h0 : a.tmps.getD 120 undef = .bool true := h0
            refine op_run rfl rfl (v := .bool true) (w' := w1) ?_ rfl (Below.refl _ _)
            simp [execOp, Act.eval, h0, go_sem]
        · intro f w1 hR hv
          have e6 : f 6 = .bool true := hv 34 _ 6 rfl rfl
          clear hv
          try simp only [Exit.then]
          simp only [putAll, List.foldl_cons, List.foldl_nil, Option.getD_some, Act.put, List.setIfInBounds_toArray, List.set_cons_succ, List.set_cons_zero]
          go_wp2_with fail
          go_ret
          exact ⟨congrArg Ending.returned e6, HB14.out.trans (hR.mono HB14.out.size)⟩
        -- END N
theorem headerSeen_walk (sz : Int) (ad : Option Addr) (n c : Nat) (zs : List Int) (nm : ByteArray) (w : World) (hr : ZRow w ad c zs) (hn : zs.length = n) :
    Calls Try.prog 6 #[.int .i64 sz, .slice ad n c, .string nm] w fun x w' => x = .returned (.bool true) ∧ Below w.heap.size w w' := by
  by_cases hb : 30 < n ∨ 30 < nm.size
  · exact headerSeen_known sz ad n c nm w hb
  · exact headerSeen_main sz ad n c zs nm w hr hn (by omega) (by omega)
end Go.Proofs.Ytfjplhjlmilcfaa
