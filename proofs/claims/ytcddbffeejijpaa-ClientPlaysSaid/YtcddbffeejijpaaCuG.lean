/- Clients: their bytes. -/
import Derived.Test.YtcddbffeejijpaaCuB
import Derived.Test.YtcddbffeejijpaaApp
import Derived.Test.YtcddbffeejijpaaPhase
import Derived.Test.YtcddbffeejijpaaCl
namespace Go.Proofs.Ytcddbffeejijpaa
open Go.RowKit Go.Proofs
set_option linter.unusedVariables false
set_option linter.unusedSimpArgs false
set_option linter.unnecessarySimpa false

set_option maxHeartbeats 800000 in
theorem bit_any (b : Bool) (w : World) : Calls Try.prog 29 #[.bool b] w fun e w' => e = .returned (.int .i64 (bitN b : Nat)) ∧ w = w' := by
  cases b
  all_goals
    go_enter Try.func29, Try.ntmps29
    go_wp2_with fail
    go_ret
    exact ⟨ret_int rfl, rfl⟩
theorem own_nilU {w w1 : World} (hb : Below w.heap.size w w1) : Own w w1 (.slice none 0 0) [] := ⟨World.ownsRow_nil _ _ _ _, hb⟩
set_option maxRecDepth 100000 in
set_option maxHeartbeats 6400000 in
theorem uput_any (ad : Option Addr) (n c : Nat) (ts : List Cu) (w : World) (hr : CRow w ad c ts) (hn : ts.length = n) :
    Calls Try.prog 9 #[.slice ad n c] w fun e w' => ∃ v, e = .returned (.tuple #[v, .int .i64 (putCu ts).2]) ∧ Own w w' v (putCu ts).1 := by
  have HK := Lib.hid (uright_any ad n c ts w hr hn)
  have HR := Lib.hid hr
  have HN := Lib.hid hn
  have hc1 := hr.1
  rw [hn] at hc1
  have hcm : c ≤ 9223372036854775807 := by have := hr.2.1; unfold maxLen at this; omega
  clear hr hn
  cases hx : rightU ts with
  | false =>
    rw [hx] at HK
    rw [putCu_no hx]
    clear hx
    go_enter Try.func9, Try.ntmps9
    go_wp2_with fail
    refine HK.out.mono ?_
    rintro e w1 ⟨rfl, hb1⟩
    go_wp2_with fail
    go_ret2
    exact ⟨_, rfl, own_nilU hb1⟩
  | true =>
    rw [hx] at HK
    rw [putCu_yes hx]
    have HX4 := Lib.hid (rightU_iff.1 hx)
    have hn4 : n ≤ 4 := by have h2 := HX4.out.1; rw [HN.out] at h2; exact h2
    have HV : Hid (varL ((n : Int).toNat) = headU ts 0) := Lib.hid (by rw [headU_zero, HN.out, Int.toNat_natCast])
    clear hx
    go_enter Try.func9, Try.ntmps9
    go_wp2_with fail
    refine HK.out.mono ?_
    rintro e w1 ⟨rfl, hb1⟩
    have HB1 := Lib.hid hb1
    clear hb1
    go_wp2_with fail
    refine (var_any none 0 0 [] n w1 (Row.none w1) rfl (by omega) (by omega)).mono ?_
    rw [List.nil_append, HV.out]
    rintro e w2 ⟨v2, rfl, o2⟩
    have HO : Hid (Own w w2 v2 (headU ts 0)) := Lib.hid (o2.back HB1.out)
    clear o2
    go_wp2_with fail
    go_loopw [4, 6, 7, 16] (fun v _ _ i wr => ∃ j : Nat, i = .int .i64 j ∧ j ≤ n ∧ Hid (Own w wr v (headU ts j))) (fun _ _ _ i _ => n - (intOf i).toNat)
    case atStart => exact ⟨0, rfl, by omega, HO⟩
    case round =>
      obtain ⟨j, rfl, hj, hO⟩ := hrel
      by_cases hjn : (j : Int) < n
      · obtain ⟨t, ht⟩ : ∃ t, ts[j]? = some t := ⟨ts[j]'(by have := HN.out; omega), List.getElem?_eq_getElem _⟩
        obtain ⟨b1, o1, rfl, p0, p1, p2⟩ := (HR.out.later hO.out.below).c3 ht
        have HT := Lib.hid ht
        have HTB : Hid (Cu.B t) := Lib.hid (HR.out.b ht)
        clear ht
        obtain ⟨ti, tp, tf⟩ := t
        have hba : Below wr.heap.size wr (wr.alloc (.cells #[.int .i64 ti, .int .i64 tp, .bool tf] 39)) := (Below.refl _ _).alloc (Nat.le_refl _) _
        have HX := Lib.hid (RecAt.new wr #[.int .i64 ti, .int .i64 tp, .bool tf] 39)
        go_upto_region 7 with fail
        clear p0 p1 p2
        obtain ⟨N0, hN0⟩ : ∃ N, (headU ts j).length = N := ⟨_, rfl⟩
        obtain ⟨B, hB⟩ : ∃ B, headU ts j = B := ⟨_, rfl⟩
        obtain ⟨D1, hD1⟩ : ∃ D, B ++ varL ti.toNat = D := ⟨_, rfl⟩
        obtain ⟨D2, hD2⟩ : ∃ D, D1 ++ varL tp.toNat = D := ⟨_, rfl⟩
        obtain ⟨D3, hD3⟩ : ∃ D, D2 ++ varL (bitN tf) = D := ⟨_, rfl⟩
        obtain ⟨N1, hN1⟩ : ∃ N, D1.length = N := ⟨_, rfl⟩
        obtain ⟨N2, hN2⟩ : ∃ N, D2.length = N := ⟨_, rfl⟩
        have HDD : Hid (D3 = headU ts (j + 1)) := Lib.hid (by rw [headU_succ HT.out, ← hD3, ← hD2, ← hD1, ← hB]; unfold cuL; simp only [List.append_assoc])
        have hl3 := headU_len HX4.out (j + 1)
        rw [← HDD.out] at hl3
        have hl2 : N2 ≤ 49 := by rw [← hD3, List.length_append] at hl3; omega
        have hl1 : N1 ≤ 49 := by rw [← hD2, List.length_append] at hN2; omega
        have hl0 : N0 ≤ 49 := by rw [← hN0]; exact headU_len HX4.out j
        have HD1 := Lib.hid hD1
        have HD2 := Lib.hid hD2
        have HN1 := Lib.hid hN1
        have HN2 := Lib.hid hN2
        rw [hB] at hN0
        have HN0 := Lib.hid hN0
        have hO2 := Lib.hid (hO.out.later hba)
        obtain ⟨a0, q0, rfl, r0⟩ := hO2.out.row_n (n := N0) (by rw [hB]; exact hN0)
        rw [hB] at r0
        have HW := Lib.hid hO2.out.below
        have HO := Lib.hid r0
        clear r0 hO hO2 hba hB hD1 hD2 hN0 hN1 hN2 HK HV
        generalize (wr.alloc (.cells #[.int .i64 ti, .int .i64 tp, .bool tf] 39)) = w2 at *
        generalize wr.heap.size = p4 at *
        obtain ⟨x0, x1, x2⟩ := HX.out.c3
        cases tf with
        | false =>
          have HD3 : Hid (D2 ++ varL (Int.toNat 0) = D3) := Lib.hid hD3
          clear hD3
          go_upto_region 10 with fail
          clear x0 x1 x2
          -- REG A
          refine wp_region_ptab (L := fun ph => match ph with | _ => [cV (.slice a0 N0 q0), cV (.pointer (some ⟨p4, 0, none⟩)), cV (.int .i64 ti), oV w D1, cV (.pointer (some ⟨p4, 1, none⟩)), cV (.int .i64 tp), oV w D2, cV (.int .i64 0), oV w D3, oV w D3]) (fun _ wq => Below w2.heap.size w2 wq) [] [(0, 0), (0, 0), (0, 0), (0, 0), (0, 0), (0, 0), (0, 0), (0, 0), (0, 0), (0, 0)] [[(4, none)], [(6, none)], [(23, some 1)], [(22, some 0), (24, some 2)], [(6, none)], [(26, some 4)], [(25, some 3), (27, some 5)], [(7, none)], [(28, some 6), (29, some 7)], [(30, some 8)]] 10 0 33 (by kernel_rfl) rfl rfl rfl (by kernel_rfl) (by kernel_rfl) (by decide) (by kernel_rfl) ?_ ?_ ?_ ?_ ?_
          · exact fun ph w1 w2 h hb => h.trans (hb.mono h.size)
          · exact Below.refl _ _
          · show ∀ i, i < 10 → _
            iterate 10 (refine fls ?_ ?_)
            · exact fl0
            · intro hne lo hi ph hran hp1 hp2 a w1 hJ hsz hs      -- 0: slot 22
              obtain ⟨rfl, rfl⟩ : 0 = lo ∧ 0 = hi := Prod.mk.inj (Option.some.inj hran)
              obtain rfl : ph = 0 := by omega
              obtain ⟨h0, _⟩ := hs
              have h0 : a.tmps.getD 4 undef = .slice a0 N0 q0 := h0
              refine op_run rfl rfl (v := .slice a0 N0 q0) (w' := w1) ?_ rfl (Below.refl _ _)
              simp [execOp, Act.eval, h0, go_sem]
            · intro hne lo hi ph hran hp1 hp2 a w1 hJ hsz hs      -- 1: slot 23
              obtain ⟨rfl, rfl⟩ : 0 = lo ∧ 0 = hi := Prod.mk.inj (Option.some.inj hran)
              obtain rfl : ph = 0 := by omega
              obtain ⟨h0, _⟩ := hs
              have h0 : a.tmps.getD 6 undef = .pointer (some ⟨p4, 0, none⟩) := h0
              refine op_run rfl rfl (v := .pointer (some ⟨p4, 0, none⟩)) (w' := w1) ?_ rfl (Below.refl _ _)
              simp [execOp, Act.eval, h0, go_sem]
            · intro hne lo hi ph hran hp1 hp2 a w1 hJ hsz hs      -- 2: slot 24
              obtain ⟨rfl, rfl⟩ : 0 = lo ∧ 0 = hi := Prod.mk.inj (Option.some.inj hran)
              obtain rfl : ph = 0 := by omega
              obtain ⟨h0, _⟩ := hs
              have h0 : a.tmps.getD 23 undef = .pointer (some ⟨p4, 0, none⟩) := h0
              obtain ⟨k0, k1, k2⟩ := (HX.out.later hJ).c3
              refine op_run rfl rfl (v := .int .i64 ti) (w' := w1) ?_ rfl (Below.refl _ _)
              simp [execOp, Act.eval, h0, k0, go_sem]
            · intro hne lo hi ph hran hp1 hp2 a w1 hJ hsz hs      -- 3: slot 25
              obtain ⟨rfl, rfl⟩ : 0 = lo ∧ 0 = hi := Prod.mk.inj (Option.some.inj hran)
              obtain rfl : ph = 0 := by omega
              obtain ⟨h0, h1, _⟩ := hs
              have h0 : a.tmps.getD 22 undef = .slice a0 N0 q0 := h0
              have h1 : a.tmps.getD 24 undef = .int .i64 ti := h1
              refine op_call rfl rfl (f := 27) (args := #[.slice a0 N0 q0, .int .i64 ti]) (by simp [execOp, Act.eval, resolve, h0, h1, go_sem]) ?_
              exact ov_of (var_any a0 N0 q0 B ti w1 (HO.out.later hJ) HN0.out (by omega) (by have := HTB.out; unfold Cu.B W64 at this; simp only at this; omega)) (HW.out.trans (hJ.mono HW.out.size)) HD1.out
            · intro hne lo hi ph hran hp1 hp2 a w1 hJ hsz hs      -- 4: slot 26
              obtain ⟨rfl, rfl⟩ : 0 = lo ∧ 0 = hi := Prod.mk.inj (Option.some.inj hran)
              obtain rfl : ph = 0 := by omega
              obtain ⟨h0, _⟩ := hs
              have h0 : a.tmps.getD 6 undef = .pointer (some ⟨p4, 0, none⟩) := h0
              refine op_run rfl rfl (v := .pointer (some ⟨p4, 1, none⟩)) (w' := w1) ?_ rfl (Below.refl _ _)
              simp [execOp, Act.eval, h0, go_sem]
            · intro hne lo hi ph hran hp1 hp2 a w1 hJ hsz hs      -- 5: slot 27
              obtain ⟨rfl, rfl⟩ : 0 = lo ∧ 0 = hi := Prod.mk.inj (Option.some.inj hran)
              obtain rfl : ph = 0 := by omega
              obtain ⟨h0, _⟩ := hs
              have h0 : a.tmps.getD 26 undef = .pointer (some ⟨p4, 1, none⟩) := h0
              obtain ⟨k0, k1, k2⟩ := (HX.out.later hJ).c3
              refine op_run rfl rfl (v := .int .i64 tp) (w' := w1) ?_ rfl (Below.refl _ _)
              simp [execOp, Act.eval, h0, k1, go_sem]
            · intro hne lo hi ph hran hp1 hp2 a w1 hJ hsz hs      -- 6: slot 28
              obtain ⟨rfl, rfl⟩ : 0 = lo ∧ 0 = hi := Prod.mk.inj (Option.some.inj hran)
              obtain rfl : ph = 0 := by omega
              obtain ⟨h0, h1, _⟩ := hs
              have m0 : (oV w D1).p w1 (a.tmps.getD 25 undef) := h0; obtain ⟨a0, p0, h0, r0⟩ := ov_row (n := N1) m0 HN1.out
              have h1 : a.tmps.getD 27 undef = .int .i64 tp := h1
              refine op_call rfl rfl (f := 27) (args := #[.slice a0 N1 p0, .int .i64 tp]) (by simp [execOp, Act.eval, resolve, h0, h1, go_sem]) ?_
              exact ov_of (var_any a0 N1 p0 D1 tp w1 r0 HN1.out (by omega) (by have := HTB.out; unfold Cu.B W64 at this; simp only at this; omega)) (HW.out.trans (hJ.mono HW.out.size)) HD2.out
            · intro hne lo hi ph hran hp1 hp2 a w1 hJ hsz hs      -- 7: slot 29
              obtain ⟨rfl, rfl⟩ : 0 = lo ∧ 0 = hi := Prod.mk.inj (Option.some.inj hran)
              obtain rfl : ph = 0 := by omega
              obtain ⟨h0, _⟩ := hs
              have h0 : a.tmps.getD 7 undef = .int .i64 0 := h0
              refine op_run rfl rfl (v := .int .i64 0) (w' := w1) ?_ rfl (Below.refl _ _)
              simp [execOp, Act.eval, h0, go_sem]
            · intro hne lo hi ph hran hp1 hp2 a w1 hJ hsz hs      -- 8: slot 30
              obtain ⟨rfl, rfl⟩ : 0 = lo ∧ 0 = hi := Prod.mk.inj (Option.some.inj hran)
              obtain rfl : ph = 0 := by omega
              obtain ⟨h0, h1, _⟩ := hs
              have m0 : (oV w D2).p w1 (a.tmps.getD 28 undef) := h0; obtain ⟨a0, p0, h0, r0⟩ := ov_row (n := N2) m0 HN2.out
              have h1 : a.tmps.getD 29 undef = .int .i64 0 := h1
              refine op_call rfl rfl (f := 27) (args := #[.slice a0 N2 p0, .int .i64 0]) (by simp [execOp, Act.eval, resolve, h0, h1, go_sem]) ?_
              exact ov_of (var_any a0 N2 p0 D2 0 w1 r0 HN2.out (by omega) (by decide)) (HW.out.trans (hJ.mono HW.out.size)) HD3.out
            · intro hne lo hi ph hran hp1 hp2 a w1 hJ hsz hs      -- 9: slot 4
              obtain ⟨rfl, rfl⟩ : 0 = lo ∧ 0 = hi := Prod.mk.inj (Option.some.inj hran)
              obtain rfl : ph = 0 := by omega
              obtain ⟨h0, _⟩ := hs
              have m0 : (oV w D3).p w1 (a.tmps.getD 30 undef) := h0
              exact op_run rfl rfl (v := a.tmps.getD 30 undef) (w' := w1) (by simp [execOp, Act.eval, go_sem]) m0 (Below.refl _ _)
          · show ∀ ph, ph < 0 → _
            iterate 0 (refine fls ?_ ?_)
            · exact fl0
          intro f w1 hJ hv
          have e4 : (oV w D3).p w1 (f 4) := hv 9 _ 4 rfl rfl
          clear hv
          try simp only [Exit.then]
          simp only [putAll, List.foldl_cons, List.foldl_nil, Option.getD_some, Act.put, List.setIfInBounds_toArray, List.set_cons_succ, List.set_cons_zero]
          generalize f 4 = v5 at e4 ⊢
          have o6 : Own w w1 v5 D3 := e4
          clear e4 hJ
          -- END A
          rw [HDD.out] at o6
          have HO6 := Lib.hid o6
          clear o6
          go_wp2_with fail
          go_roundw
          case rel => exact ⟨j + 1, by go_num, by omega, HO6⟩
          case measure => simp [intOf]; omega
        | true =>
          have HD3 : Hid (D2 ++ varL (Int.toNat 1) = D3) := Lib.hid hD3
          clear hD3
          go_upto_region 10 with fail
          clear x0 x1 x2
          -- REG B
          refine wp_region_ptab (L := fun ph => match ph with | _ => [cV (.slice a0 N0 q0), cV (.pointer (some ⟨p4, 0, none⟩)), cV (.int .i64 ti), oV w D1, cV (.pointer (some ⟨p4, 1, none⟩)), cV (.int .i64 tp), oV w D2, cV (.int .i64 1), oV w D3, oV w D3]) (fun _ wq => Below w2.heap.size w2 wq) [] [(0, 0), (0, 0), (0, 0), (0, 0), (0, 0), (0, 0), (0, 0), (0, 0), (0, 0), (0, 0)] [[(4, none)], [(6, none)], [(23, some 1)], [(22, some 0), (24, some 2)], [(6, none)], [(26, some 4)], [(25, some 3), (27, some 5)], [(7, none)], [(28, some 6), (29, some 7)], [(30, some 8)]] 10 0 33 (by kernel_rfl) rfl rfl rfl (by kernel_rfl) (by kernel_rfl) (by decide) (by kernel_rfl) ?_ ?_ ?_ ?_ ?_
          · exact fun ph w1 w2 h hb => h.trans (hb.mono h.size)
          · exact Below.refl _ _
          · show ∀ i, i < 10 → _
            iterate 10 (refine fls ?_ ?_)
            · exact fl0
            · intro hne lo hi ph hran hp1 hp2 a w1 hJ hsz hs      -- 0: slot 22
              obtain ⟨rfl, rfl⟩ : 0 = lo ∧ 0 = hi := Prod.mk.inj (Option.some.inj hran)
              obtain rfl : ph = 0 := by omega
              obtain ⟨h0, _⟩ := hs
              have h0 : a.tmps.getD 4 undef = .slice a0 N0 q0 := h0
              refine op_run rfl rfl (v := .slice a0 N0 q0) (w' := w1) ?_ rfl (Below.refl _ _)
              simp [execOp, Act.eval, h0, go_sem]
            · intro hne lo hi ph hran hp1 hp2 a w1 hJ hsz hs      -- 1: slot 23
              obtain ⟨rfl, rfl⟩ : 0 = lo ∧ 0 = hi := Prod.mk.inj (Option.some.inj hran)
              obtain rfl : ph = 0 := by omega
              obtain ⟨h0, _⟩ := hs
              have h0 : a.tmps.getD 6 undef = .pointer (some ⟨p4, 0, none⟩) := h0
              refine op_run rfl rfl (v := .pointer (some ⟨p4, 0, none⟩)) (w' := w1) ?_ rfl (Below.refl _ _)
              simp [execOp, Act.eval, h0, go_sem]
            · intro hne lo hi ph hran hp1 hp2 a w1 hJ hsz hs      -- 2: slot 24
              obtain ⟨rfl, rfl⟩ : 0 = lo ∧ 0 = hi := Prod.mk.inj (Option.some.inj hran)
              obtain rfl : ph = 0 := by omega
              obtain ⟨h0, _⟩ := hs
              have h0 : a.tmps.getD 23 undef = .pointer (some ⟨p4, 0, none⟩) := h0
              obtain ⟨k0, k1, k2⟩ := (HX.out.later hJ).c3
              refine op_run rfl rfl (v := .int .i64 ti) (w' := w1) ?_ rfl (Below.refl _ _)
              simp [execOp, Act.eval, h0, k0, go_sem]
            · intro hne lo hi ph hran hp1 hp2 a w1 hJ hsz hs      -- 3: slot 25
              obtain ⟨rfl, rfl⟩ : 0 = lo ∧ 0 = hi := Prod.mk.inj (Option.some.inj hran)
              obtain rfl : ph = 0 := by omega
              obtain ⟨h0, h1, _⟩ := hs
              have h0 : a.tmps.getD 22 undef = .slice a0 N0 q0 := h0
              have h1 : a.tmps.getD 24 undef = .int .i64 ti := h1
              refine op_call rfl rfl (f := 27) (args := #[.slice a0 N0 q0, .int .i64 ti]) (by simp [execOp, Act.eval, resolve, h0, h1, go_sem]) ?_
              exact ov_of (var_any a0 N0 q0 B ti w1 (HO.out.later hJ) HN0.out (by omega) (by have := HTB.out; unfold Cu.B W64 at this; simp only at this; omega)) (HW.out.trans (hJ.mono HW.out.size)) HD1.out
            · intro hne lo hi ph hran hp1 hp2 a w1 hJ hsz hs      -- 4: slot 26
              obtain ⟨rfl, rfl⟩ : 0 = lo ∧ 0 = hi := Prod.mk.inj (Option.some.inj hran)
              obtain rfl : ph = 0 := by omega
              obtain ⟨h0, _⟩ := hs
              have h0 : a.tmps.getD 6 undef = .pointer (some ⟨p4, 0, none⟩) := h0
              refine op_run rfl rfl (v := .pointer (some ⟨p4, 1, none⟩)) (w' := w1) ?_ rfl (Below.refl _ _)
              simp [execOp, Act.eval, h0, go_sem]
            · intro hne lo hi ph hran hp1 hp2 a w1 hJ hsz hs      -- 5: slot 27
              obtain ⟨rfl, rfl⟩ : 0 = lo ∧ 0 = hi := Prod.mk.inj (Option.some.inj hran)
              obtain rfl : ph = 0 := by omega
              obtain ⟨h0, _⟩ := hs
              have h0 : a.tmps.getD 26 undef = .pointer (some ⟨p4, 1, none⟩) := h0
              obtain ⟨k0, k1, k2⟩ := (HX.out.later hJ).c3
              refine op_run rfl rfl (v := .int .i64 tp) (w' := w1) ?_ rfl (Below.refl _ _)
              simp [execOp, Act.eval, h0, k1, go_sem]
            · intro hne lo hi ph hran hp1 hp2 a w1 hJ hsz hs      -- 6: slot 28
              obtain ⟨rfl, rfl⟩ : 0 = lo ∧ 0 = hi := Prod.mk.inj (Option.some.inj hran)
              obtain rfl : ph = 0 := by omega
              obtain ⟨h0, h1, _⟩ := hs
              have m0 : (oV w D1).p w1 (a.tmps.getD 25 undef) := h0; obtain ⟨a0, p0, h0, r0⟩ := ov_row (n := N1) m0 HN1.out
              have h1 : a.tmps.getD 27 undef = .int .i64 tp := h1
              refine op_call rfl rfl (f := 27) (args := #[.slice a0 N1 p0, .int .i64 tp]) (by simp [execOp, Act.eval, resolve, h0, h1, go_sem]) ?_
              exact ov_of (var_any a0 N1 p0 D1 tp w1 r0 HN1.out (by omega) (by have := HTB.out; unfold Cu.B W64 at this; simp only at this; omega)) (HW.out.trans (hJ.mono HW.out.size)) HD2.out
            · intro hne lo hi ph hran hp1 hp2 a w1 hJ hsz hs      -- 7: slot 29
              obtain ⟨rfl, rfl⟩ : 0 = lo ∧ 0 = hi := Prod.mk.inj (Option.some.inj hran)
              obtain rfl : ph = 0 := by omega
              obtain ⟨h0, _⟩ := hs
              have h0 : a.tmps.getD 7 undef = .int .i64 1 := h0
              refine op_run rfl rfl (v := .int .i64 1) (w' := w1) ?_ rfl (Below.refl _ _)
              simp [execOp, Act.eval, h0, go_sem]
            · intro hne lo hi ph hran hp1 hp2 a w1 hJ hsz hs      -- 8: slot 30
              obtain ⟨rfl, rfl⟩ : 0 = lo ∧ 0 = hi := Prod.mk.inj (Option.some.inj hran)
              obtain rfl : ph = 0 := by omega
              obtain ⟨h0, h1, _⟩ := hs
              have m0 : (oV w D2).p w1 (a.tmps.getD 28 undef) := h0; obtain ⟨a0, p0, h0, r0⟩ := ov_row (n := N2) m0 HN2.out
              have h1 : a.tmps.getD 29 undef = .int .i64 1 := h1
              refine op_call rfl rfl (f := 27) (args := #[.slice a0 N2 p0, .int .i64 1]) (by simp [execOp, Act.eval, resolve, h0, h1, go_sem]) ?_
              exact ov_of (var_any a0 N2 p0 D2 1 w1 r0 HN2.out (by omega) (by decide)) (HW.out.trans (hJ.mono HW.out.size)) HD3.out
            · intro hne lo hi ph hran hp1 hp2 a w1 hJ hsz hs      -- 9: slot 4
              obtain ⟨rfl, rfl⟩ : 0 = lo ∧ 0 = hi := Prod.mk.inj (Option.some.inj hran)
              obtain rfl : ph = 0 := by omega
              obtain ⟨h0, _⟩ := hs
              have m0 : (oV w D3).p w1 (a.tmps.getD 30 undef) := h0
              exact op_run rfl rfl (v := a.tmps.getD 30 undef) (w' := w1) (by simp [execOp, Act.eval, go_sem]) m0 (Below.refl _ _)
          · show ∀ ph, ph < 0 → _
            iterate 0 (refine fls ?_ ?_)
            · exact fl0
          intro f w1 hJ hv
          have e4 : (oV w D3).p w1 (f 4) := hv 9 _ 4 rfl rfl
          clear hv
          try simp only [Exit.then]
          simp only [putAll, List.foldl_cons, List.foldl_nil, Option.getD_some, Act.put, List.setIfInBounds_toArray, List.set_cons_succ, List.set_cons_zero]
          generalize f 4 = v5 at e4 ⊢
          have o6 : Own w w1 v5 D3 := e4
          clear e4 hJ
          -- END B
          rw [HDD.out] at o6
          have HO6 := Lib.hid o6
          clear o6
          go_wp2_with fail
          go_roundw
          case rel => exact ⟨j + 1, by go_num, by omega, HO6⟩
          case measure => simp [intOf]; omega
      · have : j = n := by omega
        subst this
        have HO5 := hO
        rw [headU_all HN.out] at HO5
        clear hO
        go_wp2_with fail
        go_ret2
        exact ⟨_, rfl, HO5.out⟩

set_option maxRecDepth 100000 in
set_option maxHeartbeats 6400000 in
theorem urput_any (ad : Option Addr) (n c : Nat) (ts : List Cu) (w : World) (hr : CRow w ad c ts) (hn : ts.length = n) :
    Calls Try.prog 10 #[.slice ad n c] w fun e w' => ∃ v, e = .returned (.tuple #[v, .int .i64 (putCu ts).2]) ∧ Own w w' v (putCu ts).1 := by
  have HK := Lib.hid (urright_any ad n c ts w hr hn)
  have HR := Lib.hid hr
  have HN := Lib.hid hn
  have hc1 := hr.1
  rw [hn] at hc1
  have hcm : c ≤ 9223372036854775807 := by have := hr.2.1; unfold maxLen at this; omega
  clear hr hn
  cases hx : rightU ts with
  | false =>
    rw [hx] at HK
    rw [putCu_no hx]
    clear hx
    go_enter Try.func10, Try.ntmps10
    go_wp2_with fail
    refine HK.out.mono ?_
    rintro e w1 ⟨rfl, hb1⟩
    go_wp2_with fail
    go_ret2
    exact ⟨_, rfl, own_nilU hb1⟩
  | true =>
    rw [hx] at HK
    rw [putCu_yes hx]
    have HX4 := Lib.hid (rightU_iff.1 hx)
    have hn4 : n ≤ 4 := by have h2 := HX4.out.1; rw [HN.out] at h2; exact h2
    have HV : Hid (varL ((n : Int).toNat) = headU ts 0) := Lib.hid (by rw [headU_zero, HN.out, Int.toNat_natCast])
    clear hx
    go_enter Try.func10, Try.ntmps10
    go_wp2_with fail
    refine HK.out.mono ?_
    rintro e w1 ⟨rfl, hb1⟩
    have HB1 := Lib.hid hb1
    clear hb1
    go_wp2_with fail
    refine (rvar_any none 0 0 [] n w1 (Row.none w1) rfl (by omega) (by omega)).mono ?_
    rw [List.nil_append, HV.out]
    rintro e w2 ⟨v2, rfl, o2⟩
    have HO : Hid (Own w w2 v2 (headU ts 0)) := Lib.hid (o2.back HB1.out)
    clear o2
    go_wp2_with fail
    go_loopw [4, 5] (fun v i wr => ∃ j : Nat, i = .int .i64 j ∧ j ≤ n ∧ Hid (Own w wr v (headU ts j))) (fun _ i _ => n - (intOf i).toNat)
    case atStart => exact ⟨0, rfl, by omega, HO⟩
    case round =>
      obtain ⟨j, rfl, hj, hO⟩ := hrel
      by_cases hjn : (j : Int) < n
      · obtain ⟨t, ht⟩ : ∃ t, ts[j]? = some t := ⟨ts[j]'(by have := HN.out; omega), List.getElem?_eq_getElem _⟩
        obtain ⟨b0, o0, rfl, _, _, _⟩ := (HR.out.later hO.out.below).c3 ht
        have HT := Lib.hid ht
        have HTB : Hid (Cu.B t) := Lib.hid (HR.out.b ht)
        clear ht
        obtain ⟨N0, hN0⟩ : ∃ N, (headU ts j).length = N := ⟨_, rfl⟩
        obtain ⟨B, hB⟩ : ∃ B, headU ts j = B := ⟨_, rfl⟩
        obtain ⟨D1, hD1⟩ : ∃ D, B ++ varL t.id.toNat = D := ⟨_, rfl⟩
        obtain ⟨D2, hD2⟩ : ∃ D, D1 ++ varL t.pos.toNat = D := ⟨_, rfl⟩
        obtain ⟨D3, hD3⟩ : ∃ D, D2 ++ varL (bitN t.off) = D := ⟨_, rfl⟩
        obtain ⟨N1, hN1⟩ : ∃ N, D1.length = N := ⟨_, rfl⟩
        obtain ⟨N2, hN2⟩ : ∃ N, D2.length = N := ⟨_, rfl⟩
        have HDD : Hid (D3 = headU ts (j + 1)) := Lib.hid (by rw [headU_succ HT.out, ← hD3, ← hD2, ← hD1, ← hB]; unfold cuL; simp only [List.append_assoc])
        have hl3 := headU_len HX4.out (j + 1)
        rw [← HDD.out] at hl3
        have hl2 : N2 ≤ 49 := by rw [← hD3, List.length_append] at hl3; omega
        have hl1 : N1 ≤ 49 := by rw [← hD2, List.length_append] at hN2; omega
        have hl0 : N0 ≤ 49 := by rw [← hN0]; exact headU_len HX4.out j
        have HD1 := Lib.hid hD1
        have HD2 := Lib.hid hD2
        have HN1 := Lib.hid hN1
        have HN2 := Lib.hid hN2
        rw [hB] at hN0
        have HN0 := Lib.hid hN0
        obtain ⟨a0, q0, rfl, r0⟩ := hO.out.row_n (n := N0) (by rw [hB]; exact hN0)
        rw [hB] at r0
        have HW := Lib.hid hO.out.below
        have HO := Lib.hid r0
        have HD3 := Lib.hid hD3
        have HC : Hid (∀ W, Below wr.heap.size wr W → W.cell? ⟨b0, o0 + j * 3, none⟩ = some (.int .i64 t.id) ∧ W.cell? ⟨b0, o0 + j * 3 + 1, none⟩ = some (.int .i64 t.pos) ∧ W.cell? ⟨b0, o0 + j * 3 + 2, none⟩ = some (.bool t.off)) := Lib.hid (fun W h => by
          obtain ⟨b, o, e, q⟩ := ((HR.out.later HW.out).later h).c3 HT.out
          cases e
          exact q)
        clear r0 hO hB hD1 hD2 hD3 hN0 hN1 hN2 HK HV
        go_upto_region 7 with fail
        -- REG 7
        refine wp_region_ptab (L := fun ph => match ph with | _ => [cV (.slice a0 N0 q0), cV (.slice (some ⟨b0, o0, none⟩) n c), cV (.int .i64 (j : Nat)), cV (.pointer (some ⟨b0, o0 + j * 3, none⟩)), cV (.pointer (some ⟨b0, o0 + j * 3, none⟩)), cV (.int .i64 t.id), oV w D1, cV (.slice (some ⟨b0, o0, none⟩) n c), cV (.int .i64 (j : Nat)), cV (.pointer (some ⟨b0, o0 + j * 3, none⟩)), cV (.pointer (some ⟨b0, o0 + j * 3 + 1, none⟩)), cV (.int .i64 t.pos), oV w D2, cV (.slice (some ⟨b0, o0, none⟩) n c), cV (.int .i64 (j : Nat)), cV (.pointer (some ⟨b0, o0 + j * 3, none⟩)), cV (.pointer (some ⟨b0, o0 + j * 3 + 2, none⟩)), cV (.bool t.off), cV (.int .i64 (bitN t.off : Nat)), oV w D3, oV w D3]) (fun _ wq => Below wr.heap.size wr wq) [] [(0, 0), (0, 0), (0, 0), (0, 0), (0, 0), (0, 0), (0, 0), (0, 0), (0, 0), (0, 0), (0, 0), (0, 0), (0, 0), (0, 0), (0, 0), (0, 0), (0, 0), (0, 0), (0, 0), (0, 0), (0, 0)] [[(4, none)], [(0, none)], [(5, none)], [(19, some 1), (20, some 2)], [(21, some 3)], [(22, some 4)], [(18, some 0), (23, some 5)], [(0, none)], [(5, none)], [(25, some 7), (26, some 8)], [(27, some 9)], [(28, some 10)], [(24, some 6), (29, some 11)], [(0, none)], [(5, none)], [(31, some 13), (32, some 14)], [(33, some 15)], [(34, some 16)], [(35, some 17)], [(30, some 12), (36, some 18)], [(37, some 19)]] 21 0 39 (by kernel_rfl) rfl rfl rfl (by kernel_rfl) (by kernel_rfl) (by decide) (by kernel_rfl) ?_ ?_ ?_ ?_ ?_
        · exact fun ph w1 w2 h hb => h.trans (hb.mono h.size)
        · exact Below.refl _ _
        · show ∀ i, i < 21 → _
          iterate 21 (refine fls ?_ ?_)
          · exact fl0
          · intro hne lo hi ph hran hp1 hp2 a w1 hJ hsz hs      -- 0: slot 18
            obtain ⟨rfl, rfl⟩ : 0 = lo ∧ 0 = hi := Prod.mk.inj (Option.some.inj hran)
            obtain rfl : ph = 0 := by omega
            obtain ⟨h0, _⟩ := hs
            have h0 : a.tmps.getD 4 undef = .slice a0 N0 q0 := h0
            refine op_run rfl rfl (v := .slice a0 N0 q0) (w' := w1) ?_ rfl (Below.refl _ _)
            simp [execOp, Act.eval, h0, go_sem]
          · intro hne lo hi ph hran hp1 hp2 a w1 hJ hsz hs      -- 1: slot 19
            obtain ⟨rfl, rfl⟩ : 0 = lo ∧ 0 = hi := Prod.mk.inj (Option.some.inj hran)
            obtain rfl : ph = 0 := by omega
            obtain ⟨h0, _⟩ := hs
            have h0 : a.tmps.getD 0 undef = .slice (some ⟨b0, o0, none⟩) n c := h0
            refine op_run rfl rfl (v := .slice (some ⟨b0, o0, none⟩) n c) (w' := w1) ?_ rfl (Below.refl _ _)
            simp [execOp, Act.eval, h0, go_sem]
          · intro hne lo hi ph hran hp1 hp2 a w1 hJ hsz hs      -- 2: slot 20
            obtain ⟨rfl, rfl⟩ : 0 = lo ∧ 0 = hi := Prod.mk.inj (Option.some.inj hran)
            obtain rfl : ph = 0 := by omega
            obtain ⟨h0, _⟩ := hs
            have h0 : a.tmps.getD 5 undef = .int .i64 (j : Nat) := h0
            refine op_run rfl rfl (v := .int .i64 (j : Nat)) (w' := w1) ?_ rfl (Below.refl _ _)
            simp [execOp, Act.eval, h0, go_sem]
          · intro hne lo hi ph hran hp1 hp2 a w1 hJ hsz hs      -- 3: slot 21
            obtain ⟨rfl, rfl⟩ : 0 = lo ∧ 0 = hi := Prod.mk.inj (Option.some.inj hran)
            obtain rfl : ph = 0 := by omega
            obtain ⟨h0, h1, _⟩ := hs
            have h0 : a.tmps.getD 19 undef = .slice (some ⟨b0, o0, none⟩) n c := h0
            have h1 : a.tmps.getD 20 undef = .int .i64 (j : Nat) := h1
            have k0 : ((j : Nat) : Int) < (n : Int) := by omega
            refine op_run rfl rfl (v := .pointer (some ⟨b0, o0 + j * 3, none⟩)) (w' := w1) ?_ rfl (Below.refl _ _)
            simp [execOp, Act.eval, h0, h1, k0, go_sem]
          · intro hne lo hi ph hran hp1 hp2 a w1 hJ hsz hs      -- 4: slot 22
            obtain ⟨rfl, rfl⟩ : 0 = lo ∧ 0 = hi := Prod.mk.inj (Option.some.inj hran)
            obtain rfl : ph = 0 := by omega
            obtain ⟨h0, _⟩ := hs
            have h0 : a.tmps.getD 21 undef = .pointer (some ⟨b0, o0 + j * 3, none⟩) := h0
            refine op_run rfl rfl (v := .pointer (some ⟨b0, o0 + j * 3, none⟩)) (w' := w1) ?_ rfl (Below.refl _ _)
            simp [execOp, Act.eval, h0, go_sem]
          · intro hne lo hi ph hran hp1 hp2 a w1 hJ hsz hs      -- 5: slot 23
            obtain ⟨rfl, rfl⟩ : 0 = lo ∧ 0 = hi := Prod.mk.inj (Option.some.inj hran)
            obtain rfl : ph = 0 := by omega
            obtain ⟨h0, _⟩ := hs
            have h0 : a.tmps.getD 22 undef = .pointer (some ⟨b0, o0 + j * 3, none⟩) := h0
            obtain ⟨k0, k1, k2⟩ := HC.out w1 hJ
            refine op_run rfl rfl (v := .int .i64 t.id) (w' := w1) ?_ rfl (Below.refl _ _)
            simp [execOp, Act.eval, h0, k0, go_sem]
          · intro hne lo hi ph hran hp1 hp2 a w1 hJ hsz hs      -- 6: slot 24
            obtain ⟨rfl, rfl⟩ : 0 = lo ∧ 0 = hi := Prod.mk.inj (Option.some.inj hran)
            obtain rfl : ph = 0 := by omega
            obtain ⟨h0, h1, _⟩ := hs
            have h0 : a.tmps.getD 18 undef = .slice a0 N0 q0 := h0
            have h1 : a.tmps.getD 23 undef = .int .i64 t.id := h1
            refine op_call rfl rfl (f := 28) (args := #[.slice a0 N0 q0, .int .i64 t.id]) (by simp [execOp, Act.eval, resolve, h0, h1, go_sem]) ?_
            exact ov_of (rvar_any a0 N0 q0 B t.id w1 (HO.out.later hJ) HN0.out (by omega) (by have := HTB.out; unfold Cu.B W64 at this; omega)) (HW.out.trans (hJ.mono HW.out.size)) HD1.out
          · intro hne lo hi ph hran hp1 hp2 a w1 hJ hsz hs      -- 7: slot 25
            obtain ⟨rfl, rfl⟩ : 0 = lo ∧ 0 = hi := Prod.mk.inj (Option.some.inj hran)
            obtain rfl : ph = 0 := by omega
            obtain ⟨h0, _⟩ := hs
            have h0 : a.tmps.getD 0 undef = .slice (some ⟨b0, o0, none⟩) n c := h0
            refine op_run rfl rfl (v := .slice (some ⟨b0, o0, none⟩) n c) (w' := w1) ?_ rfl (Below.refl _ _)
            simp [execOp, Act.eval, h0, go_sem]
          · intro hne lo hi ph hran hp1 hp2 a w1 hJ hsz hs      -- 8: slot 26
            obtain ⟨rfl, rfl⟩ : 0 = lo ∧ 0 = hi := Prod.mk.inj (Option.some.inj hran)
            obtain rfl : ph = 0 := by omega
            obtain ⟨h0, _⟩ := hs
            have h0 : a.tmps.getD 5 undef = .int .i64 (j : Nat) := h0
            refine op_run rfl rfl (v := .int .i64 (j : Nat)) (w' := w1) ?_ rfl (Below.refl _ _)
            simp [execOp, Act.eval, h0, go_sem]
          · intro hne lo hi ph hran hp1 hp2 a w1 hJ hsz hs      -- 9: slot 27
            obtain ⟨rfl, rfl⟩ : 0 = lo ∧ 0 = hi := Prod.mk.inj (Option.some.inj hran)
            obtain rfl : ph = 0 := by omega
            obtain ⟨h0, h1, _⟩ := hs
            have h0 : a.tmps.getD 25 undef = .slice (some ⟨b0, o0, none⟩) n c := h0
            have h1 : a.tmps.getD 26 undef = .int .i64 (j : Nat) := h1
            have k0 : ((j : Nat) : Int) < (n : Int) := by omega
            refine op_run rfl rfl (v := .pointer (some ⟨b0, o0 + j * 3, none⟩)) (w' := w1) ?_ rfl (Below.refl _ _)
            simp [execOp, Act.eval, h0, h1, k0, go_sem]
          · intro hne lo hi ph hran hp1 hp2 a w1 hJ hsz hs      -- 10: slot 28
            obtain ⟨rfl, rfl⟩ : 0 = lo ∧ 0 = hi := Prod.mk.inj (Option.some.inj hran)
            obtain rfl : ph = 0 := by omega
            obtain ⟨h0, _⟩ := hs
            have h0 : a.tmps.getD 27 undef = .pointer (some ⟨b0, o0 + j * 3, none⟩) := h0
            refine op_run rfl rfl (v := .pointer (some ⟨b0, o0 + j * 3 + 1, none⟩)) (w' := w1) ?_ rfl (Below.refl _ _)
            simp [execOp, Act.eval, h0, go_sem]
          · intro hne lo hi ph hran hp1 hp2 a w1 hJ hsz hs      -- 11: slot 29
            obtain ⟨rfl, rfl⟩ : 0 = lo ∧ 0 = hi := Prod.mk.inj (Option.some.inj hran)
            obtain rfl : ph = 0 := by omega
            obtain ⟨h0, _⟩ := hs
            have h0 : a.tmps.getD 28 undef = .pointer (some ⟨b0, o0 + j * 3 + 1, none⟩) := h0
            obtain ⟨k0, k1, k2⟩ := HC.out w1 hJ
            refine op_run rfl rfl (v := .int .i64 t.pos) (w' := w1) ?_ rfl (Below.refl _ _)
            simp [execOp, Act.eval, h0, k1, go_sem]
          · intro hne lo hi ph hran hp1 hp2 a w1 hJ hsz hs      -- 12: slot 30
            obtain ⟨rfl, rfl⟩ : 0 = lo ∧ 0 = hi := Prod.mk.inj (Option.some.inj hran)
            obtain rfl : ph = 0 := by omega
            obtain ⟨h0, h1, _⟩ := hs
            have m0 : (oV w D1).p w1 (a.tmps.getD 24 undef) := h0; obtain ⟨a0, p0, h0, r0⟩ := ov_row (n := N1) m0 HN1.out
            have h1 : a.tmps.getD 29 undef = .int .i64 t.pos := h1
            refine op_call rfl rfl (f := 28) (args := #[.slice a0 N1 p0, .int .i64 t.pos]) (by simp [execOp, Act.eval, resolve, h0, h1, go_sem]) ?_
            exact ov_of (rvar_any a0 N1 p0 D1 t.pos w1 r0 HN1.out (by omega) (by have := HTB.out; unfold Cu.B W64 at this; omega)) (HW.out.trans (hJ.mono HW.out.size)) HD2.out
          · intro hne lo hi ph hran hp1 hp2 a w1 hJ hsz hs      -- 13: slot 31
            obtain ⟨rfl, rfl⟩ : 0 = lo ∧ 0 = hi := Prod.mk.inj (Option.some.inj hran)
            obtain rfl : ph = 0 := by omega
            obtain ⟨h0, _⟩ := hs
            have h0 : a.tmps.getD 0 undef = .slice (some ⟨b0, o0, none⟩) n c := h0
            refine op_run rfl rfl (v := .slice (some ⟨b0, o0, none⟩) n c) (w' := w1) ?_ rfl (Below.refl _ _)
            simp [execOp, Act.eval, h0, go_sem]
          · intro hne lo hi ph hran hp1 hp2 a w1 hJ hsz hs      -- 14: slot 32
            obtain ⟨rfl, rfl⟩ : 0 = lo ∧ 0 = hi := Prod.mk.inj (Option.some.inj hran)
            obtain rfl : ph = 0 := by omega
            obtain ⟨h0, _⟩ := hs
            have h0 : a.tmps.getD 5 undef = .int .i64 (j : Nat) := h0
            refine op_run rfl rfl (v := .int .i64 (j : Nat)) (w' := w1) ?_ rfl (Below.refl _ _)
            simp [execOp, Act.eval, h0, go_sem]
          · intro hne lo hi ph hran hp1 hp2 a w1 hJ hsz hs      -- 15: slot 33
            obtain ⟨rfl, rfl⟩ : 0 = lo ∧ 0 = hi := Prod.mk.inj (Option.some.inj hran)
            obtain rfl : ph = 0 := by omega
            obtain ⟨h0, h1, _⟩ := hs
            have h0 : a.tmps.getD 31 undef = .slice (some ⟨b0, o0, none⟩) n c := h0
            have h1 : a.tmps.getD 32 undef = .int .i64 (j : Nat) := h1
            have k0 : ((j : Nat) : Int) < (n : Int) := by omega
            refine op_run rfl rfl (v := .pointer (some ⟨b0, o0 + j * 3, none⟩)) (w' := w1) ?_ rfl (Below.refl _ _)
            simp [execOp, Act.eval, h0, h1, k0, go_sem]
          · intro hne lo hi ph hran hp1 hp2 a w1 hJ hsz hs      -- 16: slot 34
            obtain ⟨rfl, rfl⟩ : 0 = lo ∧ 0 = hi := Prod.mk.inj (Option.some.inj hran)
            obtain rfl : ph = 0 := by omega
            obtain ⟨h0, _⟩ := hs
            have h0 : a.tmps.getD 33 undef = .pointer (some ⟨b0, o0 + j * 3, none⟩) := h0
            refine op_run rfl rfl (v := .pointer (some ⟨b0, o0 + j * 3 + 2, none⟩)) (w' := w1) ?_ rfl (Below.refl _ _)
            simp [execOp, Act.eval, h0, go_sem]
          · intro hne lo hi ph hran hp1 hp2 a w1 hJ hsz hs      -- 17: slot 35
            obtain ⟨rfl, rfl⟩ : 0 = lo ∧ 0 = hi := Prod.mk.inj (Option.some.inj hran)
            obtain rfl : ph = 0 := by omega
            obtain ⟨h0, _⟩ := hs
            have h0 : a.tmps.getD 34 undef = .pointer (some ⟨b0, o0 + j * 3 + 2, none⟩) := h0
            obtain ⟨k0, k1, k2⟩ := HC.out w1 hJ
            refine op_run rfl rfl (v := .bool t.off) (w' := w1) ?_ rfl (Below.refl _ _)
            simp [execOp, Act.eval, h0, k2, go_sem]
          · intro hne lo hi ph hran hp1 hp2 a w1 hJ hsz hs      -- 18: slot 36
            obtain ⟨rfl, rfl⟩ : 0 = lo ∧ 0 = hi := Prod.mk.inj (Option.some.inj hran)
            obtain rfl : ph = 0 := by omega
            obtain ⟨h0, _⟩ := hs
            have h0 : a.tmps.getD 35 undef = .bool t.off := h0
            refine op_call rfl rfl (f := 29) (args := #[.bool t.off]) (by simp [execOp, Act.eval, resolve, h0, go_sem]) ?_
            exact calls_c ((bit_any t.off w1).mono fun e w' h => ⟨h.1, h.2 ▸ Below.refl _ _⟩)
          · intro hne lo hi ph hran hp1 hp2 a w1 hJ hsz hs      -- 19: slot 37
            obtain ⟨rfl, rfl⟩ : 0 = lo ∧ 0 = hi := Prod.mk.inj (Option.some.inj hran)
            obtain rfl : ph = 0 := by omega
            obtain ⟨h0, h1, _⟩ := hs
            have m0 : (oV w D2).p w1 (a.tmps.getD 30 undef) := h0; obtain ⟨a0, p0, h0, r0⟩ := ov_row (n := N2) m0 HN2.out
            have h1 : a.tmps.getD 36 undef = .int .i64 (bitN t.off : Nat) := h1
            refine op_call rfl rfl (f := 28) (args := #[.slice a0 N2 p0, .int .i64 (bitN t.off : Nat)]) (by simp [execOp, Act.eval, resolve, h0, h1, go_sem]) ?_
            exact ov_of (rvar_any a0 N2 p0 D2 ((bitN t.off : Nat) : Int) w1 r0 HN2.out (by omega) (by have := bitN_lt t.off; omega)) (HW.out.trans (hJ.mono HW.out.size)) HD3.out
          · intro hne lo hi ph hran hp1 hp2 a w1 hJ hsz hs      -- 20: slot 4
            obtain ⟨rfl, rfl⟩ : 0 = lo ∧ 0 = hi := Prod.mk.inj (Option.some.inj hran)
            obtain rfl : ph = 0 := by omega
            obtain ⟨h0, _⟩ := hs
            have m0 : (oV w D3).p w1 (a.tmps.getD 37 undef) := h0
            exact op_run rfl rfl (v := a.tmps.getD 37 undef) (w' := w1) (by simp [execOp, Act.eval, go_sem]) m0 (Below.refl _ _)
        · show ∀ ph, ph < 0 → _
          iterate 0 (refine fls ?_ ?_)
          · exact fl0
        intro f w1 hJ hv
        have e4 : (oV w D3).p w1 (f 4) := hv 20 _ 4 rfl rfl
        clear hv
        try simp only [Exit.then]
        simp only [putAll, List.foldl_cons, List.foldl_nil, Option.getD_some, Act.put, List.setIfInBounds_toArray, List.set_cons_succ, List.set_cons_zero]
        generalize f 4 = v5 at e4 ⊢
        have o6 : Own w w1 v5 D3 := e4
        clear e4 hJ
        -- END 7
        rw [HDD.out] at o6
        have HO6 := Lib.hid o6
        clear o6
        go_wp2_with fail
        go_roundw
        case rel => exact ⟨j + 1, by go_num, by omega, HO6⟩
        case measure => simp [intOf]; omega
      · have : j = n := by omega
        subst this
        have HO5 := hO
        rw [headU_all HN.out] at HO5
        clear hO
        go_wp2_with fail
        go_ret2
        exact ⟨_, rfl, HO5.out⟩
end Go.Proofs.Ytcddbffeejijpaa
