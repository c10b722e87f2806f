/- Marks in bytes: the document's own. -/
import Derived.Test.YtfjplhjlmilcfaaHdA
import Derived.Test.YtfjplhjlmilcfaaApp
import Derived.Test.YtfjplhjlmilcfaaPhase
import Derived.Test.YtfjplhjlmilcfaaCl
namespace Go.Proofs.Ytfjplhjlmilcfaa
open Go.RowKit Go.Proofs
set_option linter.unusedVariables false
set_option linter.unusedSimpArgs false
set_option linter.unnecessarySimpa false

set_option maxHeartbeats 800000 in
theorem bit_any (b : Bool) (w : World) : Calls Try.prog 53 #[.bool b] w fun e w' => e = .returned (.int .i64 (bitN b : Nat)) ∧ w = w' := by
  cases b
  all_goals
    go_enter Try.func53, Try.ntmps53
    go_wp2_with fail
    go_ret
    exact ⟨ret_int rfl, rfl⟩
theorem name_le {l : List Mk} {i : Nat} {t : Mk} (h : l[i]? = some t) : t.name.size ≤ (marksL l).length := by
  have e : rowM l = rowM (l.take i) ++ (mkL t ++ rowM (l.drop (i + 1))) := by rw [← rowM_drop h]; exact rowM_split l i
  have : t.name.size = t.nm.length := Lib.size_eq _
  unfold marksL
  rw [e]
  unfold mkL textL
  simp only [List.length_append]
  omega
theorem headM_le (B : List UInt8) (l : List Mk) (j : Nat) : (headM B l j).length ≤ (B ++ marksL l).length := endM_le B l j
set_option maxRecDepth 100000 in
set_option maxHeartbeats 6400000 in
theorem rputMarks_any (ba : Option Addr) (bn bc : Nat) (B0 : List UInt8) (ad : Option Addr) (n c : Nat) (ts : List Mk) (w : World) (hb : Row w ba bc B0) (hbn : B0.length = bn) (hr : MRow w ad c ts) (hn : ts.length = n) (hlen : (B0 ++ marksL ts).length ≤ 50000) :
    Calls Try.prog 32 #[.slice ba bn bc, .slice ad n c] w fun e w' => ∃ v, e = .returned v ∧ Own w w' v (B0 ++ marksL ts) := by
  have HR := Lib.hid hr
  have HN := Lib.hid hn
  have HBR := Lib.hid hb
  have HBN := Lib.hid hbn
  have HLE := Lib.hid hlen
  have hc1 := hr.1
  rw [hn] at hc1
  have hcm : c ≤ 9223372036854775807 := by have := hr.2.1; unfold maxLen at this; omega
  have hbl : bn ≤ 50000 := by rw [List.length_append] at hlen; omega
  have HV : Hid (B0 ++ varL ((n : Int).toNat) = headM B0 ts 0) := Lib.hid (by rw [headM_zero, HN.out, Int.toNat_natCast])
  clear hr hn hb hbn hlen
  go_enter Try.func32, Try.ntmps32
  go_wp2_with fail
  refine (rvar_any ba bn bc B0 n w HBR.out HBN.out (by omega) (by omega)).mono ?_
  rw [HV.out]
  rintro e w2 ⟨v2, rfl, o2⟩
  have HO := Lib.hid o2
  clear o2
  go_wp2_with fail
  go_loopw [0, 5] (fun v i wr => ∃ j : Nat, i = .int .i64 j ∧ j ≤ n ∧ Hid (Own w wr v (headM B0 ts j))) (fun _ i _ => n - (intOf i).toNat)
  case atStart => exact ⟨0, rfl, by omega, HO⟩
  case round =>
    obtain ⟨j, rfl, hj, hO⟩ := hrel
    by_cases hjn : (j : Int) < n
    · obtain ⟨t, ht⟩ : ∃ t, ts[j]? = some t := ⟨ts[j]'(by have := HN.out; omega), List.getElem?_eq_getElem _⟩
      obtain ⟨b0, o0, rfl, _, _, _, _⟩ := (HR.out.later hO.out.below).c4 ht
      have HT := Lib.hid ht
      have HTB : Hid (Mk.B t) := Lib.hid (HR.out.b ht)
      have hls : t.name.size ≤ 1000000 := by have := name_le ht; have h2 := HLE.out; rw [List.length_append] at h2; omega
      clear ht
      obtain ⟨N0, hN0⟩ : ∃ N, (headM B0 ts j).length = N := ⟨_, rfl⟩
      obtain ⟨B, hB⟩ : ∃ B, headM B0 ts j = B := ⟨_, rfl⟩
      obtain ⟨D1, hD1⟩ : ∃ D, B ++ varL t.id.toNat = D := ⟨_, rfl⟩
      obtain ⟨D2, hD2⟩ : ∃ D, D1 ++ varL t.size.toNat = D := ⟨_, rfl⟩
      obtain ⟨D3, hD3⟩ : ∃ D, D2 ++ varL (bitN t.gone) = D := ⟨_, rfl⟩
      obtain ⟨D4, hD4⟩ : ∃ D, D3 ++ textL t.name.data.toList = D := ⟨_, rfl⟩
      obtain ⟨N1, hN1⟩ : ∃ N, D1.length = N := ⟨_, rfl⟩
      obtain ⟨N2, hN2⟩ : ∃ N, D2.length = N := ⟨_, rfl⟩
      obtain ⟨N3, hN3⟩ : ∃ N, D3.length = N := ⟨_, rfl⟩
      have HDD : Hid (D4 = headM B0 ts (j + 1)) := Lib.hid (by rw [headM_succ HT.out, ← hD4, ← hD3, ← hD2, ← hD1, ← hB]; unfold mkL Mk.nm; simp only [List.append_assoc])
      have hl4 := headM_le B0 ts (j + 1)
      rw [← HDD.out] at hl4
      have hl4 := Nat.le_trans hl4 HLE.out
      have hl3 : N3 ≤ 50000 := by rw [← hD4, List.length_append] at hl4; omega
      have hl2 : N2 ≤ 50000 := by rw [← hD3, List.length_append] at hN3; omega
      have hl1 : N1 ≤ 50000 := by rw [← hD2, List.length_append] at hN2; omega
      have hl0 : N0 ≤ 50000 := by rw [← hD1, List.length_append] at hN1; rw [← hB] at hN1; omega
      have HD1 := Lib.hid hD1
      have HD2 := Lib.hid hD2
      have HD3 := Lib.hid hD3
      have HD4 := Lib.hid hD4
      have HN1 := Lib.hid hN1
      have HN2 := Lib.hid hN2
      have HN3 := Lib.hid hN3
      rw [hB] at hN0
      have HN0 := Lib.hid hN0
      obtain ⟨a0, q0, rfl, r0⟩ := hO.out.row_n (n := N0) (by rw [hB]; exact hN0)
      rw [hB] at r0
      have HW := Lib.hid hO.out.below
      have HO := Lib.hid r0
      have HC : Hid (∀ W, Below wr.heap.size wr W → W.cell? ⟨b0, o0 + j * 4, none⟩ = some (.int .i64 t.id) ∧ W.cell? ⟨b0, o0 + j * 4 + 1, none⟩ = some (.string t.name) ∧ W.cell? ⟨b0, o0 + j * 4 + 2, none⟩ = some (.int .i64 t.size) ∧ W.cell? ⟨b0, o0 + j * 4 + 3, none⟩ = some (.bool t.gone)) := Lib.hid (fun W h => by
        obtain ⟨_, _, e, k0, k1, k2, k3⟩ := (HR.out.later (HW.out.trans (h.mono HW.out.size))).c4 HT.out
        cases e
        exact ⟨k0, k1, k2, k3⟩)
      clear r0 hO hB hD1 hD2 hD3 hD4 hN0 hN1 hN2 hN3 HV HLE hl4
      go_upto_region 5 with fail
      -- REG A
      refine wp_region_ptab (L := fun ph => match ph with | _ => [cV (.slice a0 N0 q0), cV (.slice (some ⟨b0, o0, none⟩) n c), cV (.int .i64 (j : Nat)), cV (.pointer (some ⟨b0, o0 + j * 4, none⟩)), cV (.pointer (some ⟨b0, o0 + j * 4, none⟩)), cV (.int .i64 t.id), oV w D1, cV (.slice (some ⟨b0, o0, none⟩) n c), cV (.int .i64 (j : Nat)), cV (.pointer (some ⟨b0, o0 + j * 4, none⟩)), cV (.pointer (some ⟨b0, o0 + j * 4 + 2, none⟩)), cV (.int .i64 t.size), oV w D2, cV (.slice (some ⟨b0, o0, none⟩) n c), cV (.int .i64 (j : Nat)), cV (.pointer (some ⟨b0, o0 + j * 4, none⟩)), cV (.pointer (some ⟨b0, o0 + j * 4 + 3, none⟩)), cV (.bool t.gone), cV (.int .i64 (bitN t.gone : Nat)), oV w D3, cV (.slice (some ⟨b0, o0, none⟩) n c), cV (.int .i64 (j : Nat)), cV (.pointer (some ⟨b0, o0 + j * 4, none⟩)), cV (.pointer (some ⟨b0, o0 + j * 4 + 1, none⟩)), cV (.string t.name), oV w D4, oV w D4]) (fun _ wq => Below wr.heap.size wr wq) [] [(0, 0), (0, 0), (0, 0), (0, 0), (0, 0), (0, 0), (0, 0), (0, 0), (0, 0), (0, 0), (0, 0), (0, 0), (0, 0), (0, 0), (0, 0), (0, 0), (0, 0), (0, 0), (0, 0), (0, 0), (0, 0), (0, 0), (0, 0), (0, 0), (0, 0), (0, 0), (0, 0)] [[(0, none)], [(1, none)], [(5, none)], [(17, some 1), (18, some 2)], [(19, some 3)], [(20, some 4)], [(16, some 0), (21, some 5)], [(1, none)], [(5, none)], [(23, some 7), (24, some 8)], [(25, some 9)], [(26, some 10)], [(22, some 6), (27, some 11)], [(1, none)], [(5, none)], [(29, some 13), (30, some 14)], [(31, some 15)], [(32, some 16)], [(33, some 17)], [(28, some 12), (34, some 18)], [(1, none)], [(5, none)], [(36, some 20), (37, some 21)], [(38, some 22)], [(39, some 23)], [(35, some 19), (40, some 24)], [(41, some 25)]] 27 0 43 (by kernel_rfl) rfl rfl rfl (by kernel_rfl) (by kernel_rfl) (by decide) (by kernel_rfl) ?_ ?_ ?_ ?_ ?_
      · exact fun ph w1 w2 h hb => h.trans (hb.mono h.size)
      · exact Below.refl _ _
      · show ∀ i, i < 27 → _
        iterate 27 (refine fls ?_ ?_)
        · exact fl0
        · intro hne lo hi ph hran hp1 hp2 a w1 hJ hsz hs      -- 0: slot 16
          obtain ⟨rfl, rfl⟩ : 0 = lo ∧ 0 = hi := Prod.mk.inj (Option.some.inj hran)
          obtain rfl : ph = 0 := by omega
          obtain ⟨h0, _⟩ := hs
          have h0 : a.tmps.getD 0 undef = .slice a0 N0 q0 := h0
          refine op_run rfl rfl (v := .slice a0 N0 q0) (w' := w1) ?_ rfl (Below.refl _ _)
          simp [execOp, Act.eval, h0, go_sem]
        · intro hne lo hi ph hran hp1 hp2 a w1 hJ hsz hs      -- 1: slot 17
          obtain ⟨rfl, rfl⟩ : 0 = lo ∧ 0 = hi := Prod.mk.inj (Option.some.inj hran)
          obtain rfl : ph = 0 := by omega
          obtain ⟨h0, _⟩ := hs
          have h0 : a.tmps.getD 1 undef = .slice (some ⟨b0, o0, none⟩) n c := h0
          refine op_run rfl rfl (v := .slice (some ⟨b0, o0, none⟩) n c) (w' := w1) ?_ rfl (Below.refl _ _)
          simp [execOp, Act.eval, h0, go_sem]
        · intro hne lo hi ph hran hp1 hp2 a w1 hJ hsz hs      -- 2: slot 18
          obtain ⟨rfl, rfl⟩ : 0 = lo ∧ 0 = hi := Prod.mk.inj (Option.some.inj hran)
          obtain rfl : ph = 0 := by omega
          obtain ⟨h0, _⟩ := hs
          have h0 : a.tmps.getD 5 undef = .int .i64 (j : Nat) := h0
          refine op_run rfl rfl (v := .int .i64 (j : Nat)) (w' := w1) ?_ rfl (Below.refl _ _)
          simp [execOp, Act.eval, h0, go_sem]
        · intro hne lo hi ph hran hp1 hp2 a w1 hJ hsz hs      -- 3: slot 19
          obtain ⟨rfl, rfl⟩ : 0 = lo ∧ 0 = hi := Prod.mk.inj (Option.some.inj hran)
          obtain rfl : ph = 0 := by omega
          obtain ⟨h0, h1, _⟩ := hs
          have h0 : a.tmps.getD 17 undef = .slice (some ⟨b0, o0, none⟩) n c := h0
          have h1 : a.tmps.getD 18 undef = .int .i64 (j : Nat) := h1
          have k0 : ((j : Nat) : Int) < (n : Int) := by omega
          refine op_run rfl rfl (v := .pointer (some ⟨b0, o0 + j * 4, none⟩)) (w' := w1) ?_ rfl (Below.refl _ _)
          simp [execOp, Act.eval, h0, h1, k0, go_sem]
        · intro hne lo hi ph hran hp1 hp2 a w1 hJ hsz hs      -- 4: slot 20
          obtain ⟨rfl, rfl⟩ : 0 = lo ∧ 0 = hi := Prod.mk.inj (Option.some.inj hran)
          obtain rfl : ph = 0 := by omega
          obtain ⟨h0, _⟩ := hs
          have h0 : a.tmps.getD 19 undef = .pointer (some ⟨b0, o0 + j * 4, none⟩) := h0
          refine op_run rfl rfl (v := .pointer (some ⟨b0, o0 + j * 4, none⟩)) (w' := w1) ?_ rfl (Below.refl _ _)
          simp [execOp, Act.eval, h0, go_sem]
        · intro hne lo hi ph hran hp1 hp2 a w1 hJ hsz hs      -- 5: slot 21
          obtain ⟨rfl, rfl⟩ : 0 = lo ∧ 0 = hi := Prod.mk.inj (Option.some.inj hran)
          obtain rfl : ph = 0 := by omega
          obtain ⟨h0, _⟩ := hs
          have h0 : a.tmps.getD 20 undef = .pointer (some ⟨b0, o0 + j * 4, none⟩) := h0
          obtain ⟨k0, k1, k2, k3⟩ := HC.out w1 hJ
          refine op_run rfl rfl (v := .int .i64 t.id) (w' := w1) ?_ rfl (Below.refl _ _)
          simp [execOp, Act.eval, h0, k0, go_sem]
        · intro hne lo hi ph hran hp1 hp2 a w1 hJ hsz hs      -- 6: slot 22
          obtain ⟨rfl, rfl⟩ : 0 = lo ∧ 0 = hi := Prod.mk.inj (Option.some.inj hran)
          obtain rfl : ph = 0 := by omega
          obtain ⟨h0, h1, _⟩ := hs
          have h0 : a.tmps.getD 16 undef = .slice a0 N0 q0 := h0
          have h1 : a.tmps.getD 21 undef = .int .i64 t.id := h1
          refine op_call rfl rfl (f := 31) (args := #[.slice a0 N0 q0, .int .i64 t.id]) (by simp [execOp, Act.eval, resolve, h0, h1, go_sem]) ?_
          exact ov_of (rvar_any a0 N0 q0 B t.id w1 (HO.out.later hJ) HN0.out (by omega) (by have := HTB.out; unfold Mk.B W64 at this; omega)) (HW.out.trans (hJ.mono HW.out.size)) HD1.out
        · intro hne lo hi ph hran hp1 hp2 a w1 hJ hsz hs      -- 7: slot 23
          obtain ⟨rfl, rfl⟩ : 0 = lo ∧ 0 = hi := Prod.mk.inj (Option.some.inj hran)
          obtain rfl : ph = 0 := by omega
          obtain ⟨h0, _⟩ := hs
          have h0 : a.tmps.getD 1 undef = .slice (some ⟨b0, o0, none⟩) n c := h0
          refine op_run rfl rfl (v := .slice (some ⟨b0, o0, none⟩) n c) (w' := w1) ?_ rfl (Below.refl _ _)
          simp [execOp, Act.eval, h0, go_sem]
        · intro hne lo hi ph hran hp1 hp2 a w1 hJ hsz hs      -- 8: slot 24
          obtain ⟨rfl, rfl⟩ : 0 = lo ∧ 0 = hi := Prod.mk.inj (Option.some.inj hran)
          obtain rfl : ph = 0 := by omega
          obtain ⟨h0, _⟩ := hs
          have h0 : a.tmps.getD 5 undef = .int .i64 (j : Nat) := h0
          refine op_run rfl rfl (v := .int .i64 (j : Nat)) (w' := w1) ?_ rfl (Below.refl _ _)
          simp [execOp, Act.eval, h0, go_sem]
        · intro hne lo hi ph hran hp1 hp2 a w1 hJ hsz hs      -- 9: slot 25
          obtain ⟨rfl, rfl⟩ : 0 = lo ∧ 0 = hi := Prod.mk.inj (Option.some.inj hran)
          obtain rfl : ph = 0 := by omega
          obtain ⟨h0, h1, _⟩ := hs
          have h0 : a.tmps.getD 23 undef = .slice (some ⟨b0, o0, none⟩) n c := h0
          have h1 : a.tmps.getD 24 undef = .int .i64 (j : Nat) := h1
          have k0 : ((j : Nat) : Int) < (n : Int) := by omega
          refine op_run rfl rfl (v := .pointer (some ⟨b0, o0 + j * 4, none⟩)) (w' := w1) ?_ rfl (Below.refl _ _)
          simp [execOp, Act.eval, h0, h1, k0, go_sem]
        · intro hne lo hi ph hran hp1 hp2 a w1 hJ hsz hs      -- 10: slot 26
          obtain ⟨rfl, rfl⟩ : 0 = lo ∧ 0 = hi := Prod.mk.inj (Option.some.inj hran)
          obtain rfl : ph = 0 := by omega
          obtain ⟨h0, _⟩ := hs
          have h0 : a.tmps.getD 25 undef = .pointer (some ⟨b0, o0 + j * 4, none⟩) := h0
          refine op_run rfl rfl (v := .pointer (some ⟨b0, o0 + j * 4 + 2, none⟩)) (w' := w1) ?_ rfl (Below.refl _ _)
          simp [execOp, Act.eval, h0, go_sem]
        · intro hne lo hi ph hran hp1 hp2 a w1 hJ hsz hs      -- 11: slot 27
          obtain ⟨rfl, rfl⟩ : 0 = lo ∧ 0 = hi := Prod.mk.inj (Option.some.inj hran)
          obtain rfl : ph = 0 := by omega
          obtain ⟨h0, _⟩ := hs
          have h0 : a.tmps.getD 26 undef = .pointer (some ⟨b0, o0 + j * 4 + 2, none⟩) := h0
          obtain ⟨k0, k1, k2, k3⟩ := HC.out w1 hJ
          refine op_run rfl rfl (v := .int .i64 t.size) (w' := w1) ?_ rfl (Below.refl _ _)
          simp [execOp, Act.eval, h0, k2, go_sem]
        · intro hne lo hi ph hran hp1 hp2 a w1 hJ hsz hs      -- 12: slot 28
          obtain ⟨rfl, rfl⟩ : 0 = lo ∧ 0 = hi := Prod.mk.inj (Option.some.inj hran)
          obtain rfl : ph = 0 := by omega
          obtain ⟨h0, h1, _⟩ := hs
          have m0 : (oV w D1).p w1 (a.tmps.getD 22 undef) := h0; obtain ⟨a0, p0, h0, r0⟩ := ov_row (n := N1) m0 HN1.out
          have h1 : a.tmps.getD 27 undef = .int .i64 t.size := h1
          refine op_call rfl rfl (f := 31) (args := #[.slice a0 N1 p0, .int .i64 t.size]) (by simp [execOp, Act.eval, resolve, h0, h1, go_sem]) ?_
          exact ov_of (rvar_any a0 N1 p0 D1 t.size w1 r0 HN1.out (by omega) (by have := HTB.out; unfold Mk.B W64 at this; omega)) (HW.out.trans (hJ.mono HW.out.size)) HD2.out
        · intro hne lo hi ph hran hp1 hp2 a w1 hJ hsz hs      -- 13: slot 29
          obtain ⟨rfl, rfl⟩ : 0 = lo ∧ 0 = hi := Prod.mk.inj (Option.some.inj hran)
          obtain rfl : ph = 0 := by omega
          obtain ⟨h0, _⟩ := hs
          have h0 : a.tmps.getD 1 undef = .slice (some ⟨b0, o0, none⟩) n c := h0
          refine op_run rfl rfl (v := .slice (some ⟨b0, o0, none⟩) n c) (w' := w1) ?_ rfl (Below.refl _ _)
          simp [execOp, Act.eval, h0, go_sem]
        · intro hne lo hi ph hran hp1 hp2 a w1 hJ hsz hs      -- 14: slot 30
          obtain ⟨rfl, rfl⟩ : 0 = lo ∧ 0 = hi := Prod.mk.inj (Option.some.inj hran)
          obtain rfl : ph = 0 := by omega
          obtain ⟨h0, _⟩ := hs
          have h0 : a.tmps.getD 5 undef = .int .i64 (j : Nat) := h0
          refine op_run rfl rfl (v := .int .i64 (j : Nat)) (w' := w1) ?_ rfl (Below.refl _ _)
          simp [execOp, Act.eval, h0, go_sem]
        · intro hne lo hi ph hran hp1 hp2 a w1 hJ hsz hs      -- 15: slot 31
          obtain ⟨rfl, rfl⟩ : 0 = lo ∧ 0 = hi := Prod.mk.inj (Option.some.inj hran)
          obtain rfl : ph = 0 := by omega
          obtain ⟨h0, h1, _⟩ := hs
          have h0 : a.tmps.getD 29 undef = .slice (some ⟨b0, o0, none⟩) n c := h0
          have h1 : a.tmps.getD 30 undef = .int .i64 (j : Nat) := h1
          have k0 : ((j : Nat) : Int) < (n : Int) := by omega
          refine op_run rfl rfl (v := .pointer (some ⟨b0, o0 + j * 4, none⟩)) (w' := w1) ?_ rfl (Below.refl _ _)
          simp [execOp, Act.eval, h0, h1, k0, go_sem]
        · intro hne lo hi ph hran hp1 hp2 a w1 hJ hsz hs      -- 16: slot 32
          obtain ⟨rfl, rfl⟩ : 0 = lo ∧ 0 = hi := Prod.mk.inj (Option.some.inj hran)
          obtain rfl : ph = 0 := by omega
          obtain ⟨h0, _⟩ := hs
          have h0 : a.tmps.getD 31 undef = .pointer (some ⟨b0, o0 + j * 4, none⟩) := h0
          refine op_run rfl rfl (v := .pointer (some ⟨b0, o0 + j * 4 + 3, none⟩)) (w' := w1) ?_ rfl (Below.refl _ _)
          simp [execOp, Act.eval, h0, go_sem]
        · intro hne lo hi ph hran hp1 hp2 a w1 hJ hsz hs      -- 17: slot 33
          obtain ⟨rfl, rfl⟩ : 0 = lo ∧ 0 = hi := Prod.mk.inj (Option.some.inj hran)
          obtain rfl : ph = 0 := by omega
          obtain ⟨h0, _⟩ := hs
          have h0 : a.tmps.getD 32 undef = .pointer (some ⟨b0, o0 + j * 4 + 3, none⟩) := h0
          obtain ⟨k0, k1, k2, k3⟩ := HC.out w1 hJ
          refine op_run rfl rfl (v := .bool t.gone) (w' := w1) ?_ rfl (Below.refl _ _)
          simp [execOp, Act.eval, h0, k3, go_sem]
        · intro hne lo hi ph hran hp1 hp2 a w1 hJ hsz hs      -- 18: slot 34
          obtain ⟨rfl, rfl⟩ : 0 = lo ∧ 0 = hi := Prod.mk.inj (Option.some.inj hran)
          obtain rfl : ph = 0 := by omega
          obtain ⟨h0, _⟩ := hs
          have h0 : a.tmps.getD 33 undef = .bool t.gone := h0
          refine op_call rfl rfl (f := 53) (args := #[.bool t.gone]) (by simp [execOp, Act.eval, resolve, h0, go_sem]) ?_
          exact calls_c ((bit_any t.gone w1).mono fun e w' h => ⟨h.1, h.2 ▸ Below.refl _ _⟩)
        · intro hne lo hi ph hran hp1 hp2 a w1 hJ hsz hs      -- 19: slot 35
          obtain ⟨rfl, rfl⟩ : 0 = lo ∧ 0 = hi := Prod.mk.inj (Option.some.inj hran)
          obtain rfl : ph = 0 := by omega
          obtain ⟨h0, h1, _⟩ := hs
          have m0 : (oV w D2).p w1 (a.tmps.getD 28 undef) := h0; obtain ⟨a0, p0, h0, r0⟩ := ov_row (n := N2) m0 HN2.out
          have h1 : a.tmps.getD 34 undef = .int .i64 (bitN t.gone : Nat) := h1
          refine op_call rfl rfl (f := 31) (args := #[.slice a0 N2 p0, .int .i64 (bitN t.gone : Nat)]) (by simp [execOp, Act.eval, resolve, h0, h1, go_sem]) ?_
          exact ov_of (rvar_any a0 N2 p0 D2 ((bitN t.gone : Nat) : Int) w1 r0 HN2.out (by omega) (by have := bitN_lt t.gone; omega)) (HW.out.trans (hJ.mono HW.out.size)) HD3.out
        · intro hne lo hi ph hran hp1 hp2 a w1 hJ hsz hs      -- 20: slot 36
          obtain ⟨rfl, rfl⟩ : 0 = lo ∧ 0 = hi := Prod.mk.inj (Option.some.inj hran)
          obtain rfl : ph = 0 := by omega
          obtain ⟨h0, _⟩ := hs
          have h0 : a.tmps.getD 1 undef = .slice (some ⟨b0, o0, none⟩) n c := h0
          refine op_run rfl rfl (v := .slice (some ⟨b0, o0, none⟩) n c) (w' := w1) ?_ rfl (Below.refl _ _)
          simp [execOp, Act.eval, h0, go_sem]
        · intro hne lo hi ph hran hp1 hp2 a w1 hJ hsz hs      -- 21: slot 37
          obtain ⟨rfl, rfl⟩ : 0 = lo ∧ 0 = hi := Prod.mk.inj (Option.some.inj hran)
          obtain rfl : ph = 0 := by omega
          obtain ⟨h0, _⟩ := hs
          have h0 : a.tmps.getD 5 undef = .int .i64 (j : Nat) := h0
          refine op_run rfl rfl (v := .int .i64 (j : Nat)) (w' := w1) ?_ rfl (Below.refl _ _)
          simp [execOp, Act.eval, h0, go_sem]
        · intro hne lo hi ph hran hp1 hp2 a w1 hJ hsz hs      -- 22: slot 38
          obtain ⟨rfl, rfl⟩ : 0 = lo ∧ 0 = hi := Prod.mk.inj (Option.some.inj hran)
          obtain rfl : ph = 0 := by omega
          obtain ⟨h0, h1, _⟩ := hs
          have h0 : a.tmps.getD 36 undef = .slice (some ⟨b0, o0, none⟩) n c := h0
          have h1 : a.tmps.getD 37 undef = .int .i64 (j : Nat) := h1
          have k0 : ((j : Nat) : Int) < (n : Int) := by omega
          refine op_run rfl rfl (v := .pointer (some ⟨b0, o0 + j * 4, none⟩)) (w' := w1) ?_ rfl (Below.refl _ _)
          simp [execOp, Act.eval, h0, h1, k0, go_sem]
        · intro hne lo hi ph hran hp1 hp2 a w1 hJ hsz hs      -- 23: slot 39
          obtain ⟨rfl, rfl⟩ : 0 = lo ∧ 0 = hi := Prod.mk.inj (Option.some.inj hran)
          obtain rfl : ph = 0 := by omega
          obtain ⟨h0, _⟩ := hs
          have h0 : a.tmps.getD 38 undef = .pointer (some ⟨b0, o0 + j * 4, none⟩) := h0
          refine op_run rfl rfl (v := .pointer (some ⟨b0, o0 + j * 4 + 1, none⟩)) (w' := w1) ?_ rfl (Below.refl _ _)
          simp [execOp, Act.eval, h0, go_sem]
        · intro hne lo hi ph hran hp1 hp2 a w1 hJ hsz hs      -- 24: slot 40
          obtain ⟨rfl, rfl⟩ : 0 = lo ∧ 0 = hi := Prod.mk.inj (Option.some.inj hran)
          obtain rfl : ph = 0 := by omega
          obtain ⟨h0, _⟩ := hs
          have h0 : a.tmps.getD 39 undef = .pointer (some ⟨b0, o0 + j * 4 + 1, none⟩) := h0
          obtain ⟨k0, k1, k2, k3⟩ := HC.out w1 hJ
          refine op_run rfl rfl (v := .string t.name) (w' := w1) ?_ rfl (Below.refl _ _)
          simp [execOp, Act.eval, h0, k1, go_sem]
        · intro hne lo hi ph hran hp1 hp2 a w1 hJ hsz hs      -- 25: slot 41
          obtain ⟨rfl, rfl⟩ : 0 = lo ∧ 0 = hi := Prod.mk.inj (Option.some.inj hran)
          obtain rfl : ph = 0 := by omega
          obtain ⟨h0, h1, _⟩ := hs
          have m0 : (oV w D3).p w1 (a.tmps.getD 35 undef) := h0; obtain ⟨a0, p0, h0, r0⟩ := ov_row (n := N3) m0 HN3.out
          have h1 : a.tmps.getD 40 undef = .string t.name := h1
          refine op_call rfl rfl (f := 52) (args := #[.slice a0 N3 p0, .string t.name]) (by simp [execOp, Act.eval, resolve, h0, h1, go_sem]) ?_
          exact ov_of (rtext_any a0 N3 p0 D3 t.name w1 r0 HN3.out (by omega) hls) (HW.out.trans (hJ.mono HW.out.size)) HD4.out
        · intro hne lo hi ph hran hp1 hp2 a w1 hJ hsz hs      -- 26: slot 0
          obtain ⟨rfl, rfl⟩ : 0 = lo ∧ 0 = hi := Prod.mk.inj (Option.some.inj hran)
          obtain rfl : ph = 0 := by omega
          obtain ⟨h0, _⟩ := hs
          have m0 : (oV w D4).p w1 (a.tmps.getD 41 undef) := h0
          exact op_run rfl rfl (v := a.tmps.getD 41 undef) (w' := w1) (by simp [execOp, Act.eval, go_sem]) m0 (Below.refl _ _)
      · show ∀ ph, ph < 0 → _
        iterate 0 (refine fls ?_ ?_)
        · exact fl0
      intro f w1 hJ hv
      have e4 : (oV w D4).p w1 (f 0) := hv 26 _ 0 rfl rfl
      clear hv
      try simp only [Exit.then]
      simp only [putAll, List.foldl_cons, List.foldl_nil, Option.getD_some, Act.put, List.setIfInBounds_toArray, List.set_cons_succ, List.set_cons_zero]
      generalize f 0 = v5 at e4 ⊢
      have o6 : Own w w1 v5 D4 := e4
      clear e4 hJ
      -- END A
      rw [HDD.out] at o6
      have HO6 := Lib.hid o6
      clear o6
      go_wp2_with fail
      go_roundw
      case rel => exact ⟨j + 1, by go_num, by omega, HO6⟩
      case measure => simp [intOf]; omega
    · have : j = n := by omega
      subst this
      have HO5 := hO
      rw [headM_all HN.out] at HO5
      clear hO
      go_wp2_with fail
      go_ret
      exact ⟨_, rfl, HO5.out⟩
end Go.Proofs.Ytfjplhjlmilcfaa
