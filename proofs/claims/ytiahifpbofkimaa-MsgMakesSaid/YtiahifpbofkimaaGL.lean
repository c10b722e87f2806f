/- Marks in bytes: the document's own. | Marks out of bytes: what is read where; the document's own. | Marks read by pointers to their numbers; rows of one's own beside what is written. -/
import Derived.Test.YtiahifpbofkimaaGK
import Derived.Test.YtiahifpbofkimaaGD
import Derived.Test.YtiahifpbofkimaaGC
import Derived.Test.YtiahifpbofkimaaGE
import Derived.Test.YtiahifpbofkimaaNmb
import Derived.Deep.RegionHeld3
namespace Go.Proofs.Ytiahifpbofkimaa
open Go.RowKit Go.Proofs
set_option linter.unusedVariables false
set_option linter.unusedSimpArgs false
set_option linter.unnecessarySimpa false

set_option maxHeartbeats 800000 in
theorem bit_any (b : Bool) (w : World) : Calls Try.prog 64 #[.bool b] w fun e w' => e = .returned (.int .i64 (bitN b : Nat)) ∧ w = w' := by
  cases b
  all_goals
    go_enter Try.func64, Try.ntmps64
    go_wp2_with fail
    go_ret
    exact ⟨ret_int rfl, rfl⟩
theorem name_le {l : List Mk} {i : Nat} {t : Mk} (h : l[i]? = some t) : t.name.size ≤ (marksL l).length := by
  have e : rowM l = rowM (l.take i) ++ (mkL t ++ rowM (l.drop (i + 1))) := by rw [← rowM_drop h]; exact rowM_split l i
  have : t.name.size = t.nm.length := Lib.size_eq _
  unfold marksL
  rw [e]
  unfold mkL textL
  simp only [List.length_append]
  omega
theorem headM_le (B : List UInt8) (l : List Mk) (j : Nat) : (headM B l j).length ≤ (B ++ marksL l).length := endM_le B l j
set_option maxRecDepth 100000 in
set_option maxHeartbeats 6400000 in
theorem rputMarks_any (ba : Option Addr) (bn bc : Nat) (B0 : List UInt8) (ad : Option Addr) (n c : Nat) (ts : List Mk) (w : World) (hb : Row w ba bc B0) (hbn : B0.length = bn) (hr : MRow w ad c ts) (hn : ts.length = n) (hlen : (B0 ++ marksL ts).length ≤ 50000) :
    Calls Try.prog 29 #[.slice ba bn bc, .slice ad n c] w fun e w' => ∃ v, e = .returned v ∧ Own w w' v (B0 ++ marksL ts) := by
  have HR := Lib.hid hr
  have HN := Lib.hid hn
  have HBR := Lib.hid hb
  have HBN := Lib.hid hbn
  have HLE := Lib.hid hlen
  have hc1 := hr.1
  rw [hn] at hc1
  have hcm : c ≤ 9223372036854775807 := by have := hr.2.1; unfold maxLen at this; omega
  have hbl : bn ≤ 50000 := by rw [List.length_append] at hlen; omega
  have HV : Hid (B0 ++ varL ((n : Int).toNat) = headM B0 ts 0) := Lib.hid (by rw [headM_zero, HN.out, Int.toNat_natCast])
  clear hr hn hb hbn hlen
  go_enter Try.func29, Try.ntmps29
  go_wp2_with fail
  refine (rvar_any ba bn bc B0 n w HBR.out HBN.out (by omega) (by omega)).mono ?_
  rw [HV.out]
  rintro e w2 ⟨v2, rfl, o2⟩
  have HO := Lib.hid o2
  clear o2
  go_wp2_with fail
  go_loopw [0, 5] (fun v i wr => ∃ j : Nat, i = .int .i64 j ∧ j ≤ n ∧ Hid (Own w wr v (headM B0 ts j))) (fun _ i _ => n - (intOf i).toNat)
  case atStart => exact ⟨0, rfl, by omega, HO⟩
  case round =>
    obtain ⟨j, rfl, hj, hO⟩ := hrel
    by_cases hjn : (j : Int) < n
    · obtain ⟨t, ht⟩ : ∃ t, ts[j]? = some t := ⟨ts[j]'(by have := HN.out; omega), List.getElem?_eq_getElem _⟩
      obtain ⟨b0, o0, rfl, _, _, _, _⟩ := (HR.out.later hO.out.below).c4 ht
      have HT := Lib.hid ht
      have HTB : Hid (Mk.B t) := Lib.hid (HR.out.b ht)
      have hls : t.name.size ≤ 1000000 := by have := name_le ht; have h2 := HLE.out; rw [List.length_append] at h2; omega
      clear ht
      obtain ⟨N0, hN0⟩ : ∃ N, (headM B0 ts j).length = N := ⟨_, rfl⟩
      obtain ⟨B, hB⟩ : ∃ B, headM B0 ts j = B := ⟨_, rfl⟩
      obtain ⟨D1, hD1⟩ : ∃ D, B ++ varL t.id.toNat = D := ⟨_, rfl⟩
      obtain ⟨D2, hD2⟩ : ∃ D, D1 ++ varL t.size.toNat = D := ⟨_, rfl⟩
      obtain ⟨D3, hD3⟩ : ∃ D, D2 ++ varL (bitN t.gone) = D := ⟨_, rfl⟩
      obtain ⟨D4, hD4⟩ : ∃ D, D3 ++ textL t.name.data.toList = D := ⟨_, rfl⟩
      obtain ⟨N1, hN1⟩ : ∃ N, D1.length = N := ⟨_, rfl⟩
      obtain ⟨N2, hN2⟩ : ∃ N, D2.length = N := ⟨_, rfl⟩
      obtain ⟨N3, hN3⟩ : ∃ N, D3.length = N := ⟨_, rfl⟩
      have HDD : Hid (D4 = headM B0 ts (j + 1)) := Lib.hid (by rw [headM_succ HT.out, ← hD4, ← hD3, ← hD2, ← hD1, ← hB]; unfold mkL Mk.nm; simp only [List.append_assoc])
      have hl4 := headM_le B0 ts (j + 1)
      rw [← HDD.out] at hl4
      have hl4 := Nat.le_trans hl4 HLE.out
      have hl3 : N3 ≤ 50000 := by rw [← hD4, List.length_append] at hl4; omega
      have hl2 : N2 ≤ 50000 := by rw [← hD3, List.length_append] at hN3; omega
      have hl1 : N1 ≤ 50000 := by rw [← hD2, List.length_append] at hN2; omega
      have hl0 : N0 ≤ 50000 := by rw [← hD1, List.length_append] at hN1; rw [← hB] at hN1; omega
      have HD1 := Lib.hid hD1
      have HD2 := Lib.hid hD2
      have HD3 := Lib.hid hD3
      have HD4 := Lib.hid hD4
      have HN1 := Lib.hid hN1
      have HN2 := Lib.hid hN2
      have HN3 := Lib.hid hN3
      rw [hB] at hN0
      have HN0 := Lib.hid hN0
      obtain ⟨a0, q0, rfl, r0⟩ := hO.out.row_n (n := N0) (by rw [hB]; exact hN0)
      rw [hB] at r0
      have HW := Lib.hid hO.out.below
      have HO := Lib.hid r0
      have HC : Hid (∀ W, Below wr.heap.size wr W → W.cell? ⟨b0, o0 + j * 4, none⟩ = some (.int .i64 t.id) ∧ W.cell? ⟨b0, o0 + j * 4 + 1, none⟩ = some (.string t.name) ∧ W.cell? ⟨b0, o0 + j * 4 + 2, none⟩ = some (.int .i64 t.size) ∧ W.cell? ⟨b0, o0 + j * 4 + 3, none⟩ = some (.bool t.gone)) := Lib.hid (fun W h => by
        obtain ⟨_, _, e, k0, k1, k2, k3⟩ := (HR.out.later (HW.out.trans (h.mono HW.out.size))).c4 HT.out
        cases e
        exact ⟨k0, k1, k2, k3⟩)
      clear r0 hO hB hD1 hD2 hD3 hD4 hN0 hN1 hN2 hN3 HV HLE hl4
      go_upto_region 5 with fail
      -- REG A
      refine wp_region_ptab (L := fun ph => match ph with | _ => [cV (.slice a0 N0 q0), cV (.slice (some ⟨b0, o0, none⟩) n c), cV (.int .i64 (j : Nat)), cV (.pointer (some ⟨b0, o0 + j * 4, none⟩)), cV (.pointer (some ⟨b0, o0 + j * 4, none⟩)), cV (.int .i64 t.id), oV w D1, cV (.slice (some ⟨b0, o0, none⟩) n c), cV (.int .i64 (j : Nat)), cV (.pointer (some ⟨b0, o0 + j * 4, none⟩)), cV (.pointer (some ⟨b0, o0 + j * 4 + 2, none⟩)), cV (.int .i64 t.size), oV w D2, cV (.slice (some ⟨b0, o0, none⟩) n c), cV (.int .i64 (j : Nat)), cV (.pointer (some ⟨b0, o0 + j * 4, none⟩)), cV (.pointer (some ⟨b0, o0 + j * 4 + 3, none⟩)), cV (.bool t.gone), cV (.int .i64 (bitN t.gone : Nat)), oV w D3, cV (.slice (some ⟨b0, o0, none⟩) n c), cV (.int .i64 (j : Nat)), cV (.pointer (some ⟨b0, o0 + j * 4, none⟩)), cV (.pointer (some ⟨b0, o0 + j * 4 + 1, none⟩)), cV (.string t.name), oV w D4, oV w D4]) (fun _ wq => Below wr.heap.size wr wq) [] [(0, 0), (0, 0), (0, 0), (0, 0), (0, 0), (0, 0), (0, 0), (0, 0), (0, 0), (0, 0), (0, 0), (0, 0), (0, 0), (0, 0), (0, 0), (0, 0), (0, 0), (0, 0), (0, 0), (0, 0), (0, 0), (0, 0), (0, 0), (0, 0), (0, 0), (0, 0), (0, 0)] [[(0, none)], [(1, none)], [(5, none)], [(17, some 1), (18, some 2)], [(19, some 3)], [(20, some 4)], [(16, some 0), (21, some 5)], [(1, none)], [(5, none)], [(23, some 7), (24, some 8)], [(25, some 9)], [(26, some 10)], [(22, some 6), (27, some 11)], [(1, none)], [(5, none)], [(29, some 13), (30, some 14)], [(31, some 15)], [(32, some 16)], [(33, some 17)], [(28, some 12), (34, some 18)], [(1, none)], [(5, none)], [(36, some 20), (37, some 21)], [(38, some 22)], [(39, some 23)], [(35, some 19), (40, some 24)], [(41, some 25)]] 27 0 43 (by kernel_rfl) rfl rfl rfl (by kernel_rfl) (by kernel_rfl) (by decide) (by kernel_rfl) ?_ ?_ ?_ ?_ ?_
      · exact fun ph w1 w2 h hb => h.trans (hb.mono h.size)
      · exact Below.refl _ _
      · show ∀ i, i < 27 → _
        iterate 27 (refine fls ?_ ?_)
        · exact fl0
        · intro hne lo hi ph hran hp1 hp2 a w1 hJ hsz hs      -- 0: slot 16
          obtain ⟨rfl, rfl⟩ : 0 = lo ∧ 0 = hi := Prod.mk.inj (Option.some.inj hran)
          obtain rfl : ph = 0 := by omega
          obtain ⟨h0, _⟩ := hs
          have h0 : a.tmps.getD 0 undef = .slice a0 N0 q0 := h0
          refine op_run rfl rfl (v := .slice a0 N0 q0) (w' := w1) ?_ rfl (Below.refl _ _)
          simp [execOp, Act.eval, h0, go_sem]
        · intro hne lo hi ph hran hp1 hp2 a w1 hJ hsz hs      -- 1: slot 17
          obtain ⟨rfl, rfl⟩ : 0 = lo ∧ 0 = hi := Prod.mk.inj (Option.some.inj hran)
          obtain rfl : ph = 0 := by omega
          obtain ⟨h0, _⟩ := hs
          have h0 : a.tmps.getD 1 undef = .slice (some ⟨b0, o0, none⟩) n c := h0
          refine op_run rfl rfl (v := .slice (some ⟨b0, o0, none⟩) n c) (w' := w1) ?_ rfl (Below.refl _ _)
          simp [execOp, Act.eval, h0, go_sem]
        · intro hne lo hi ph hran hp1 hp2 a w1 hJ hsz hs      -- 2: slot 18
          obtain ⟨rfl, rfl⟩ : 0 = lo ∧ 0 = hi := Prod.mk.inj (Option.some.inj hran)
          obtain rfl : ph = 0 := by omega
          obtain ⟨h0, _⟩ := hs
          have h0 : a.tmps.getD 5 undef = .int .i64 (j : Nat) := h0
          refine op_run rfl rfl (v := .int .i64 (j : Nat)) (w' := w1) ?_ rfl (Below.refl _ _)
          simp [execOp, Act.eval, h0, go_sem]
        · intro hne lo hi ph hran hp1 hp2 a w1 hJ hsz hs      -- 3: slot 19
          obtain ⟨rfl, rfl⟩ : 0 = lo ∧ 0 = hi := Prod.mk.inj (Option.some.inj hran)
          obtain rfl : ph = 0 := by omega
          obtain ⟨h0, h1, _⟩ := hs
          have h0 : a.tmps.getD 17 undef = .slice (some ⟨b0, o0, none⟩) n c := h0
          have h1 : a.tmps.getD 18 undef = .int .i64 (j : Nat) := h1
          have k0 : ((j : Nat) : Int) < (n : Int) := by omega
          refine op_run rfl rfl (v := .pointer (some ⟨b0, o0 + j * 4, none⟩)) (w' := w1) ?_ rfl (Below.refl _ _)
          simp [execOp, Act.eval, h0, h1, k0, go_sem]
        · intro hne lo hi ph hran hp1 hp2 a w1 hJ hsz hs      -- 4: slot 20
          obtain ⟨rfl, rfl⟩ : 0 = lo ∧ 0 = hi := Prod.mk.inj (Option.some.inj hran)
          obtain rfl : ph = 0 := by omega
          obtain ⟨h0, _⟩ := hs
          have h0 : a.tmps.getD 19 undef = .pointer (some ⟨b0, o0 + j * 4, none⟩) := h0
          refine op_run rfl rfl (v := .pointer (some ⟨b0, o0 + j * 4, none⟩)) (w' := w1) ?_ rfl (Below.refl _ _)
          simp [execOp, Act.eval, h0, go_sem]
        · intro hne lo hi ph hran hp1 hp2 a w1 hJ hsz hs      -- 5: slot 21
          obtain ⟨rfl, rfl⟩ : 0 = lo ∧ 0 = hi := Prod.mk.inj (Option.some.inj hran)
          obtain rfl : ph = 0 := by omega
          obtain ⟨h0, _⟩ := hs
          have h0 : a.tmps.getD 20 undef = .pointer (some ⟨b0, o0 + j * 4, none⟩) := h0
          obtain ⟨k0, k1, k2, k3⟩ := HC.out w1 hJ
          refine op_run rfl rfl (v := .int .i64 t.id) (w' := w1) ?_ rfl (Below.refl _ _)
          simp [execOp, Act.eval, h0, k0, go_sem]
        · intro hne lo hi ph hran hp1 hp2 a w1 hJ hsz hs      -- 6: slot 22
          obtain ⟨rfl, rfl⟩ : 0 = lo ∧ 0 = hi := Prod.mk.inj (Option.some.inj hran)
          obtain rfl : ph = 0 := by omega
          obtain ⟨h0, h1, _⟩ := hs
          have h0 : a.tmps.getD 16 undef = .slice a0 N0 q0 := h0
          have h1 : a.tmps.getD 21 undef = .int .i64 t.id := h1
          refine op_call rfl rfl (f := 26) (args := #[.slice a0 N0 q0, .int .i64 t.id]) (by simp [execOp, Act.eval, resolve, h0, h1, go_sem]) ?_
          exact ov_of (rvar_any a0 N0 q0 B t.id w1 (HO.out.later hJ) HN0.out (by omega) (by have := HTB.out; unfold Mk.B W64 at this; omega)) (HW.out.trans (hJ.mono HW.out.size)) HD1.out
        · intro hne lo hi ph hran hp1 hp2 a w1 hJ hsz hs      -- 7: slot 23
          obtain ⟨rfl, rfl⟩ : 0 = lo ∧ 0 = hi := Prod.mk.inj (Option.some.inj hran)
          obtain rfl : ph = 0 := by omega
          obtain ⟨h0, _⟩ := hs
          have h0 : a.tmps.getD 1 undef = .slice (some ⟨b0, o0, none⟩) n c := h0
          refine op_run rfl rfl (v := .slice (some ⟨b0, o0, none⟩) n c) (w' := w1) ?_ rfl (Below.refl _ _)
          simp [execOp, Act.eval, h0, go_sem]
        · intro hne lo hi ph hran hp1 hp2 a w1 hJ hsz hs      -- 8: slot 24
          obtain ⟨rfl, rfl⟩ : 0 = lo ∧ 0 = hi := Prod.mk.inj (Option.some.inj hran)
          obtain rfl : ph = 0 := by omega
          obtain ⟨h0, _⟩ := hs
          have h0 : a.tmps.getD 5 undef = .int .i64 (j : Nat) := h0
          refine op_run rfl rfl (v := .int .i64 (j : Nat)) (w' := w1) ?_ rfl (Below.refl _ _)
          simp [execOp, Act.eval, h0, go_sem]
        · intro hne lo hi ph hran hp1 hp2 a w1 hJ hsz hs      -- 9: slot 25
          obtain ⟨rfl, rfl⟩ : 0 = lo ∧ 0 = hi := Prod.mk.inj (Option.some.inj hran)
          obtain rfl : ph = 0 := by omega
          obtain ⟨h0, h1, _⟩ := hs
          have h0 : a.tmps.getD 23 undef = .slice (some ⟨b0, o0, none⟩) n c := h0
          have h1 : a.tmps.getD 24 undef = .int .i64 (j : Nat) := h1
          have k0 : ((j : Nat) : Int) < (n : Int) := by omega
          refine op_run rfl rfl (v := .pointer (some ⟨b0, o0 + j * 4, none⟩)) (w' := w1) ?_ rfl (Below.refl _ _)
          simp [execOp, Act.eval, h0, h1, k0, go_sem]
        · intro hne lo hi ph hran hp1 hp2 a w1 hJ hsz hs      -- 10: slot 26
          obtain ⟨rfl, rfl⟩ : 0 = lo ∧ 0 = hi := Prod.mk.inj (Option.some.inj hran)
          obtain rfl : ph = 0 := by omega
          obtain ⟨h0, _⟩ := hs
          have h0 : a.tmps.getD 25 undef = .pointer (some ⟨b0, o0 + j * 4, none⟩) := h0
          refine op_run rfl rfl (v := .pointer (some ⟨b0, o0 + j * 4 + 2, none⟩)) (w' := w1) ?_ rfl (Below.refl _ _)
          simp [execOp, Act.eval, h0, go_sem]
        · intro hne lo hi ph hran hp1 hp2 a w1 hJ hsz hs      -- 11: slot 27
          obtain ⟨rfl, rfl⟩ : 0 = lo ∧ 0 = hi := Prod.mk.inj (Option.some.inj hran)
          obtain rfl : ph = 0 := by omega
          obtain ⟨h0, _⟩ := hs
          have h0 : a.tmps.getD 26 undef = .pointer (some ⟨b0, o0 + j * 4 + 2, none⟩) := h0
          obtain ⟨k0, k1, k2, k3⟩ := HC.out w1 hJ
          refine op_run rfl rfl (v := .int .i64 t.size) (w' := w1) ?_ rfl (Below.refl _ _)
          simp [execOp, Act.eval, h0, k2, go_sem]
        · intro hne lo hi ph hran hp1 hp2 a w1 hJ hsz hs      -- 12: slot 28
          obtain ⟨rfl, rfl⟩ : 0 = lo ∧ 0 = hi := Prod.mk.inj (Option.some.inj hran)
          obtain rfl : ph = 0 := by omega
          obtain ⟨h0, h1, _⟩ := hs
          have m0 : (oV w D1).p w1 (a.tmps.getD 22 undef) := h0; obtain ⟨a0, p0, h0, r0⟩ := ov_row (n := N1) m0 HN1.out
          have h1 : a.tmps.getD 27 undef = .int .i64 t.size := h1
          refine op_call rfl rfl (f := 26) (args := #[.slice a0 N1 p0, .int .i64 t.size]) (by simp [execOp, Act.eval, resolve, h0, h1, go_sem]) ?_
          exact ov_of (rvar_any a0 N1 p0 D1 t.size w1 r0 HN1.out (by omega) (by have := HTB.out; unfold Mk.B W64 at this; omega)) (HW.out.trans (hJ.mono HW.out.size)) HD2.out
        · intro hne lo hi ph hran hp1 hp2 a w1 hJ hsz hs      -- 13: slot 29
          obtain ⟨rfl, rfl⟩ : 0 = lo ∧ 0 = hi := Prod.mk.inj (Option.some.inj hran)
          obtain rfl : ph = 0 := by omega
          obtain ⟨h0, _⟩ := hs
          have h0 : a.tmps.getD 1 undef = .slice (some ⟨b0, o0, none⟩) n c := h0
          refine op_run rfl rfl (v := .slice (some ⟨b0, o0, none⟩) n c) (w' := w1) ?_ rfl (Below.refl _ _)
          simp [execOp, Act.eval, h0, go_sem]
        · intro hne lo hi ph hran hp1 hp2 a w1 hJ hsz hs      -- 14: slot 30
          obtain ⟨rfl, rfl⟩ : 0 = lo ∧ 0 = hi := Prod.mk.inj (Option.some.inj hran)
          obtain rfl : ph = 0 := by omega
          obtain ⟨h0, _⟩ := hs
          have h0 : a.tmps.getD 5 undef = .int .i64 (j : Nat) := h0
          refine op_run rfl rfl (v := .int .i64 (j : Nat)) (w' := w1) ?_ rfl (Below.refl _ _)
          simp [execOp, Act.eval, h0, go_sem]
        · intro hne lo hi ph hran hp1 hp2 a w1 hJ hsz hs      -- 15: slot 31
          obtain ⟨rfl, rfl⟩ : 0 = lo ∧ 0 = hi := Prod.mk.inj (Option.some.inj hran)
          obtain rfl : ph = 0 := by omega
          obtain ⟨h0, h1, _⟩ := hs
          have h0 : a.tmps.getD 29 undef = .slice (some ⟨b0, o0, none⟩) n c := h0
          have h1 : a.tmps.getD 30 undef = .int .i64 (j : Nat) := h1
          have k0 : ((j : Nat) : Int) < (n : Int) := by omega
          refine op_run rfl rfl (v := .pointer (some ⟨b0, o0 + j * 4, none⟩)) (w' := w1) ?_ rfl (Below.refl _ _)
          simp [execOp, Act.eval, h0, h1, k0, go_sem]
        · intro hne lo hi ph hran hp1 hp2 a w1 hJ hsz hs      -- 16: slot 32
          obtain ⟨rfl, rfl⟩ : 0 = lo ∧ 0 = hi := Prod.mk.inj (Option.some.inj hran)
          obtain rfl : ph = 0 := by omega
          obtain ⟨h0, _⟩ := hs
          have h0 : a.tmps.getD 31 undef = .pointer (some ⟨b0, o0 + j * 4, none⟩) := h0
          refine op_run rfl rfl (v := .pointer (some ⟨b0, o0 + j * 4 + 3, none⟩)) (w' := w1) ?_ rfl (Below.refl _ _)
          simp [execOp, Act.eval, h0, go_sem]
        · intro hne lo hi ph hran hp1 hp2 a w1 hJ hsz hs      -- 17: slot 33
          obtain ⟨rfl, rfl⟩ : 0 = lo ∧ 0 = hi := Prod.mk.inj (Option.some.inj hran)
          obtain rfl : ph = 0 := by omega
          obtain ⟨h0, _⟩ := hs
          have h0 : a.tmps.getD 32 undef = .pointer (some ⟨b0, o0 + j * 4 + 3, none⟩) := h0
          obtain ⟨k0, k1, k2, k3⟩ := HC.out w1 hJ
          refine op_run rfl rfl (v := .bool t.gone) (w' := w1) ?_ rfl (Below.refl _ _)
          simp [execOp, Act.eval, h0, k3, go_sem]
        · intro hne lo hi ph hran hp1 hp2 a w1 hJ hsz hs      -- 18: slot 34
          obtain ⟨rfl, rfl⟩ : 0 = lo ∧ 0 = hi := Prod.mk.inj (Option.some.inj hran)
          obtain rfl : ph = 0 := by omega
          obtain ⟨h0, _⟩ := hs
          have h0 : a.tmps.getD 33 undef = .bool t.gone := h0
          refine op_call rfl rfl (f := 64) (args := #[.bool t.gone]) (by simp [execOp, Act.eval, resolve, h0, go_sem]) ?_
          exact calls_c ((bit_any t.gone w1).mono fun e w' h => ⟨h.1, h.2 ▸ Below.refl _ _⟩)
        · intro hne lo hi ph hran hp1 hp2 a w1 hJ hsz hs      -- 19: slot 35
          obtain ⟨rfl, rfl⟩ : 0 = lo ∧ 0 = hi := Prod.mk.inj (Option.some.inj hran)
          obtain rfl : ph = 0 := by omega
          obtain ⟨h0, h1, _⟩ := hs
          have m0 : (oV w D2).p w1 (a.tmps.getD 28 undef) := h0; obtain ⟨a0, p0, h0, r0⟩ := ov_row (n := N2) m0 HN2.out
          have h1 : a.tmps.getD 34 undef = .int .i64 (bitN t.gone : Nat) := h1
          refine op_call rfl rfl (f := 26) (args := #[.slice a0 N2 p0, .int .i64 (bitN t.gone : Nat)]) (by simp [execOp, Act.eval, resolve, h0, h1, go_sem]) ?_
          exact ov_of (rvar_any a0 N2 p0 D2 ((bitN t.gone : Nat) : Int) w1 r0 HN2.out (by omega) (by have := bitN_lt t.gone; omega)) (HW.out.trans (hJ.mono HW.out.size)) HD3.out
        · intro hne lo hi ph hran hp1 hp2 a w1 hJ hsz hs      -- 20: slot 36
          obtain ⟨rfl, rfl⟩ : 0 = lo ∧ 0 = hi := Prod.mk.inj (Option.some.inj hran)
          obtain rfl : ph = 0 := by omega
          obtain ⟨h0, _⟩ := hs
          have h0 : a.tmps.getD 1 undef = .slice (some ⟨b0, o0, none⟩) n c := h0
          refine op_run rfl rfl (v := .slice (some ⟨b0, o0, none⟩) n c) (w' := w1) ?_ rfl (Below.refl _ _)
          simp [execOp, Act.eval, h0, go_sem]
        · intro hne lo hi ph hran hp1 hp2 a w1 hJ hsz hs      -- 21: slot 37
          obtain ⟨rfl, rfl⟩ : 0 = lo ∧ 0 = hi := Prod.mk.inj (Option.some.inj hran)
          obtain rfl : ph = 0 := by omega
          obtain ⟨h0, _⟩ := hs
          have h0 : a.tmps.getD 5 undef = .int .i64 (j : Nat) := h0
          refine op_run rfl rfl (v := .int .i64 (j : Nat)) (w' := w1) ?_ rfl (Below.refl _ _)
          simp [execOp, Act.eval, h0, go_sem]
        · intro hne lo hi ph hran hp1 hp2 a w1 hJ hsz hs      -- 22: slot 38
          obtain ⟨rfl, rfl⟩ : 0 = lo ∧ 0 = hi := Prod.mk.inj (Option.some.inj hran)
          obtain rfl : ph = 0 := by omega
          obtain ⟨h0, h1, _⟩ := hs
          have h0 : a.tmps.getD 36 undef = .slice (some ⟨b0, o0, none⟩) n c := h0
          have h1 : a.tmps.getD 37 undef = .int .i64 (j : Nat) := h1
          have k0 : ((j : Nat) : Int) < (n : Int) := by omega
          refine op_run rfl rfl (v := .pointer (some ⟨b0, o0 + j * 4, none⟩)) (w' := w1) ?_ rfl (Below.refl _ _)
          simp [execOp, Act.eval, h0, h1, k0, go_sem]
        · intro hne lo hi ph hran hp1 hp2 a w1 hJ hsz hs      -- 23: slot 39
          obtain ⟨rfl, rfl⟩ : 0 = lo ∧ 0 = hi := Prod.mk.inj (Option.some.inj hran)
          obtain rfl : ph = 0 := by omega
          obtain ⟨h0, _⟩ := hs
          have h0 : a.tmps.getD 38 undef = .pointer (some ⟨b0, o0 + j * 4, none⟩) := h0
          refine op_run rfl rfl (v := .pointer (some ⟨b0, o0 + j * 4 + 1, none⟩)) (w' := w1) ?_ rfl (Below.refl _ _)
          simp [execOp, Act.eval, h0, go_sem]
        · intro hne lo hi ph hran hp1 hp2 a w1 hJ hsz hs      -- 24: slot 40
          obtain ⟨rfl, rfl⟩ : 0 = lo ∧ 0 = hi := Prod.mk.inj (Option.some.inj hran)
          obtain rfl : ph = 0 := by omega
          obtain ⟨h0, _⟩ := hs
          have h0 : a.tmps.getD 39 undef = .pointer (some ⟨b0, o0 + j * 4 + 1, none⟩) := h0
          obtain ⟨k0, k1, k2, k3⟩ := HC.out w1 hJ
          refine op_run rfl rfl (v := .string t.name) (w' := w1) ?_ rfl (Below.refl _ _)
          simp [execOp, Act.eval, h0, k1, go_sem]
        · intro hne lo hi ph hran hp1 hp2 a w1 hJ hsz hs      -- 25: slot 41
          obtain ⟨rfl, rfl⟩ : 0 = lo ∧ 0 = hi := Prod.mk.inj (Option.some.inj hran)
          obtain rfl : ph = 0 := by omega
          obtain ⟨h0, h1, _⟩ := hs
          have m0 : (oV w D3).p w1 (a.tmps.getD 35 undef) := h0; obtain ⟨a0, p0, h0, r0⟩ := ov_row (n := N3) m0 HN3.out
          have h1 : a.tmps.getD 40 undef = .string t.name := h1
          refine op_call rfl rfl (f := 63) (args := #[.slice a0 N3 p0, .string t.name]) (by simp [execOp, Act.eval, resolve, h0, h1, go_sem]) ?_
          exact ov_of (rtext_any a0 N3 p0 D3 t.name w1 r0 HN3.out (by omega) hls) (HW.out.trans (hJ.mono HW.out.size)) HD4.out
        · intro hne lo hi ph hran hp1 hp2 a w1 hJ hsz hs      -- 26: slot 0
          obtain ⟨rfl, rfl⟩ : 0 = lo ∧ 0 = hi := Prod.mk.inj (Option.some.inj hran)
          obtain rfl : ph = 0 := by omega
          obtain ⟨h0, _⟩ := hs
          have m0 : (oV w D4).p w1 (a.tmps.getD 41 undef) := h0
          exact op_run rfl rfl (v := a.tmps.getD 41 undef) (w' := w1) (by simp [execOp, Act.eval, go_sem]) m0 (Below.refl _ _)
      · show ∀ ph, ph < 0 → _
        iterate 0 (refine fls ?_ ?_)
        · exact fl0
      intro f w1 hJ hv
      have e4 : (oV w D4).p w1 (f 0) := hv 26 _ 0 rfl rfl
      clear hv
      try simp only [Exit.then]
      simp only [putAll, List.foldl_cons, List.foldl_nil, Option.getD_some, Act.put, List.setIfInBounds_toArray, List.set_cons_succ, List.set_cons_zero]
      generalize f 0 = v5 at e4 ⊢
      have o6 : Own w w1 v5 D4 := e4
      clear e4 hJ
      -- END A
      rw [HDD.out] at o6
      have HO6 := Lib.hid o6
      clear o6
      go_wp2_with fail
      go_roundw
      case rel => exact ⟨j + 1, by go_num, by omega, HO6⟩
      case measure => simp [intOf]; omega
    · have : j = n := by omega
      subst this
      have HO5 := hO
      rw [headM_all HN.out] at HO5
      clear hO
      go_wp2_with fail
      go_ret
      exact ⟨_, rfl, HO5.out⟩
end Go.Proofs.Ytiahifpbofkimaa
namespace Go.Proofs.Ytiahifpbofkimaa
open Go.RowKit Go.Proofs
set_option linter.unusedVariables false
set_option linter.unusedSimpArgs false
set_option linter.unnecessarySimpa false

/-! ### where marks lie -/
def endN (d : List Mk) (j : Nat) : Nat := (varL d.length).length + (rowM (d.take j)).length
theorem endM_eq (B : List UInt8) (d : List Mk) (j : Nat) : endM B d j = B.length + endN d j := by
  unfold endM headM endN; simp only [List.length_append]; omega
theorem endN_zero (d : List Mk) : endN d 0 = (varL d.length).length := by unfold endN; simp [rowM]
theorem endN_succ {d : List Mk} {j : Nat} {t : Mk} (ht : d[j]? = some t) : endN d (j + 1) = endN d j + (mkL t).length := by
  unfold endN; rw [rowM_snoc ht, List.length_append]; omega
theorem endN_all {d : List Mk} {n : Nat} (h : d.length = n) : endN d n = (marksL d).length := by
  unfold endN marksL; rw [← h, List.take_length, List.length_append]
/-- The bytes from p on are marks that may be read, and whatever. -/
def MkAt (l : List UInt8) (p : Nat) (d : List Mk) : Prop := (∃ x, l.drop p = marksL d ++ x) ∧ d.length ≤ 17 ∧ ∀ t ∈ d, t.In ∧ t.nm.length ≤ 13
theorem MkAt.drop {l : List UInt8} {p : Nat} {d : List Mk} (h : MkAt l p d) (j : Nat) : ∃ x, l.drop (p + endN d j) = rowM (d.drop j) ++ x := by
  obtain ⟨⟨x, hx⟩, _⟩ := h
  refine ⟨x, ?_⟩
  rw [← List.drop_drop, hx]
  have e : marksL d ++ x = (varL d.length ++ rowM (d.take j)) ++ (rowM (d.drop j) ++ x) := by unfold marksL; rw [rowM_split d j]; simp only [List.append_assoc]
  rw [e]
  unfold endN
  rw [← List.length_append, List.drop_left]
theorem MkAt.le {l : List UInt8} {p : Nat} {d : List Mk} (h : MkAt l p d) (hp : p ≤ l.length) : p + (marksL d).length ≤ l.length := by
  obtain ⟨⟨x, hx⟩, _⟩ := h
  have := congrArg List.length hx
  rw [List.length_drop, List.length_append] at this; omega
theorem endN_le (d : List Mk) (j : Nat) : endN d j ≤ (marksL d).length := by
  unfold endN marksL; rw [rowM_split d j]; simp only [List.length_append]; omega
theorem MkAt.first {l : List UInt8} {p : Nat} {d : List Mk} (h : MkAt l p d) (hp : p ≤ l.length) {o q : Int} {z : Bool} (hg : getVA l ((p : Nat) : Int) = (o, q, z)) : o = d.length ∧ q = ((p + endN d 0 : Nat) : Int) ∧ z = true := by
  obtain ⟨⟨x, hx⟩, h2, _⟩ := h
  have := getVA_put (q := p) (d := d.length) (x := rowM d ++ x) hg hp (by rw [hx]; unfold marksL; rw [List.append_assoc]) (by omega)
  rw [endN_zero]
  exact ⟨this.1, by rw [this.2.1]; simp, this.2.2⟩
theorem MkAt.step {l : List UInt8} {p q a1 a2 a3 j : Nat} {d : List Mk} {t : Mk} {o1 o2 o3 : Int} {z1 z2 z3 : Bool} (h : MkAt l p d) (hp : p ≤ l.length) (ht : d[j]? = some t) (hq : q = p + endN d j)
    (h1 : getVA l ((q : Nat) : Int) = (o1, ((a1 : Nat) : Int), z1)) (h2 : getVA l ((a1 : Nat) : Int) = (o2, ((a2 : Nat) : Int), z2)) (h3 : getVA l ((a2 : Nat) : Int) = (o3, ((a3 : Nat) : Int), z3)) :
    o1 = t.id ∧ o2 = t.size ∧ o3 = (bitN t.gone : Nat) ∧ z1 = true ∧ z2 = true ∧ z3 = true ∧ ∀ most : Int, 13 ≤ most → gtA l ((a3 : Nat) : Int) most = some (t.nm, p + endN d (j + 1)) := by
  obtain ⟨x, e1⟩ := h.drop j
  rw [rowM_drop ht, ← hq] at e1
  obtain ⟨hi, hl13⟩ := h.2.2 t (List.mem_of_getElem? ht)
  unfold Mk.In at hi
  have e4 := endN_succ ht
  have e5 := endN_le d (j + 1)
  have e6 := h.le hp
  unfold mkL textL at e1 e4
  simp only [List.append_assoc] at e1
  simp only [List.length_append] at e4
  have g1 := getVA_put h1 (by omega) e1 (by omega)
  have q1 : a1 = q + (varL t.id.toNat).length := by omega
  have e2 : l.drop a1 = varL t.size.toNat ++ (varL (bitN t.gone) ++ (varL t.nm.length ++ (t.nm ++ (rowM (d.drop (j + 1)) ++ x)))) := by
    rw [q1, ← List.drop_drop, e1, List.drop_left]
  have g2 := getVA_put h2 (by omega) e2 (by omega)
  have q2 : a2 = a1 + (varL t.size.toNat).length := by omega
  have e3 : l.drop a2 = varL (bitN t.gone) ++ (varL t.nm.length ++ (t.nm ++ (rowM (d.drop (j + 1)) ++ x))) := by
    rw [q2, ← List.drop_drop, e2, List.drop_left]
  have g3 := getVA_put h3 (by omega) e3 (bitN_lt _)
  have q3 : a3 = a2 + (varL (bitN t.gone)).length := by omega
  have e7 : l.drop a3 = varL t.nm.length ++ (t.nm ++ (rowM (d.drop (j + 1)) ++ x)) := by
    rw [q3, ← List.drop_drop, e3, List.drop_left]
  refine ⟨by omega, by omega, g3.1, g1.2.2, g2.2.2, g3.2.2, fun most hm => ?_⟩
  unfold gtA
  rw [gvA_nat (by omega), e7, getV_varL hi.2.2.2.2]
  simp only [Int.toNat_natCast]
  rw [if_pos (by omega)]
  rw [← List.drop_drop, e7, List.drop_left, List.take_left]
  congr 2
  omega
theorem gotT_any (l : List UInt8) (p most : Int) (hl : l.length ≤ 100000) : ∃ (s : ByteArray) (q : Nat) (z : Bool), GotT (gtA l p most) = .tuple #[.string s, .int .i64 (q : Nat), .bool z] ∧ q ≤ l.length ∧ s.size ≤ 100000 ∧ ∀ t e, gtA l p most = some (t, e) → s.data.toList = t ∧ q = e ∧ z = true := by
  cases hg : gtA l p most with
  | none => exact ⟨⟨#[]⟩, 0, false, rfl, Nat.zero_le _, by simp [ByteArray.size], fun t e h => by cases h⟩
  | some y =>
    obtain ⟨t, e⟩ := y
    refine ⟨⟨t.toArray⟩, e, true, rfl, ?_, ?_, fun t' e' h => by cases h; exact ⟨rfl, rfl, rfl⟩⟩
    · unfold gtA at hg
      split at hg
      · split at hg
        · cases hg; omega
        · cases hg
      · cases hg
    · unfold gtA at hg
      split at hg
      · split at hg
        · cases hg
          simp [ByteArray.size]; omega
        · cases hg
      · cases hg
theorem bit_pos (b : Bool) : decide ((0 : Int) < (bitN b : Nat)) = b := by cases b <;> rfl
theorem three {vs : List Nat} (h : vs.length = 3) : ∃ a b c, vs = [a, b, c] := by
  match vs, h with
  | [a, b, c], _ => exact ⟨a, b, c, rfl⟩
theorem MkAt.nums {l : List UInt8} {p j : Nat} {d : List Mk} {t : Mk} (h : MkAt l p d) (hp : p ≤ l.length) (ht : d[j]? = some t) : ∃ a3, numsA l (p + endN d j) 3 = some ([t.id.toNat, t.size.toNat, bitN t.gone], a3) ∧ ∀ most : Int, 13 ≤ most → gtA l ((a3 : Nat) : Int) most = some (t.nm, p + endN d (j + 1)) := by
  obtain ⟨o1, q1, z1, g1⟩ : ∃ o q z, getVA l ((p + endN d j : Nat) : Int) = (o, q, z) := ⟨_, _, _, rfl⟩
  obtain ⟨a1, rfl, _⟩ := getVA_place g1 (Int.natCast_nonneg _)
  obtain ⟨o2, q2, z2, g2⟩ : ∃ o q z, getVA l ((a1 : Nat) : Int) = (o, q, z) := ⟨_, _, _, rfl⟩
  obtain ⟨a2, rfl, _⟩ := getVA_place g2 (Int.natCast_nonneg _)
  obtain ⟨o3, q3, z3, g3⟩ : ∃ o q z, getVA l ((a2 : Nat) : Int) = (o, q, z) := ⟨_, _, _, rfl⟩
  obtain ⟨a3, rfl, _⟩ := getVA_place g3 (Int.natCast_nonneg _)
  obtain ⟨r1, r2, r3, rfl, rfl, rfl, r4⟩ := h.step hp ht rfl g1 g2 g3
  have n0 : numsA l (p + endN d j) 0 = some ([], p + endN d j) := rfl
  have n1 := numsA_yes n0 g1
  have n2 := numsA_yes n1 g2
  have n3 := numsA_yes n2 g3
  refine ⟨a3, ?_, r4⟩
  rw [n3, r1, r2, r3]
  rfl
/-- What is got of the bytes from p on: marks that lie there are got. -/
def MGot (l : List UInt8) (p : Nat) (w : World) (e : Ending) (w' : World) : Prop :=
  ∃ v q z us, e = .returned (.tuple #[v, .int .i64 (q : Nat), .bool z]) ∧ MOwn w w' v us ∧ us.length ≤ 17 ∧ q ≤ l.length ∧ ∀ d, MkAt l p d → z = true ∧ us = d ∧ q = p + (marksL d).length
theorem mgot_no {l : List UInt8} {p : Nat} {w w' : World} (h : ∀ d, ¬ MkAt l p d) (hb : Below w.heap.size w w') : MGot l p w (.returned (.tuple #[.slice none 0 0, .int .i64 0, .bool false])) w' :=
  ⟨_, 0, false, [], rfl, GOwn.nil' hb, by simp, Nat.zero_le _, fun d hd => absurd hd (h d)⟩
set_option maxRecDepth 100000 in
set_option maxHeartbeats 6400000 in
theorem rgetMarks_any (ad : Option Addr) (n c : Nat) (l : List UInt8) (p : Nat) (w : World) (hr : Row w ad c l) (hn : l.length = n) (hlen : n ≤ 100000) (hp : p ≤ n) :
    Calls Try.prog 76 #[.slice ad n c, .int .i64 (p : Nat)] w (MGot l p w) := by
  have HR := Lib.hid hr
  have HN := Lib.hid hn
  have HPL : Hid (p ≤ l.length) := Lib.hid (by omega)
  obtain ⟨o, q, z, hg⟩ : ∃ o q z, getVA l ((p : Nat) : Int) = (o, q, z) := ⟨_, _, _, rfl⟩
  have hpl := getVA_place hg (Int.natCast_nonneg _)
  obtain ⟨a, rfl, ha⟩ := hpl
  have ho := getVA_nat hg
  have HF : Hid (∀ d, MkAt l p d → o = d.length ∧ a = p + endN d 0 ∧ z = true) := Lib.hid (fun d hd => by
    have := hd.first HPL.out hg
    exact ⟨this.1, by omega, this.2.2⟩)
  have HK := Lib.hid (rgetvar_any ad n c l ((p : Nat) : Int) w hr hn hlen (by omega) (by omega))
  rw [hg] at HK
  simp only [Got3] at HK
  have HA : Hid (a ≤ l.length) := Lib.hid ha
  clear hr hn hg ha
  cases z with
  | false =>
    have HG : Hid (∀ d, ¬ MkAt l p d) := Lib.hid (fun d hd => by have := (HF.out d hd).2.2; cases this)
    go_enter Try.func76, Try.ntmps76
    go_wp2_with fail
    refine HK.out.mono ?_
    rintro e w1 ⟨rfl, rfl⟩
    go_wp2_with fail
    go_returns
    exact mgot_no HG.out (Below.refl _ _)
  | true =>
    by_cases h4 : 17 < o
    · have HG : Hid (∀ d, ¬ MkAt l p d) := Lib.hid (fun d hd => by have h1 := (HF.out d hd).1; have := hd.2.1; omega)
      go_enter Try.func76, Try.ntmps76
      go_wp2_with fail
      refine HK.out.mono ?_
      rintro e w1 ⟨rfl, rfl⟩
      go_wp2_with fail
      go_returns
      exact mgot_no HG.out (Below.refl _ _)
    · obtain ⟨N, hN⟩ : ∃ N : Nat, o = N := ⟨o.toNat, by omega⟩
      subst hN
      have hN4 : N ≤ 17 := by omega
      have HFN : Hid (∀ d, MkAt l p d → N = d.length) := Lib.hid (fun d hd => by have := (HF.out d hd).1; omega)
      have HFA : Hid (∀ d, MkAt l p d → a = p + endN d 0) := Lib.hid (fun d hd => (HF.out d hd).2.1)
      clear HF h4 ho
      go_enter Try.func76, Try.ntmps76
      go_wp2_with fail
      refine HK.out.mono ?_
      rintro e w1 ⟨rfl, rfl⟩
      clear HK
      go_wp2_with fail
      go_loopw [1, 9, 10, 11, 12, 13, 14, 15, 16] (fun at' v i _ _ _ _ _ _ wr => ∃ (j q : Nat) (us : List Mk), i = .int .i64 j ∧ at' = .int .i64 (q : Nat) ∧ j ≤ N ∧ Hid (q ≤ l.length) ∧ Hid (us.length = j) ∧ Hid (MOwn w wr v us) ∧ Hid (∀ d, MkAt l p d → us = d.take j ∧ q = p + endN d j)) (fun _ _ i _ _ _ _ _ _ _ => N - (intOf i).toNat)
      case atStart => exact ⟨0, a, [], rfl, rfl, by omega, HA, Lib.hid rfl, Lib.hid (GOwn.nil _ w), Lib.hid (fun d hd => ⟨rfl, HFA.out d hd⟩)⟩
      case round =>
        obtain ⟨j, q, us, rfl, rfl, hj, hq, hul, hO, hU⟩ := hrel
        by_cases hjn : (j : Int) < N
        · have HNM := Lib.hid (numbersK_any ad n c l q 3 wr (HR.out.later hO.out.below) HN.out hlen (by have := hq.out; have := HN.out; omega) (by decide) 3 rfl)
          have HCH : Hid (∀ d, MkAt l p d → ∃ t' a3, d[j]? = some t' ∧ numsA l q 3 = some ([t'.id.toNat, t'.size.toNat, bitN t'.gone], a3) ∧ gtA l ((a3 : Nat) : Int) 20 = some (t'.nm, p + endN d (j + 1))) := Lib.hid (fun d hd => by
            have h1 := HFN.out d hd
            have ht : d[j]? = some (d[j]'(by omega)) := List.getElem?_eq_getElem (by omega)
            obtain ⟨a3, h2, h3⟩ := hd.nums HPL.out ht
            rw [← (hU.out d hd).2] at h2
            exact ⟨_, a3, ht, h2, h3 20 (by decide)⟩)
          go_wp2_with fail
          refine HNM.out.mono ?_
          rintro e w2 (⟨v2, vs, q2, hA2, rfl, o2, hvl, hq2, hz⟩ | ⟨hA2, rfl, hb2⟩)
          · obtain ⟨x0, x1, x2, rfl⟩ := three hvl
            obtain ⟨a2, c2, rfl, hc4, hcell⟩ := o2.row_n hvl
            obtain ⟨g, rfl, y0⟩ := hcell 0 x0 rfl
            obtain ⟨_, e1, y1⟩ := hcell 1 x1 rfl
            cases e1
            obtain ⟨_, e1, y2⟩ := hcell 2 x2 rfl
            cases e1
            have hb0 := hz x0 (by simp)
            have hb1 := hz x1 (by simp)
            have HB2 := Lib.hid (hO.out.below.trans (o2.2.mono hO.out.below.size))
            by_cases hx2 : 1 < x2
            · have HG : Hid (∀ d, ¬ MkAt l p d) := Lib.hid (fun d hd => by
                obtain ⟨t', a3, _, hx, _⟩ := HCH.out d hd
                rw [hA2] at hx
                simp only [Option.some.injEq, Prod.mk.injEq, List.cons.injEq, and_true] at hx
                have := hx.1.2.2
                cases h : t'.gone <;> rw [h] at this <;> simp [bitN] at this <;> omega)
              clear hA2 hvl hq2 hz hcell o2 hO hb0 hb1 HNM
              go_wp2_with fail
              go_returns
              exact mgot_no HG.out HB2.out
            · obtain ⟨b, hb⟩ : ∃ b, (((x2 : Nat) : Int) == 1) = b := ⟨_, rfl⟩
              have HXB : Hid (x2 = bitN b) := Lib.hid (by
                rcases (show x2 = 0 ∨ x2 = 1 by omega) with h | h
                · subst h; rw [← hb]; rfl
                · subst h; rw [← hb]; rfl)
              obtain ⟨s, qe, zt, hgt, hqe, hss, hgs⟩ := gotT_any l ((q2 : Nat) : Int) 20 (by have := HN.out; omega)
              have HGT := Lib.hid (rgettext_any ad n c l ((q2 : Nat) : Int) 20 w2 (HR.out.later HB2.out) HN.out hlen (by omega) (by have := HN.out; omega))
              rw [hgt] at HGT
              have HQE : Hid (qe ≤ l.length) := Lib.hid hqe
              have HGS : Hid (∀ d, MkAt l p d → ∃ t', d[j]? = some t' ∧ t'.id = (x0 : Nat) ∧ t'.name = s ∧ t'.size = (x1 : Nat) ∧ t'.gone = b ∧ qe = p + endN d (j + 1) ∧ zt = true) := Lib.hid (fun d hd => by
                obtain ⟨t', a3, ht, hx, hgx⟩ := HCH.out d hd
                rw [hA2] at hx
                simp only [Option.some.injEq, Prod.mk.injEq, List.cons.injEq, and_true] at hx
                obtain ⟨⟨e0, e1, e2⟩, rfl⟩ := hx
                have hi := (hd.2.2 t' (List.mem_of_getElem? ht)).1
                unfold Mk.In at hi
                obtain ⟨s1, s2, s3⟩ := hgs _ _ hgx
                exact ⟨t', ht, by omega, (bytes_ext s1).symm, by omega, (bitN_inj (HXB.out.symm.trans e2)).symm, s2, s3⟩)
              have HTB : Hid (Mk.B ⟨(x0 : Nat), s, (x1 : Nat), b⟩) := Lib.hid (by unfold Mk.B W64; simp only; omega)
              have HO2 := Lib.hid (hO.out.later o2.2)
              have HU2 : Hid (∀ d, MkAt l p d → us ++ [⟨(x0 : Nat), s, (x1 : Nat), b⟩] = d.take (j + 1) ∧ qe = p + endN d (j + 1)) := Lib.hid (fun d hd => by
                obtain ⟨t', ht, e0, e1, e2, e3, e4, _⟩ := HGS.out d hd
                obtain ⟨h, rfl⟩ := List.getElem?_eq_some_iff.1 ht
                refine ⟨?_, e4⟩
                rw [List.take_succ_eq_append_getElem h, (hU.out d hd).1, ← e0, ← e1, ← e2, ← e3])
              have HUL : Hid ((us ++ [(⟨(x0 : Nat), s, (x1 : Nat), b⟩ : Mk)]).length = j + 1) := Lib.hid (by rw [List.length_append, hul.out]; rfl)
              have HGB : Hid (wr.heap.size ≤ g) := Lib.hid (World.ownsRow.lt o2.1 g rfl).1
              have HNE : Hid (∀ v, MOwn w wr v us → some g ≠ v.ownBlock) := Lib.hid (fun v h e => by
                have := (World.ownsRow.lt h.1 g e.symm).2; have := HGB.out; omega)
              have HY : Hid (∀ W, Below w2.heap.size w2 W → W.cell? ⟨g, 0, none⟩ = some (.int .i64 (x0 : Nat)) ∧ W.cell? ⟨g, 1, none⟩ = some (.int .i64 (x1 : Nat)) ∧ W.cell? ⟨g, 2, none⟩ = some (.int .i64 (x2 : Nat))) := by
                have z0 := y0; have z1 := y1; have z2 := y2
                exact Lib.hid (fun W h => ⟨(Below.cell h (World.block_lt_of_cell? _ _ z0)).trans z0, (Below.cell h (World.block_lt_of_cell? _ _ z1)).trans z1, (Below.cell h (World.block_lt_of_cell? _ _ z2)).trans z2⟩)
              have HNV := Lib.hid (HNE.out _ hO.out)
              have HLT : Hid (us.length + [(⟨(x0 : Nat), s, (x1 : Nat), b⟩ : Mk)].length ≤ 1000000) := Lib.hid (by rw [hul.out]; simp; omega)
              clear hA2 hvl hq2 hz hcell o2 hO hb0 hb1 HNM HNE hgt hqe hss hgs
              go_wp2_with fail
              refine HGT.out.mono ?_
              rintro e w3 ⟨rfl, rfl⟩
              cases zt with
              | false =>
                have HG : Hid (∀ d, ¬ MkAt l p d) := Lib.hid (fun d hd => by obtain ⟨t', _, _, _, _, _, _, h⟩ := HGS.out d hd; cases h)
                clear HY y0 y1 y2
                go_wp2_with fail
                go_returns
                exact mgot_no HG.out HB2.out
              | true =>
                go_upto_region 14 with fail
                go_region_held3 (fun w' => w'.cell? ⟨g, 0, none⟩ = some (.int .i64 (x0 : Nat)) ∧ w'.cell? ⟨g, 1, none⟩ = some (.int .i64 (x1 : Nat)) ∧ w'.cell? ⟨g, 2, none⟩ = some (.int .i64 (x2 : Nat))) (first | go_keep | exact ⟨g4.cell (HY.out _ ((below_drewN w2 _).alloc (by simp) _)).1 HNV.out, g4.cell (HY.out _ ((below_drewN w2 _).alloc (by simp) _)).2.1 HNV.out, g4.cell (HY.out _ ((below_drewN w2 _).alloc (by simp) _)).2.2 HNV.out⟩)
                  ((refine step_gapp mkOk (by rfl) _ _ (by rfl) rfl _ us (by rfl) w (HO2.out.later ((below_drewN w2 _).alloc (Nat.le_refl _) _)) _ _ _ [(⟨(x0 : Nat), s, (x1 : Nat), b⟩ : Mk)] (grow_new mkOk (w2.drewN _) HTB.out rfl _) rfl (by rfl) HLT.out ?_; intro v4 w4 o4 g4 h4))
                clear HY y0 y1 y2
                have HO4 := Lib.hid o4
                clear o4 g4 h4
                go_wp2_with fail
                go_roundw
                case rel => exact ⟨j + 1, qe, _, by go_num, rfl, by omega, HQE, HUL, HO4, HU2⟩
                case measure => simp [intOf]; omega
          · have HG : Hid (∀ d, ¬ MkAt l p d) := Lib.hid (fun d hd => by
              obtain ⟨t', a3, _, hx, _⟩ := HCH.out d hd
              rw [hA2] at hx; cases hx)
            have HB2 := Lib.hid (hO.out.below.trans (hb2.mono hO.out.below.size))
            clear hA2 hb2
            go_wp2_with fail
            go_returns
            exact mgot_no HG.out HB2.out
        · have : j = N := by omega
          subst this
          go_wp2_with fail
          go_returns
          exact ⟨_, q, true, us, rfl, hO.out, by have := hul.out; omega, hq.out, fun d hd => ⟨rfl, by rw [(hU.out d hd).1, HFN.out d hd, List.take_length], by rw [(hU.out d hd).2, endN_all (HFN.out d hd).symm]⟩⟩
end Go.Proofs.Ytiahifpbofkimaa
namespace Go.Proofs.Ytiahifpbofkimaa
open Go.RowKit Go.Proofs
set_option linter.unusedVariables false
set_option linter.unusedSimpArgs false
set_option linter.unnecessarySimpa false

theorem GOwn.keptBy {α : Type} {R : RT α} {W0 w w' : World} {v : Value} {ts : List α} {g : Option Nat} (h : GOwn R W0 w v ts) (hg : w.grownBy w' g) (hne : v.ownBlock = none ∨ v.ownBlock ≠ g) (hge : ∀ k, g = some k → W0.heap.size ≤ k) : GOwn R W0 w' v ts :=
  ⟨h.1.kept hg hne, h.2.1.grown hg h.2.1.size hge, h.2.2⟩
theorem RecAt.grown {w w' : World} {x : Nat} {cs : Array Value} {t : TypeId} {row : Option Nat} (h : RecAt w x cs t) (hg : w.grownBy w' row) (hne : some x ≠ row) : RecAt w' x cs t := by
  have hl := h.lt
  unfold RecAt at *
  rw [← h]
  exact hg.block x hl hne
theorem GOwn.besides {α : Type} {R : RT α} {W0 w : World} {v : Value} {ts : List α} (h : GOwn R W0 w v ts) {g : Nat} (hg : W0.heap.size ≤ g) (hne : v.ownBlock ≠ some g) (j : Nat) (u : Value) : GOwn R W0 (w.setCell ⟨g, j, none⟩ u) v ts :=
  ⟨Go.ownsRow_setCell_other h.1 hne u, h.2.1.setCell (by simpa using hg) u, h.2.2⟩
theorem RecAt.c1 {w : World} {x : Nat} {a : Value} {t : TypeId} (h : RecAt w x #[a] t) : w.cell? ⟨x, 0, none⟩ = some a := h.cell rfl
theorem run_ixp3 (W : World) (a b c : Option Addr) (k : Nat) (v : Option Addr) (h : [a, b, c][k]? = some v) : (Instr.index 112 (.agg #[.pointer a, .pointer b, .pointer c]) (.int .i64 (k : Nat))).run Try.prog W = .ok (.pointer v) W := by
  have u3 := Try.underlying90
  have a3 := Try.isAgg90
  have z3 := Try.sizeOf90
  match k, h with
  | 0, h => simp at h; subst h; simp [Instr.index, asIntOf, run_underlying Try.underlying112, go_sem, a3, z3]
  | 1, h => simp at h; subst h; simp [Instr.index, asIntOf, run_underlying Try.underlying112, go_sem, a3, z3]
  | 2, h => simp at h; subst h; simp [Instr.index, asIntOf, run_underlying Try.underlying112, go_sem, a3, z3]
  | k + 3, h => simp at h
def LayM (w : World) (P8 P9 : Nat) (xs : List Int) : Prop := ∃ x0 x1 x2, xs = [x0, x1, x2] ∧ RecAt w P8 #[.int .i64 x0, .string ⟨#[]⟩, .int .i64 x1, .bool false] 46 ∧ RecAt w P9 #[.int .i64 x2] 3
theorem LayM.at {w : World} {P8 P9 : Nat} {xs : List Int} (h : LayM w P8 P9 xs) (hne : P8 ≠ P9) {j : Nat} (hj : j < 3) : ∃ X K v, (X = P8 ∨ X = P9) ∧ [(some ⟨P8, 0, none⟩ : Option Addr), some ⟨P8, 2, none⟩, some ⟨P9, 0, none⟩][j]? = some (some ⟨X, K, none⟩) ∧ w.cell? ⟨X, K, none⟩ = some (.int .i64 v) ∧ w.frozen? ⟨X, K, none⟩ = false ∧ ∀ o, LayM (w.setCell ⟨X, K, none⟩ (.int .i64 o)) P8 P9 (xs.set j o) := by
  obtain ⟨x0, x1, x2, rfl, h3, h4⟩ := h
  match j, hj with
  | 0, _ => exact ⟨P8, 0, x0, .inl rfl, rfl, h3.cell rfl, h3.frozen 0, fun o => ⟨o, x1, x2, rfl, h3.set 0 (.int .i64 o), h4.other (Ne.symm hne) 0 _⟩⟩
  | 1, _ => exact ⟨P8, 2, x1, .inl rfl, rfl, h3.cell rfl, h3.frozen 2, fun o => ⟨x0, o, x2, rfl, h3.set 2 (.int .i64 o), h4.other (Ne.symm hne) 2 _⟩⟩
  | 2, _ => exact ⟨P9, 0, x2, .inr rfl, rfl, h4.cell rfl, h4.frozen 0, fun o => ⟨x0, x1, o, rfl, h3.other hne 0 _, h4.set 0 (.int .i64 o)⟩⟩
theorem take_set_succ : ∀ (xs : List Int) (j : Nat) (o : Int), j < xs.length → (xs.set j o).take (j + 1) = xs.take j ++ [o]
  | [], j, o, h => by simp at h
  | x :: xs, 0, o, h => by simp
  | x :: xs, j + 1, o, h => by
    rw [List.set_cons_succ, List.take_succ_cons, List.take_succ_cons, List.cons_append, take_set_succ xs j o (by simpa using h)]
def varsN (l : List UInt8) (p : Nat) : Nat → Nat × List Int
  | 0 => (p, [])
  | k + 1 => match getVA l (((varsN l p k).1 : Nat) : Int) with | (o, q, _) => (q.toNat, (varsN l p k).2 ++ [o])
/-- What is known when j of a mark's numbers are read, up to a. -/
def Read3 (l : List UInt8) (p j a : Nat) (xs : List Int) : Prop := (∀ x ∈ xs, 0 ≤ x ∧ x < 9223372036854775808) ∧ xs.length = 3 ∧ varsN l p j = (a, xs.take j) ∧ a ≤ l.length
theorem Read3.step {l : List UInt8} {p j a a' : Nat} {xs : List Int} {o : Int} {z : Bool} (h : Read3 l p j a xs) (hj : j < 3) (hg : getVA l ((a : Nat) : Int) = (o, ((a' : Nat) : Int), z)) : Read3 l p (j + 1) a' (xs.set j o) := by
  refine ⟨fun x hx => ?_, by rw [List.length_set]; exact h.2.1, ?_, ?_⟩
  · rcases List.mem_or_eq_of_mem_set hx with hx | rfl
    · exact h.1 x hx
    · exact getVA_nat hg
  · rw [varsN, h.2.2.1]
    simp only [hg, Int.toNat_natCast, Prod.mk.injEq, true_and]
    exact (take_set_succ xs j o (by rw [h.2.1]; exact hj)).symm
  · obtain ⟨q, hq, hq2⟩ := getVA_place hg (Int.natCast_nonneg _)
    omega
theorem varsN_three {l : List UInt8} {p a : Nat} {xs : List Int} (h : varsN l p 3 = (a, xs)) : ∃ o1 o2 o3 a1 a2 z1 z2 z3, xs = [o1, o2, o3] ∧ getVA l ((p : Nat) : Int) = (o1, ((a1 : Nat) : Int), z1) ∧ getVA l ((a1 : Nat) : Int) = (o2, ((a2 : Nat) : Int), z2) ∧ getVA l ((a2 : Nat) : Int) = (o3, ((a : Nat) : Int), z3) := by
  obtain ⟨o1, q1, z1, g1⟩ : ∃ o q z, getVA l ((p : Nat) : Int) = (o, q, z) := ⟨_, _, _, rfl⟩
  obtain ⟨a1, rfl, _⟩ := getVA_place g1 (Int.natCast_nonneg _)
  obtain ⟨o2, q2, z2, g2⟩ : ∃ o q z, getVA l ((a1 : Nat) : Int) = (o, q, z) := ⟨_, _, _, rfl⟩
  obtain ⟨a2, rfl, _⟩ := getVA_place g2 (Int.natCast_nonneg _)
  obtain ⟨o3, q3, z3, g3⟩ : ∃ o q z, getVA l ((a2 : Nat) : Int) = (o, q, z) := ⟨_, _, _, rfl⟩
  obtain ⟨a3, rfl, _⟩ := getVA_place g3 (Int.natCast_nonneg _)
  simp only [varsN, g1, g2, g3, Int.toNat_natCast, List.nil_append, List.cons_append, Prod.mk.injEq] at h
  obtain ⟨rfl, rfl⟩ := h
  exact ⟨o1, o2, o3, a1, a2, z1, z2, z3, rfl, g1, g2, g3⟩
end Go.Proofs.Ytiahifpbofkimaa
