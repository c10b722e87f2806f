/- Messages: what is put: the document's own. -/
import Derived.Test.YtiahifpbofkimaaMsH
import Derived.Test.YtiahifpbofkimaaGM
import Derived.Test.YtiahifpbofkimaaCrc
namespace Go.Proofs.Ytiahifpbofkimaa
open Go.RowKit Go.Proofs
set_option linter.unusedVariables false
set_option linter.unusedSimpArgs false
set_option linter.unnecessarySimpa false

theorem own_u8r {W0 w : World} {k : Int} (hk : 0 ≤ k ∧ k ≤ 255) (h : Below W0.heap.size W0 w) : Own W0 (w.alloc (.cells #[.int .u8 k] 5)) (.slice (some ⟨w.heap.size, 0, none⟩) 1 1) [UInt8.ofNat k.toNat] := by
  have e : k = ((UInt8.ofNat k.toNat).toNat : Nat) := by rw [UInt8.toNat_ofNat']; omega
  conv => lhs
  rw [show (Value.int .u8 k) = .int .u8 ((UInt8.ofNat k.toNat).toNat : Nat) by rw [← e]]
  exact ⟨⟨rfl, .inr ⟨w.heap.size, 1, _, rfl, h.size, heap_alloc_new w _, Nat.le_refl _, by simp [maxLen], rfl, rfl⟩⟩, h.alloc h.size _⟩
theorem ov_u8 {W0 w : World} {k : Int} {D : List UInt8} (hD : [UInt8.ofNat k.toNat] = D) (hk : 0 ≤ k ∧ k ≤ 255) (h : Below W0.heap.size W0 w) : (oV W0 D).p (w.alloc (.cells #[.int .u8 k] 5)) (.slice (some ⟨w.heap.size, 0, none⟩) 1 1) := by
  subst hD; exact own_u8r hk h
theorem rseal_own {W0 W : World} {a : Option Addr} {n c : Nat} {l : List UInt8} (ho : Own W0 W (.slice a n c) l) (hn : l.length = n) (hlen : n ≤ 100000) : Calls Try.prog 9 #[.slice a n c] W fun e w' => ∃ v, e = .returned v ∧ Own W0 w' v (sealL l) := by
  obtain ⟨a', c', e, r⟩ := ho.row_n hn
  cases e
  exact (rseal_any a n c l W r hn hlen).mono fun e w' ⟨v, h1, h2⟩ => ⟨v, h1, h2.back ho.below⟩
def RPutP (m : Ms) (w : World) (e : Ending) (w' : World) : Prop := ∃ v, e = .returned (.tuple #[v, .int .i64 (putMs m).2]) ∧ Own w w' v (putMs m).1
theorem data_nil {m : Ms} (h : MsOk m) (hk : m.kind ≠ 6) : m.data = [] := Classical.byContradiction fun h3 => hk (h.2.1.2.2.2.2.2.2.2 h3)
set_option maxRecDepth 100000 in
set_option maxHeartbeats 12800000 in
theorem msrput_any (m : Ms) (p : MsAt) (w : World) (h : MsRows w m p) : Calls Try.prog 11 #[msV m p] w (RPutP m w) := by
  have HB0 := Lib.hid ((Below.refl w.heap.size w).alloc (Nat.le_refl _) (.cells (msC m p) 27))
  have HX0 := Lib.hid (RecAt.new w (msC m p) 27)
  have hx := HX0.out.c10
  have HH := Lib.hid (h.later HB0.out)
  obtain ⟨w1, hw1⟩ : ∃ W, w.alloc (.cells (msC m p) 27) = W := ⟨_, rfl⟩
  rw [hw1] at HB0 HX0 HH
  have HRT := Lib.hid (msrright_any m p w1 HH.out)
  obtain ⟨P, hP⟩ : ∃ P, RPutP m w = P := ⟨_, rfl⟩
  rw [hP]
  cases hr : rightMs m with
  | false =>
    rw [hr] at HRT
    have HP : Hid (∀ w', Below w.heap.size w w' → P (.returned (.tuple #[.slice none 0 0, .int .i64 1])) w') := Lib.hid (fun w' hb => by rw [← hP]; unfold RPutP; rw [putMs_no hr]; exact ⟨_, rfl, World.ownsRow_nil _ _ _ _, hb⟩)
    clear hP h HH
    obtain ⟨k, n, o, f, s, u, C, E, T, D⟩ := m
    obtain ⟨ac, nc, cc, ae, ne, ce, am, nm, cm, ad, nd, cd⟩ := p
    simp only [msC] at hw1 hx
    go_enter Try.func11, Try.ntmps11
    go_upto_region 1 with fail
    try rw [hw1]
    rw [hw1] at hx
    clear hw1
    obtain ⟨X, hX⟩ : ∃ X, w.heap.size = X := ⟨_, rfl⟩
    rw [hX]
    rw [hX] at HX0 hx
    clear hX
    obtain ⟨x0, x1, x2, x3, x4, x5, x6, x7, x8, x9⟩ := hx
    go_wp2_with (go_at_call 16; refine HRT.out.mono ?_; rintro e w2 ⟨rfl, hb2⟩; have HB2 := Lib.hid (HB0.out.trans (hb2.mono HB0.out.size)); clear hb2)
    try go_ret2
    exact HP.out _ HB2.out
  | true =>
    rw [hr] at HRT
    have HOK := Lib.hid (rightMs_iff.1 hr)
    have HP : Hid (∀ v w', Own w w' v (sealL (bodyMs m)) → P (.returned (.tuple #[v, .int .i64 0])) w') := Lib.hid (fun v w' ho => by rw [← hP]; unfold RPutP; rw [putMs_yes hr]; exact ⟨_, rfl, ho⟩)
    have HBL := Lib.hid (bodyMs_len HOK.out).2
    have HN1 := HOK.out.1
    have HBO : Hid (bodyMs m = frontM m ++ tailM m) := Lib.hid rfl
    have HFO : Hid (frontM m = [UInt8.ofNat m.kind.toNat] ++ numsM m) := Lib.hid rfl
    have HNL := Lib.hid (numsM_len HN1)
    have HT2 := Lib.hid (tailM_2 (m := m))
    have HT4 := Lib.hid (tailM_4 (m := m))
    have HT6 := Lib.hid (tailM_6 (m := m))
    have HTX := Lib.hid (tailM_x (m := m))
    have HO2 := Lib.hid HOK.out.2.2.1
    have HO4 := Lib.hid HOK.out.2.2.2.1
    have HDN := Lib.hid (data_nil HOK.out)
    obtain ⟨BM, hBM⟩ : ∃ F, bodyMs m = F := ⟨_, rfl⟩
    obtain ⟨TM, hTM⟩ : ∃ F, tailM m = F := ⟨_, rfl⟩
    rw [hBM] at HBO HBL HP
    rw [hTM] at HBO HT2 HT4 HT6 HTX
    unfold NumsM at HN1
    clear hP h hr hBM hTM HOK
    obtain ⟨k, n, o, f, s, u, C, E, T, D⟩ := m
    obtain ⟨ac, nc, cc, ae, ne, ce, am, nm, cm, ad, nd, cd⟩ := p
    simp only [msC] at hw1 hx HN1 HFO HT2 HT4 HT6 HTX HO2 HO4 HDN
    obtain ⟨⟨k1, k2⟩, ⟨k3, k4⟩, ⟨k5, k6⟩, ⟨k7, k8⟩, ⟨k9, k10⟩, k11, k12⟩ := HN1
    obtain ⟨HC, HE, HM, HD, hnc, hne, hnm, hnd⟩ := HH.out
    simp only at HC HE HM HD hnc hne hnm hnd
    have HHC := Lib.hid HC
    have HHE := Lib.hid HE
    have HHM := Lib.hid HM
    have HHD := Lib.hid HD
    have HNC := Lib.hid hnc
    have HNE := Lib.hid hne
    have HNM := Lib.hid hnm
    have HND := Lib.hid hnd
    clear HC HE HM HD hnc hne hnm hnd HH
    go_enter Try.func11, Try.ntmps11
    go_upto_region 1 with fail
    try rw [hw1]
    rw [hw1] at hx
    clear hw1
    obtain ⟨X, hX⟩ : ∃ X, w.heap.size = X := ⟨_, rfl⟩
    rw [hX]
    rw [hX] at HX0 hx
    clear hX
    obtain ⟨x0, x1, x2, x3, x4, x5, x6, x7, x8, x9⟩ := hx
    go_upto_region 3 with (go_at_call 16; refine HRT.out.mono ?_; rintro e wx ⟨rfl, hb2⟩; have HW := Lib.hid (HB0.out.trans (hb2.mono HB0.out.size)); have HB1x := Lib.hid hb2; have HXw := Lib.hid (HX0.out.later hb2); clear hb2)
    clear x0 x1 x2 x3 x4 x5 x6 x7 x8 x9
    have hk8 : k % 256 = k := by omega
    have hw8 : IntKind.u8.wrap k = k := by rw [show IntKind.u8.wrap k = k % 256 from rfl]; exact hk8
    have ub0 := Try.underlying5
    have ub1 := Try.sizeOf5
    have ub2 := Try.underlying25
    obtain ⟨E0, hE0⟩ : ∃ D, [UInt8.ofNat k.toNat] = D := ⟨_, rfl⟩
    obtain ⟨E1, hE1⟩ : ∃ D, E0 ++ varL n.toNat = D := ⟨_, rfl⟩
    obtain ⟨E2, hE2⟩ : ∃ D, E1 ++ varL o.toNat = D := ⟨_, rfl⟩
    obtain ⟨E3, hE3⟩ : ∃ D, E2 ++ varL f.toNat = D := ⟨_, rfl⟩
    obtain ⟨E4, hE4⟩ : ∃ D, E3 ++ varL s.toNat = D := ⟨_, rfl⟩
    obtain ⟨E5, hE5⟩ : ∃ D, E4 ++ varL u.toNat = D := ⟨_, rfl⟩
    obtain ⟨N0, hN0⟩ : ∃ N, E0.length = N := ⟨_, rfl⟩
    obtain ⟨N1, hN1⟩ : ∃ N, E1.length = N := ⟨_, rfl⟩
    obtain ⟨N2, hN2⟩ : ∃ N, E2.length = N := ⟨_, rfl⟩
    obtain ⟨N3, hN3⟩ : ∃ N, E3.length = N := ⟨_, rfl⟩
    obtain ⟨N4, hN4⟩ : ∃ N, E4.length = N := ⟨_, rfl⟩
    obtain ⟨N5, hN5⟩ : ∃ N, E5.length = N := ⟨_, rfl⟩
    have HDD : Hid (E5 = frontM ⟨k, n, o, f, s, u, C, E, T, D⟩) := Lib.hid (by rw [HFO.out, ← hE5, ← hE4, ← hE3, ← hE2, ← hE1, ← hE0]; unfold numsM; simp only [List.append_assoc])
    have hl5 : N5 ≤ 22 := by have := HNL.out; have h2 := congrArg List.length HDD.out; rw [HFO.out, List.length_append, hN5] at h2; simp only [List.length_cons, List.length_nil] at h2; omega
    have hl4 : N4 ≤ 22 := by rw [← hE5, List.length_append] at hN5; omega
    have hl3 : N3 ≤ 22 := by rw [← hE4, List.length_append] at hN4; omega
    have hl2 : N2 ≤ 22 := by rw [← hE3, List.length_append] at hN3; omega
    have hl1 : N1 ≤ 22 := by rw [← hE2, List.length_append] at hN2; omega
    have hl0 : N0 ≤ 22 := by rw [← hE1, List.length_append] at hN1; omega
    have HE0 := Lib.hid hE0
    have HE1 := Lib.hid hE1
    have HE2 := Lib.hid hE2
    have HE3 := Lib.hid hE3
    have HE4 := Lib.hid hE4
    have HE5 := Lib.hid hE5
    have HN0 := Lib.hid hN0
    have HN1 := Lib.hid hN1
    have HN2 := Lib.hid hN2
    have HN3 := Lib.hid hN3
    have HN4 := Lib.hid hN4
    have HN5 := Lib.hid hN5
    rw [← HDD.out] at HBO
    clear hE0 hE1 hE2 hE3 hE4 hE5 hN0 hN1 hN2 hN3 hN4 hN5
    -- REG A
    refine wp_region_ptab (L := fun ph => match ph with | _ => [cV (.pointer (some ⟨X, 0, none⟩)), cV (.int .i64 k), cV (.int .u8 k), oV w E0, cV (.pointer (some ⟨X, 1, none⟩)), cV (.int .i64 n), oV w E1, cV (.pointer (some ⟨X, 2, none⟩)), cV (.int .i64 o), oV w E2, cV (.pointer (some ⟨X, 3, none⟩)), cV (.int .i64 f), oV w E3, cV (.pointer (some ⟨X, 4, none⟩)), cV (.int .i64 s), oV w E4, cV (.pointer (some ⟨X, 5, none⟩)), cV (.int .i64 u), oV w E5, oV w E5]) (fun _ wq => Below wx.heap.size wx wq) [] [(0, 0), (0, 0), (0, 0), (0, 0), (0, 0), (0, 0), (0, 0), (0, 0), (0, 0), (0, 0), (0, 0), (0, 0), (0, 0), (0, 0), (0, 0), (0, 0), (0, 0), (0, 0), (0, 0), (0, 0)] [[(1, none)], [(13, some 0)], [(14, some 1)], [(15, some 2)], [(1, none)], [(17, some 4)], [(16, some 3), (18, some 5)], [(1, none)], [(20, some 7)], [(19, some 6), (21, some 8)], [(1, none)], [(23, some 10)], [(22, some 9), (24, some 11)], [(1, none)], [(26, some 13)], [(25, some 12), (27, some 14)], [(1, none)], [(29, some 16)], [(28, some 15), (30, some 17)], [(31, some 18)]] 20 0 91 (by kernel_rfl) rfl rfl rfl (by kernel_rfl) (by kernel_rfl) (by decide) (by kernel_rfl) ?_ ?_ ?_ ?_ ?_
    · exact fun ph w1 w2 h hb => h.trans (hb.mono h.size)
    · exact Below.refl _ _
    · show ∀ i, i < 20 → _
      iterate 20 (refine fls ?_ ?_)
      · exact fl0
      · intro hne lo hi ph hran hp1 hp2 a w1 hJ hsz hs      -- 0: slot 13
        obtain ⟨rfl, rfl⟩ : 0 = lo ∧ 0 = hi := Prod.mk.inj (Option.some.inj hran)
        obtain rfl : ph = 0 := by omega
        obtain ⟨h0, _⟩ := hs
        have h0 : a.tmps.getD 1 undef = .pointer (some ⟨X, 0, none⟩) := h0
        refine op_run rfl rfl (v := .pointer (some ⟨X, 0, none⟩)) (w' := w1) ?_ rfl (Below.refl _ _)
        simp [execOp, Act.eval, h0, go_sem]
      · intro hne lo hi ph hran hp1 hp2 a w1 hJ hsz hs      -- 1: slot 14
        obtain ⟨rfl, rfl⟩ : 0 = lo ∧ 0 = hi := Prod.mk.inj (Option.some.inj hran)
        obtain rfl : ph = 0 := by omega
        obtain ⟨h0, _⟩ := hs
        have h0 : a.tmps.getD 13 undef = .pointer (some ⟨X, 0, none⟩) := h0
        obtain ⟨z0, z1, z2, z3, z4, z5, -, -, -, -⟩ := (HXw.out.later hJ).c10
        refine op_run rfl rfl (v := .int .i64 k) (w' := w1) ?_ rfl (Below.refl _ _)
        simp [execOp, Act.eval, h0, z0, go_sem]
      · intro hne lo hi ph hran hp1 hp2 a w1 hJ hsz hs      -- 2: slot 15
        obtain ⟨rfl, rfl⟩ : 0 = lo ∧ 0 = hi := Prod.mk.inj (Option.some.inj hran)
        obtain rfl : ph = 0 := by omega
        obtain ⟨h0, _⟩ := hs
        have h0 : a.tmps.getD 14 undef = .int .i64 k := h0
        refine op_run rfl rfl (v := .int .u8 k) (w' := w1) ?_ rfl (Below.refl _ _)
        simp [execOp, Act.eval, h0, hw8, hk8, go_sem]
      · intro hne lo hi ph hran hp1 hp2 a w1 hJ hsz hs      -- 3: slot 16
        obtain ⟨rfl, rfl⟩ : 0 = lo ∧ 0 = hi := Prod.mk.inj (Option.some.inj hran)
        obtain rfl : ph = 0 := by omega
        obtain ⟨h0, _⟩ := hs
        have h0 : a.tmps.getD 15 undef = .int .u8 k := h0
        have g0 : a.tmps[15]?.getD undef = .int .u8 k := (Array.getD_eq_getD_getElem? ..).symm.trans h0
        refine op_run rfl rfl (v := .slice (some ⟨w1.heap.size, 0, none⟩) 1 1) (w' := w1.alloc (.cells #[.int .u8 k] 5)) ?_ (ov_u8 HE0.out (by omega) (HW.out.trans (hJ.mono HW.out.size))) ((Below.refl _ _).alloc (Nat.le_refl _) _)
        have h0' : a.tmps[15]?.getD undef = .int .u8 k := by rw [← h0, Array.getD_eq_getD_getElem?]
        simp [execOp, Act.eval, h0, h0', go_sem, ub0, ub1, ub2]
      · intro hne lo hi ph hran hp1 hp2 a w1 hJ hsz hs      -- 4: slot 17
        obtain ⟨rfl, rfl⟩ : 0 = lo ∧ 0 = hi := Prod.mk.inj (Option.some.inj hran)
        obtain rfl : ph = 0 := by omega
        obtain ⟨h0, _⟩ := hs
        have h0 : a.tmps.getD 1 undef = .pointer (some ⟨X, 0, none⟩) := h0
        refine op_run rfl rfl (v := .pointer (some ⟨X, 1, none⟩)) (w' := w1) ?_ rfl (Below.refl _ _)
        simp [execOp, Act.eval, h0, go_sem]
      · intro hne lo hi ph hran hp1 hp2 a w1 hJ hsz hs      -- 5: slot 18
        obtain ⟨rfl, rfl⟩ : 0 = lo ∧ 0 = hi := Prod.mk.inj (Option.some.inj hran)
        obtain rfl : ph = 0 := by omega
        obtain ⟨h0, _⟩ := hs
        have h0 : a.tmps.getD 17 undef = .pointer (some ⟨X, 1, none⟩) := h0
        obtain ⟨z0, z1, z2, z3, z4, z5, -, -, -, -⟩ := (HXw.out.later hJ).c10
        refine op_run rfl rfl (v := .int .i64 n) (w' := w1) ?_ rfl (Below.refl _ _)
        simp [execOp, Act.eval, h0, z1, go_sem]
      · intro hne lo hi ph hran hp1 hp2 a w1 hJ hsz hs      -- 6: slot 19
        obtain ⟨rfl, rfl⟩ : 0 = lo ∧ 0 = hi := Prod.mk.inj (Option.some.inj hran)
        obtain rfl : ph = 0 := by omega
        obtain ⟨h0, h1, _⟩ := hs
        have m0 : (oV w E0).p w1 (a.tmps.getD 16 undef) := h0; obtain ⟨a0, p0, h0, r0⟩ := ov_row (n := N0) m0 HN0.out
        have h1 : a.tmps.getD 18 undef = .int .i64 n := h1
        refine op_call rfl rfl (f := 26) (args := #[.slice a0 N0 p0, .int .i64 n]) (by simp [execOp, Act.eval, resolve, h0, h1, go_sem]) ?_
        exact ov_of (rvar_any a0 N0 p0 E0 n w1 r0 HN0.out (by omega) (by omega)) (HW.out.trans (hJ.mono HW.out.size)) HE1.out
      · intro hne lo hi ph hran hp1 hp2 a w1 hJ hsz hs      -- 7: slot 20
        obtain ⟨rfl, rfl⟩ : 0 = lo ∧ 0 = hi := Prod.mk.inj (Option.some.inj hran)
        obtain rfl : ph = 0 := by omega
        obtain ⟨h0, _⟩ := hs
        have h0 : a.tmps.getD 1 undef = .pointer (some ⟨X, 0, none⟩) := h0
        refine op_run rfl rfl (v := .pointer (some ⟨X, 2, none⟩)) (w' := w1) ?_ rfl (Below.refl _ _)
        simp [execOp, Act.eval, h0, go_sem]
      · intro hne lo hi ph hran hp1 hp2 a w1 hJ hsz hs      -- 8: slot 21
        obtain ⟨rfl, rfl⟩ : 0 = lo ∧ 0 = hi := Prod.mk.inj (Option.some.inj hran)
        obtain rfl : ph = 0 := by omega
        obtain ⟨h0, _⟩ := hs
        have h0 : a.tmps.getD 20 undef = .pointer (some ⟨X, 2, none⟩) := h0
        obtain ⟨z0, z1, z2, z3, z4, z5, -, -, -, -⟩ := (HXw.out.later hJ).c10
        refine op_run rfl rfl (v := .int .i64 o) (w' := w1) ?_ rfl (Below.refl _ _)
        simp [execOp, Act.eval, h0, z2, go_sem]
      · intro hne lo hi ph hran hp1 hp2 a w1 hJ hsz hs      -- 9: slot 22
        obtain ⟨rfl, rfl⟩ : 0 = lo ∧ 0 = hi := Prod.mk.inj (Option.some.inj hran)
        obtain rfl : ph = 0 := by omega
        obtain ⟨h0, h1, _⟩ := hs
        have m0 : (oV w E1).p w1 (a.tmps.getD 19 undef) := h0; obtain ⟨a0, p0, h0, r0⟩ := ov_row (n := N1) m0 HN1.out
        have h1 : a.tmps.getD 21 undef = .int .i64 o := h1
        refine op_call rfl rfl (f := 26) (args := #[.slice a0 N1 p0, .int .i64 o]) (by simp [execOp, Act.eval, resolve, h0, h1, go_sem]) ?_
        exact ov_of (rvar_any a0 N1 p0 E1 o w1 r0 HN1.out (by omega) (by omega)) (HW.out.trans (hJ.mono HW.out.size)) HE2.out
      · intro hne lo hi ph hran hp1 hp2 a w1 hJ hsz hs      -- 10: slot 23
        obtain ⟨rfl, rfl⟩ : 0 = lo ∧ 0 = hi := Prod.mk.inj (Option.some.inj hran)
        obtain rfl : ph = 0 := by omega
        obtain ⟨h0, _⟩ := hs
        have h0 : a.tmps.getD 1 undef = .pointer (some ⟨X, 0, none⟩) := h0
        refine op_run rfl rfl (v := .pointer (some ⟨X, 3, none⟩)) (w' := w1) ?_ rfl (Below.refl _ _)
        simp [execOp, Act.eval, h0, go_sem]
      · intro hne lo hi ph hran hp1 hp2 a w1 hJ hsz hs      -- 11: slot 24
        obtain ⟨rfl, rfl⟩ : 0 = lo ∧ 0 = hi := Prod.mk.inj (Option.some.inj hran)
        obtain rfl : ph = 0 := by omega
        obtain ⟨h0, _⟩ := hs
        have h0 : a.tmps.getD 23 undef = .pointer (some ⟨X, 3, none⟩) := h0
        obtain ⟨z0, z1, z2, z3, z4, z5, -, -, -, -⟩ := (HXw.out.later hJ).c10
        refine op_run rfl rfl (v := .int .i64 f) (w' := w1) ?_ rfl (Below.refl _ _)
        simp [execOp, Act.eval, h0, z3, go_sem]
      · intro hne lo hi ph hran hp1 hp2 a w1 hJ hsz hs      -- 12: slot 25
        obtain ⟨rfl, rfl⟩ : 0 = lo ∧ 0 = hi := Prod.mk.inj (Option.some.inj hran)
        obtain rfl : ph = 0 := by omega
        obtain ⟨h0, h1, _⟩ := hs
        have m0 : (oV w E2).p w1 (a.tmps.getD 22 undef) := h0; obtain ⟨a0, p0, h0, r0⟩ := ov_row (n := N2) m0 HN2.out
        have h1 : a.tmps.getD 24 undef = .int .i64 f := h1
        refine op_call rfl rfl (f := 26) (args := #[.slice a0 N2 p0, .int .i64 f]) (by simp [execOp, Act.eval, resolve, h0, h1, go_sem]) ?_
        exact ov_of (rvar_any a0 N2 p0 E2 f w1 r0 HN2.out (by omega) (by omega)) (HW.out.trans (hJ.mono HW.out.size)) HE3.out
      · intro hne lo hi ph hran hp1 hp2 a w1 hJ hsz hs      -- 13: slot 26
        obtain ⟨rfl, rfl⟩ : 0 = lo ∧ 0 = hi := Prod.mk.inj (Option.some.inj hran)
        obtain rfl : ph = 0 := by omega
        obtain ⟨h0, _⟩ := hs
        have h0 : a.tmps.getD 1 undef = .pointer (some ⟨X, 0, none⟩) := h0
        refine op_run rfl rfl (v := .pointer (some ⟨X, 4, none⟩)) (w' := w1) ?_ rfl (Below.refl _ _)
        simp [execOp, Act.eval, h0, go_sem]
      · intro hne lo hi ph hran hp1 hp2 a w1 hJ hsz hs      -- 14: slot 27
        obtain ⟨rfl, rfl⟩ : 0 = lo ∧ 0 = hi := Prod.mk.inj (Option.some.inj hran)
        obtain rfl : ph = 0 := by omega
        obtain ⟨h0, _⟩ := hs
        have h0 : a.tmps.getD 26 undef = .pointer (some ⟨X, 4, none⟩) := h0
        obtain ⟨z0, z1, z2, z3, z4, z5, -, -, -, -⟩ := (HXw.out.later hJ).c10
        refine op_run rfl rfl (v := .int .i64 s) (w' := w1) ?_ rfl (Below.refl _ _)
        simp [execOp, Act.eval, h0, z4, go_sem]
      · intro hne lo hi ph hran hp1 hp2 a w1 hJ hsz hs      -- 15: slot 28
        obtain ⟨rfl, rfl⟩ : 0 = lo ∧ 0 = hi := Prod.mk.inj (Option.some.inj hran)
        obtain rfl : ph = 0 := by omega
        obtain ⟨h0, h1, _⟩ := hs
        have m0 : (oV w E3).p w1 (a.tmps.getD 25 undef) := h0; obtain ⟨a0, p0, h0, r0⟩ := ov_row (n := N3) m0 HN3.out
        have h1 : a.tmps.getD 27 undef = .int .i64 s := h1
        refine op_call rfl rfl (f := 26) (args := #[.slice a0 N3 p0, .int .i64 s]) (by simp [execOp, Act.eval, resolve, h0, h1, go_sem]) ?_
        exact ov_of (rvar_any a0 N3 p0 E3 s w1 r0 HN3.out (by omega) (by omega)) (HW.out.trans (hJ.mono HW.out.size)) HE4.out
      · intro hne lo hi ph hran hp1 hp2 a w1 hJ hsz hs      -- 16: slot 29
        obtain ⟨rfl, rfl⟩ : 0 = lo ∧ 0 = hi := Prod.mk.inj (Option.some.inj hran)
        obtain rfl : ph = 0 := by omega
        obtain ⟨h0, _⟩ := hs
        have h0 : a.tmps.getD 1 undef = .pointer (some ⟨X, 0, none⟩) := h0
        refine op_run rfl rfl (v := .pointer (some ⟨X, 5, none⟩)) (w' := w1) ?_ rfl (Below.refl _ _)
        simp [execOp, Act.eval, h0, go_sem]
      · intro hne lo hi ph hran hp1 hp2 a w1 hJ hsz hs      -- 17: slot 30
        obtain ⟨rfl, rfl⟩ : 0 = lo ∧ 0 = hi := Prod.mk.inj (Option.some.inj hran)
        obtain rfl : ph = 0 := by omega
        obtain ⟨h0, _⟩ := hs
        have h0 : a.tmps.getD 29 undef = .pointer (some ⟨X, 5, none⟩) := h0
        obtain ⟨z0, z1, z2, z3, z4, z5, -, -, -, -⟩ := (HXw.out.later hJ).c10
        refine op_run rfl rfl (v := .int .i64 u) (w' := w1) ?_ rfl (Below.refl _ _)
        simp [execOp, Act.eval, h0, z5, go_sem]
      · intro hne lo hi ph hran hp1 hp2 a w1 hJ hsz hs      -- 18: slot 31
        obtain ⟨rfl, rfl⟩ : 0 = lo ∧ 0 = hi := Prod.mk.inj (Option.some.inj hran)
        obtain rfl : ph = 0 := by omega
        obtain ⟨h0, h1, _⟩ := hs
        have m0 : (oV w E4).p w1 (a.tmps.getD 28 undef) := h0; obtain ⟨a0, p0, h0, r0⟩ := ov_row (n := N4) m0 HN4.out
        have h1 : a.tmps.getD 30 undef = .int .i64 u := h1
        refine op_call rfl rfl (f := 26) (args := #[.slice a0 N4 p0, .int .i64 u]) (by simp [execOp, Act.eval, resolve, h0, h1, go_sem]) ?_
        exact ov_of (rvar_any a0 N4 p0 E4 u w1 r0 HN4.out (by omega) (by omega)) (HW.out.trans (hJ.mono HW.out.size)) HE5.out
      · intro hne lo hi ph hran hp1 hp2 a w1 hJ hsz hs      -- 19: slot 4
        obtain ⟨rfl, rfl⟩ : 0 = lo ∧ 0 = hi := Prod.mk.inj (Option.some.inj hran)
        obtain rfl : ph = 0 := by omega
        obtain ⟨h0, _⟩ := hs
        have m0 : (oV w E5).p w1 (a.tmps.getD 31 undef) := h0
        exact op_run rfl rfl (v := a.tmps.getD 31 undef) (w' := w1) (by simp [execOp, Act.eval, go_sem]) m0 (Below.refl _ _)
    · show ∀ ph, ph < 0 → _
      iterate 0 (refine fls ?_ ?_)
      · exact fl0
    intro f w1 hJ hv
    have e4 : (oV w E5).p w1 (f 4) := hv 19 _ 4 rfl rfl
    clear hv
    try simp only [Exit.then]
    simp only [putAll, List.foldl_cons, List.foldl_nil, Option.getD_some, Act.put, List.setIfInBounds_toArray, List.set_cons_succ, List.set_cons_zero]
    generalize f 4 = v5 at e4 ⊢
    have o6 : Own w w1 v5 E5 := e4
    clear e4
    -- END A
    have HWZ := Lib.hid o6.below
    have HBZ := Lib.hid (HB1x.out.trans (hJ.mono HB1x.out.size))
    have HXZ := Lib.hid (HXw.out.later hJ)
    obtain ⟨wz, hwz⟩ : ∃ W, W = w1 := ⟨_, rfl⟩
    subst hwz
    obtain ⟨a0, q0, rfl, r0⟩ := o6.row_n HN5.out
    have HRZ := Lib.hid r0
    have HOZ := Lib.hid o6
    clear hJ o6 r0 HE0 HE1 HE2 HE3 HE4 HE5 HN0 HN1 HN2 HN3 HN4 hl0 hl1 hl2 hl3 hl4 HXw hw8 hk8 ub0 ub1 ub2 HFO HNL HDD k3 k4 k5 k6 k7 k8 k9 k10 k11 k12
    obtain ⟨NB, hNB⟩ : ∃ N, BM.length = N := ⟨_, rfl⟩
    have HNB := Lib.hid hNB
    have hNB9 : NB ≤ 900 := by have := HBL.out; omega
    clear hNB
    rcases (show k = 2 ∨ k = 4 ∨ k = 6 ∨ (k ≠ 2 ∧ k ≠ 4 ∧ k ≠ 6) by omega) with hk2 | hk2 | hk2 | hk2
    ·
      have HK2 := Lib.hid hk2
      obtain ⟨hcok, hsok⟩ := HO2.out hk2
      have HTT := Lib.hid (HT2.out hk2)
      have HD0 := Lib.hid (HDN.out (by rw [hk2]; decide))
      have tk : (k == 2) = true := by simp [hk2]
      have tk4 : (k == 4) = false := by simp [hk2]
      clear hk2
      obtain ⟨PC, hPC⟩ : ∃ L, putC C = L := ⟨_, rfl⟩
      have hlp := (putC_len hcok).2
      rw [hPC] at hlp
      have HPC := Lib.hid (chrput_any ac nc cc C wz (HHC.out.later HBZ.out) HNC.out)
      rw [putCh_yes (rightC_iff.2 hcok), hPC] at HPC
      have HTC : Hid (textL (putC C) = varL PC.length ++ PC) := Lib.hid (by rw [hPC]; rfl)
      obtain ⟨NP, hNP⟩ : ∃ N, PC.length = N := ⟨_, rfl⟩
      have HNP := Lib.hid hNP
      rw [hNP] at hlp HTC
      have hlB := HBL.out
      rw [HBO.out, HTT.out, HTC.out] at hlB
      simp only [List.length_append] at hlB
      obtain ⟨B2, hB2⟩ : ∃ N, (E5 ++ varL NP) ++ PC = N := ⟨_, rfl⟩
      obtain ⟨N6, hN6⟩ : ∃ N, B2.length = N := ⟨_, rfl⟩
      have HB2 := Lib.hid hB2
      have HN6 := Lib.hid hN6
      have hl6 : N6 ≤ 900 := by rw [← hN6, ← hB2]; simp only [List.length_append]; omega
      obtain ⟨N7, hN7⟩ : ∃ N, (E5 ++ varL NP).length = N := ⟨_, rfl⟩
      have HN7 := Lib.hid hN7
      have HLV : Hid ((E5 ++ varL NP).length + PC.length ≤ 900) := Lib.hid (by simp only [List.length_append]; omega)
      have HLB := Lib.hid hlB
      have HSO := Lib.hid hsok
      clear hPC hNP hB2 hN6 hN7 hlB hcok hsok
      obtain ⟨x0, x1, x2, x3, x4, x5, x6, x7, x8, x9⟩ := HXZ.out.c10
      go_upto_region 6 with (go_at_call 27; refine HPC.out.mono ?_; rintro e w4 ⟨v4, rfl, o4⟩; have HB4 := Lib.hid o4.below; obtain ⟨a4, c4, rfl, r4⟩ := o4.row_n HNP.out; have HR4 := Lib.hid r4; clear o4 r4 x0 x1 x2 x3 x4 x5 x6 x7 x8 x9; obtain ⟨x0, x1, x2, x3, x4, x5, x6, x7, x8, x9⟩ := (HXZ.out.later HB4.out).c10)
      have HVA := Lib.hid (rvar_any a0 N5 q0 E5 (NP : Nat) w4 (HRZ.out.later HB4.out) HN5.out (by omega) (by omega))
      rw [Int.toNat_natCast] at HVA
      go_upto_region 7 with (first
        | (go_at_call 26; refine HVA.out.mono ?_; rintro e w5 ⟨v5, rfl, o5⟩; have HO5 := Lib.hid o5; have HR5 := Lib.hid (HR4.out.later o5.below); clear o5)
        | (at_builtin; refine wp_row rfl _ _ rfl _ _ rfl w4 HO5.out _ _ _ _ HR5.out HNP.out rfl (by have := HLV.out; omega) ?_; intro v6 w6 o6; rw [HB2.out] at o6; obtain ⟨a6, c6, rfl, r6⟩ := o6.row_n HN6.out; have HR6 := Lib.hid r6; have HB6 := Lib.hid (HB4.out.trans (o6.below.mono HB4.out.size)); clear o6 r6))
      have HX6 := Lib.hid (HXZ.out.later HB6.out)
      have HB16 := Lib.hid (HBZ.out.trans (HB6.out.mono HBZ.out.size))
      clear x0 x1 x2 x3 x4 x5 x6 x7 x8 x9 HVA HO5 HR5 HR4 HPC
      obtain ⟨x0, x1, x2, x3, x4, x5, x6, x7, x8, x9⟩ := HX6.out.c10
      have HEN : Hid (headE B2 E ne ++ [] = BM) := Lib.hid (by rw [List.append_nil, headE_all HNE.out, HBO.out, HTT.out, HTC.out, ← HB2.out]; simp only [List.append_assoc])
      have HLE : Hid (∀ j, (headE B2 E j).length ≤ 900) := Lib.hid (fun j => by
        have h1 := headE_le B2 E j
        have h2 := HEN.out
        rw [List.append_nil, headE_all HNE.out] at h2
        rw [h2, HNB.out] at h1
        omega)
      have HES : Hid (∀ (i : Nat) e, E[i]? = some e → e.right = true) := Lib.hid (fun i e he => (HSO.out.2 i (List.getElem?_eq_some_iff.1 he).1 e he).1)
      have hce := HHE.out.1
      rw [HNE.out] at hce
      have hcm : ce ≤ 9223372036854775807 := by have := HHE.out.2.1; unfold maxLen at this; omega
      have hn4 : ne ≤ 4 := by have := HSO.out.1; rw [HNE.out] at this; exact this
      have HVB := Lib.hid (rvar_any a6 N6 c6 B2 (ne : Nat) w6 HR6.out HN6.out (by omega) (by omega))
      rw [Int.toNat_natCast, show B2 ++ varL ne = headE B2 E 0 by rw [headE_zero, HNE.out]] at HVB
      go_wp2_with (go_at_call 26; refine HVB.out.mono ?_; rintro e w7 ⟨v7, rfl, o7⟩; have HO7 := Lib.hid o7; clear o7 x0 x1 x2 x3 x4 x5 x6 x7 x8 x9; obtain ⟨x0, x1, x2, x3, x4, x5, x6, x7, x8, x9⟩ := (HX6.out.later HO7.out.below).c10)
      clear x0 x1 x2 x3 x4 x5 x6 x7 x8 x9 HVB
      go_loopw [4, 7, 8, 9] (fun v i _ _ wr => ∃ j : Nat, i = .int .i64 (j : Nat) ∧ j ≤ ne ∧ Hid (Own w6 wr v (headE B2 E j))) (fun _ i _ _ _ => ne - (intOf i).toNat)
      case atStart => exact ⟨0, rfl, by omega, HO7⟩
      case round =>
        obtain ⟨j, rfl, hj, hO⟩ := hrel
        have HXr := Lib.hid (HX6.out.later hO.out.below)
        obtain ⟨x0, x1, x2, x3, x4, x5, x6, x7, x8, x9⟩ := HXr.out.c10
        by_cases hjn : (j : Int) < ne
        · obtain ⟨e, he⟩ : ∃ e, E[j]? = some e := ⟨E[j]'(by have := HNE.out; omega), List.getElem?_eq_getElem _⟩
          obtain ⟨b1, o1, d1, k1', rfl, p0, p1, p2, R1⟩ := (HHE.out.later (HB16.out.trans (hO.out.below.mono HB16.out.size))).at he
          have HS := Lib.hid (headE_succ (B := B2) he)
          have HRT2 := Lib.hid (HES.out j e he)
          have HK := Lib.hid (rlay_any e d1 k1' e.data.length _ R1 rfl (by have := R1.1; have := R1.2.1; unfold maxLen at this; omega))
          rw [layA_yes HRT2.out] at HK
          have HLL : Hid ((headE B2 E j).length + (layL e).length ≤ 900) := Lib.hid (by have := HLE.out (j + 1); rw [HS.out, List.length_append] at this; exact this)
          clear he R1 HRT2
          generalize layL e = LY at *
          obtain ⟨T', Z, D'⟩ := e
          simp only at p0 p1 p2 HK
          generalize D'.length = L at *
          go_wp2_with (first
            | (go_at_call 28; refine HK.out.mono ?_; rintro e w8 ⟨v8, rfl, o8⟩; have HO8 := Lib.hid (hO.out.later o8.below); obtain ⟨lyn, hly⟩ : ∃ N, LY.length = N := ⟨_, rfl⟩; obtain ⟨a8, c8, rfl, r8⟩ := o8.row_n hly; have HR8 := Lib.hid r8; have HLY := Lib.hid hly; clear o8 r8 hly)
            | (at_builtin; refine wp_row rfl _ _ rfl _ _ rfl w6 HO8.out _ _ _ _ HR8.out HLY.out rfl (by have := HLL.out; omega) ?_; intro v7 w7 o7; rw [← HS.out] at o7; have HO7 := Lib.hid o7; clear o7))
          go_roundw
          case rel => exact ⟨j + 1, by go_num, by omega, HO7⟩
          case measure => simp [intOf]; omega
        · have : j = ne := by omega
          subst this
          have HRD := Lib.hid (HHD.out.later (HB16.out.trans (hO.out.below.mono HB16.out.size)))
          have HD00 := HD0.out
          rw [HD00] at HRD HND
          have HO9 := hO
          clear hO HD00
          go_wp2_with (first
            | (at_builtin; refine wp_row rfl _ _ rfl _ _ rfl w6 HO9.out _ _ _ _ HRD.out HND.out rfl (by have := HLE.out j; simp only [List.length_nil]; omega) ?_; intro v5 w5 o5; rw [HEN.out] at o5; obtain ⟨a5, c5, rfl, r5⟩ := o5.row_n HNB.out)
            | (go_at_call 9; refine (rseal_own o5 HNB.out (by omega)).mono ?_; rintro e w9 ⟨v9, rfl, o9⟩))
          try go_ret2
          exact HP.out _ _ (o9.back (HWZ.out.trans (HB6.out.mono HWZ.out.size)))
    ·
      have HK2 := Lib.hid hk2
      obtain ⟨hcok, hsok⟩ := HO4.out hk2
      have HTT := Lib.hid (HT4.out hk2)
      have HD0 := Lib.hid (HDN.out (by rw [hk2]; decide))
      have tk : (k == 2) = false := by simp [hk2]
      have tk4 : (k == 4) = true := by simp [hk2]
      clear hk2
      obtain ⟨PC, hPC⟩ : ∃ L, putC C = L := ⟨_, rfl⟩
      have hlp := (putC_len hcok).2
      rw [hPC] at hlp
      have HPC := Lib.hid (chrput_any ac nc cc C wz (HHC.out.later HBZ.out) HNC.out)
      rw [putCh_yes (rightC_iff.2 hcok), hPC] at HPC
      have HTC : Hid (textL (putC C) = varL PC.length ++ PC) := Lib.hid (by rw [hPC]; rfl)
      obtain ⟨NP, hNP⟩ : ∃ N, PC.length = N := ⟨_, rfl⟩
      have HNP := Lib.hid hNP
      rw [hNP] at hlp HTC
      have hlB := HBL.out
      rw [HBO.out, HTT.out, HTC.out] at hlB
      simp only [List.length_append] at hlB
      obtain ⟨B2, hB2⟩ : ∃ N, (E5 ++ varL NP) ++ PC = N := ⟨_, rfl⟩
      obtain ⟨N6, hN6⟩ : ∃ N, B2.length = N := ⟨_, rfl⟩
      have HB2 := Lib.hid hB2
      have HN6 := Lib.hid hN6
      have hl6 : N6 ≤ 900 := by rw [← hN6, ← hB2]; simp only [List.length_append]; omega
      obtain ⟨N7, hN7⟩ : ∃ N, (E5 ++ varL NP).length = N := ⟨_, rfl⟩
      have HN7 := Lib.hid hN7
      have HLV : Hid ((E5 ++ varL NP).length + PC.length ≤ 900) := Lib.hid (by simp only [List.length_append]; omega)
      have HLB := Lib.hid hlB
      have HSO := Lib.hid hsok
      clear hPC hNP hB2 hN6 hN7 hlB hcok hsok
      obtain ⟨x0, x1, x2, x3, x4, x5, x6, x7, x8, x9⟩ := HXZ.out.c10
      go_upto_region 6 with (go_at_call 27; refine HPC.out.mono ?_; rintro e w4 ⟨v4, rfl, o4⟩; have HB4 := Lib.hid o4.below; obtain ⟨a4, c4, rfl, r4⟩ := o4.row_n HNP.out; have HR4 := Lib.hid r4; clear o4 r4 x0 x1 x2 x3 x4 x5 x6 x7 x8 x9; obtain ⟨x0, x1, x2, x3, x4, x5, x6, x7, x8, x9⟩ := (HXZ.out.later HB4.out).c10)
      have HVA := Lib.hid (rvar_any a0 N5 q0 E5 (NP : Nat) w4 (HRZ.out.later HB4.out) HN5.out (by omega) (by omega))
      rw [Int.toNat_natCast] at HVA
      go_upto_region 7 with (first
        | (go_at_call 26; refine HVA.out.mono ?_; rintro e w5 ⟨v5, rfl, o5⟩; have HO5 := Lib.hid o5; have HR5 := Lib.hid (HR4.out.later o5.below); clear o5)
        | (at_builtin; refine wp_row rfl _ _ rfl _ _ rfl w4 HO5.out _ _ _ _ HR5.out HNP.out rfl (by have := HLV.out; omega) ?_; intro v6 w6 o6; rw [HB2.out] at o6; obtain ⟨a6, c6, rfl, r6⟩ := o6.row_n HN6.out; have HR6 := Lib.hid r6; have HB6 := Lib.hid (HB4.out.trans (o6.below.mono HB4.out.size)); clear o6 r6))
      have HX6 := Lib.hid (HXZ.out.later HB6.out)
      have HB16 := Lib.hid (HBZ.out.trans (HB6.out.mono HBZ.out.size))
      clear x0 x1 x2 x3 x4 x5 x6 x7 x8 x9 HVA HO5 HR5 HR4 HPC
      obtain ⟨x0, x1, x2, x3, x4, x5, x6, x7, x8, x9⟩ := HX6.out.c10
      have HEN : Hid ((B2 ++ marksL T) ++ [] = BM) := Lib.hid (by rw [List.append_nil, HBO.out, HTT.out, HTC.out, ← HB2.out]; simp only [List.append_assoc])
      have HLM : Hid ((B2 ++ marksL T).length ≤ 900) := Lib.hid (by have h2 := HEN.out; rw [List.append_nil] at h2; rw [h2, HNB.out]; exact hNB9)
      have HVB := Lib.hid (rputMarks_any a6 N6 c6 B2 am nm cm T w6 HR6.out HN6.out (HHM.out.later HB16.out) HNM.out (by have := HLM.out; omega))
      go_wp2_with (first
        | (go_at_call 29; refine HVB.out.mono ?_; rintro e w7 ⟨v7, rfl, o7⟩; have HO7 := Lib.hid o7; have HRD := Lib.hid (HHD.out.later (HB16.out.trans (o7.below.mono HB16.out.size))); have HD00 := HD0.out; rw [HD00] at HRD HND; clear HD00 o7 x0 x1 x2 x3 x4 x5 x6 x7 x8 x9; obtain ⟨x0, x1, x2, x3, x4, x5, x6, x7, x8, x9⟩ := (HX6.out.later HO7.out.below).c10)
        | (at_builtin; refine wp_row rfl _ _ rfl _ _ rfl w6 HO7.out _ _ _ _ HRD.out HND.out rfl (by have := HLM.out; simp only [List.length_nil]; omega) ?_; intro v5 w5 o5; rw [HEN.out] at o5; obtain ⟨a5, c5, rfl, r5⟩ := o5.row_n HNB.out)
        | (go_at_call 9; refine (rseal_own o5 HNB.out (by omega)).mono ?_; rintro e w9 ⟨v9, rfl, o9⟩))
      try go_ret2
      exact HP.out _ _ (o9.back (HWZ.out.trans (HB6.out.mono HWZ.out.size)))
    · have HTT := Lib.hid (HT6.out hk2)
      have tk : (k == 2) = false := by simp [hk2]
      have tk4 : (k == 4) = false := by simp [hk2]
      clear hk2
      have HRD := Lib.hid (HHD.out.later HBZ.out)
      have HLB : Hid (E5.length + D.length ≤ 900) := Lib.hid (by have hlB := HBL.out; rw [HBO.out, HTT.out, List.length_append] at hlB; omega)
      obtain ⟨x0, x1, x2, x3, x4, x5, x6, x7, x8, x9⟩ := HXZ.out.c10
      go_wp2_with (first
        | (at_builtin; refine wp_row rfl _ _ rfl _ _ rfl w HOZ.out _ _ _ _ HRD.out HND.out rfl (by have := HLB.out; omega) ?_; intro v5 w5 o5; rw [← HTT.out, ← HBO.out] at o5; obtain ⟨a5, c5, rfl, r5⟩ := o5.row_n HNB.out)
        | (go_at_call 9; refine (rseal_own o5 HNB.out (by omega)).mono ?_; rintro e w9 ⟨v9, rfl, o9⟩))
      try go_ret2
      exact HP.out _ _ o9
    · have HTT := Lib.hid (HTX.out hk2.1 hk2.2.1 hk2.2.2)
      have HD0 := Lib.hid (HDN.out hk2.2.2)
      have tk : (k == 2) = false := by simpa using hk2.1
      have tk4 : (k == 4) = false := by simpa using hk2.2.1
      clear hk2
      have HRD := Lib.hid (HHD.out.later HBZ.out)
      have HD00 := HD0.out
      rw [HD00] at HRD HND
      have HEN : Hid (E5 ++ [] = BM) := Lib.hid (by rw [HBO.out, HTT.out])
      clear HD00
      obtain ⟨x0, x1, x2, x3, x4, x5, x6, x7, x8, x9⟩ := HXZ.out.c10
      go_wp2_with (first
        | (at_builtin; refine wp_row rfl _ _ rfl _ _ rfl w HOZ.out _ _ _ _ HRD.out HND.out rfl (by have := HN5.out; simp only [List.length_nil]; omega) ?_; intro v5 w5 o5; rw [HEN.out] at o5; obtain ⟨a5, c5, rfl, r5⟩ := o5.row_n HNB.out)
        | (go_at_call 9; refine (rseal_own o5 HNB.out (by omega)).mono ?_; rintro e w9 ⟨v9, rfl, o9⟩))
      try go_ret2
      exact HP.out _ _ o9
end Go.Proofs.Ytiahifpbofkimaa
