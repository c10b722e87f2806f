/- Messages: what is put: package msg's. -/
import Derived.Test.YtiahifpbofkimaaMsF
import Derived.Test.YtiahifpbofkimaaGM
import Derived.Test.YtiahifpbofkimaaCrc
namespace Go.Proofs.Ytiahifpbofkimaa
open Go.RowKit Go.Proofs
set_option linter.unusedVariables false
set_option linter.unusedSimpArgs false
set_option linter.unnecessarySimpa false

theorem own_u8 {W0 w : World} {k : Int} (hk : 0 ≤ k ∧ k ≤ 255) (h : Below W0.heap.size W0 w) : Own W0 (w.alloc (.cells #[.int .u8 k] 5)) (.slice (some ⟨w.heap.size, 0, none⟩) 1 1) [UInt8.ofNat k.toNat] := by
  have e : k = ((UInt8.ofNat k.toNat).toNat : Nat) := by rw [UInt8.toNat_ofNat']; omega
  conv => lhs
  rw [show (Value.int .u8 k) = .int .u8 ((UInt8.ofNat k.toNat).toNat : Nat) by rw [← e]]
  exact ⟨⟨rfl, .inr ⟨w.heap.size, 1, _, rfl, h.size, heap_alloc_new w _, Nat.le_refl _, by simp [maxLen], rfl, rfl⟩⟩, h.alloc h.size _⟩
theorem front_pre (m : Ms) : [UInt8.ofNat m.kind.toNat] ++ preN [m.nonce, m.pos, m.fin, m.stage, m.num] 5 = frontM m := by
  unfold frontM numsM preN; simp [List.append_assoc]
theorem front_le (m : Ms) (h : MsOk m) (q : Nat) : ([UInt8.ofNat m.kind.toNat] ++ preN [m.nonce, m.pos, m.fin, m.stage, m.num] q).length ≤ 900 := by
  have h1 := preN_le [m.nonce, m.pos, m.fin, m.stage, m.num] q
  rw [show [m.nonce, m.pos, m.fin, m.stage, m.num].length = 5 from rfl] at h1
  have h2 := bodyMs_len h
  have h3 := congrArg List.length (front_pre m)
  unfold bodyMs at h2
  simp only [List.length_append] at h1 h2 h3 ⊢
  omega
theorem seal_own {W0 W : World} {a : Option Addr} {n c : Nat} {l : List UInt8} (ho : Own W0 W (.slice a n c) l) (hn : l.length = n) (hlen : n ≤ 100000) : Calls Try.prog 25 #[.slice a n c] W fun e w' => ∃ v, e = .returned v ∧ Own W0 w' v (sealL l) := by
  obtain ⟨a', c', e, r⟩ := ho.row_n hn
  cases e
  exact (seal_any a n c l W r hn hlen).mono fun e w' ⟨v, h1, h2⟩ => ⟨v, h1, h2.back ho.below⟩
def PutP (m : Ms) (w : World) (e : Ending) (w' : World) : Prop := ∃ v, e = .returned (.tuple #[v, .int .i64 (putMs m).2]) ∧ Own w w' v (putMs m).1
set_option maxRecDepth 20000 in
set_option maxHeartbeats 12800000 in
theorem msput_any (m : Ms) (p : MsAt) (w : World) (h : MsRows w m p) : Calls Try.prog 10 #[msV m p] w (PutP m w) := by
  have HB0 := Lib.hid ((Below.refl w.heap.size w).alloc (Nat.le_refl _) (.cells (msC m p) 27))
  have HX0 := Lib.hid (RecAt.new w (msC m p) 27)
  have hx := HX0.out.c10
  have HH := Lib.hid (h.later HB0.out)
  obtain ⟨w1, hw1⟩ : ∃ W, w.alloc (.cells (msC m p) 27) = W := ⟨_, rfl⟩
  rw [hw1] at HB0 HX0 HH
  have HRT := Lib.hid (msright_any m p w1 HH.out)
  obtain ⟨P, hP⟩ : ∃ P, PutP m w = P := ⟨_, rfl⟩
  rw [hP]
  cases hr : rightMs m with
  | false =>
    rw [hr] at HRT
    have HP : Hid (∀ w', Below w.heap.size w w' → P (.returned (.tuple #[.slice none 0 0, .int .i64 1])) w') := Lib.hid (fun w' hb => by rw [← hP]; unfold PutP; rw [putMs_no hr]; exact ⟨_, rfl, World.ownsRow_nil _ _ _ _, hb⟩)
    clear hP h HH
    obtain ⟨k, n, o, f, s, u, C, E, T, D⟩ := m
    obtain ⟨ac, nc, cc, ae, ne, ce, am, nm, cm, ad, nd, cd⟩ := p
    simp only [msC] at hw1 hx
    go_enter Try.func10, Try.ntmps10
    go_upto_region 1 with fail
    try rw [hw1]
    rw [hw1] at hx
    clear hw1
    obtain ⟨X, hX⟩ : ∃ X, w.heap.size = X := ⟨_, rfl⟩
    rw [hX]
    rw [hX] at HX0 hx
    clear hX
    obtain ⟨x0, x1, x2, x3, x4, x5, x6, x7, x8, x9⟩ := hx
    go_wp2_with (go_at_call 15; refine HRT.out.mono ?_; rintro e w2 ⟨rfl, hb2⟩; have HB2 := Lib.hid (HB0.out.trans (hb2.mono HB0.out.size)); clear hb2)
    try go_ret2
    exact HP.out _ HB2.out
  | true =>
    rw [hr] at HRT
    have HOK := Lib.hid (rightMs_iff.1 hr)
    have HP : Hid (∀ v w', Own w w' v (sealL (bodyMs m)) → P (.returned (.tuple #[v, .int .i64 0])) w') := Lib.hid (fun v w' ho => by rw [← hP]; unfold PutP; rw [putMs_yes hr]; exact ⟨_, rfl, ho⟩)
    have HFP := Lib.hid (front_pre m)
    have HFL := Lib.hid (front_le m HOK.out)
    have HBL := Lib.hid (bodyMs_len HOK.out).2
    have hk := HOK.out.1.1
    have HBO : Hid (bodyMs m = frontM m ++ tailM m) := Lib.hid rfl
    have HT2 := Lib.hid (tailM_2 (m := m))
    have HT4 := Lib.hid (tailM_4 (m := m))
    have HT6 := Lib.hid (tailM_6 (m := m))
    have HTX := Lib.hid (tailM_x (m := m))
    have HO2 := Lib.hid HOK.out.2.2.1
    have HO4 := Lib.hid HOK.out.2.2.2.1
    obtain ⟨FM, hFM⟩ : ∃ F, frontM m = F := ⟨_, rfl⟩
    obtain ⟨BM, hBM⟩ : ∃ F, bodyMs m = F := ⟨_, rfl⟩
    obtain ⟨TM, hTM⟩ : ∃ F, tailM m = F := ⟨_, rfl⟩
    rw [hFM] at HFP HBO
    rw [hBM] at HBO HBL HP
    rw [hTM] at HBO HT2 HT4 HT6 HTX
    have HXM : Hid (∀ (i : Nat) (x : Int), [m.nonce, m.pos, m.fin, m.stage, m.num][i]? = some x → x ≤ 9223372036854775807) := Lib.hid (fun i x hi => by
      have := List.mem_of_getElem? hi
      simp only [List.mem_cons, List.not_mem_nil, or_false] at this
      have hN := HOK.out.1
      unfold NumsM at hN
      rcases this with rfl | rfl | rfl | rfl | rfl <;> omega)
    have HIX : Hid (∀ (W : World) (i : Nat) (x : Int), [m.nonce, m.pos, m.fin, m.stage, m.num][i]? = some x → (Instr.index 51 (.agg #[.int .i64 m.nonce, .int .i64 m.pos, .int .i64 m.fin, .int .i64 m.stage, .int .i64 m.num]) (.int .i64 (i : Nat))).run Try.prog W = .ok (.int .i64 x) W) := Lib.hid (fun W i x h => run_ix5 W _ _ _ _ _ i x h)
    obtain ⟨LX, hLX⟩ : ∃ L, [m.nonce, m.pos, m.fin, m.stage, m.num] = L := ⟨_, rfl⟩
    rw [hLX] at HFP HFL HXM HIX
    have HLN5 : Hid (LX.length = 5) := Lib.hid (by rw [← hLX]; rfl)
    clear hP h hr hFM hBM hTM hLX HOK
    obtain ⟨k, n, o, f, s, u, C, E, T, D⟩ := m
    obtain ⟨ac, nc, cc, ae, ne, ce, am, nm, cm, ad, nd, cd⟩ := p
    simp only [msC] at hw1 hx hk HFP HFL HT2 HT4 HT6 HTX HO2 HO4 HIX
    obtain ⟨HC, HE, HM, HD, hnc, hne, hnm, hnd⟩ := HH.out
    simp only at HC HE HM HD hnc hne hnm hnd
    have HHC := Lib.hid HC
    have HHE := Lib.hid HE
    have HHM := Lib.hid HM
    have HHD := Lib.hid HD
    have HNC := Lib.hid hnc
    have HNE := Lib.hid hne
    have HNM := Lib.hid hnm
    have HND := Lib.hid hnd
    clear HC HE HM HD hnc hne hnm hnd HH
    have hk8 : k % 256 = k := by omega
    have hw8 : IntKind.u8.wrap k = k := by rw [show IntKind.u8.wrap k = k % 256 from rfl]; exact hk8
    go_enter Try.func10, Try.ntmps10
    go_upto_region 1 with fail
    try rw [hw1]
    rw [hw1] at hx
    clear hw1
    obtain ⟨X, hX⟩ : ∃ X, w.heap.size = X := ⟨_, rfl⟩
    rw [hX]
    rw [hX] at HX0 hx
    clear hX
    obtain ⟨x0, x1, x2, x3, x4, x5, x6, x7, x8, x9⟩ := hx
    go_upto_region 4 with (go_at_call 15; refine HRT.out.mono ?_; rintro e w2 ⟨rfl, hb2⟩; have HB2 := Lib.hid (HB0.out.trans (hb2.mono HB0.out.size)); have HB12 := Lib.hid hb2; clear hb2 x0 x1 x2 x3 x4 x5 x6 x7 x8 x9; obtain ⟨x0, x1, x2, x3, x4, x5, x6, x7, x8, x9⟩ := (HX0.out.later HB12.out).c10)
    have HO3 := Lib.hid (own_u8 (k := k) (by omega) HB2.out)
    have HB13 := Lib.hid (HB12.out.trans (((Below.refl w2.heap.size w2).alloc (Nat.le_refl _) (.cells #[.int .u8 k] 5)).mono HB12.out.size))
    obtain ⟨w3, hw3⟩ : ∃ W, w2.alloc (.cells #[.int .u8 k] 5) = W := ⟨_, rfl⟩
    obtain ⟨Y, hY⟩ : ∃ Y, w2.heap.size = Y := ⟨_, rfl⟩
    simp only [hw3, hY] at HO3 HB13 ⊢
    clear x0 x1 x2 x3 x4 x5 x6 x7 x8 x9
    obtain ⟨x0, x1, x2, x3, x4, x5, x6, x7, x8, x9⟩ := (HX0.out.later HB13.out).c10
    obtain ⟨K8, hK8⟩ : ∃ K, [UInt8.ofNat k.toNat] = K := ⟨_, rfl⟩
    rw [hK8] at HO3 HFP HFL
    clear hK8 hk8 hw8 hw3 hY
    go_wp2_with fail
    clear x0 x1 x2 x3 x4 x5 x6 x7 x8 x9
    go_loopw [4, 6, 25] (fun v _ i wr => ∃ q : Nat, i = .int .i64 (q : Nat) ∧ q ≤ 5 ∧ Hid (Below w1.heap.size w1 wr) ∧ Hid (Own w wr v (K8 ++ preN LX q))) (fun _ _ i _ => 5 - (intOf i).toNat)
    case atStart => exact ⟨0, rfl, by omega, HB13, by rw [preN_zero, List.append_nil]; exact HO3⟩
    case round =>
      obtain ⟨q, rfl, hq, HBq, hOq⟩ := hrel
      by_cases hq5 : (q : Int) < 5
      · obtain ⟨x, hxq⟩ : ∃ x, LX[q]? = some x := ⟨LX[q]'(by rw [HLN5.out]; omega), List.getElem?_eq_getElem _⟩
        have hix := fun W => HIX.out W q x hxq
        have hxm := HXM.out q x hxq
        have HSQ := Lib.hid (preN_succ hxq)
        obtain ⟨N0, hN0⟩ : ∃ N, (K8 ++ preN LX q).length = N := ⟨_, rfl⟩
        obtain ⟨a0, q0, rfl, r0⟩ := hOq.out.row_n hN0
        have HVA := Lib.hid (var_any a0 N0 q0 _ x _ r0 hN0 (by have := HFL.out q; omega) hxm)
        rw [List.append_assoc, HSQ.out] at HVA
        have HWq := Lib.hid hOq.out.below
        clear r0 hN0 hOq hxq
        go_wp2_with (go_at_call 21; refine HVA.out.mono ?_; rintro e w4 ⟨v3, rfl, o3⟩; have HB3 := Lib.hid (HBq.out.trans (o3.below.mono HBq.out.size)); have HO3 := Lib.hid (o3.back HWq.out); clear o3)
        go_roundw
        case rel => exact ⟨q + 1, by go_num, by omega, HB3, HO3⟩
        case measure => simp [intOf]; omega
      · have : q = 5 := by omega
        subst this
        obtain ⟨wz, hwz⟩ : ∃ W, W = wr := ⟨_, rfl⟩
        subst hwz
        have HBZ := Lib.hid HBq.out
        have HXZ := Lib.hid (HX0.out.later HBZ.out)
        obtain ⟨x0, x1, x2, x3, x4, x5, x6, x7, x8, x9⟩ := HXZ.out.c10
        rw [HFP.out] at hOq
        obtain ⟨N0, hN0⟩ : ∃ N, FM.length = N := ⟨_, rfl⟩
        have HN0 := Lib.hid hN0
        obtain ⟨NB, hNB⟩ : ∃ N, BM.length = N := ⟨_, rfl⟩
        have HNB := Lib.hid hNB
        have hNB9 : NB ≤ 900 := by have := HBL.out; omega
        have HWZ := Lib.hid hOq.out.below
        obtain ⟨a0, q0, rfl, r0⟩ := hOq.out.row_n hN0
        have HR0 := Lib.hid r0
        have HOZ := Lib.hid hOq.out
        clear hN0 hNB r0 hOq HXM HIX HFL HFP HLN5 HBq
        rcases (show k = 2 ∨ k = 4 ∨ k = 6 ∨ (k ≠ 2 ∧ k ≠ 4 ∧ k ≠ 6) by omega) with hk2 | hk2 | hk2 | hk2
        · have HK2 := Lib.hid hk2
          clear hk2
          have hk2 : k = 2 := HK2.out
          obtain ⟨hcok, hsok⟩ := HO2.out hk2
          have HTT := Lib.hid (HT2.out hk2)
          have tk : (k == 2) = true := by simp [hk2]
          have tk4 : (k == 4) = false := by simp [hk2]
          clear hk2
          obtain ⟨TC, hTC⟩ : ∃ L, textL (putC C) = L := ⟨_, rfl⟩
          have HTC := Lib.hid hTC
          have hlB := HBL.out
          rw [HBO.out, HTT.out, hTC] at hlB
          simp only [List.length_append] at hlB
          obtain ⟨N4, hN4⟩ : ∃ N, (FM ++ TC).length = N := ⟨_, rfl⟩
          have HN4 := Lib.hid hN4
          have HPC : Hid (∀ W, Below wz.heap.size wz W → Calls Try.prog 23 #[.slice a0 N0 q0, .slice ac nc cc] W fun e w' => ∃ v, e = .returned v ∧ Own wz w' v (FM ++ TC)) :=
            Lib.hid (fun W hb => (putChain_any a0 N0 q0 FM ac nc cc C W (HR0.out.later hb) HN0.out (HHC.out.later (HBZ.out.trans (hb.mono HBZ.out.size))) HNC.out hcok (by have := HN0.out; omega)).mono fun e w' ⟨v, h1, h2⟩ => ⟨v, h1, by rw [hTC] at h2; exact h2.back hb⟩)
          have HPE : Hid (∀ W a4 c4, Below wz.heap.size wz W → Row W a4 c4 (FM ++ TC) → Calls Try.prog 22 #[.slice a4 N4 c4, .slice ae ne ce] W fun e w' => ∃ v, e = .returned v ∧ Own wz w' v BM) :=
            Lib.hid (fun W a4 c4 hb hrow => (putEntries_any a4 N4 c4 (FM ++ TC) ae ne ce E W hrow HN4.out (HHE.out.later (HBZ.out.trans (hb.mono HBZ.out.size))) HNE.out (fun i e he => (hsok.2 i (List.getElem?_eq_some_iff.1 he).1 e he).1) (by simp only [List.length_append]; omega)).mono fun e w' ⟨v, h1, h2⟩ => ⟨v, h1, by rw [HBO.out, HTT.out, HTC.out, ← List.append_assoc]; exact h2.back hb⟩)
          clear hTC hN4 hlB hsok hcok
          go_upto_region 11 with fail
          go_region_with (first
            | (go_at_call 23; refine (HPC.out _ (by first | exact Below.refl _ _ | exact (Below.refl _ _).drew | exact below_drewN _ _)).mono ?_; rintro e w4 ⟨v4, rfl, o4⟩; have hb4 := o4.below; obtain ⟨a4, c4, rfl, r4⟩ := o4.row_n HN4.out; obtain ⟨-, -, -, -, -, -, y6, y7, y8, y9⟩ := (HXZ.out.later hb4).c10)
            | (go_at_call 22; refine (HPE.out _ a4 c4 (by first | exact hb4 | exact hb4.trans ((Below.refl _ _).drew.mono hb4.size)) (by first | exact r4 | exact r4.later (Below.refl _ _).drew)).mono ?_; rintro e w5 ⟨v5, rfl, o5⟩; obtain ⟨a5, c5, rfl, r5⟩ := o5.row_n HNB.out))
          all_goals
            go_wp2_with (go_at_call 25; refine (seal_own (by first | exact o5 | exact o5.later (Below.refl _ _).drew) HNB.out (by omega)).mono ?_; rintro e w6 ⟨v6, rfl, o6⟩)
            try go_ret2
            exact HP.out _ _ (o6.back HWZ.out)
        · have HK2 := Lib.hid hk2
          clear hk2
          have hk2 : k = 4 := HK2.out
          obtain ⟨hcok, hsok⟩ := HO4.out hk2
          have HTT := Lib.hid (HT4.out hk2)
          have tk : (k == 2) = false := by simp [hk2]
          have tk4 : (k == 4) = true := by simp [hk2]
          clear hk2
          obtain ⟨TC, hTC⟩ : ∃ L, textL (putC C) = L := ⟨_, rfl⟩
          have HTC := Lib.hid hTC
          have hlB := HBL.out
          rw [HBO.out, HTT.out, hTC] at hlB
          simp only [List.length_append] at hlB
          obtain ⟨N4, hN4⟩ : ∃ N, (FM ++ TC).length = N := ⟨_, rfl⟩
          have HN4 := Lib.hid hN4
          have HPC : Hid (∀ W, Below wz.heap.size wz W → Calls Try.prog 23 #[.slice a0 N0 q0, .slice ac nc cc] W fun e w' => ∃ v, e = .returned v ∧ Own wz w' v (FM ++ TC)) :=
            Lib.hid (fun W hb => (putChain_any a0 N0 q0 FM ac nc cc C W (HR0.out.later hb) HN0.out (HHC.out.later (HBZ.out.trans (hb.mono HBZ.out.size))) HNC.out hcok (by have := HN0.out; omega)).mono fun e w' ⟨v, h1, h2⟩ => ⟨v, h1, by rw [hTC] at h2; exact h2.back hb⟩)
          have HPE : Hid (∀ W a4 c4, Below wz.heap.size wz W → Row W a4 c4 (FM ++ TC) → Calls Try.prog 24 #[.slice a4 N4 c4, .slice am nm cm] W fun e w' => ∃ v, e = .returned v ∧ Own wz w' v BM) :=
            Lib.hid (fun W a4 c4 hb hrow => (putMarks_any a4 N4 c4 (FM ++ TC) am nm cm T W hrow HN4.out (HHM.out.later (HBZ.out.trans (hb.mono HBZ.out.size))) HNM.out (by simp only [List.length_append]; omega)).mono fun e w' ⟨v, h1, h2⟩ => ⟨v, h1, by rw [HBO.out, HTT.out, HTC.out, ← List.append_assoc]; exact h2.back hb⟩)
          clear hTC hN4 hlB hsok hcok
          go_upto_region 13 with fail
          go_region_with (first
            | (go_at_call 23; refine (HPC.out _ (by first | exact Below.refl _ _ | exact (Below.refl _ _).drew | exact below_drewN _ _)).mono ?_; rintro e w4 ⟨v4, rfl, o4⟩; have hb4 := o4.below; obtain ⟨a4, c4, rfl, r4⟩ := o4.row_n HN4.out; obtain ⟨-, -, -, -, -, -, y6, y7, y8, y9⟩ := (HXZ.out.later hb4).c10)
            | (go_at_call 24; refine (HPE.out _ a4 c4 (by first | exact hb4 | exact hb4.trans ((Below.refl _ _).drew.mono hb4.size)) (by first | exact r4 | exact r4.later (Below.refl _ _).drew)).mono ?_; rintro e w5 ⟨v5, rfl, o5⟩; obtain ⟨a5, c5, rfl, r5⟩ := o5.row_n HNB.out))
          all_goals
            go_wp2_with (go_at_call 25; refine (seal_own (by first | exact o5 | exact o5.later (Below.refl _ _).drew) HNB.out (by omega)).mono ?_; rintro e w6 ⟨v6, rfl, o6⟩)
            try go_ret2
            exact HP.out _ _ (o6.back HWZ.out)
        · have HTT := Lib.hid (HT6.out hk2)
          have tk : (k == 2) = false := by simp [hk2]
          have tk4 : (k == 4) = false := by simp [hk2]
          have tk6 : (k == 6) = true := by simp [hk2]
          clear hk2
          have HRD := Lib.hid (HHD.out.later HBZ.out)
          have hlB := HBL.out
          rw [HBO.out, HTT.out, List.length_append] at hlB
          have HLB := Lib.hid hlB
          clear hlB
          go_wp2_with (first
            | (at_builtin; refine wp_row rfl _ _ rfl _ _ rfl w HOZ.out _ _ _ _ HRD.out HND.out rfl (by have := HLB.out; omega) ?_; intro v5 w5 o5; rw [← HTT.out, ← HBO.out] at o5; obtain ⟨a5, c5, rfl, r5⟩ := o5.row_n HNB.out)
            | (go_at_call 25; refine (seal_own o5 HNB.out (by omega)).mono ?_; rintro e w6 ⟨v6, rfl, o6⟩))
          try go_ret2
          exact HP.out _ _ o6
        · have HTT := Lib.hid (HTX.out hk2.1 hk2.2.1 hk2.2.2)
          have tk : (k == 2) = false := by simpa using hk2.1
          have tk4 : (k == 4) = false := by simpa using hk2.2.1
          have tk6 : (k == 6) = false := by simpa using hk2.2.2
          clear hk2
          have HFB : Hid (FM = BM) := Lib.hid (by rw [HBO.out, HTT.out, List.append_nil])
          have HN0B : Hid (BM.length = N0) := Lib.hid (by rw [← HFB.out]; exact HN0.out)
          have hN9 : N0 ≤ 900 := by have := HN0B.out; have := HNB.out; omega
          rw [HFB.out] at HOZ
          go_wp2_with (go_at_call 25; refine (seal_own HOZ.out HN0B.out (by omega)).mono ?_; rintro e w6 ⟨v6, rfl, o6⟩)
          try go_ret2
          exact HP.out _ _ o6
end Go.Proofs.Ytiahifpbofkimaa
