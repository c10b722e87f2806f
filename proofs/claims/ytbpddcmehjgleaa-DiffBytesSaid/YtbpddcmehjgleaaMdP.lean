/- Images: the program's own Apply, Fold. -/
import Derived.Test.YtbpddcmehjgleaaMdPi
import Derived.Test.YtbpddcmehjgleaaMdPd
namespace Go.Proofs.Ytbpddcmehjgleaa
open Go.RowKit Go.Proofs
set_option linter.unusedVariables false
set_option linter.unusedSimpArgs false
set_option linter.unnecessarySimpa false

def osV (W0 : World) (s : Sx) : SV := ⟨fun w x => ∃ d v, x = .agg #[d, v] ∧ OwS W0 w d v s, fun w w' x ⟨d, v, h1, h2⟩ hb => ⟨d, v, h1, h2.later hb⟩⟩
def jAp (W0 wo : World) (X : Nat) (s : Sx) : Nat → World → Prop
  | 0, w => Below wo.heap.size wo w
  | 1, w => RecAt w X zeroSt tSt
  | _ + 2, w => ∃ d v, RecAt w X #[d, v] tSt ∧ OwS W0 w d v s
theorem jAp_st (W0 wo : World) (X : Nat) (s : Sx) : ∀ ph w1 w2, jAp W0 wo X s ph w1 → Below w1.heap.size w1 w2 → jAp W0 wo X s ph w2
  | 0, w1, w2, h, hb => Below.trans h (hb.mono (Below.size h))
  | 1, w1, w2, h, hb => RecAt.later h hb
  | _ + 2, w1, w2, ⟨d, v, h1, h2⟩, hb => ⟨d, v, h1.later hb, h2.later hb⟩
set_option maxRecDepth 20000 in
set_option maxHeartbeats 6400000 in
theorem papply14_any (d v : Value) (s : Sx) (k o m : Int) (ae : Option Addr) (n c : Nat) (l : List UInt8) (T : ByteArray) (J : Nat → Prop) (w : World) (h : StA J w d v s) (hok : StOk s) (hr : Row w ae c l) (hn : l.length = n) (hT : T.size ≤ 9223372036854775807) :
    Calls Try.prog 22 #[.agg #[d, v], .agg #[.int .i64 k, .int .i64 o, .int .i64 m, .slice ae n c, .string T]] w fun e w' => PApplyIs w s ⟨k, o, m, l, T.data.toList⟩ e w' := by
  obtain ⟨a1, c1, a2, c2, rfl, rfl, rd, rs⟩ := h.open
  obtain ⟨nd, hnd⟩ : ∃ z, s.data.length = z := ⟨_, rfl⟩
  obtain ⟨ns, hns⟩ : ∃ z, s.snaps.length = z := ⟨_, rfl⟩
  simp only [hnd] at h ⊢
  simp only [hns] at h ⊢
  obtain ⟨X2, X3, X4, B3⟩ := three_recsS w #[.slice a1 nd c1, .slice a2 ns c2] #[.int .i64 k, .int .i64 o, .int .i64 m, .slice ae n c, .string T] zeroSt 32 46 32
  obtain ⟨wb, hw1⟩ : ∃ W, (((w.alloc (.cells #[.slice a1 nd c1, .slice a2 ns c2] 32)).alloc (.cells #[.int .i64 k, .int .i64 o, .int .i64 m, .slice ae n c, .string T] 46)).alloc (.cells zeroSt 32)) = W := ⟨_, rfl⟩
  rw [hw1] at X2 X3 X4 B3
  have HKC := Lib.hid (pcheck14_any (.slice a1 nd c1) (.slice a2 ns c2) s k o m ae n c l T J wb (h.later B3) hok (hr.later B3) hn hT)
  obtain ⟨EV, hEV⟩ : ∃ z, (⟨k, o, m, l, T.data.toList⟩ : Ev) = z := ⟨_, rfl⟩
  have HEV := Lib.hid hEV
  rw [hEV] at HKC ⊢
  obtain ⟨CK, hCK⟩ : ∃ z, checkM s EV = z := ⟨_, rfl⟩
  rw [hCK] at HKC
  have HCK := Lib.hid hCK
  have HX2 := Lib.hid X2
  have HX3 := Lib.hid X3
  have HX4 := Lib.hid X4
  have HB3 := Lib.hid B3
  have HH := Lib.hid (h.later B3)
  have HOK := Lib.hid hok
  have HRW := Lib.hid (hr.later B3)
  have HN := Lib.hid hn
  clear X2 X3 X4 B3 rd rs h hnd hns hr hn hok hCK hEV
  go_enter Try.func22, Try.ntmps22
  go_upto_region 1 with fail
  try rw [hw1]
  clear hw1
  obtain ⟨X, hX⟩ : ∃ X, w.heap.size = X := ⟨_, rfl⟩
  simp only [hX] at HX2 HX3 HX4 ⊢
  have HXS := Lib.hid hX
  clear hX
  obtain ⟨x0, x1⟩ := HX2.out.c2
  obtain ⟨y0, y1, y2, y3, y4⟩ := HX3.out.c5
  go_wp2_with fail
  refine HKC.out.mono ?_
  rintro e wo ⟨rfl, b2⟩
  have HBO := Lib.hid (HB3.out.trans (b2.mono HB3.out.size))
  have HR2 := Lib.hid (HX2.out.later b2)
  have HR3 := Lib.hid (HX3.out.later b2)
  have HR4 := Lib.hid (HX4.out.later b2)
  have HST := Lib.hid (HH.out.later b2)
  have HRR := Lib.hid (HRW.out.later b2)
  clear b2 x0 x1 y0 y1 y2 y3 y4 HKC HX2 HX3 HX4 HH HRW HB3
  by_cases hc : CK = 0
  · subst hc
    have HAP : Hid (applyM s EV = (doneM s EV, 0)) := Lib.hid (applyM_yes HCK.out)
    have HCL := Lib.hid (fun W (hb : Below wo.heap.size wo W) => pclone_any (.slice a1 nd c1) (.slice a2 ns c2) s J W (HST.out.later hb) (by have := HOK.out.size; omega) (by have := HOK.out.many; omega) (fun q hq => by have := HOK.out.sizes q hq; omega))
    go_upto_region 4 with fail
    -- REG P4
    refine wp_region_ptab (L := fun ph => match ph with | 0 => [cV (.agg #[.slice a1 nd c1, .slice a2 ns c2]), osV w s, cV (.agg #[.int .i64 k, .int .i64 o, .int .i64 m, .slice ae n c, .string T]), nV, tV, cV (.int .i64 0)] | 1 => [cV (.agg #[.slice a1 nd c1, .slice a2 ns c2]), tV, cV (.agg #[.int .i64 k, .int .i64 o, .int .i64 m, .slice ae n c, .string T]), osV w (doneM s EV), tV, cV (.int .i64 0)] | _ => [cV (.agg #[.slice a1 nd c1, .slice a2 ns c2]), tV, cV (.agg #[.int .i64 k, .int .i64 o, .int .i64 m, .slice ae n c, .string T]), tV, tV, cV (.int .i64 0)]) (jAp w wo (X + 2) (doneM s EV)) [3, 4] [(0, 0), (0, 0), (0, 0), (0, 1), (1, 2), (2, 2)] [[(2, none)], [(14, some 0)], [(3, none)], [(15, some 1), (16, some 2)], [(4, none), (17, some 3)], []] 6 2 18 (by kernel_rfl) rfl rfl rfl (by kernel_rfl) (by kernel_rfl) (by decide) (by kernel_rfl) ?_ ?_ ?_ ?_ ?_
    · exact jAp_st w wo (X + 2) (doneM s EV)
    · exact Below.refl _ _
    · show ∀ i, i < 6 → _
      iterate 6 (refine fls ?_ ?_)
      · exact fl0
      · intro hne lo hi ph hran hp1 hp2 a w1 hJ hsz hs      -- 0: slot 14
        obtain ⟨rfl, rfl⟩ : 0 = lo ∧ 0 = hi := Prod.mk.inj (Option.some.inj hran)
        obtain rfl : ph = 0 := by omega
        obtain ⟨h0, _⟩ := hs
        have h0 : a.tmps.getD 2 undef = .pointer (some ⟨X, 0, none⟩) := h0
        obtain ⟨k0, k1⟩ := (HR2.out.later (show Below wo.heap.size wo w1 from hJ)).c2
        refine op_run rfl rfl (v := .agg #[.slice a1 nd c1, .slice a2 ns c2]) (w' := w1) ?_ rfl (Below.refl _ _)
        simp [execOp, Act.eval, h0, k0, k1, go_sem]
      · intro hne lo hi ph hran hp1 hp2 a w1 hJ hsz hs      -- 1: slot 15
        obtain ⟨rfl, rfl⟩ : 0 = lo ∧ 0 = hi := Prod.mk.inj (Option.some.inj hran)
        obtain rfl : ph = 0 := by omega
        obtain ⟨h0, _⟩ := hs
        have h0 : a.tmps.getD 14 undef = .agg #[.slice a1 nd c1, .slice a2 ns c2] := h0
        refine op_call rfl rfl (f := 37) (args := #[.agg #[.slice a1 nd c1, .slice a2 ns c2]]) (by simp [execOp, Act.eval, resolve, h0, go_sem]) ?_
        exact (HCL.out w1 (show Below wo.heap.size wo w1 from hJ)).mono fun e w' ⟨d, v, h1, h2⟩ => ⟨_, h1, ⟨d, v, rfl, h2.back (HBO.out.trans ((show Below wo.heap.size wo w1 from hJ).mono HBO.out.size))⟩, h2.below⟩
      · intro hne lo hi ph hran hp1 hp2 a w1 hJ hsz hs      -- 2: slot 16
        obtain ⟨rfl, rfl⟩ : 0 = lo ∧ 0 = hi := Prod.mk.inj (Option.some.inj hran)
        obtain rfl : ph = 0 := by omega
        obtain ⟨h0, _⟩ := hs
        have h0 : a.tmps.getD 3 undef = .pointer (some ⟨X + 1, 0, none⟩) := h0
        obtain ⟨k0, k1, k2, k3, k4⟩ := (HR3.out.later (show Below wo.heap.size wo w1 from hJ)).c5
        refine op_run rfl rfl (v := .agg #[.int .i64 k, .int .i64 o, .int .i64 m, .slice ae n c, .string T]) (w' := w1) ?_ rfl (Below.refl _ _)
        simp [execOp, Act.eval, h0, k0, k1, k2, k3, k4, go_sem]
      · intro hne lo hi ph hran hp1 hp2 a w1 hJ hsz hs      -- 3: slot 17
        exact absurd (by decide) hne
      · intro hne lo hi ph hran hp1 hp2 a w1 hJ hsz hs      -- 4: slot None
        exact absurd (by decide) hne
      · intro hne lo hi ph hran hp1 hp2 a w1 hJ hsz hs      -- 5: slot 5
        obtain ⟨rfl, rfl⟩ : 2 = lo ∧ 2 = hi := Prod.mk.inj (Option.some.inj hran)
        obtain rfl : ph = 2 := by omega
        refine op_run rfl rfl (v := .int .i64 0) (w' := w1) ?_ rfl (Below.refl _ _)
        simp [execOp, Act.eval, go_sem]
    · show ∀ ph, ph < 2 → _
      iterate 2 (refine fls ?_ ?_)
      · exact fl0
      · intro i hi a w1 hJ hsz hs      -- heavy 0: op 3 slot 17
        obtain rfl : 3 = i := Option.some.inj hi
        obtain ⟨h0, h1, _⟩ := hs
        have m0 : (osV w s).p w1 (a.tmps.getD 15 undef) := h0
        have h1 : a.tmps.getD 16 undef = .agg #[.int .i64 k, .int .i64 o, .int .i64 m, .slice ae n c, .string T] := h1
        obtain ⟨dc, vc, e15, hc⟩ := (show ∃ d v, a.tmps.getD 15 undef = .agg #[d, v] ∧ OwS w w1 d v s from m0)
        refine hv_call rfl rfl (f := 39) (args := #[.agg #[dc, vc], .agg #[.int .i64 k, .int .i64 o, .int .i64 m, .slice ae n c, .string T]]) (by simp [execOp, Act.eval, resolve, e15, h1, go_sem]) ?_
        refine (pdone_any dc vc s k o m ae n c l T w w1 hc HOK.out (HRR.out.later (show Below wo.heap.size wo w1 from hJ)) HN.out hT (by rw [HEV.out]; exact HCK.out)).mono ?_
        rw [HEV.out]
        rintro e w' ⟨d', v', rfl, o', k'⟩
        exact ⟨_, rfl, ⟨d', v', rfl, o'⟩, k'.keepRec hc (HR4.out.later (show Below wo.heap.size wo w1 from hJ)), (Calm5.all (n := 0) ⟨.inr fun _ h => h, .inr fun _ _ => trivial, .inr fun _ h => h, .inl rfl, .inr fun _ h => h, .inr fun _ h => h, trivial⟩)⟩
      · intro i hi a w1 hJ hsz hs      -- heavy 1: op 4 slot None
        obtain rfl : 4 = i := Option.some.inj hi
        obtain ⟨h0, h1, _⟩ := hs
        have h0 : a.tmps.getD 4 undef = .pointer (some ⟨X + 2, 0, none⟩) := h0
        have g0 : a.tmps[4]?.getD undef = .pointer (some ⟨X + 2, 0, none⟩) := (Array.getD_eq_getD_getElem? ..).symm.trans h0
        have m1 : (osV w (doneM s EV)).p w1 (a.tmps.getD 17 undef) := h1
        have hr4 : RecAt w1 (X + 2) zeroSt tSt := hJ
        obtain ⟨d', v', e17, o'⟩ := (show ∃ d v, a.tmps.getD 17 undef = .agg #[d, v] ∧ OwS w w1 d v (doneM s EV) from m1)
        have hone : (#[d', v'] : Array Value).all (·.oneCell') = true := by
          obtain ⟨qa, qb, qc, qd, rfl, rfl, _, _⟩ := o'.st.open
          simp [Value.oneCell']
        exact hv_rec rfl rfl (x := X + 2) (p := .tmp 4) (v := .tmp 17) (cs := zeroSt) (vs := #[d', v']) rfl h0 e17 hr4 rfl (by kernel_rfl) hone (fun w' => trivial) (fun w' r1 r2 r3 r4 => ⟨d', v', r1, o'.over hr4 r4 (by rw [HXS.out]; exact Nat.le_add_right _ _)⟩) (fun w' => (Calm5.all (n := 0) ⟨.inr fun _ h => h, .inr fun _ _ => trivial, .inr fun _ h => h, .inr fun _ _ => trivial, .inl rfl, .inr fun _ h => h, trivial⟩))
    intro f w1 hJ hv
    have e5 : f 5 = .int .i64 0 := hv 5 _ 5 rfl rfl
    clear hv
    try simp only [Exit.then]
    simp only [putAll, List.foldl_cons, List.foldl_nil, Option.getD_some, Act.put, List.setIfInBounds_toArray, List.set_cons_succ, List.set_cons_zero, e5]
    obtain ⟨d9, v9, q1, q2⟩ := (show jAp w wo (X + 2) (doneM s EV) 2 w1 from hJ)
    have HRX := Lib.hid q1
    have HOS := Lib.hid q2
    clear hJ q1 q2 e5
    -- END P4
    go_wp2_with fail
    refine bodyPost_ret (results_ct rfl rfl HRX.out Try.underlying32 rfl (by kernel_rfl)) rfl ?_
    unfold PApplyIs
    rw [HAP.out]
    exact ⟨_, _, rfl, HOS.out.stU, HOS.out.below⟩
  · have HAP : Hid (applyM s EV = (noSx, CK)) := Lib.hid (by rw [applyM_no (by rw [HCK.out]; exact hc), HCK.out])
    have hq : (CK != 0) = true := by simpa using hc
    clear hc
    go_wp2_with (refine wpList_rec rfl rfl (X + 2) zeroSt zeroSt rfl rfl HR4.out rfl (by kernel_rfl) (by kernel_rfl) ?_; intro w4 r1 r2 r3 r4)
    refine bodyPost_ret (results_ct rfl rfl r1 Try.underlying32 rfl (by kernel_rfl)) rfl ?_
    unfold PApplyIs
    rw [HAP.out]
    exact ⟨_, _, rfl, ⟨BQ.nil _ _, QRow.nil _ _⟩, HBO.out.grown r4 HBO.out.size (fun q e => by cases e; have := HXS.out; omega)⟩
set_option maxRecDepth 20000 in
set_option maxHeartbeats 6400000 in
theorem pfold14_any (d v : Value) (s : Sx) (a : Option Addr) (n cap : Nat) (l : List Ev) (J JE : Nat → Prop) (w : World) (h : StA J w d v s) (hok : StOk s) (hl : QE JE w (.slice a n cap) l) :
    Calls Try.prog 20 #[.agg #[d, v], .slice a n cap] w fun e w' => FoldIs (newB w) w (foldM s l) e w' := by
  obtain ⟨a1, c1, a2, c2, rfl, rfl, -, -⟩ := h.open
  obtain ⟨hn, hcap, hcm, hca⟩ := hl.cap
  unfold maxLen at hcm
  obtain ⟨nd, hnd⟩ : ∃ z, s.data.length = z := ⟨_, rfl⟩
  obtain ⟨ns, hns⟩ : ∃ z, s.snaps.length = z := ⟨_, rfl⟩
  simp only [hnd] at h ⊢
  simp only [hns] at h ⊢
  obtain ⟨X2, X3, B3⟩ := two_recsS w #[.slice a1 nd c1, .slice a2 ns c2] zeroSt 32 32
  obtain ⟨wb, hw1⟩ : ∃ W, ((w.alloc (.cells #[.slice a1 nd c1, .slice a2 ns c2] 32)).alloc (.cells zeroSt 32)) = W := ⟨_, rfl⟩
  rw [hw1] at X2 X3 B3
  have HKC := Lib.hid (pclone_any (.slice a1 nd c1) (.slice a2 ns c2) s J wb (h.later B3) (by have := hok.size; omega) (by have := hok.many; omega) (fun q hq => by have := hok.sizes q hq; omega))
  obtain ⟨F, hF⟩ : ∃ z, foldM s l = z := ⟨_, rfl⟩
  have HF := Lib.hid hF
  rw [hF]
  have HX2 := Lib.hid X2
  have HX3 := Lib.hid X3
  have HB3 := Lib.hid B3
  have HL := Lib.hid hl
  have HN := Lib.hid hn
  have HOK := Lib.hid hok
  clear X2 X3 B3 h hl hn hnd hns hok hF
  go_enter Try.func20, Try.ntmps20
  go_upto_region 1 with fail
  try rw [hw1]
  clear hw1
  obtain ⟨X, hX⟩ : ∃ X, w.heap.size = X := ⟨_, rfl⟩
  simp only [hX] at HX2 HX3 ⊢
  have HXS := Lib.hid hX
  clear hX
  obtain ⟨x0, x1⟩ := HX2.out.c2
  go_wp2_with fail
  refine HKC.out.mono ?_
  rintro e w2 ⟨d2, v2, rfl, o2⟩
  have HO2 := Lib.hid (o2.back HB3.out)
  have HR2 := Lib.hid (HX2.out.later o2.below)
  have HR3 := Lib.hid (HX3.out.later o2.below)
  obtain ⟨ad, cd, av, cv, rfl, rfl, -, -⟩ := o2.st.open
  clear o2 x0 x1 HKC
  obtain ⟨nd2, hnd2⟩ : ∃ z, s.data.length = z := ⟨_, rfl⟩
  obtain ⟨ns2, hns2⟩ : ∃ z, s.snaps.length = z := ⟨_, rfl⟩
  simp only [hnd2, hns2] at HO2 ⊢
  clear hnd2 hns2
  go_wp2_with (refine wpList_rec rfl rfl X #[.slice a1 nd c1, .slice a2 ns c2] #[.slice ad nd2 cd, .slice av ns2 cv] rfl rfl HR2.out rfl (by kernel_rfl) (by simp [Value.oneCell']) ?_; intro w3 r1 r2 r3 r4)
  have HO3 := Lib.hid (HO2.out.over HR2.out r4 (by rw [HXS.out]; exact Nat.le_refl _))
  have HP3 := Lib.hid r1
  have HZ3 := Lib.hid (HR3.out.keep r3 (by omega))
  clear r1 r2 r3 r4
  go_wp2_with fail
  go_loopw [11] (fun i wr => ∃ (j : Nat) (ad : Option Addr) (nd cd : Nat) (av : Option Addr) (nv cv : Nat), i = .int .i64 j ∧ j ≤ n ∧ Hid (OwS w wr (.slice ad nd cd) (.slice av nv cv) (foldM s (l.take j))) ∧ Hid (RecAt wr X #[.slice ad nd cd, .slice av nv cv] tSt) ∧ Hid (RecAt wr (X + 1) zeroSt tSt)) (fun i _ => n - (intOf i).toNat)
  case atStart => exact ⟨0, _, _, _, _, _, _, rfl, by omega, by simpa [foldM] using HO3, HP3, HZ3⟩
  case round =>
    obtain ⟨j, ad, nd, cd, av, nv, cv, rfl, hj, HO, HRX, HRY⟩ := hrel
    by_cases hjn : (j : Int) < n
    · have hjn2 : j < n := by omega
      have hjj : ¬ (j : Int) < 0 := by omega
      obtain ⟨ev, hev⟩ : ∃ e, l[j]? = some e := ⟨l[j]'(by have := HN.out; omega), List.getElem?_eq_getElem _⟩
      obtain ⟨b1, f1, S, a2, c2, rfl, p0, p1, p2, p3, p4, hS, hS2, hrow⟩ := (HL.out.later ev_rel HO.out.below).e5 hev
      have HTK := Lib.hid (foldM_take (s := s) hev)
      have HOKJ := Lib.hid (foldM_ok HOK.out (l.take j))
      obtain ⟨sj, hsj⟩ : ∃ z, foldM s (l.take j) = z := ⟨_, rfl⟩
      rw [hsj] at HO HTK HOKJ
      have hba := below_rec wr #[.int .i64 ev.kind, .int .i64 ev.off, .int .i64 ev.len, .slice a2 ev.data.length c2, .string S] 46
      have HXE := Lib.hid (RecAt.new wr #[.int .i64 ev.kind, .int .i64 ev.off, .int .i64 ev.len, .slice a2 ev.data.length c2, .string S] 46)
      obtain ⟨wo, hwo⟩ : ∃ W, wr.alloc (.cells #[.int .i64 ev.kind, .int .i64 ev.off, .int .i64 ev.len, .slice a2 ev.data.length c2, .string S] 46) = W := ⟨_, rfl⟩
      rw [hwo] at hba HXE
      have HEVN : Hid ((⟨ev.kind, ev.off, ev.len, ev.data, S.data.toList⟩ : Ev) = ev) := Lib.hid (by rw [hS])
      have HOo := Lib.hid (HO.out.later hba)
      have HXo := Lib.hid (HRX.out.later hba)
      have HYo := Lib.hid (HRY.out.later hba)
      have HRo := Lib.hid (hrow.later hba)
      have HKC := Lib.hid (pcheck14_any (.slice ad nd cd) (.slice av nv cv) sj ev.kind ev.off ev.len a2 ev.data.length c2 ev.data S (newB w) wo HOo.out.st HOKJ.out HRo.out rfl hS2)
      rw [HEVN.out] at HKC
      obtain ⟨CK, hCK⟩ : ∃ z, checkM sj ev = z := ⟨_, rfl⟩
      rw [hCK] at HKC
      have HCK := Lib.hid hCK
      obtain ⟨K1, hK1⟩ : ∃ z, ev.kind = z := ⟨_, rfl⟩
      obtain ⟨K2, hK2⟩ : ∃ z, ev.off = z := ⟨_, rfl⟩
      obtain ⟨K3, hK3⟩ : ∃ z, ev.len = z := ⟨_, rfl⟩
      obtain ⟨L1, hL1⟩ : ∃ z, ev.data.length = z := ⟨_, rfl⟩
      have HL1 := Lib.hid hL1
      simp only [hK1, hK2, hK3, hL1] at p0 p1 p2 p3 HXE HKC hwo HEVN
      clear hev hsj hS hrow hba hCK hK1 hK2 hK3 hL1
      go_upto_region 5 with fail
      try rw [hwo]
      obtain ⟨PO, hPO⟩ : ∃ z, wr.heap.size = z := ⟨_, rfl⟩
      rw [hPO] at HXE ⊢
      clear p0 p1 p2 p3 p4 hwo hPO
      obtain ⟨x0, x1⟩ := HXo.out.c2
      obtain ⟨y0, y1, y2, y3, y4⟩ := HXE.out.c5
      go_wp2_with fail
      refine HKC.out.mono ?_
      rintro e w5 ⟨rfl, b5⟩
      have HO5 := Lib.hid (HOo.out.later b5)
      have HX5 := Lib.hid (HXo.out.later b5)
      have HY5 := Lib.hid (HYo.out.later b5)
      have HE5 := Lib.hid (HXE.out.later b5)
      have HR5 := Lib.hid (HRo.out.later b5)
      clear b5 x0 x1 y0 y1 y2 y3 y4 HKC
      by_cases h0 : CK = 0
      · subst h0
        have HSJ : Hid (foldM s (l.take (j + 1)) = doneM sj ev) := Lib.hid (by rw [HTK.out, stepM_yes HCK.out])
        have HDN := Lib.hid (pdone_any (.slice ad nd cd) (.slice av nv cv) sj K1 K2 K3 a2 L1 c2 ev.data S w w5 HO5.out HOKJ.out HR5.out HL1.out hS2 (by rw [HEVN.out]; exact HCK.out))
        rw [HEVN.out] at HDN
        obtain ⟨x0, x1⟩ := HX5.out.c2
        obtain ⟨y0, y1, y2, y3, y4⟩ := HE5.out.c5
        go_wp2_with fail
        refine HDN.out.mono ?_
        rintro e w6 ⟨d6, v6, rfl, o6, k6⟩
        have HO6 := Lib.hid o6
        have HX6 := Lib.hid (k6.keepRec HO5.out HX5.out)
        have HY6 := Lib.hid (k6.keepRec HO5.out HY5.out)
        obtain ⟨a7, c7, a8, c8, rfl, rfl, -, -⟩ := o6.st.open
        clear o6 k6 x0 x1 y0 y1 y2 y3 y4
        obtain ⟨n7, hn7⟩ : ∃ z, (doneM sj ev).data.length = z := ⟨_, rfl⟩
        obtain ⟨n8, hn8⟩ : ∃ z, (doneM sj ev).snaps.length = z := ⟨_, rfl⟩
        simp only [hn7, hn8] at HO6 ⊢
        clear hn7 hn8
        go_wp2_with (refine wpList_rec rfl rfl X #[.slice ad nd cd, .slice av nv cv] #[.slice a7 n7 c7, .slice a8 n8 c8] rfl rfl HX6.out rfl (by kernel_rfl) (by simp [Value.oneCell']) ?_; intro w7 r1 r2 r3 r4)
        go_roundw
        case rel => exact ⟨j + 1, _, _, _, _, _, _, by go_num, by omega, Lib.hid (by rw [HSJ.out]; exact HO6.out.over HX6.out r4 (by rw [HXS.out]; exact Nat.le_refl _)), Lib.hid r1, Lib.hid (HY6.out.keep r3 (by omega))⟩
        case measure => simp [intOf]; omega
      · have hq : (CK == 0) = false := by simpa using h0
        have HSJ : Hid (foldM s (l.take (j + 1)) = sj) := Lib.hid (by rw [HTK.out, stepM_no (by rw [HCK.out]; exact h0)])
        clear h0
        go_wp2_with fail
        go_roundw
        case rel => exact ⟨j + 1, _, _, _, _, _, _, by go_num, by omega, Lib.hid (by rw [HSJ.out]; exact HO5.out), HX5, HY5⟩
        case measure => simp [intOf]; omega
    · have hjN : j = n := by omega
      have HFF : Hid (OwS w wr (.slice ad nd cd) (.slice av nv cv) F) := Lib.hid (by
        have := HO.out
        rw [List.take_of_length_le (by rw [HN.out]; omega), HF.out] at this
        exact this)
      clear hjN HO
      obtain ⟨z0, z1⟩ := HRX.out.c2
      go_wp2_with (refine wpList_rec rfl rfl (X + 1) zeroSt #[.slice ad nd cd, .slice av nv cv] rfl rfl HRY.out rfl (by kernel_rfl) (by simp [Value.oneCell']) ?_; intro w9 r1 r2 r3 r4)
      refine bodyPost_ret (results_c rfl rfl r1 Try.underlying32 rfl (by kernel_rfl)) rfl ?_
      have HO9 := HFF.out.over HRY.out r4 (by rw [HXS.out]; exact Nat.le_succ _)
      exact ⟨_, _, rfl, HO9.st, HO9.below⟩
end Go.Proofs.Ytbpddcmehjgleaa
