/- Events: what is put: package event's. | Events: what is put: the document's own. -/
import Derived.Test.YtbpddcmehjgleaaEvP
import Derived.Test.YtbpddcmehjgleaaPut
import Derived.Test.YtbpddcmehjgleaaApp
import Derived.Deep.DeepCutAuto
namespace Go.Proofs.Ytbpddcmehjgleaa
open Go.RowKit
set_option linter.unusedVariables false
set_option linter.unusedSimpArgs false
set_option linter.unusedSectionVars false

/-- '[]byte{u}'. -/
theorem own_one {W0 w : World} {u : UInt8} (h : Below W0.heap.size W0 w) : Own W0 (w.alloc (.cells #[.int .u8 (u.toNat : Nat)] 5)) (.slice (some ⟨w.heap.size, 0, none⟩) 1 1) [u] :=
  ⟨⟨rfl, .inr ⟨w.heap.size, 1, _, rfl, h.size, heap_alloc_new w _, Nat.le_refl _, by simp [maxLen], rfl, rfl⟩⟩, h.alloc h.size _⟩
section
variable (o m : Int) (ad : Option Addr) (n c : Nat) (l : List UInt8) (s : ByteArray) (w : World)
set_option maxHeartbeats 1000000 in
theorem eput_w (hr : Row w ad c l) (hn : l.length = n) (hs : s.size ≤ 9223372036854775807) (h : (Ev.mk 1 o m l s.data.toList).right = true) :
    Calls Try.prog 30 #[.agg #[.int .i64 1, .int .i64 o, .int .i64 m, .slice ad n c, .string s]] w fun e w' => ∃ v, e = .returned (.tuple #[v, .int .i64 0]) ∧ Own w w' v (putE ⟨1, o, m, l, s.data.toList⟩) := by
  have HW : Hid (Below w.heap.size w (w.alloc (.cells #[.int .i64 1, .int .i64 o, .int .i64 m, .slice ad n c, .string s] 46))) := Lib.hid ((Below.refl _ _).alloc (Nat.le_refl _) _)
  have HX := Lib.hid (RecAt.new w #[.int .i64 1, .int .i64 o, .int .i64 m, .slice ad n c, .string s] 46)
  have HR := Lib.hid (hr.later HW.out)
  have HN := Lib.hid hn
  have HB := Lib.hid h
  have HL : Hid (l.length ≤ 64 ∧ 0 ≤ o ∧ o ≤ 512) := by
    rcases right_iff.1 h with h1 | h1 | h1 | h1 | h1 <;> simp only [within_iff] at h1 <;> first | (exfalso; omega) | exact Lib.hid (by first | omega | exact nameOk_len h1.2.2.2.2)
  obtain ⟨G, hG⟩ : ∃ G, putE ⟨1, o, m, l, s.data.toList⟩ = G := ⟨_, rfl⟩
  have HG : Hid (([1] ++ varL o.toNat) ++ l = G) := Lib.hid (by rw [← hG]; unfold putE; rw [bodyE_w rfl]; simp)
  rw [hG]
  clear hG
  go_enter Try.func30, Try.ntmps30
  go_wp2_with fail
  refine (eright_any _ _ _ _ _ _ _ _ _ HR.out HN.out hs).mono ?_
  rw [HB.out]
  rintro e w1 ⟨rfl, hb1⟩
  have hba : Below w1.heap.size w1 (w1.alloc (.cells #[.int .u8 1] 5)) := (Below.refl _ _).alloc (Nat.le_refl _) _
  have hbb := hb1.trans (hba.mono hb1.size)
  have HW1 := Lib.hid (HW.out.trans (hb1.mono HW.out.size))
  have HW2 := Lib.hid (HW.out.trans (hbb.mono HW.out.size))
  have HX1 := Lib.hid (HX.out.later hb1)
  have HX2 := Lib.hid (HX.out.later hbb)
  have HR2 := Lib.hid (HR.out.later hbb)
  have HO : Hid (Row (w1.alloc (.cells #[.int .u8 1] 5)) (some ⟨w1.heap.size, 0, none⟩) 1 [1]) := Lib.hid (row_new w1 [1] (by decide))
  have HZ : Hid (Own w (w1.alloc (.cells #[.int .u8 1] 5)) (.slice (some ⟨w1.heap.size, 0, none⟩) 1 1) [1]) := Lib.hid (own_one HW1.out)
  obtain ⟨x0, x1, x2, x3, x4⟩ := HX1.out.c5
  clear hba hbb hb1 h hr hn HW HX HR HW1
  go_upto_region 4 with fail
  generalize (w1.alloc (.cells #[.int .u8 1] 5)) = w2 at *
  generalize w1.heap.size = p1 at *
  clear x0 x1 x2 x3 x4 HX1
  obtain ⟨x0, x1, x2, x3, x4⟩ := HX2.out.c5
  go_wp2_with fail
  clear x0 x1 x2 x3 x4
  refine wp_region_ptab (L := fun ph => match ph with | 0 => [cV (.slice (some ⟨p1, 0, none⟩) 1 1), cV (.pointer (some ⟨w.heap.size, 1, .none⟩)), cV (.int .i64 o), oV w ([1] ++ varL o.toNat), cV (.pointer (some ⟨w.heap.size, 3, .none⟩)), cV (.slice ad n c), nV, nV] | _ => [cV (.slice (some ⟨p1, 0, none⟩) 1 1), cV (.pointer (some ⟨w.heap.size, 1, .none⟩)), cV (.int .i64 o), tV, cV (.pointer (some ⟨w.heap.size, 3, .none⟩)), cV (.slice ad n c), oV w G, oV w G]) (jA w2) [6] [(0, 0), (0, 0), (0, 0), (0, 0), (0, 0), (0, 0), (0, 1), (1, 1)] [[(4, none)], [(1, none)], [(17, some 1)], [(16, some 0), (18, some 2)], [(1, none)], [(20, some 4)], [(19, some 3), (21, some 5)], [(22, some 6)]] 8 1 48 (by kernel_rfl) rfl rfl rfl (by kernel_rfl) (by kernel_rfl) (by decide) (by kernel_rfl) ?_ ?_ ?_ ?_ ?_
  · exact jA_st w2
  · exact Below.refl _ _
  · show ∀ i, i < 8 → _
    iterate 8 (refine fls ?_ ?_)
    · exact fl0
    · intro hne lo hi ph hran hp1 hp2 a w1 hJ hsz hs      -- 0: slot 16
      obtain ⟨rfl, rfl⟩ : 0 = lo ∧ 0 = hi := Prod.mk.inj (Option.some.inj hran)
      obtain rfl : ph = 0 := by omega
      obtain ⟨h0, _⟩ := hs
      have h0 : a.tmps.getD 4 undef = .slice (some ⟨p1, 0, none⟩) 1 1 := h0
      refine op_run rfl rfl (v := .slice (some ⟨p1, 0, none⟩) 1 1) (w' := w1) ?_ rfl (Below.refl _ _)
      simp [execOp, Act.eval, h0, go_sem]
    · intro hne lo hi ph hran hp1 hp2 a w1 hJ hsz hs      -- 1: slot 17
      obtain ⟨rfl, rfl⟩ : 0 = lo ∧ 0 = hi := Prod.mk.inj (Option.some.inj hran)
      obtain rfl : ph = 0 := by omega
      obtain ⟨h0, _⟩ := hs
      have h0 : a.tmps.getD 1 undef = .pointer (some ⟨w.heap.size, 0, .none⟩) := h0
      refine op_run rfl rfl (v := .pointer (some ⟨w.heap.size, 1, .none⟩)) (w' := w1) ?_ rfl (Below.refl _ _)
      simp [execOp, Act.eval, h0, go_sem]
    · intro hne lo hi ph hran hp1 hp2 a w1 hJ hsz hs      -- 2: slot 18
      obtain ⟨rfl, rfl⟩ : 0 = lo ∧ 0 = hi := Prod.mk.inj (Option.some.inj hran)
      obtain rfl : ph = 0 := by omega
      obtain ⟨h0, _⟩ := hs
      have h0 : a.tmps.getD 17 undef = .pointer (some ⟨w.heap.size, 1, .none⟩) := h0
      obtain ⟨x0, x1, x2, x3, x4⟩ := (HX2.out.later (show Below w2.heap.size w2 w1 from hJ)).c5
      refine op_run rfl rfl (v := .int .i64 o) (w' := w1) ?_ rfl (Below.refl _ _)
      simp [execOp, Act.eval, h0, x1, go_sem]
    · intro hne lo hi ph hran hp1 hp2 a w1 hJ hsz hs      -- 3: slot 19
      obtain ⟨rfl, rfl⟩ : 0 = lo ∧ 0 = hi := Prod.mk.inj (Option.some.inj hran)
      obtain rfl : ph = 0 := by omega
      obtain ⟨h0, h1, _⟩ := hs
      have h0 : a.tmps.getD 16 undef = .slice (some ⟨p1, 0, none⟩) 1 1 := h0
      have h1 : a.tmps.getD 18 undef = .int .i64 o := h1
      refine op_call rfl rfl (f := 46) (args := #[.slice (some ⟨p1, 0, none⟩) 1 1, .int .i64 o]) (by simp [execOp, Act.eval, resolve, h0, h1, go_sem]) ?_
      have hJ2 : Below w2.heap.size w2 w1 := hJ
      exact ov_of (var_any (some ⟨p1, 0, none⟩) 1 1 [1] o w1 (HO.out.later hJ2) rfl (by omega) (by have := HL.out; omega)) (HW2.out.trans (hJ2.mono HW2.out.size)) rfl
    · intro hne lo hi ph hran hp1 hp2 a w1 hJ hsz hs      -- 4: slot 20
      obtain ⟨rfl, rfl⟩ : 0 = lo ∧ 0 = hi := Prod.mk.inj (Option.some.inj hran)
      obtain rfl : ph = 0 := by omega
      obtain ⟨h0, _⟩ := hs
      have h0 : a.tmps.getD 1 undef = .pointer (some ⟨w.heap.size, 0, .none⟩) := h0
      refine op_run rfl rfl (v := .pointer (some ⟨w.heap.size, 3, .none⟩)) (w' := w1) ?_ rfl (Below.refl _ _)
      simp [execOp, Act.eval, h0, go_sem]
    · intro hne lo hi ph hran hp1 hp2 a w1 hJ hsz hs      -- 5: slot 21
      obtain ⟨rfl, rfl⟩ : 0 = lo ∧ 0 = hi := Prod.mk.inj (Option.some.inj hran)
      obtain rfl : ph = 0 := by omega
      obtain ⟨h0, _⟩ := hs
      have h0 : a.tmps.getD 20 undef = .pointer (some ⟨w.heap.size, 3, .none⟩) := h0
      obtain ⟨x0, x1, x2, x3, x4⟩ := (HX2.out.later (show Below w2.heap.size w2 w1 from hJ)).c5
      refine op_run rfl rfl (v := .slice ad n c) (w' := w1) ?_ rfl (Below.refl _ _)
      simp [execOp, Act.eval, h0, x3, go_sem]
    · intro hne lo hi ph hran hp1 hp2 a w1 hJ hsz hs      -- 6: slot 22
      exact absurd (by decide) hne
    · intro hne lo hi ph hran hp1 hp2 a w1 hJ hsz hs      -- 7: slot 4
      obtain ⟨rfl, rfl⟩ : 1 = lo ∧ 1 = hi := Prod.mk.inj (Option.some.inj hran)
      obtain rfl : ph = 1 := by omega
      obtain ⟨h0, _⟩ := hs
      have m0 : (oV w G).p w1 (a.tmps.getD 22 undef) := h0
      exact op_run rfl rfl (v := a.tmps.getD 22 undef) (w' := w1) (by simp [execOp, Act.eval, go_sem]) m0 (Below.refl _ _)
  · show ∀ ph, ph < 1 → _
    iterate 1 (refine fls ?_ ?_)
    · exact fl0
    · intro i hi a w1 hJ hsz hs      -- heavy 0: op 6 slot 22
      obtain rfl : 6 = i := Option.some.inj hi
      obtain ⟨h0, h1, _⟩ := hs
      have m0 : (oV w ([1] ++ varL o.toNat)).p w1 (a.tmps.getD 19 undef) := h0
      have h1 : a.tmps.getD 21 undef = .slice ad n c := h1
      have hcalm : ∀ (wq1 wq2 : World) (kk : Nat) (v0 : Value), kk ≠ 6 → VL [cV (.slice (some ⟨p1, 0, none⟩) 1 1), cV (.pointer (some ⟨w.heap.size, 1, .none⟩)), cV (.int .i64 o), oV w ([1] ++ varL o.toNat), cV (.pointer (some ⟨w.heap.size, 3, .none⟩)), cV (.slice ad n c), nV, nV] kk wq1 v0 → VL [cV (.slice (some ⟨p1, 0, none⟩) 1 1), cV (.pointer (some ⟨w.heap.size, 1, .none⟩)), cV (.int .i64 o), tV, cV (.pointer (some ⟨w.heap.size, 3, .none⟩)), cV (.slice ad n c), oV w G, oV w G] kk wq2 v0 := Calm2.all (n := 0) ⟨.inl ⟨_, rfl, rfl⟩, .inl ⟨_, rfl, rfl⟩, .inl ⟨_, rfl, rfl⟩, .inr (.inl rfl), .inl ⟨_, rfl, rfl⟩, .inl ⟨_, rfl, rfl⟩, .inr (.inr (.inl rfl)), .inr (.inr (.inr rfl)), trivial⟩
      have hJ2 : Below w2.heap.size w2 w1 := hJ
      refine hv_row rfl rfl (.tmp 19) (.tmp 21) rfl (a.tmps.getD 19 undef) ([1] ++ varL o.toNat) rfl w m0 ad c n l (HR2.out.later hJ2) HN.out h1 (by have := varL_nine (n := o.toNat) (by have := HL.out; omega); have := HL.out; simp only [List.length_append, List.length_cons, List.length_nil]; omega) ?_
      intro v' w' o1 _
      rw [HG.out] at o1
      exact ⟨o1, trivial, hcalm _ _⟩
  · intro f w1 hJ hv
    have e4 : (oV w G).p w1 (f 4) := hv 7 _ 4 rfl rfl
    clear hv
    try simp only [Exit.then]
    simp only [putAll, List.foldl_cons, List.foldl_nil, Option.getD_some, Act.put, List.setIfInBounds_toArray, List.set_cons_succ, List.set_cons_zero]
    generalize f 4 = v5 at e4 ⊢
    have o6 : Own w w1 v5 G := e4
    clear e4 hJ
    go_wp2_with fail
    go_ret2
    exact ⟨_, rfl, o6⟩
set_option maxHeartbeats 1000000 in
theorem eput_d2 (hr : Row w ad c l) (hn : l.length = n) (hs : s.size ≤ 9223372036854775807) (h : (Ev.mk 2 o m l s.data.toList).right = true) :
    Calls Try.prog 30 #[.agg #[.int .i64 2, .int .i64 o, .int .i64 m, .slice ad n c, .string s]] w fun e w' => ∃ v, e = .returned (.tuple #[v, .int .i64 0]) ∧ Own w w' v (putE ⟨2, o, m, l, s.data.toList⟩) := by
  have HW : Hid (Below w.heap.size w (w.alloc (.cells #[.int .i64 2, .int .i64 o, .int .i64 m, .slice ad n c, .string s] 46))) := Lib.hid ((Below.refl _ _).alloc (Nat.le_refl _) _)
  have HX := Lib.hid (RecAt.new w #[.int .i64 2, .int .i64 o, .int .i64 m, .slice ad n c, .string s] 46)
  have HR := Lib.hid (hr.later HW.out)
  have HN := Lib.hid hn
  have HB := Lib.hid h
  have HL : Hid (0 ≤ o ∧ o ≤ 512 ∧ 0 ≤ m ∧ m ≤ 512) := by
    rcases right_iff.1 h with h1 | h1 | h1 | h1 | h1 <;> simp only [within_iff] at h1 <;> first | (exfalso; omega) | exact Lib.hid (by first | omega | exact nameOk_len h1.2.2.2.2)
  obtain ⟨G, hG⟩ : ∃ G, putE ⟨2, o, m, l, s.data.toList⟩ = G := ⟨_, rfl⟩
  have HG : Hid (([2] ++ varL o.toNat) ++ varL m.toNat = G) := Lib.hid (by rw [← hG]; unfold putE; rw [bodyE_d (by simp)]; simp)
  rw [hG]
  clear hG
  go_enter Try.func30, Try.ntmps30
  go_wp2_with fail
  refine (eright_any _ _ _ _ _ _ _ _ _ HR.out HN.out hs).mono ?_
  rw [HB.out]
  rintro e w1 ⟨rfl, hb1⟩
  have hba : Below w1.heap.size w1 (w1.alloc (.cells #[.int .u8 2] 5)) := (Below.refl _ _).alloc (Nat.le_refl _) _
  have hbb := hb1.trans (hba.mono hb1.size)
  have HW1 := Lib.hid (HW.out.trans (hb1.mono HW.out.size))
  have HW2 := Lib.hid (HW.out.trans (hbb.mono HW.out.size))
  have HX1 := Lib.hid (HX.out.later hb1)
  have HX2 := Lib.hid (HX.out.later hbb)
  have HR2 := Lib.hid (HR.out.later hbb)
  have HO : Hid (Row (w1.alloc (.cells #[.int .u8 2] 5)) (some ⟨w1.heap.size, 0, none⟩) 1 [2]) := Lib.hid (row_new w1 [2] (by decide))
  have HZ : Hid (Own w (w1.alloc (.cells #[.int .u8 2] 5)) (.slice (some ⟨w1.heap.size, 0, none⟩) 1 1) [2]) := Lib.hid (own_one HW1.out)
  obtain ⟨x0, x1, x2, x3, x4⟩ := HX1.out.c5
  clear hba hbb hb1 h hr hn HW HX HR HW1
  go_upto_region 4 with fail
  generalize (w1.alloc (.cells #[.int .u8 2] 5)) = w2 at *
  generalize w1.heap.size = p1 at *
  clear x0 x1 x2 x3 x4 HX1
  obtain ⟨x0, x1, x2, x3, x4⟩ := HX2.out.c5
  go_wp2_with fail
  clear x0 x1 x2 x3 x4
  obtain ⟨D, N, hD, hN, hN2⟩ : ∃ D N, [2] ++ varL o.toNat = D ∧ D.length = N ∧ N ≤ 100 := ⟨_, _, rfl, rfl, by have := varL_nine (n := o.toNat) (by have := HL.out; omega); simp only [List.length_append, List.length_cons, List.length_nil]; omega⟩
  have HD := Lib.hid hD
  have HDN := Lib.hid hN
  rw [hD] at HG
  clear hD hN
  refine wp_region_ptab (L := fun ph => match ph with | _ => [cV (.slice (some ⟨p1, 0, none⟩) 1 1), cV (.pointer (some ⟨w.heap.size, 1, .none⟩)), cV (.int .i64 o), oV w (D), cV (.pointer (some ⟨w.heap.size, 2, .none⟩)), cV (.int .i64 m), oV w G, oV w G]) (fun _ wq => Below w2.heap.size w2 wq) [] [(0, 0), (0, 0), (0, 0), (0, 0), (0, 0), (0, 0), (0, 0), (0, 0)] [[(4, none)], [(1, none)], [(27, some 1)], [(26, some 0), (28, some 2)], [(1, none)], [(30, some 4)], [(29, some 3), (31, some 5)], [(32, some 6)]] 8 0 48 (by kernel_rfl) rfl rfl rfl (by kernel_rfl) (by kernel_rfl) (by decide) (by kernel_rfl) ?_ ?_ ?_ ?_ ?_
  · exact fun ph w1 w2 h hb => h.trans (hb.mono h.size)
  · exact Below.refl _ _
  · show ∀ i, i < 8 → _
    iterate 8 (refine fls ?_ ?_)
    · exact fl0
    · intro hne lo hi ph hran hp1 hp2 a w1 hJ hsz hs      -- 0: slot 26
      obtain ⟨rfl, rfl⟩ : 0 = lo ∧ 0 = hi := Prod.mk.inj (Option.some.inj hran)
      obtain rfl : ph = 0 := by omega
      obtain ⟨h0, _⟩ := hs
      have h0 : a.tmps.getD 4 undef = .slice (some ⟨p1, 0, none⟩) 1 1 := h0
      refine op_run rfl rfl (v := .slice (some ⟨p1, 0, none⟩) 1 1) (w' := w1) ?_ rfl (Below.refl _ _)
      simp [execOp, Act.eval, h0, go_sem]
    · intro hne lo hi ph hran hp1 hp2 a w1 hJ hsz hs      -- 1: slot 27
      obtain ⟨rfl, rfl⟩ : 0 = lo ∧ 0 = hi := Prod.mk.inj (Option.some.inj hran)
      obtain rfl : ph = 0 := by omega
      obtain ⟨h0, _⟩ := hs
      have h0 : a.tmps.getD 1 undef = .pointer (some ⟨w.heap.size, 0, .none⟩) := h0
      refine op_run rfl rfl (v := .pointer (some ⟨w.heap.size, 1, .none⟩)) (w' := w1) ?_ rfl (Below.refl _ _)
      simp [execOp, Act.eval, h0, go_sem]
    · intro hne lo hi ph hran hp1 hp2 a w1 hJ hsz hs      -- 2: slot 28
      obtain ⟨rfl, rfl⟩ : 0 = lo ∧ 0 = hi := Prod.mk.inj (Option.some.inj hran)
      obtain rfl : ph = 0 := by omega
      obtain ⟨h0, _⟩ := hs
      have h0 : a.tmps.getD 27 undef = .pointer (some ⟨w.heap.size, 1, .none⟩) := h0
      obtain ⟨x0, x1, x2, x3, x4⟩ := (HX2.out.later hJ).c5
      refine op_run rfl rfl (v := .int .i64 o) (w' := w1) ?_ rfl (Below.refl _ _)
      simp [execOp, Act.eval, h0, x1, go_sem]
    · intro hne lo hi ph hran hp1 hp2 a w1 hJ hsz hs      -- 3: slot 29
      obtain ⟨rfl, rfl⟩ : 0 = lo ∧ 0 = hi := Prod.mk.inj (Option.some.inj hran)
      obtain rfl : ph = 0 := by omega
      obtain ⟨h0, h1, _⟩ := hs
      have h0 : a.tmps.getD 26 undef = .slice (some ⟨p1, 0, none⟩) 1 1 := h0
      have h1 : a.tmps.getD 28 undef = .int .i64 o := h1
      refine op_call rfl rfl (f := 46) (args := #[.slice (some ⟨p1, 0, none⟩) 1 1, .int .i64 o]) (by simp [execOp, Act.eval, resolve, h0, h1, go_sem]) ?_
      exact ov_of (var_any (some ⟨p1, 0, none⟩) 1 1 [2] o w1 (HO.out.later hJ) rfl (by omega) (by have := HL.out; omega)) (HW2.out.trans (hJ.mono HW2.out.size)) HD.out
    · intro hne lo hi ph hran hp1 hp2 a w1 hJ hsz hs      -- 4: slot 30
      obtain ⟨rfl, rfl⟩ : 0 = lo ∧ 0 = hi := Prod.mk.inj (Option.some.inj hran)
      obtain rfl : ph = 0 := by omega
      obtain ⟨h0, _⟩ := hs
      have h0 : a.tmps.getD 1 undef = .pointer (some ⟨w.heap.size, 0, .none⟩) := h0
      refine op_run rfl rfl (v := .pointer (some ⟨w.heap.size, 2, .none⟩)) (w' := w1) ?_ rfl (Below.refl _ _)
      simp [execOp, Act.eval, h0, go_sem]
    · intro hne lo hi ph hran hp1 hp2 a w1 hJ hsz hs      -- 5: slot 31
      obtain ⟨rfl, rfl⟩ : 0 = lo ∧ 0 = hi := Prod.mk.inj (Option.some.inj hran)
      obtain rfl : ph = 0 := by omega
      obtain ⟨h0, _⟩ := hs
      have h0 : a.tmps.getD 30 undef = .pointer (some ⟨w.heap.size, 2, .none⟩) := h0
      obtain ⟨x0, x1, x2, x3, x4⟩ := (HX2.out.later hJ).c5
      refine op_run rfl rfl (v := .int .i64 m) (w' := w1) ?_ rfl (Below.refl _ _)
      simp [execOp, Act.eval, h0, x2, go_sem]
    · intro hne lo hi ph hran hp1 hp2 a w1 hJ hsz hs      -- 6: slot 32
      obtain ⟨rfl, rfl⟩ : 0 = lo ∧ 0 = hi := Prod.mk.inj (Option.some.inj hran)
      obtain rfl : ph = 0 := by omega
      obtain ⟨h0, h1, _⟩ := hs
      have m0 : (oV w (D)).p w1 (a.tmps.getD 29 undef) := h0; obtain ⟨a0, p0, h0, r0⟩ := ov_row (n := N) m0 HDN.out
      have h1 : a.tmps.getD 31 undef = .int .i64 m := h1
      refine op_call rfl rfl (f := 46) (args := #[.slice a0 N p0, .int .i64 m]) (by simp [execOp, Act.eval, resolve, h0, h1, go_sem]) ?_
      exact ov_of (var_any a0 N p0 D m w1 r0 HDN.out (by omega) (by have := HL.out; omega)) (HW2.out.trans (hJ.mono HW2.out.size)) HG.out
    · intro hne lo hi ph hran hp1 hp2 a w1 hJ hsz hs      -- 7: slot 4
      obtain ⟨rfl, rfl⟩ : 0 = lo ∧ 0 = hi := Prod.mk.inj (Option.some.inj hran)
      obtain rfl : ph = 0 := by omega
      obtain ⟨h0, _⟩ := hs
      have m0 : (oV w G).p w1 (a.tmps.getD 32 undef) := h0
      exact op_run rfl rfl (v := a.tmps.getD 32 undef) (w' := w1) (by simp [execOp, Act.eval, go_sem]) m0 (Below.refl _ _)
  · show ∀ ph, ph < 0 → _
    iterate 0 (refine fls ?_ ?_)
    · exact fl0
  · intro f w1 hJ hv
    have e4 : (oV w G).p w1 (f 4) := hv 7 _ 4 rfl rfl
    clear hv
    try simp only [Exit.then]
    simp only [putAll, List.foldl_cons, List.foldl_nil, Option.getD_some, Act.put, List.setIfInBounds_toArray, List.set_cons_succ, List.set_cons_zero]
    generalize f 4 = v5 at e4 ⊢
    have o6 : Own w w1 v5 G := e4
    clear e4 hJ
    go_wp2_with fail
    go_ret2
    exact ⟨_, rfl, o6⟩
set_option maxHeartbeats 1000000 in
theorem eput_d3 (hr : Row w ad c l) (hn : l.length = n) (hs : s.size ≤ 9223372036854775807) (h : (Ev.mk 3 o m l s.data.toList).right = true) :
    Calls Try.prog 30 #[.agg #[.int .i64 3, .int .i64 o, .int .i64 m, .slice ad n c, .string s]] w fun e w' => ∃ v, e = .returned (.tuple #[v, .int .i64 0]) ∧ Own w w' v (putE ⟨3, o, m, l, s.data.toList⟩) := by
  have HW : Hid (Below w.heap.size w (w.alloc (.cells #[.int .i64 3, .int .i64 o, .int .i64 m, .slice ad n c, .string s] 46))) := Lib.hid ((Below.refl _ _).alloc (Nat.le_refl _) _)
  have HX := Lib.hid (RecAt.new w #[.int .i64 3, .int .i64 o, .int .i64 m, .slice ad n c, .string s] 46)
  have HR := Lib.hid (hr.later HW.out)
  have HN := Lib.hid hn
  have HB := Lib.hid h
  have HL : Hid (0 ≤ o ∧ o ≤ 512 ∧ 0 ≤ m ∧ m ≤ 512) := by
    rcases right_iff.1 h with h1 | h1 | h1 | h1 | h1 <;> simp only [within_iff] at h1 <;> first | (exfalso; omega) | exact Lib.hid (by first | omega | exact nameOk_len h1.2.2.2.2)
  obtain ⟨G, hG⟩ : ∃ G, putE ⟨3, o, m, l, s.data.toList⟩ = G := ⟨_, rfl⟩
  have HG : Hid (([3] ++ varL o.toNat) ++ varL m.toNat = G) := Lib.hid (by rw [← hG]; unfold putE; rw [bodyE_d (by simp)]; simp)
  rw [hG]
  clear hG
  go_enter Try.func30, Try.ntmps30
  go_wp2_with fail
  refine (eright_any _ _ _ _ _ _ _ _ _ HR.out HN.out hs).mono ?_
  rw [HB.out]
  rintro e w1 ⟨rfl, hb1⟩
  have hba : Below w1.heap.size w1 (w1.alloc (.cells #[.int .u8 3] 5)) := (Below.refl _ _).alloc (Nat.le_refl _) _
  have hbb := hb1.trans (hba.mono hb1.size)
  have HW1 := Lib.hid (HW.out.trans (hb1.mono HW.out.size))
  have HW2 := Lib.hid (HW.out.trans (hbb.mono HW.out.size))
  have HX1 := Lib.hid (HX.out.later hb1)
  have HX2 := Lib.hid (HX.out.later hbb)
  have HR2 := Lib.hid (HR.out.later hbb)
  have HO : Hid (Row (w1.alloc (.cells #[.int .u8 3] 5)) (some ⟨w1.heap.size, 0, none⟩) 1 [3]) := Lib.hid (row_new w1 [3] (by decide))
  have HZ : Hid (Own w (w1.alloc (.cells #[.int .u8 3] 5)) (.slice (some ⟨w1.heap.size, 0, none⟩) 1 1) [3]) := Lib.hid (own_one HW1.out)
  obtain ⟨x0, x1, x2, x3, x4⟩ := HX1.out.c5
  clear hba hbb hb1 h hr hn HW HX HR HW1
  go_upto_region 4 with fail
  generalize (w1.alloc (.cells #[.int .u8 3] 5)) = w2 at *
  generalize w1.heap.size = p1 at *
  clear x0 x1 x2 x3 x4 HX1
  obtain ⟨x0, x1, x2, x3, x4⟩ := HX2.out.c5
  go_wp2_with fail
  clear x0 x1 x2 x3 x4
  obtain ⟨D, N, hD, hN, hN2⟩ : ∃ D N, [3] ++ varL o.toNat = D ∧ D.length = N ∧ N ≤ 100 := ⟨_, _, rfl, rfl, by have := varL_nine (n := o.toNat) (by have := HL.out; omega); simp only [List.length_append, List.length_cons, List.length_nil]; omega⟩
  have HD := Lib.hid hD
  have HDN := Lib.hid hN
  rw [hD] at HG
  clear hD hN
  refine wp_region_ptab (L := fun ph => match ph with | _ => [cV (.slice (some ⟨p1, 0, none⟩) 1 1), cV (.pointer (some ⟨w.heap.size, 1, .none⟩)), cV (.int .i64 o), oV w (D), cV (.pointer (some ⟨w.heap.size, 2, .none⟩)), cV (.int .i64 m), oV w G, oV w G]) (fun _ wq => Below w2.heap.size w2 wq) [] [(0, 0), (0, 0), (0, 0), (0, 0), (0, 0), (0, 0), (0, 0), (0, 0)] [[(4, none)], [(1, none)], [(27, some 1)], [(26, some 0), (28, some 2)], [(1, none)], [(30, some 4)], [(29, some 3), (31, some 5)], [(32, some 6)]] 8 0 48 (by kernel_rfl) rfl rfl rfl (by kernel_rfl) (by kernel_rfl) (by decide) (by kernel_rfl) ?_ ?_ ?_ ?_ ?_
  · exact fun ph w1 w2 h hb => h.trans (hb.mono h.size)
  · exact Below.refl _ _
  · show ∀ i, i < 8 → _
    iterate 8 (refine fls ?_ ?_)
    · exact fl0
    · intro hne lo hi ph hran hp1 hp2 a w1 hJ hsz hs      -- 0: slot 26
      obtain ⟨rfl, rfl⟩ : 0 = lo ∧ 0 = hi := Prod.mk.inj (Option.some.inj hran)
      obtain rfl : ph = 0 := by omega
      obtain ⟨h0, _⟩ := hs
      have h0 : a.tmps.getD 4 undef = .slice (some ⟨p1, 0, none⟩) 1 1 := h0
      refine op_run rfl rfl (v := .slice (some ⟨p1, 0, none⟩) 1 1) (w' := w1) ?_ rfl (Below.refl _ _)
      simp [execOp, Act.eval, h0, go_sem]
    · intro hne lo hi ph hran hp1 hp2 a w1 hJ hsz hs      -- 1: slot 27
      obtain ⟨rfl, rfl⟩ : 0 = lo ∧ 0 = hi := Prod.mk.inj (Option.some.inj hran)
      obtain rfl : ph = 0 := by omega
      obtain ⟨h0, _⟩ := hs
      have h0 : a.tmps.getD 1 undef = .pointer (some ⟨w.heap.size, 0, .none⟩) := h0
      refine op_run rfl rfl (v := .pointer (some ⟨w.heap.size, 1, .none⟩)) (w' := w1) ?_ rfl (Below.refl _ _)
      simp [execOp, Act.eval, h0, go_sem]
    · intro hne lo hi ph hran hp1 hp2 a w1 hJ hsz hs      -- 2: slot 28
      obtain ⟨rfl, rfl⟩ : 0 = lo ∧ 0 = hi := Prod.mk.inj (Option.some.inj hran)
      obtain rfl : ph = 0 := by omega
      obtain ⟨h0, _⟩ := hs
      have h0 : a.tmps.getD 27 undef = .pointer (some ⟨w.heap.size, 1, .none⟩) := h0
      obtain ⟨x0, x1, x2, x3, x4⟩ := (HX2.out.later hJ).c5
      refine op_run rfl rfl (v := .int .i64 o) (w' := w1) ?_ rfl (Below.refl _ _)
      simp [execOp, Act.eval, h0, x1, go_sem]
    · intro hne lo hi ph hran hp1 hp2 a w1 hJ hsz hs      -- 3: slot 29
      obtain ⟨rfl, rfl⟩ : 0 = lo ∧ 0 = hi := Prod.mk.inj (Option.some.inj hran)
      obtain rfl : ph = 0 := by omega
      obtain ⟨h0, h1, _⟩ := hs
      have h0 : a.tmps.getD 26 undef = .slice (some ⟨p1, 0, none⟩) 1 1 := h0
      have h1 : a.tmps.getD 28 undef = .int .i64 o := h1
      refine op_call rfl rfl (f := 46) (args := #[.slice (some ⟨p1, 0, none⟩) 1 1, .int .i64 o]) (by simp [execOp, Act.eval, resolve, h0, h1, go_sem]) ?_
      exact ov_of (var_any (some ⟨p1, 0, none⟩) 1 1 [3] o w1 (HO.out.later hJ) rfl (by omega) (by have := HL.out; omega)) (HW2.out.trans (hJ.mono HW2.out.size)) HD.out
    · intro hne lo hi ph hran hp1 hp2 a w1 hJ hsz hs      -- 4: slot 30
      obtain ⟨rfl, rfl⟩ : 0 = lo ∧ 0 = hi := Prod.mk.inj (Option.some.inj hran)
      obtain rfl : ph = 0 := by omega
      obtain ⟨h0, _⟩ := hs
      have h0 : a.tmps.getD 1 undef = .pointer (some ⟨w.heap.size, 0, .none⟩) := h0
      refine op_run rfl rfl (v := .pointer (some ⟨w.heap.size, 2, .none⟩)) (w' := w1) ?_ rfl (Below.refl _ _)
      simp [execOp, Act.eval, h0, go_sem]
    · intro hne lo hi ph hran hp1 hp2 a w1 hJ hsz hs      -- 5: slot 31
      obtain ⟨rfl, rfl⟩ : 0 = lo ∧ 0 = hi := Prod.mk.inj (Option.some.inj hran)
      obtain rfl : ph = 0 := by omega
      obtain ⟨h0, _⟩ := hs
      have h0 : a.tmps.getD 30 undef = .pointer (some ⟨w.heap.size, 2, .none⟩) := h0
      obtain ⟨x0, x1, x2, x3, x4⟩ := (HX2.out.later hJ).c5
      refine op_run rfl rfl (v := .int .i64 m) (w' := w1) ?_ rfl (Below.refl _ _)
      simp [execOp, Act.eval, h0, x2, go_sem]
    · intro hne lo hi ph hran hp1 hp2 a w1 hJ hsz hs      -- 6: slot 32
      obtain ⟨rfl, rfl⟩ : 0 = lo ∧ 0 = hi := Prod.mk.inj (Option.some.inj hran)
      obtain rfl : ph = 0 := by omega
      obtain ⟨h0, h1, _⟩ := hs
      have m0 : (oV w (D)).p w1 (a.tmps.getD 29 undef) := h0; obtain ⟨a0, p0, h0, r0⟩ := ov_row (n := N) m0 HDN.out
      have h1 : a.tmps.getD 31 undef = .int .i64 m := h1
      refine op_call rfl rfl (f := 46) (args := #[.slice a0 N p0, .int .i64 m]) (by simp [execOp, Act.eval, resolve, h0, h1, go_sem]) ?_
      exact ov_of (var_any a0 N p0 D m w1 r0 HDN.out (by omega) (by have := HL.out; omega)) (HW2.out.trans (hJ.mono HW2.out.size)) HG.out
    · intro hne lo hi ph hran hp1 hp2 a w1 hJ hsz hs      -- 7: slot 4
      obtain ⟨rfl, rfl⟩ : 0 = lo ∧ 0 = hi := Prod.mk.inj (Option.some.inj hran)
      obtain rfl : ph = 0 := by omega
      obtain ⟨h0, _⟩ := hs
      have m0 : (oV w G).p w1 (a.tmps.getD 32 undef) := h0
      exact op_run rfl rfl (v := a.tmps.getD 32 undef) (w' := w1) (by simp [execOp, Act.eval, go_sem]) m0 (Below.refl _ _)
  · show ∀ ph, ph < 0 → _
    iterate 0 (refine fls ?_ ?_)
    · exact fl0
  · intro f w1 hJ hv
    have e4 : (oV w G).p w1 (f 4) := hv 7 _ 4 rfl rfl
    clear hv
    try simp only [Exit.then]
    simp only [putAll, List.foldl_cons, List.foldl_nil, Option.getD_some, Act.put, List.setIfInBounds_toArray, List.set_cons_succ, List.set_cons_zero]
    generalize f 4 = v5 at e4 ⊢
    have o6 : Own w w1 v5 G := e4
    clear e4 hJ
    go_wp2_with fail
    go_ret2
    exact ⟨_, rfl, o6⟩
set_option maxHeartbeats 1000000 in
theorem eput_r (hr : Row w ad c l) (hn : l.length = n) (hs : s.size ≤ 9223372036854775807) (h : (Ev.mk 4 o m l s.data.toList).right = true) :
    Calls Try.prog 30 #[.agg #[.int .i64 4, .int .i64 o, .int .i64 m, .slice ad n c, .string s]] w fun e w' => ∃ v, e = .returned (.tuple #[v, .int .i64 0]) ∧ Own w w' v (putE ⟨4, o, m, l, s.data.toList⟩) := by
  have HW : Hid (Below w.heap.size w (w.alloc (.cells #[.int .i64 4, .int .i64 o, .int .i64 m, .slice ad n c, .string s] 46))) := Lib.hid ((Below.refl _ _).alloc (Nat.le_refl _) _)
  have HX := Lib.hid (RecAt.new w #[.int .i64 4, .int .i64 o, .int .i64 m, .slice ad n c, .string s] 46)
  have HR := Lib.hid (hr.later HW.out)
  have HN := Lib.hid hn
  have HB := Lib.hid h
  have HL : Hid (0 ≤ m ∧ m ≤ 512) := by
    rcases right_iff.1 h with h1 | h1 | h1 | h1 | h1 <;> simp only [within_iff] at h1 <;> first | (exfalso; omega) | exact Lib.hid (by first | omega | exact nameOk_len h1.2.2.2.2)
  obtain ⟨G, hG⟩ : ∃ G, putE ⟨4, o, m, l, s.data.toList⟩ = G := ⟨_, rfl⟩
  have HG : Hid ([4] ++ varL m.toNat = G) := Lib.hid (by rw [← hG]; unfold putE; rw [bodyE_r rfl]; simp)
  rw [hG]
  clear hG
  go_enter Try.func30, Try.ntmps30
  go_wp2_with fail
  refine (eright_any _ _ _ _ _ _ _ _ _ HR.out HN.out hs).mono ?_
  rw [HB.out]
  rintro e w1 ⟨rfl, hb1⟩
  have hba : Below w1.heap.size w1 (w1.alloc (.cells #[.int .u8 4] 5)) := (Below.refl _ _).alloc (Nat.le_refl _) _
  have hbb := hb1.trans (hba.mono hb1.size)
  have HW1 := Lib.hid (HW.out.trans (hb1.mono HW.out.size))
  have HW2 := Lib.hid (HW.out.trans (hbb.mono HW.out.size))
  have HX1 := Lib.hid (HX.out.later hb1)
  have HX2 := Lib.hid (HX.out.later hbb)
  have HR2 := Lib.hid (HR.out.later hbb)
  have HO : Hid (Row (w1.alloc (.cells #[.int .u8 4] 5)) (some ⟨w1.heap.size, 0, none⟩) 1 [4]) := Lib.hid (row_new w1 [4] (by decide))
  have HZ : Hid (Own w (w1.alloc (.cells #[.int .u8 4] 5)) (.slice (some ⟨w1.heap.size, 0, none⟩) 1 1) [4]) := Lib.hid (own_one HW1.out)
  obtain ⟨x0, x1, x2, x3, x4⟩ := HX1.out.c5
  clear hba hbb hb1 h hr hn HW HX HR HW1
  go_upto_region 4 with fail
  generalize (w1.alloc (.cells #[.int .u8 4] 5)) = w2 at *
  generalize w1.heap.size = p1 at *
  clear x0 x1 x2 x3 x4 HX1
  obtain ⟨x0, x1, x2, x3, x4⟩ := HX2.out.c5
  go_wp2_with fail
  refine (var_any (some ⟨p1, 0, none⟩) 1 1 [4] m w2 HO.out rfl (by omega) (by have := HL.out; omega)).mono ?_
  rintro e w3 ⟨v3, rfl, o3⟩
  have o4 := Lib.hid (o3.back HW2.out)
  clear o3 x0 x1 x2 x3 x4
  go_wp2_with fail
  go_ret2
  exact ⟨_, rfl, by rw [← HG.out]; exact o4.out⟩
set_option maxHeartbeats 1000000 in
theorem eput_n5 (hr : Row w ad c l) (hn : l.length = n) (hs : s.size ≤ 9223372036854775807) (h : (Ev.mk 5 o m l s.data.toList).right = true) :
    Calls Try.prog 30 #[.agg #[.int .i64 5, .int .i64 o, .int .i64 m, .slice ad n c, .string s]] w fun e w' => ∃ v, e = .returned (.tuple #[v, .int .i64 0]) ∧ Own w w' v (putE ⟨5, o, m, l, s.data.toList⟩) := by
  have HW : Hid (Below w.heap.size w (w.alloc (.cells #[.int .i64 5, .int .i64 o, .int .i64 m, .slice ad n c, .string s] 46))) := Lib.hid ((Below.refl _ _).alloc (Nat.le_refl _) _)
  have HX := Lib.hid (RecAt.new w #[.int .i64 5, .int .i64 o, .int .i64 m, .slice ad n c, .string s] 46)
  have HR := Lib.hid (hr.later HW.out)
  have HN := Lib.hid hn
  have HB := Lib.hid h
  have HL : Hid (1 ≤ s.data.toList.length ∧ s.data.toList.length ≤ 12) := by
    rcases right_iff.1 h with h1 | h1 | h1 | h1 | h1 <;> simp only [within_iff] at h1 <;> first | (exfalso; omega) | exact Lib.hid (by first | omega | exact nameOk_len h1.2.2.2.2)
  obtain ⟨G, hG⟩ : ∃ G, putE ⟨5, o, m, l, s.data.toList⟩ = G := ⟨_, rfl⟩
  have HG : Hid ([5] ++ s.data.toList = G) := Lib.hid (by rw [← hG]; unfold putE; rw [bodyE_n (by simp)]; simp)
  rw [hG]
  clear hG
  go_enter Try.func30, Try.ntmps30
  go_wp2_with fail
  refine (eright_any _ _ _ _ _ _ _ _ _ HR.out HN.out hs).mono ?_
  rw [HB.out]
  rintro e w1 ⟨rfl, hb1⟩
  have hba : Below w1.heap.size w1 (w1.alloc (.cells #[.int .u8 5] 5)) := (Below.refl _ _).alloc (Nat.le_refl _) _
  have hbb := hb1.trans (hba.mono hb1.size)
  have HW1 := Lib.hid (HW.out.trans (hb1.mono HW.out.size))
  have HW2 := Lib.hid (HW.out.trans (hbb.mono HW.out.size))
  have HX1 := Lib.hid (HX.out.later hb1)
  have HX2 := Lib.hid (HX.out.later hbb)
  have HR2 := Lib.hid (HR.out.later hbb)
  have HO : Hid (Row (w1.alloc (.cells #[.int .u8 5] 5)) (some ⟨w1.heap.size, 0, none⟩) 1 [5]) := Lib.hid (row_new w1 [5] (by decide))
  have HZ : Hid (Own w (w1.alloc (.cells #[.int .u8 5] 5)) (.slice (some ⟨w1.heap.size, 0, none⟩) 1 1) [5]) := Lib.hid (own_one HW1.out)
  obtain ⟨x0, x1, x2, x3, x4⟩ := HX1.out.c5
  clear hba hbb hb1 h hr hn HW HX HR HW1
  go_upto_region 4 with fail
  generalize (w1.alloc (.cells #[.int .u8 5] 5)) = w2 at *
  generalize w1.heap.size = p1 at *
  clear x0 x1 x2 x3 x4 HX1
  obtain ⟨x0, x1, x2, x3, x4⟩ := HX2.out.c5
  have HS : Hid (s.size ≤ 12) := Lib.hid (by have := HL.out; rw [Array.length_toList] at this; exact this.2)
  go_wp2_with (at_builtin; refine wp_text rfl _ _ rfl _ _ rfl w HZ.out s rfl (by have := HS.out; simp; omega) ?_; intro v3 w3 o3)
  go_ret2
  exact ⟨_, rfl, by rw [← HG.out]; exact o3⟩
set_option maxHeartbeats 1000000 in
theorem eput_n6 (hr : Row w ad c l) (hn : l.length = n) (hs : s.size ≤ 9223372036854775807) (h : (Ev.mk 6 o m l s.data.toList).right = true) :
    Calls Try.prog 30 #[.agg #[.int .i64 6, .int .i64 o, .int .i64 m, .slice ad n c, .string s]] w fun e w' => ∃ v, e = .returned (.tuple #[v, .int .i64 0]) ∧ Own w w' v (putE ⟨6, o, m, l, s.data.toList⟩) := by
  have HW : Hid (Below w.heap.size w (w.alloc (.cells #[.int .i64 6, .int .i64 o, .int .i64 m, .slice ad n c, .string s] 46))) := Lib.hid ((Below.refl _ _).alloc (Nat.le_refl _) _)
  have HX := Lib.hid (RecAt.new w #[.int .i64 6, .int .i64 o, .int .i64 m, .slice ad n c, .string s] 46)
  have HR := Lib.hid (hr.later HW.out)
  have HN := Lib.hid hn
  have HB := Lib.hid h
  have HL : Hid (1 ≤ s.data.toList.length ∧ s.data.toList.length ≤ 12) := by
    rcases right_iff.1 h with h1 | h1 | h1 | h1 | h1 <;> simp only [within_iff] at h1 <;> first | (exfalso; omega) | exact Lib.hid (by first | omega | exact nameOk_len h1.2.2.2.2)
  obtain ⟨G, hG⟩ : ∃ G, putE ⟨6, o, m, l, s.data.toList⟩ = G := ⟨_, rfl⟩
  have HG : Hid ([6] ++ s.data.toList = G) := Lib.hid (by rw [← hG]; unfold putE; rw [bodyE_n (by simp)]; simp)
  rw [hG]
  clear hG
  go_enter Try.func30, Try.ntmps30
  go_wp2_with fail
  refine (eright_any _ _ _ _ _ _ _ _ _ HR.out HN.out hs).mono ?_
  rw [HB.out]
  rintro e w1 ⟨rfl, hb1⟩
  have hba : Below w1.heap.size w1 (w1.alloc (.cells #[.int .u8 6] 5)) := (Below.refl _ _).alloc (Nat.le_refl _) _
  have hbb := hb1.trans (hba.mono hb1.size)
  have HW1 := Lib.hid (HW.out.trans (hb1.mono HW.out.size))
  have HW2 := Lib.hid (HW.out.trans (hbb.mono HW.out.size))
  have HX1 := Lib.hid (HX.out.later hb1)
  have HX2 := Lib.hid (HX.out.later hbb)
  have HR2 := Lib.hid (HR.out.later hbb)
  have HO : Hid (Row (w1.alloc (.cells #[.int .u8 6] 5)) (some ⟨w1.heap.size, 0, none⟩) 1 [6]) := Lib.hid (row_new w1 [6] (by decide))
  have HZ : Hid (Own w (w1.alloc (.cells #[.int .u8 6] 5)) (.slice (some ⟨w1.heap.size, 0, none⟩) 1 1) [6]) := Lib.hid (own_one HW1.out)
  obtain ⟨x0, x1, x2, x3, x4⟩ := HX1.out.c5
  clear hba hbb hb1 h hr hn HW HX HR HW1
  go_upto_region 4 with fail
  generalize (w1.alloc (.cells #[.int .u8 6] 5)) = w2 at *
  generalize w1.heap.size = p1 at *
  clear x0 x1 x2 x3 x4 HX1
  obtain ⟨x0, x1, x2, x3, x4⟩ := HX2.out.c5
  have HS : Hid (s.size ≤ 12) := Lib.hid (by have := HL.out; rw [Array.length_toList] at this; exact this.2)
  go_wp2_with (at_builtin; refine wp_text rfl _ _ rfl _ _ rfl w HZ.out s rfl (by have := HS.out; simp; omega) ?_; intro v3 w3 o3)
  go_ret2
  exact ⟨_, rfl, by rw [← HG.out]; exact o3⟩
set_option maxHeartbeats 1000000 in
theorem eput_n7 (hr : Row w ad c l) (hn : l.length = n) (hs : s.size ≤ 9223372036854775807) (h : (Ev.mk 7 o m l s.data.toList).right = true) :
    Calls Try.prog 30 #[.agg #[.int .i64 7, .int .i64 o, .int .i64 m, .slice ad n c, .string s]] w fun e w' => ∃ v, e = .returned (.tuple #[v, .int .i64 0]) ∧ Own w w' v (putE ⟨7, o, m, l, s.data.toList⟩) := by
  have HW : Hid (Below w.heap.size w (w.alloc (.cells #[.int .i64 7, .int .i64 o, .int .i64 m, .slice ad n c, .string s] 46))) := Lib.hid ((Below.refl _ _).alloc (Nat.le_refl _) _)
  have HX := Lib.hid (RecAt.new w #[.int .i64 7, .int .i64 o, .int .i64 m, .slice ad n c, .string s] 46)
  have HR := Lib.hid (hr.later HW.out)
  have HN := Lib.hid hn
  have HB := Lib.hid h
  have HL : Hid (1 ≤ s.data.toList.length ∧ s.data.toList.length ≤ 12) := by
    rcases right_iff.1 h with h1 | h1 | h1 | h1 | h1 <;> simp only [within_iff] at h1 <;> first | (exfalso; omega) | exact Lib.hid (by first | omega | exact nameOk_len h1.2.2.2.2)
  obtain ⟨G, hG⟩ : ∃ G, putE ⟨7, o, m, l, s.data.toList⟩ = G := ⟨_, rfl⟩
  have HG : Hid ([7] ++ s.data.toList = G) := Lib.hid (by rw [← hG]; unfold putE; rw [bodyE_n (by simp)]; simp)
  rw [hG]
  clear hG
  go_enter Try.func30, Try.ntmps30
  go_wp2_with fail
  refine (eright_any _ _ _ _ _ _ _ _ _ HR.out HN.out hs).mono ?_
  rw [HB.out]
  rintro e w1 ⟨rfl, hb1⟩
  have hba : Below w1.heap.size w1 (w1.alloc (.cells #[.int .u8 7] 5)) := (Below.refl _ _).alloc (Nat.le_refl _) _
  have hbb := hb1.trans (hba.mono hb1.size)
  have HW1 := Lib.hid (HW.out.trans (hb1.mono HW.out.size))
  have HW2 := Lib.hid (HW.out.trans (hbb.mono HW.out.size))
  have HX1 := Lib.hid (HX.out.later hb1)
  have HX2 := Lib.hid (HX.out.later hbb)
  have HR2 := Lib.hid (HR.out.later hbb)
  have HO : Hid (Row (w1.alloc (.cells #[.int .u8 7] 5)) (some ⟨w1.heap.size, 0, none⟩) 1 [7]) := Lib.hid (row_new w1 [7] (by decide))
  have HZ : Hid (Own w (w1.alloc (.cells #[.int .u8 7] 5)) (.slice (some ⟨w1.heap.size, 0, none⟩) 1 1) [7]) := Lib.hid (own_one HW1.out)
  obtain ⟨x0, x1, x2, x3, x4⟩ := HX1.out.c5
  clear hba hbb hb1 h hr hn HW HX HR HW1
  go_upto_region 4 with fail
  generalize (w1.alloc (.cells #[.int .u8 7] 5)) = w2 at *
  generalize w1.heap.size = p1 at *
  clear x0 x1 x2 x3 x4 HX1
  obtain ⟨x0, x1, x2, x3, x4⟩ := HX2.out.c5
  have HS : Hid (s.size ≤ 12) := Lib.hid (by have := HL.out; rw [Array.length_toList] at this; exact this.2)
  go_wp2_with (at_builtin; refine wp_text rfl _ _ rfl _ _ rfl w HZ.out s rfl (by have := HS.out; simp; omega) ?_; intro v3 w3 o3)
  go_ret2
  exact ⟨_, rfl, by rw [← HG.out]; exact o3⟩
set_option maxHeartbeats 1000000 in
theorem eput_f (hr : Row w ad c l) (hn : l.length = n) (hs : s.size ≤ 9223372036854775807) (h : (Ev.mk 8 o m l s.data.toList).right = true) :
    Calls Try.prog 30 #[.agg #[.int .i64 8, .int .i64 o, .int .i64 m, .slice ad n c, .string s]] w fun e w' => ∃ v, e = .returned (.tuple #[v, .int .i64 0]) ∧ Own w w' v (putE ⟨8, o, m, l, s.data.toList⟩) := by
  have HW : Hid (Below w.heap.size w (w.alloc (.cells #[.int .i64 8, .int .i64 o, .int .i64 m, .slice ad n c, .string s] 46))) := Lib.hid ((Below.refl _ _).alloc (Nat.le_refl _) _)
  have HX := Lib.hid (RecAt.new w #[.int .i64 8, .int .i64 o, .int .i64 m, .slice ad n c, .string s] 46)
  have HR := Lib.hid (hr.later HW.out)
  have HN := Lib.hid hn
  have HB := Lib.hid h
  have HL : Hid (True) := by
    rcases right_iff.1 h with h1 | h1 | h1 | h1 | h1 <;> exact Lib.hid trivial
  obtain ⟨G, hG⟩ : ∃ G, putE ⟨8, o, m, l, s.data.toList⟩ = G := ⟨_, rfl⟩
  have HG : Hid ([8] = G) := Lib.hid (by rw [← hG]; unfold putE; rw [bodyE_f rfl]; simp)
  rw [hG]
  clear hG
  go_enter Try.func30, Try.ntmps30
  go_wp2_with fail
  refine (eright_any _ _ _ _ _ _ _ _ _ HR.out HN.out hs).mono ?_
  rw [HB.out]
  rintro e w1 ⟨rfl, hb1⟩
  have hba : Below w1.heap.size w1 (w1.alloc (.cells #[.int .u8 8] 5)) := (Below.refl _ _).alloc (Nat.le_refl _) _
  have hbb := hb1.trans (hba.mono hb1.size)
  have HW1 := Lib.hid (HW.out.trans (hb1.mono HW.out.size))
  have HW2 := Lib.hid (HW.out.trans (hbb.mono HW.out.size))
  have HX1 := Lib.hid (HX.out.later hb1)
  have HX2 := Lib.hid (HX.out.later hbb)
  have HR2 := Lib.hid (HR.out.later hbb)
  have HO : Hid (Row (w1.alloc (.cells #[.int .u8 8] 5)) (some ⟨w1.heap.size, 0, none⟩) 1 [8]) := Lib.hid (row_new w1 [8] (by decide))
  have HZ : Hid (Own w (w1.alloc (.cells #[.int .u8 8] 5)) (.slice (some ⟨w1.heap.size, 0, none⟩) 1 1) [8]) := Lib.hid (own_one HW1.out)
  obtain ⟨x0, x1, x2, x3, x4⟩ := HX1.out.c5
  clear hba hbb hb1 h hr hn HW HX HR HW1
  go_upto_region 4 with fail
  generalize (w1.alloc (.cells #[.int .u8 8] 5)) = w2 at *
  generalize w1.heap.size = p1 at *
  clear x0 x1 x2 x3 x4 HX1
  obtain ⟨x0, x1, x2, x3, x4⟩ := HX2.out.c5
  go_wp2_with fail
  go_ret2
  exact ⟨_, rfl, by rw [← HG.out]; exact HZ.out⟩
theorem eput_any (k : Int) (hr : Row w ad c l) (hn : l.length = n) (hs : s.size ≤ 9223372036854775807) :
    Calls Try.prog 30 #[.agg #[.int .i64 k, .int .i64 o, .int .i64 m, .slice ad n c, .string s]] w fun e w' => ∃ v, e = .returned (.tuple #[v, .int .i64 (putEv ⟨k, o, m, l, s.data.toList⟩).2]) ∧ Own w w' v (putEv ⟨k, o, m, l, s.data.toList⟩).1 := by
  cases h : (Ev.mk k o m l s.data.toList).right with
  | true =>
    rw [putEv_yes h]
    have hk := right_kind h
    simp only at hk
    rcases (show k = 1 ∨ k = 2 ∨ k = 3 ∨ k = 4 ∨ k = 5 ∨ k = 6 ∨ k = 7 ∨ k = 8 by omega) with rfl | rfl | rfl | rfl | rfl | rfl | rfl | rfl
    · exact eput_w o m ad n c l s w hr hn hs h
    · exact eput_d2 o m ad n c l s w hr hn hs h
    · exact eput_d3 o m ad n c l s w hr hn hs h
    · exact eput_r o m ad n c l s w hr hn hs h
    · exact eput_n5 o m ad n c l s w hr hn hs h
    · exact eput_n6 o m ad n c l s w hr hn hs h
    · exact eput_n7 o m ad n c l s w hr hn hs h
    · exact eput_f o m ad n c l s w hr hn hs h
  | false =>
    rw [putEv_no h]
    have HW : Hid (Below w.heap.size w (w.alloc (.cells #[.int .i64 k, .int .i64 o, .int .i64 m, .slice ad n c, .string s] 46))) := Lib.hid ((Below.refl _ _).alloc (Nat.le_refl _) _)
    have HR := Lib.hid (hr.later HW.out)
    have HN := Lib.hid hn
    have HB := Lib.hid h
    clear h hr hn
    go_enter Try.func30, Try.ntmps30
    go_wp2_with fail
    refine (eright_any _ _ _ _ _ _ _ _ _ HR.out HN.out hs).mono ?_
    rw [HB.out]
    rintro e w1 ⟨rfl, hb1⟩
    have HW1 := Lib.hid (HW.out.trans (hb1.mono HW.out.size))
    clear hb1
    go_wp2_with fail
    go_ret2
    exact ⟨_, rfl, World.ownsRow_nil _ _ _ _, HW1.out⟩
end
end Go.Proofs.Ytbpddcmehjgleaa
namespace Go.Proofs.Ytbpddcmehjgleaa
open Go.RowKit
set_option linter.unusedVariables false
set_option linter.unusedSimpArgs false
set_option linter.unusedSectionVars false

section
variable (o m : Int) (ad : Option Addr) (n c : Nat) (l : List UInt8) (s : ByteArray) (w : World)
set_option maxHeartbeats 1000000 in
theorem rputE_w (hr : Row w ad c l) (hn : l.length = n) (hs : s.size ≤ 9223372036854775807) (h : (Ev.mk 1 o m l s.data.toList).right = true) :
    Calls Try.prog 31 #[.agg #[.int .i64 1, .int .i64 o, .int .i64 m, .slice ad n c, .string s]] w fun e w' => ∃ v, e = .returned (.tuple #[v, .int .i64 0]) ∧ Own w w' v (putE ⟨1, o, m, l, s.data.toList⟩) := by
  have HW : Hid (Below w.heap.size w (w.alloc (.cells #[.int .i64 1, .int .i64 o, .int .i64 m, .slice ad n c, .string s] 46))) := Lib.hid ((Below.refl _ _).alloc (Nat.le_refl _) _)
  have HX := Lib.hid (RecAt.new w #[.int .i64 1, .int .i64 o, .int .i64 m, .slice ad n c, .string s] 46)
  have HR := Lib.hid (hr.later HW.out)
  have HN := Lib.hid hn
  have HB := Lib.hid h
  have HL : Hid (l.length ≤ 64 ∧ 0 ≤ o ∧ o ≤ 512) := by
    rcases right_iff.1 h with h1 | h1 | h1 | h1 | h1 <;> simp only [within_iff] at h1 <;> first | (exfalso; omega) | exact Lib.hid (by first | omega | exact nameOk_len h1.2.2.2.2)
  obtain ⟨G, hG⟩ : ∃ G, putE ⟨1, o, m, l, s.data.toList⟩ = G := ⟨_, rfl⟩
  have HG : Hid (([1] ++ varL o.toNat) ++ l = G) := Lib.hid (by rw [← hG]; unfold putE; rw [bodyE_w rfl]; simp)
  rw [hG]
  clear hG
  go_enter Try.func31, Try.ntmps31
  go_wp2_with fail
  refine (evrright_any _ _ _ _ _ _ _ _ _ HR.out HN.out hs).mono ?_
  rw [HB.out]
  rintro e w1 ⟨rfl, hb1⟩
  have hba : Below w1.heap.size w1 (w1.alloc (.cells #[.int .u8 1] 5)) := (Below.refl _ _).alloc (Nat.le_refl _) _
  have hbb := hb1.trans (hba.mono hb1.size)
  have HW1 := Lib.hid (HW.out.trans (hb1.mono HW.out.size))
  have HW2 := Lib.hid (HW.out.trans (hbb.mono HW.out.size))
  have HX1 := Lib.hid (HX.out.later hb1)
  have HX2 := Lib.hid (HX.out.later hbb)
  have HR2 := Lib.hid (HR.out.later hbb)
  have HO : Hid (Row (w1.alloc (.cells #[.int .u8 1] 5)) (some ⟨w1.heap.size, 0, none⟩) 1 [1]) := Lib.hid (row_new w1 [1] (by decide))
  have HZ : Hid (Own w (w1.alloc (.cells #[.int .u8 1] 5)) (.slice (some ⟨w1.heap.size, 0, none⟩) 1 1) [1]) := Lib.hid (own_one HW1.out)
  obtain ⟨x0, x1, x2, x3, x4⟩ := HX1.out.c5
  clear hba hbb hb1 h hr hn HW HX HR HW1
  go_upto_region 4 with fail
  generalize (w1.alloc (.cells #[.int .u8 1] 5)) = w2 at *
  generalize w1.heap.size = p1 at *
  clear x0 x1 x2 x3 x4 HX1
  obtain ⟨x0, x1, x2, x3, x4⟩ := HX2.out.c5
  go_wp2_with fail
  clear x0 x1 x2 x3 x4
  refine wp_region_ptab (L := fun ph => match ph with | 0 => [cV (.slice (some ⟨p1, 0, none⟩) 1 1), cV (.pointer (some ⟨w.heap.size, 1, .none⟩)), cV (.int .i64 o), oV w ([1] ++ varL o.toNat), cV (.pointer (some ⟨w.heap.size, 3, .none⟩)), cV (.slice ad n c), nV, nV] | _ => [cV (.slice (some ⟨p1, 0, none⟩) 1 1), cV (.pointer (some ⟨w.heap.size, 1, .none⟩)), cV (.int .i64 o), tV, cV (.pointer (some ⟨w.heap.size, 3, .none⟩)), cV (.slice ad n c), oV w G, oV w G]) (jA w2) [6] [(0, 0), (0, 0), (0, 0), (0, 0), (0, 0), (0, 0), (0, 1), (1, 1)] [[(4, none)], [(1, none)], [(17, some 1)], [(16, some 0), (18, some 2)], [(1, none)], [(20, some 4)], [(19, some 3), (21, some 5)], [(22, some 6)]] 8 1 48 (by kernel_rfl) rfl rfl rfl (by kernel_rfl) (by kernel_rfl) (by decide) (by kernel_rfl) ?_ ?_ ?_ ?_ ?_
  · exact jA_st w2
  · exact Below.refl _ _
  · show ∀ i, i < 8 → _
    iterate 8 (refine fls ?_ ?_)
    · exact fl0
    · intro hne lo hi ph hran hp1 hp2 a w1 hJ hsz hs      -- 0: slot 16
      obtain ⟨rfl, rfl⟩ : 0 = lo ∧ 0 = hi := Prod.mk.inj (Option.some.inj hran)
      obtain rfl : ph = 0 := by omega
      obtain ⟨h0, _⟩ := hs
      have h0 : a.tmps.getD 4 undef = .slice (some ⟨p1, 0, none⟩) 1 1 := h0
      refine op_run rfl rfl (v := .slice (some ⟨p1, 0, none⟩) 1 1) (w' := w1) ?_ rfl (Below.refl _ _)
      simp [execOp, Act.eval, h0, go_sem]
    · intro hne lo hi ph hran hp1 hp2 a w1 hJ hsz hs      -- 1: slot 17
      obtain ⟨rfl, rfl⟩ : 0 = lo ∧ 0 = hi := Prod.mk.inj (Option.some.inj hran)
      obtain rfl : ph = 0 := by omega
      obtain ⟨h0, _⟩ := hs
      have h0 : a.tmps.getD 1 undef = .pointer (some ⟨w.heap.size, 0, .none⟩) := h0
      refine op_run rfl rfl (v := .pointer (some ⟨w.heap.size, 1, .none⟩)) (w' := w1) ?_ rfl (Below.refl _ _)
      simp [execOp, Act.eval, h0, go_sem]
    · intro hne lo hi ph hran hp1 hp2 a w1 hJ hsz hs      -- 2: slot 18
      obtain ⟨rfl, rfl⟩ : 0 = lo ∧ 0 = hi := Prod.mk.inj (Option.some.inj hran)
      obtain rfl : ph = 0 := by omega
      obtain ⟨h0, _⟩ := hs
      have h0 : a.tmps.getD 17 undef = .pointer (some ⟨w.heap.size, 1, .none⟩) := h0
      obtain ⟨x0, x1, x2, x3, x4⟩ := (HX2.out.later (show Below w2.heap.size w2 w1 from hJ)).c5
      refine op_run rfl rfl (v := .int .i64 o) (w' := w1) ?_ rfl (Below.refl _ _)
      simp [execOp, Act.eval, h0, x1, go_sem]
    · intro hne lo hi ph hran hp1 hp2 a w1 hJ hsz hs      -- 3: slot 19
      obtain ⟨rfl, rfl⟩ : 0 = lo ∧ 0 = hi := Prod.mk.inj (Option.some.inj hran)
      obtain rfl : ph = 0 := by omega
      obtain ⟨h0, h1, _⟩ := hs
      have h0 : a.tmps.getD 16 undef = .slice (some ⟨p1, 0, none⟩) 1 1 := h0
      have h1 : a.tmps.getD 18 undef = .int .i64 o := h1
      refine op_call rfl rfl (f := 48) (args := #[.slice (some ⟨p1, 0, none⟩) 1 1, .int .i64 o]) (by simp [execOp, Act.eval, resolve, h0, h1, go_sem]) ?_
      have hJ2 : Below w2.heap.size w2 w1 := hJ
      exact ov_of (rvar_any (some ⟨p1, 0, none⟩) 1 1 [1] o w1 (HO.out.later hJ2) rfl (by omega) (by have := HL.out; omega)) (HW2.out.trans (hJ2.mono HW2.out.size)) rfl
    · intro hne lo hi ph hran hp1 hp2 a w1 hJ hsz hs      -- 4: slot 20
      obtain ⟨rfl, rfl⟩ : 0 = lo ∧ 0 = hi := Prod.mk.inj (Option.some.inj hran)
      obtain rfl : ph = 0 := by omega
      obtain ⟨h0, _⟩ := hs
      have h0 : a.tmps.getD 1 undef = .pointer (some ⟨w.heap.size, 0, .none⟩) := h0
      refine op_run rfl rfl (v := .pointer (some ⟨w.heap.size, 3, .none⟩)) (w' := w1) ?_ rfl (Below.refl _ _)
      simp [execOp, Act.eval, h0, go_sem]
    · intro hne lo hi ph hran hp1 hp2 a w1 hJ hsz hs      -- 5: slot 21
      obtain ⟨rfl, rfl⟩ : 0 = lo ∧ 0 = hi := Prod.mk.inj (Option.some.inj hran)
      obtain rfl : ph = 0 := by omega
      obtain ⟨h0, _⟩ := hs
      have h0 : a.tmps.getD 20 undef = .pointer (some ⟨w.heap.size, 3, .none⟩) := h0
      obtain ⟨x0, x1, x2, x3, x4⟩ := (HX2.out.later (show Below w2.heap.size w2 w1 from hJ)).c5
      refine op_run rfl rfl (v := .slice ad n c) (w' := w1) ?_ rfl (Below.refl _ _)
      simp [execOp, Act.eval, h0, x3, go_sem]
    · intro hne lo hi ph hran hp1 hp2 a w1 hJ hsz hs      -- 6: slot 22
      exact absurd (by decide) hne
    · intro hne lo hi ph hran hp1 hp2 a w1 hJ hsz hs      -- 7: slot 4
      obtain ⟨rfl, rfl⟩ : 1 = lo ∧ 1 = hi := Prod.mk.inj (Option.some.inj hran)
      obtain rfl : ph = 1 := by omega
      obtain ⟨h0, _⟩ := hs
      have m0 : (oV w G).p w1 (a.tmps.getD 22 undef) := h0
      exact op_run rfl rfl (v := a.tmps.getD 22 undef) (w' := w1) (by simp [execOp, Act.eval, go_sem]) m0 (Below.refl _ _)
  · show ∀ ph, ph < 1 → _
    iterate 1 (refine fls ?_ ?_)
    · exact fl0
    · intro i hi a w1 hJ hsz hs      -- heavy 0: op 6 slot 22
      obtain rfl : 6 = i := Option.some.inj hi
      obtain ⟨h0, h1, _⟩ := hs
      have m0 : (oV w ([1] ++ varL o.toNat)).p w1 (a.tmps.getD 19 undef) := h0
      have h1 : a.tmps.getD 21 undef = .slice ad n c := h1
      have hcalm : ∀ (wq1 wq2 : World) (kk : Nat) (v0 : Value), kk ≠ 6 → VL [cV (.slice (some ⟨p1, 0, none⟩) 1 1), cV (.pointer (some ⟨w.heap.size, 1, .none⟩)), cV (.int .i64 o), oV w ([1] ++ varL o.toNat), cV (.pointer (some ⟨w.heap.size, 3, .none⟩)), cV (.slice ad n c), nV, nV] kk wq1 v0 → VL [cV (.slice (some ⟨p1, 0, none⟩) 1 1), cV (.pointer (some ⟨w.heap.size, 1, .none⟩)), cV (.int .i64 o), tV, cV (.pointer (some ⟨w.heap.size, 3, .none⟩)), cV (.slice ad n c), oV w G, oV w G] kk wq2 v0 := Calm2.all (n := 0) ⟨.inl ⟨_, rfl, rfl⟩, .inl ⟨_, rfl, rfl⟩, .inl ⟨_, rfl, rfl⟩, .inr (.inl rfl), .inl ⟨_, rfl, rfl⟩, .inl ⟨_, rfl, rfl⟩, .inr (.inr (.inl rfl)), .inr (.inr (.inr rfl)), trivial⟩
      have hJ2 : Below w2.heap.size w2 w1 := hJ
      refine hv_row rfl rfl (.tmp 19) (.tmp 21) rfl (a.tmps.getD 19 undef) ([1] ++ varL o.toNat) rfl w m0 ad c n l (HR2.out.later hJ2) HN.out h1 (by have := varL_nine (n := o.toNat) (by have := HL.out; omega); have := HL.out; simp only [List.length_append, List.length_cons, List.length_nil]; omega) ?_
      intro v' w' o1 _
      rw [HG.out] at o1
      exact ⟨o1, trivial, hcalm _ _⟩
  · intro f w1 hJ hv
    have e4 : (oV w G).p w1 (f 4) := hv 7 _ 4 rfl rfl
    clear hv
    try simp only [Exit.then]
    simp only [putAll, List.foldl_cons, List.foldl_nil, Option.getD_some, Act.put, List.setIfInBounds_toArray, List.set_cons_succ, List.set_cons_zero]
    generalize f 4 = v5 at e4 ⊢
    have o6 : Own w w1 v5 G := e4
    clear e4 hJ
    go_wp2_with fail
    go_ret2
    exact ⟨_, rfl, o6⟩
set_option maxHeartbeats 1000000 in
theorem rputE_d2 (hr : Row w ad c l) (hn : l.length = n) (hs : s.size ≤ 9223372036854775807) (h : (Ev.mk 2 o m l s.data.toList).right = true) :
    Calls Try.prog 31 #[.agg #[.int .i64 2, .int .i64 o, .int .i64 m, .slice ad n c, .string s]] w fun e w' => ∃ v, e = .returned (.tuple #[v, .int .i64 0]) ∧ Own w w' v (putE ⟨2, o, m, l, s.data.toList⟩) := by
  have HW : Hid (Below w.heap.size w (w.alloc (.cells #[.int .i64 2, .int .i64 o, .int .i64 m, .slice ad n c, .string s] 46))) := Lib.hid ((Below.refl _ _).alloc (Nat.le_refl _) _)
  have HX := Lib.hid (RecAt.new w #[.int .i64 2, .int .i64 o, .int .i64 m, .slice ad n c, .string s] 46)
  have HR := Lib.hid (hr.later HW.out)
  have HN := Lib.hid hn
  have HB := Lib.hid h
  have HL : Hid (0 ≤ o ∧ o ≤ 512 ∧ 0 ≤ m ∧ m ≤ 512) := by
    rcases right_iff.1 h with h1 | h1 | h1 | h1 | h1 <;> simp only [within_iff] at h1 <;> first | (exfalso; omega) | exact Lib.hid (by first | omega | exact nameOk_len h1.2.2.2.2)
  obtain ⟨G, hG⟩ : ∃ G, putE ⟨2, o, m, l, s.data.toList⟩ = G := ⟨_, rfl⟩
  have HG : Hid (([2] ++ varL o.toNat) ++ varL m.toNat = G) := Lib.hid (by rw [← hG]; unfold putE; rw [bodyE_d (by simp)]; simp)
  rw [hG]
  clear hG
  go_enter Try.func31, Try.ntmps31
  go_wp2_with fail
  refine (evrright_any _ _ _ _ _ _ _ _ _ HR.out HN.out hs).mono ?_
  rw [HB.out]
  rintro e w1 ⟨rfl, hb1⟩
  have hba : Below w1.heap.size w1 (w1.alloc (.cells #[.int .u8 2] 5)) := (Below.refl _ _).alloc (Nat.le_refl _) _
  have hbb := hb1.trans (hba.mono hb1.size)
  have HW1 := Lib.hid (HW.out.trans (hb1.mono HW.out.size))
  have HW2 := Lib.hid (HW.out.trans (hbb.mono HW.out.size))
  have HX1 := Lib.hid (HX.out.later hb1)
  have HX2 := Lib.hid (HX.out.later hbb)
  have HR2 := Lib.hid (HR.out.later hbb)
  have HO : Hid (Row (w1.alloc (.cells #[.int .u8 2] 5)) (some ⟨w1.heap.size, 0, none⟩) 1 [2]) := Lib.hid (row_new w1 [2] (by decide))
  have HZ : Hid (Own w (w1.alloc (.cells #[.int .u8 2] 5)) (.slice (some ⟨w1.heap.size, 0, none⟩) 1 1) [2]) := Lib.hid (own_one HW1.out)
  obtain ⟨x0, x1, x2, x3, x4⟩ := HX1.out.c5
  clear hba hbb hb1 h hr hn HW HX HR HW1
  go_upto_region 4 with fail
  generalize (w1.alloc (.cells #[.int .u8 2] 5)) = w2 at *
  generalize w1.heap.size = p1 at *
  clear x0 x1 x2 x3 x4 HX1
  obtain ⟨x0, x1, x2, x3, x4⟩ := HX2.out.c5
  go_wp2_with fail
  clear x0 x1 x2 x3 x4
  obtain ⟨D, N, hD, hN, hN2⟩ : ∃ D N, [2] ++ varL o.toNat = D ∧ D.length = N ∧ N ≤ 100 := ⟨_, _, rfl, rfl, by have := varL_nine (n := o.toNat) (by have := HL.out; omega); simp only [List.length_append, List.length_cons, List.length_nil]; omega⟩
  have HD := Lib.hid hD
  have HDN := Lib.hid hN
  rw [hD] at HG
  clear hD hN
  refine wp_region_ptab (L := fun ph => match ph with | _ => [cV (.slice (some ⟨p1, 0, none⟩) 1 1), cV (.pointer (some ⟨w.heap.size, 1, .none⟩)), cV (.int .i64 o), oV w (D), cV (.pointer (some ⟨w.heap.size, 2, .none⟩)), cV (.int .i64 m), oV w G, oV w G]) (fun _ wq => Below w2.heap.size w2 wq) [] [(0, 0), (0, 0), (0, 0), (0, 0), (0, 0), (0, 0), (0, 0), (0, 0)] [[(4, none)], [(1, none)], [(27, some 1)], [(26, some 0), (28, some 2)], [(1, none)], [(30, some 4)], [(29, some 3), (31, some 5)], [(32, some 6)]] 8 0 48 (by kernel_rfl) rfl rfl rfl (by kernel_rfl) (by kernel_rfl) (by decide) (by kernel_rfl) ?_ ?_ ?_ ?_ ?_
  · exact fun ph w1 w2 h hb => h.trans (hb.mono h.size)
  · exact Below.refl _ _
  · show ∀ i, i < 8 → _
    iterate 8 (refine fls ?_ ?_)
    · exact fl0
    · intro hne lo hi ph hran hp1 hp2 a w1 hJ hsz hs      -- 0: slot 26
      obtain ⟨rfl, rfl⟩ : 0 = lo ∧ 0 = hi := Prod.mk.inj (Option.some.inj hran)
      obtain rfl : ph = 0 := by omega
      obtain ⟨h0, _⟩ := hs
      have h0 : a.tmps.getD 4 undef = .slice (some ⟨p1, 0, none⟩) 1 1 := h0
      refine op_run rfl rfl (v := .slice (some ⟨p1, 0, none⟩) 1 1) (w' := w1) ?_ rfl (Below.refl _ _)
      simp [execOp, Act.eval, h0, go_sem]
    · intro hne lo hi ph hran hp1 hp2 a w1 hJ hsz hs      -- 1: slot 27
      obtain ⟨rfl, rfl⟩ : 0 = lo ∧ 0 = hi := Prod.mk.inj (Option.some.inj hran)
      obtain rfl : ph = 0 := by omega
      obtain ⟨h0, _⟩ := hs
      have h0 : a.tmps.getD 1 undef = .pointer (some ⟨w.heap.size, 0, .none⟩) := h0
      refine op_run rfl rfl (v := .pointer (some ⟨w.heap.size, 1, .none⟩)) (w' := w1) ?_ rfl (Below.refl _ _)
      simp [execOp, Act.eval, h0, go_sem]
    · intro hne lo hi ph hran hp1 hp2 a w1 hJ hsz hs      -- 2: slot 28
      obtain ⟨rfl, rfl⟩ : 0 = lo ∧ 0 = hi := Prod.mk.inj (Option.some.inj hran)
      obtain rfl : ph = 0 := by omega
      obtain ⟨h0, _⟩ := hs
      have h0 : a.tmps.getD 27 undef = .pointer (some ⟨w.heap.size, 1, .none⟩) := h0
      obtain ⟨x0, x1, x2, x3, x4⟩ := (HX2.out.later hJ).c5
      refine op_run rfl rfl (v := .int .i64 o) (w' := w1) ?_ rfl (Below.refl _ _)
      simp [execOp, Act.eval, h0, x1, go_sem]
    · intro hne lo hi ph hran hp1 hp2 a w1 hJ hsz hs      -- 3: slot 29
      obtain ⟨rfl, rfl⟩ : 0 = lo ∧ 0 = hi := Prod.mk.inj (Option.some.inj hran)
      obtain rfl : ph = 0 := by omega
      obtain ⟨h0, h1, _⟩ := hs
      have h0 : a.tmps.getD 26 undef = .slice (some ⟨p1, 0, none⟩) 1 1 := h0
      have h1 : a.tmps.getD 28 undef = .int .i64 o := h1
      refine op_call rfl rfl (f := 48) (args := #[.slice (some ⟨p1, 0, none⟩) 1 1, .int .i64 o]) (by simp [execOp, Act.eval, resolve, h0, h1, go_sem]) ?_
      exact ov_of (rvar_any (some ⟨p1, 0, none⟩) 1 1 [2] o w1 (HO.out.later hJ) rfl (by omega) (by have := HL.out; omega)) (HW2.out.trans (hJ.mono HW2.out.size)) HD.out
    · intro hne lo hi ph hran hp1 hp2 a w1 hJ hsz hs      -- 4: slot 30
      obtain ⟨rfl, rfl⟩ : 0 = lo ∧ 0 = hi := Prod.mk.inj (Option.some.inj hran)
      obtain rfl : ph = 0 := by omega
      obtain ⟨h0, _⟩ := hs
      have h0 : a.tmps.getD 1 undef = .pointer (some ⟨w.heap.size, 0, .none⟩) := h0
      refine op_run rfl rfl (v := .pointer (some ⟨w.heap.size, 2, .none⟩)) (w' := w1) ?_ rfl (Below.refl _ _)
      simp [execOp, Act.eval, h0, go_sem]
    · intro hne lo hi ph hran hp1 hp2 a w1 hJ hsz hs      -- 5: slot 31
      obtain ⟨rfl, rfl⟩ : 0 = lo ∧ 0 = hi := Prod.mk.inj (Option.some.inj hran)
      obtain rfl : ph = 0 := by omega
      obtain ⟨h0, _⟩ := hs
      have h0 : a.tmps.getD 30 undef = .pointer (some ⟨w.heap.size, 2, .none⟩) := h0
      obtain ⟨x0, x1, x2, x3, x4⟩ := (HX2.out.later hJ).c5
      refine op_run rfl rfl (v := .int .i64 m) (w' := w1) ?_ rfl (Below.refl _ _)
      simp [execOp, Act.eval, h0, x2, go_sem]
    · intro hne lo hi ph hran hp1 hp2 a w1 hJ hsz hs      -- 6: slot 32
      obtain ⟨rfl, rfl⟩ : 0 = lo ∧ 0 = hi := Prod.mk.inj (Option.some.inj hran)
      obtain rfl : ph = 0 := by omega
      obtain ⟨h0, h1, _⟩ := hs
      have m0 : (oV w (D)).p w1 (a.tmps.getD 29 undef) := h0; obtain ⟨a0, p0, h0, r0⟩ := ov_row (n := N) m0 HDN.out
      have h1 : a.tmps.getD 31 undef = .int .i64 m := h1
      refine op_call rfl rfl (f := 48) (args := #[.slice a0 N p0, .int .i64 m]) (by simp [execOp, Act.eval, resolve, h0, h1, go_sem]) ?_
      exact ov_of (rvar_any a0 N p0 D m w1 r0 HDN.out (by omega) (by have := HL.out; omega)) (HW2.out.trans (hJ.mono HW2.out.size)) HG.out
    · intro hne lo hi ph hran hp1 hp2 a w1 hJ hsz hs      -- 7: slot 4
      obtain ⟨rfl, rfl⟩ : 0 = lo ∧ 0 = hi := Prod.mk.inj (Option.some.inj hran)
      obtain rfl : ph = 0 := by omega
      obtain ⟨h0, _⟩ := hs
      have m0 : (oV w G).p w1 (a.tmps.getD 32 undef) := h0
      exact op_run rfl rfl (v := a.tmps.getD 32 undef) (w' := w1) (by simp [execOp, Act.eval, go_sem]) m0 (Below.refl _ _)
  · show ∀ ph, ph < 0 → _
    iterate 0 (refine fls ?_ ?_)
    · exact fl0
  · intro f w1 hJ hv
    have e4 : (oV w G).p w1 (f 4) := hv 7 _ 4 rfl rfl
    clear hv
    try simp only [Exit.then]
    simp only [putAll, List.foldl_cons, List.foldl_nil, Option.getD_some, Act.put, List.setIfInBounds_toArray, List.set_cons_succ, List.set_cons_zero]
    generalize f 4 = v5 at e4 ⊢
    have o6 : Own w w1 v5 G := e4
    clear e4 hJ
    go_wp2_with fail
    go_ret2
    exact ⟨_, rfl, o6⟩
set_option maxHeartbeats 1000000 in
theorem rputE_d3 (hr : Row w ad c l) (hn : l.length = n) (hs : s.size ≤ 9223372036854775807) (h : (Ev.mk 3 o m l s.data.toList).right = true) :
    Calls Try.prog 31 #[.agg #[.int .i64 3, .int .i64 o, .int .i64 m, .slice ad n c, .string s]] w fun e w' => ∃ v, e = .returned (.tuple #[v, .int .i64 0]) ∧ Own w w' v (putE ⟨3, o, m, l, s.data.toList⟩) := by
  have HW : Hid (Below w.heap.size w (w.alloc (.cells #[.int .i64 3, .int .i64 o, .int .i64 m, .slice ad n c, .string s] 46))) := Lib.hid ((Below.refl _ _).alloc (Nat.le_refl _) _)
  have HX := Lib.hid (RecAt.new w #[.int .i64 3, .int .i64 o, .int .i64 m, .slice ad n c, .string s] 46)
  have HR := Lib.hid (hr.later HW.out)
  have HN := Lib.hid hn
  have HB := Lib.hid h
  have HL : Hid (0 ≤ o ∧ o ≤ 512 ∧ 0 ≤ m ∧ m ≤ 512) := by
    rcases right_iff.1 h with h1 | h1 | h1 | h1 | h1 <;> simp only [within_iff] at h1 <;> first | (exfalso; omega) | exact Lib.hid (by first | omega | exact nameOk_len h1.2.2.2.2)
  obtain ⟨G, hG⟩ : ∃ G, putE ⟨3, o, m, l, s.data.toList⟩ = G := ⟨_, rfl⟩
  have HG : Hid (([3] ++ varL o.toNat) ++ varL m.toNat = G) := Lib.hid (by rw [← hG]; unfold putE; rw [bodyE_d (by simp)]; simp)
  rw [hG]
  clear hG
  go_enter Try.func31, Try.ntmps31
  go_wp2_with fail
  refine (evrright_any _ _ _ _ _ _ _ _ _ HR.out HN.out hs).mono ?_
  rw [HB.out]
  rintro e w1 ⟨rfl, hb1⟩
  have hba : Below w1.heap.size w1 (w1.alloc (.cells #[.int .u8 3] 5)) := (Below.refl _ _).alloc (Nat.le_refl _) _
  have hbb := hb1.trans (hba.mono hb1.size)
  have HW1 := Lib.hid (HW.out.trans (hb1.mono HW.out.size))
  have HW2 := Lib.hid (HW.out.trans (hbb.mono HW.out.size))
  have HX1 := Lib.hid (HX.out.later hb1)
  have HX2 := Lib.hid (HX.out.later hbb)
  have HR2 := Lib.hid (HR.out.later hbb)
  have HO : Hid (Row (w1.alloc (.cells #[.int .u8 3] 5)) (some ⟨w1.heap.size, 0, none⟩) 1 [3]) := Lib.hid (row_new w1 [3] (by decide))
  have HZ : Hid (Own w (w1.alloc (.cells #[.int .u8 3] 5)) (.slice (some ⟨w1.heap.size, 0, none⟩) 1 1) [3]) := Lib.hid (own_one HW1.out)
  obtain ⟨x0, x1, x2, x3, x4⟩ := HX1.out.c5
  clear hba hbb hb1 h hr hn HW HX HR HW1
  go_upto_region 4 with fail
  generalize (w1.alloc (.cells #[.int .u8 3] 5)) = w2 at *
  generalize w1.heap.size = p1 at *
  clear x0 x1 x2 x3 x4 HX1
  obtain ⟨x0, x1, x2, x3, x4⟩ := HX2.out.c5
  go_wp2_with fail
  clear x0 x1 x2 x3 x4
  obtain ⟨D, N, hD, hN, hN2⟩ : ∃ D N, [3] ++ varL o.toNat = D ∧ D.length = N ∧ N ≤ 100 := ⟨_, _, rfl, rfl, by have := varL_nine (n := o.toNat) (by have := HL.out; omega); simp only [List.length_append, List.length_cons, List.length_nil]; omega⟩
  have HD := Lib.hid hD
  have HDN := Lib.hid hN
  rw [hD] at HG
  clear hD hN
  refine wp_region_ptab (L := fun ph => match ph with | _ => [cV (.slice (some ⟨p1, 0, none⟩) 1 1), cV (.pointer (some ⟨w.heap.size, 1, .none⟩)), cV (.int .i64 o), oV w (D), cV (.pointer (some ⟨w.heap.size, 2, .none⟩)), cV (.int .i64 m), oV w G, oV w G]) (fun _ wq => Below w2.heap.size w2 wq) [] [(0, 0), (0, 0), (0, 0), (0, 0), (0, 0), (0, 0), (0, 0), (0, 0)] [[(4, none)], [(1, none)], [(27, some 1)], [(26, some 0), (28, some 2)], [(1, none)], [(30, some 4)], [(29, some 3), (31, some 5)], [(32, some 6)]] 8 0 48 (by kernel_rfl) rfl rfl rfl (by kernel_rfl) (by kernel_rfl) (by decide) (by kernel_rfl) ?_ ?_ ?_ ?_ ?_
  · exact fun ph w1 w2 h hb => h.trans (hb.mono h.size)
  · exact Below.refl _ _
  · show ∀ i, i < 8 → _
    iterate 8 (refine fls ?_ ?_)
    · exact fl0
    · intro hne lo hi ph hran hp1 hp2 a w1 hJ hsz hs      -- 0: slot 26
      obtain ⟨rfl, rfl⟩ : 0 = lo ∧ 0 = hi := Prod.mk.inj (Option.some.inj hran)
      obtain rfl : ph = 0 := by omega
      obtain ⟨h0, _⟩ := hs
      have h0 : a.tmps.getD 4 undef = .slice (some ⟨p1, 0, none⟩) 1 1 := h0
      refine op_run rfl rfl (v := .slice (some ⟨p1, 0, none⟩) 1 1) (w' := w1) ?_ rfl (Below.refl _ _)
      simp [execOp, Act.eval, h0, go_sem]
    · intro hne lo hi ph hran hp1 hp2 a w1 hJ hsz hs      -- 1: slot 27
      obtain ⟨rfl, rfl⟩ : 0 = lo ∧ 0 = hi := Prod.mk.inj (Option.some.inj hran)
      obtain rfl : ph = 0 := by omega
      obtain ⟨h0, _⟩ := hs
      have h0 : a.tmps.getD 1 undef = .pointer (some ⟨w.heap.size, 0, .none⟩) := h0
      refine op_run rfl rfl (v := .pointer (some ⟨w.heap.size, 1, .none⟩)) (w' := w1) ?_ rfl (Below.refl _ _)
      simp [execOp, Act.eval, h0, go_sem]
    · intro hne lo hi ph hran hp1 hp2 a w1 hJ hsz hs      -- 2: slot 28
      obtain ⟨rfl, rfl⟩ : 0 = lo ∧ 0 = hi := Prod.mk.inj (Option.some.inj hran)
      obtain rfl : ph = 0 := by omega
      obtain ⟨h0, _⟩ := hs
      have h0 : a.tmps.getD 27 undef = .pointer (some ⟨w.heap.size, 1, .none⟩) := h0
      obtain ⟨x0, x1, x2, x3, x4⟩ := (HX2.out.later hJ).c5
      refine op_run rfl rfl (v := .int .i64 o) (w' := w1) ?_ rfl (Below.refl _ _)
      simp [execOp, Act.eval, h0, x1, go_sem]
    · intro hne lo hi ph hran hp1 hp2 a w1 hJ hsz hs      -- 3: slot 29
      obtain ⟨rfl, rfl⟩ : 0 = lo ∧ 0 = hi := Prod.mk.inj (Option.some.inj hran)
      obtain rfl : ph = 0 := by omega
      obtain ⟨h0, h1, _⟩ := hs
      have h0 : a.tmps.getD 26 undef = .slice (some ⟨p1, 0, none⟩) 1 1 := h0
      have h1 : a.tmps.getD 28 undef = .int .i64 o := h1
      refine op_call rfl rfl (f := 48) (args := #[.slice (some ⟨p1, 0, none⟩) 1 1, .int .i64 o]) (by simp [execOp, Act.eval, resolve, h0, h1, go_sem]) ?_
      exact ov_of (rvar_any (some ⟨p1, 0, none⟩) 1 1 [3] o w1 (HO.out.later hJ) rfl (by omega) (by have := HL.out; omega)) (HW2.out.trans (hJ.mono HW2.out.size)) HD.out
    · intro hne lo hi ph hran hp1 hp2 a w1 hJ hsz hs      -- 4: slot 30
      obtain ⟨rfl, rfl⟩ : 0 = lo ∧ 0 = hi := Prod.mk.inj (Option.some.inj hran)
      obtain rfl : ph = 0 := by omega
      obtain ⟨h0, _⟩ := hs
      have h0 : a.tmps.getD 1 undef = .pointer (some ⟨w.heap.size, 0, .none⟩) := h0
      refine op_run rfl rfl (v := .pointer (some ⟨w.heap.size, 2, .none⟩)) (w' := w1) ?_ rfl (Below.refl _ _)
      simp [execOp, Act.eval, h0, go_sem]
    · intro hne lo hi ph hran hp1 hp2 a w1 hJ hsz hs      -- 5: slot 31
      obtain ⟨rfl, rfl⟩ : 0 = lo ∧ 0 = hi := Prod.mk.inj (Option.some.inj hran)
      obtain rfl : ph = 0 := by omega
      obtain ⟨h0, _⟩ := hs
      have h0 : a.tmps.getD 30 undef = .pointer (some ⟨w.heap.size, 2, .none⟩) := h0
      obtain ⟨x0, x1, x2, x3, x4⟩ := (HX2.out.later hJ).c5
      refine op_run rfl rfl (v := .int .i64 m) (w' := w1) ?_ rfl (Below.refl _ _)
      simp [execOp, Act.eval, h0, x2, go_sem]
    · intro hne lo hi ph hran hp1 hp2 a w1 hJ hsz hs      -- 6: slot 32
      obtain ⟨rfl, rfl⟩ : 0 = lo ∧ 0 = hi := Prod.mk.inj (Option.some.inj hran)
      obtain rfl : ph = 0 := by omega
      obtain ⟨h0, h1, _⟩ := hs
      have m0 : (oV w (D)).p w1 (a.tmps.getD 29 undef) := h0; obtain ⟨a0, p0, h0, r0⟩ := ov_row (n := N) m0 HDN.out
      have h1 : a.tmps.getD 31 undef = .int .i64 m := h1
      refine op_call rfl rfl (f := 48) (args := #[.slice a0 N p0, .int .i64 m]) (by simp [execOp, Act.eval, resolve, h0, h1, go_sem]) ?_
      exact ov_of (rvar_any a0 N p0 D m w1 r0 HDN.out (by omega) (by have := HL.out; omega)) (HW2.out.trans (hJ.mono HW2.out.size)) HG.out
    · intro hne lo hi ph hran hp1 hp2 a w1 hJ hsz hs      -- 7: slot 4
      obtain ⟨rfl, rfl⟩ : 0 = lo ∧ 0 = hi := Prod.mk.inj (Option.some.inj hran)
      obtain rfl : ph = 0 := by omega
      obtain ⟨h0, _⟩ := hs
      have m0 : (oV w G).p w1 (a.tmps.getD 32 undef) := h0
      exact op_run rfl rfl (v := a.tmps.getD 32 undef) (w' := w1) (by simp [execOp, Act.eval, go_sem]) m0 (Below.refl _ _)
  · show ∀ ph, ph < 0 → _
    iterate 0 (refine fls ?_ ?_)
    · exact fl0
  · intro f w1 hJ hv
    have e4 : (oV w G).p w1 (f 4) := hv 7 _ 4 rfl rfl
    clear hv
    try simp only [Exit.then]
    simp only [putAll, List.foldl_cons, List.foldl_nil, Option.getD_some, Act.put, List.setIfInBounds_toArray, List.set_cons_succ, List.set_cons_zero]
    generalize f 4 = v5 at e4 ⊢
    have o6 : Own w w1 v5 G := e4
    clear e4 hJ
    go_wp2_with fail
    go_ret2
    exact ⟨_, rfl, o6⟩
set_option maxHeartbeats 1000000 in
theorem rputE_r (hr : Row w ad c l) (hn : l.length = n) (hs : s.size ≤ 9223372036854775807) (h : (Ev.mk 4 o m l s.data.toList).right = true) :
    Calls Try.prog 31 #[.agg #[.int .i64 4, .int .i64 o, .int .i64 m, .slice ad n c, .string s]] w fun e w' => ∃ v, e = .returned (.tuple #[v, .int .i64 0]) ∧ Own w w' v (putE ⟨4, o, m, l, s.data.toList⟩) := by
  have HW : Hid (Below w.heap.size w (w.alloc (.cells #[.int .i64 4, .int .i64 o, .int .i64 m, .slice ad n c, .string s] 46))) := Lib.hid ((Below.refl _ _).alloc (Nat.le_refl _) _)
  have HX := Lib.hid (RecAt.new w #[.int .i64 4, .int .i64 o, .int .i64 m, .slice ad n c, .string s] 46)
  have HR := Lib.hid (hr.later HW.out)
  have HN := Lib.hid hn
  have HB := Lib.hid h
  have HL : Hid (0 ≤ m ∧ m ≤ 512) := by
    rcases right_iff.1 h with h1 | h1 | h1 | h1 | h1 <;> simp only [within_iff] at h1 <;> first | (exfalso; omega) | exact Lib.hid (by first | omega | exact nameOk_len h1.2.2.2.2)
  obtain ⟨G, hG⟩ : ∃ G, putE ⟨4, o, m, l, s.data.toList⟩ = G := ⟨_, rfl⟩
  have HG : Hid ([4] ++ varL m.toNat = G) := Lib.hid (by rw [← hG]; unfold putE; rw [bodyE_r rfl]; simp)
  rw [hG]
  clear hG
  go_enter Try.func31, Try.ntmps31
  go_wp2_with fail
  refine (evrright_any _ _ _ _ _ _ _ _ _ HR.out HN.out hs).mono ?_
  rw [HB.out]
  rintro e w1 ⟨rfl, hb1⟩
  have hba : Below w1.heap.size w1 (w1.alloc (.cells #[.int .u8 4] 5)) := (Below.refl _ _).alloc (Nat.le_refl _) _
  have hbb := hb1.trans (hba.mono hb1.size)
  have HW1 := Lib.hid (HW.out.trans (hb1.mono HW.out.size))
  have HW2 := Lib.hid (HW.out.trans (hbb.mono HW.out.size))
  have HX1 := Lib.hid (HX.out.later hb1)
  have HX2 := Lib.hid (HX.out.later hbb)
  have HR2 := Lib.hid (HR.out.later hbb)
  have HO : Hid (Row (w1.alloc (.cells #[.int .u8 4] 5)) (some ⟨w1.heap.size, 0, none⟩) 1 [4]) := Lib.hid (row_new w1 [4] (by decide))
  have HZ : Hid (Own w (w1.alloc (.cells #[.int .u8 4] 5)) (.slice (some ⟨w1.heap.size, 0, none⟩) 1 1) [4]) := Lib.hid (own_one HW1.out)
  obtain ⟨x0, x1, x2, x3, x4⟩ := HX1.out.c5
  clear hba hbb hb1 h hr hn HW HX HR HW1
  go_upto_region 4 with fail
  generalize (w1.alloc (.cells #[.int .u8 4] 5)) = w2 at *
  generalize w1.heap.size = p1 at *
  clear x0 x1 x2 x3 x4 HX1
  obtain ⟨x0, x1, x2, x3, x4⟩ := HX2.out.c5
  go_wp2_with fail
  refine (rvar_any (some ⟨p1, 0, none⟩) 1 1 [4] m w2 HO.out rfl (by omega) (by have := HL.out; omega)).mono ?_
  rintro e w3 ⟨v3, rfl, o3⟩
  have o4 := Lib.hid (o3.back HW2.out)
  clear o3 x0 x1 x2 x3 x4
  go_wp2_with fail
  go_ret2
  exact ⟨_, rfl, by rw [← HG.out]; exact o4.out⟩
set_option maxHeartbeats 1000000 in
theorem rputE_n5 (hr : Row w ad c l) (hn : l.length = n) (hs : s.size ≤ 9223372036854775807) (h : (Ev.mk 5 o m l s.data.toList).right = true) :
    Calls Try.prog 31 #[.agg #[.int .i64 5, .int .i64 o, .int .i64 m, .slice ad n c, .string s]] w fun e w' => ∃ v, e = .returned (.tuple #[v, .int .i64 0]) ∧ Own w w' v (putE ⟨5, o, m, l, s.data.toList⟩) := by
  have HW : Hid (Below w.heap.size w (w.alloc (.cells #[.int .i64 5, .int .i64 o, .int .i64 m, .slice ad n c, .string s] 46))) := Lib.hid ((Below.refl _ _).alloc (Nat.le_refl _) _)
  have HX := Lib.hid (RecAt.new w #[.int .i64 5, .int .i64 o, .int .i64 m, .slice ad n c, .string s] 46)
  have HR := Lib.hid (hr.later HW.out)
  have HN := Lib.hid hn
  have HB := Lib.hid h
  have HL : Hid (1 ≤ s.data.toList.length ∧ s.data.toList.length ≤ 12) := by
    rcases right_iff.1 h with h1 | h1 | h1 | h1 | h1 <;> simp only [within_iff] at h1 <;> first | (exfalso; omega) | exact Lib.hid (by first | omega | exact nameOk_len h1.2.2.2.2)
  obtain ⟨G, hG⟩ : ∃ G, putE ⟨5, o, m, l, s.data.toList⟩ = G := ⟨_, rfl⟩
  have HG : Hid ([5] ++ s.data.toList = G) := Lib.hid (by rw [← hG]; unfold putE; rw [bodyE_n (by simp)]; simp)
  rw [hG]
  clear hG
  go_enter Try.func31, Try.ntmps31
  go_wp2_with fail
  refine (evrright_any _ _ _ _ _ _ _ _ _ HR.out HN.out hs).mono ?_
  rw [HB.out]
  rintro e w1 ⟨rfl, hb1⟩
  have hba : Below w1.heap.size w1 (w1.alloc (.cells #[.int .u8 5] 5)) := (Below.refl _ _).alloc (Nat.le_refl _) _
  have hbb := hb1.trans (hba.mono hb1.size)
  have HW1 := Lib.hid (HW.out.trans (hb1.mono HW.out.size))
  have HW2 := Lib.hid (HW.out.trans (hbb.mono HW.out.size))
  have HX1 := Lib.hid (HX.out.later hb1)
  have HX2 := Lib.hid (HX.out.later hbb)
  have HR2 := Lib.hid (HR.out.later hbb)
  have HO : Hid (Row (w1.alloc (.cells #[.int .u8 5] 5)) (some ⟨w1.heap.size, 0, none⟩) 1 [5]) := Lib.hid (row_new w1 [5] (by decide))
  have HZ : Hid (Own w (w1.alloc (.cells #[.int .u8 5] 5)) (.slice (some ⟨w1.heap.size, 0, none⟩) 1 1) [5]) := Lib.hid (own_one HW1.out)
  obtain ⟨x0, x1, x2, x3, x4⟩ := HX1.out.c5
  clear hba hbb hb1 h hr hn HW HX HR HW1
  go_upto_region 4 with fail
  generalize (w1.alloc (.cells #[.int .u8 5] 5)) = w2 at *
  generalize w1.heap.size = p1 at *
  clear x0 x1 x2 x3 x4 HX1
  obtain ⟨x0, x1, x2, x3, x4⟩ := HX2.out.c5
  have HS : Hid (s.size ≤ 12) := Lib.hid (by have := HL.out; rw [Array.length_toList] at this; exact this.2)
  go_wp2_with (at_builtin; refine wp_text rfl _ _ rfl _ _ rfl w HZ.out s rfl (by have := HS.out; simp; omega) ?_; intro v3 w3 o3)
  go_ret2
  exact ⟨_, rfl, by rw [← HG.out]; exact o3⟩
set_option maxHeartbeats 1000000 in
theorem rputE_n6 (hr : Row w ad c l) (hn : l.length = n) (hs : s.size ≤ 9223372036854775807) (h : (Ev.mk 6 o m l s.data.toList).right = true) :
    Calls Try.prog 31 #[.agg #[.int .i64 6, .int .i64 o, .int .i64 m, .slice ad n c, .string s]] w fun e w' => ∃ v, e = .returned (.tuple #[v, .int .i64 0]) ∧ Own w w' v (putE ⟨6, o, m, l, s.data.toList⟩) := by
  have HW : Hid (Below w.heap.size w (w.alloc (.cells #[.int .i64 6, .int .i64 o, .int .i64 m, .slice ad n c, .string s] 46))) := Lib.hid ((Below.refl _ _).alloc (Nat.le_refl _) _)
  have HX := Lib.hid (RecAt.new w #[.int .i64 6, .int .i64 o, .int .i64 m, .slice ad n c, .string s] 46)
  have HR := Lib.hid (hr.later HW.out)
  have HN := Lib.hid hn
  have HB := Lib.hid h
  have HL : Hid (1 ≤ s.data.toList.length ∧ s.data.toList.length ≤ 12) := by
    rcases right_iff.1 h with h1 | h1 | h1 | h1 | h1 <;> simp only [within_iff] at h1 <;> first | (exfalso; omega) | exact Lib.hid (by first | omega | exact nameOk_len h1.2.2.2.2)
  obtain ⟨G, hG⟩ : ∃ G, putE ⟨6, o, m, l, s.data.toList⟩ = G := ⟨_, rfl⟩
  have HG : Hid ([6] ++ s.data.toList = G) := Lib.hid (by rw [← hG]; unfold putE; rw [bodyE_n (by simp)]; simp)
  rw [hG]
  clear hG
  go_enter Try.func31, Try.ntmps31
  go_wp2_with fail
  refine (evrright_any _ _ _ _ _ _ _ _ _ HR.out HN.out hs).mono ?_
  rw [HB.out]
  rintro e w1 ⟨rfl, hb1⟩
  have hba : Below w1.heap.size w1 (w1.alloc (.cells #[.int .u8 6] 5)) := (Below.refl _ _).alloc (Nat.le_refl _) _
  have hbb := hb1.trans (hba.mono hb1.size)
  have HW1 := Lib.hid (HW.out.trans (hb1.mono HW.out.size))
  have HW2 := Lib.hid (HW.out.trans (hbb.mono HW.out.size))
  have HX1 := Lib.hid (HX.out.later hb1)
  have HX2 := Lib.hid (HX.out.later hbb)
  have HR2 := Lib.hid (HR.out.later hbb)
  have HO : Hid (Row (w1.alloc (.cells #[.int .u8 6] 5)) (some ⟨w1.heap.size, 0, none⟩) 1 [6]) := Lib.hid (row_new w1 [6] (by decide))
  have HZ : Hid (Own w (w1.alloc (.cells #[.int .u8 6] 5)) (.slice (some ⟨w1.heap.size, 0, none⟩) 1 1) [6]) := Lib.hid (own_one HW1.out)
  obtain ⟨x0, x1, x2, x3, x4⟩ := HX1.out.c5
  clear hba hbb hb1 h hr hn HW HX HR HW1
  go_upto_region 4 with fail
  generalize (w1.alloc (.cells #[.int .u8 6] 5)) = w2 at *
  generalize w1.heap.size = p1 at *
  clear x0 x1 x2 x3 x4 HX1
  obtain ⟨x0, x1, x2, x3, x4⟩ := HX2.out.c5
  have HS : Hid (s.size ≤ 12) := Lib.hid (by have := HL.out; rw [Array.length_toList] at this; exact this.2)
  go_wp2_with (at_builtin; refine wp_text rfl _ _ rfl _ _ rfl w HZ.out s rfl (by have := HS.out; simp; omega) ?_; intro v3 w3 o3)
  go_ret2
  exact ⟨_, rfl, by rw [← HG.out]; exact o3⟩
set_option maxHeartbeats 1000000 in
theorem rputE_n7 (hr : Row w ad c l) (hn : l.length = n) (hs : s.size ≤ 9223372036854775807) (h : (Ev.mk 7 o m l s.data.toList).right = true) :
    Calls Try.prog 31 #[.agg #[.int .i64 7, .int .i64 o, .int .i64 m, .slice ad n c, .string s]] w fun e w' => ∃ v, e = .returned (.tuple #[v, .int .i64 0]) ∧ Own w w' v (putE ⟨7, o, m, l, s.data.toList⟩) := by
  have HW : Hid (Below w.heap.size w (w.alloc (.cells #[.int .i64 7, .int .i64 o, .int .i64 m, .slice ad n c, .string s] 46))) := Lib.hid ((Below.refl _ _).alloc (Nat.le_refl _) _)
  have HX := Lib.hid (RecAt.new w #[.int .i64 7, .int .i64 o, .int .i64 m, .slice ad n c, .string s] 46)
  have HR := Lib.hid (hr.later HW.out)
  have HN := Lib.hid hn
  have HB := Lib.hid h
  have HL : Hid (1 ≤ s.data.toList.length ∧ s.data.toList.length ≤ 12) := by
    rcases right_iff.1 h with h1 | h1 | h1 | h1 | h1 <;> simp only [within_iff] at h1 <;> first | (exfalso; omega) | exact Lib.hid (by first | omega | exact nameOk_len h1.2.2.2.2)
  obtain ⟨G, hG⟩ : ∃ G, putE ⟨7, o, m, l, s.data.toList⟩ = G := ⟨_, rfl⟩
  have HG : Hid ([7] ++ s.data.toList = G) := Lib.hid (by rw [← hG]; unfold putE; rw [bodyE_n (by simp)]; simp)
  rw [hG]
  clear hG
  go_enter Try.func31, Try.ntmps31
  go_wp2_with fail
  refine (evrright_any _ _ _ _ _ _ _ _ _ HR.out HN.out hs).mono ?_
  rw [HB.out]
  rintro e w1 ⟨rfl, hb1⟩
  have hba : Below w1.heap.size w1 (w1.alloc (.cells #[.int .u8 7] 5)) := (Below.refl _ _).alloc (Nat.le_refl _) _
  have hbb := hb1.trans (hba.mono hb1.size)
  have HW1 := Lib.hid (HW.out.trans (hb1.mono HW.out.size))
  have HW2 := Lib.hid (HW.out.trans (hbb.mono HW.out.size))
  have HX1 := Lib.hid (HX.out.later hb1)
  have HX2 := Lib.hid (HX.out.later hbb)
  have HR2 := Lib.hid (HR.out.later hbb)
  have HO : Hid (Row (w1.alloc (.cells #[.int .u8 7] 5)) (some ⟨w1.heap.size, 0, none⟩) 1 [7]) := Lib.hid (row_new w1 [7] (by decide))
  have HZ : Hid (Own w (w1.alloc (.cells #[.int .u8 7] 5)) (.slice (some ⟨w1.heap.size, 0, none⟩) 1 1) [7]) := Lib.hid (own_one HW1.out)
  obtain ⟨x0, x1, x2, x3, x4⟩ := HX1.out.c5
  clear hba hbb hb1 h hr hn HW HX HR HW1
  go_upto_region 4 with fail
  generalize (w1.alloc (.cells #[.int .u8 7] 5)) = w2 at *
  generalize w1.heap.size = p1 at *
  clear x0 x1 x2 x3 x4 HX1
  obtain ⟨x0, x1, x2, x3, x4⟩ := HX2.out.c5
  have HS : Hid (s.size ≤ 12) := Lib.hid (by have := HL.out; rw [Array.length_toList] at this; exact this.2)
  go_wp2_with (at_builtin; refine wp_text rfl _ _ rfl _ _ rfl w HZ.out s rfl (by have := HS.out; simp; omega) ?_; intro v3 w3 o3)
  go_ret2
  exact ⟨_, rfl, by rw [← HG.out]; exact o3⟩
set_option maxHeartbeats 1000000 in
theorem rputE_f (hr : Row w ad c l) (hn : l.length = n) (hs : s.size ≤ 9223372036854775807) (h : (Ev.mk 8 o m l s.data.toList).right = true) :
    Calls Try.prog 31 #[.agg #[.int .i64 8, .int .i64 o, .int .i64 m, .slice ad n c, .string s]] w fun e w' => ∃ v, e = .returned (.tuple #[v, .int .i64 0]) ∧ Own w w' v (putE ⟨8, o, m, l, s.data.toList⟩) := by
  have HW : Hid (Below w.heap.size w (w.alloc (.cells #[.int .i64 8, .int .i64 o, .int .i64 m, .slice ad n c, .string s] 46))) := Lib.hid ((Below.refl _ _).alloc (Nat.le_refl _) _)
  have HX := Lib.hid (RecAt.new w #[.int .i64 8, .int .i64 o, .int .i64 m, .slice ad n c, .string s] 46)
  have HR := Lib.hid (hr.later HW.out)
  have HN := Lib.hid hn
  have HB := Lib.hid h
  have HL : Hid (True) := by
    rcases right_iff.1 h with h1 | h1 | h1 | h1 | h1 <;> exact Lib.hid trivial
  obtain ⟨G, hG⟩ : ∃ G, putE ⟨8, o, m, l, s.data.toList⟩ = G := ⟨_, rfl⟩
  have HG : Hid ([8] = G) := Lib.hid (by rw [← hG]; unfold putE; rw [bodyE_f rfl]; simp)
  rw [hG]
  clear hG
  go_enter Try.func31, Try.ntmps31
  go_wp2_with fail
  refine (evrright_any _ _ _ _ _ _ _ _ _ HR.out HN.out hs).mono ?_
  rw [HB.out]
  rintro e w1 ⟨rfl, hb1⟩
  have hba : Below w1.heap.size w1 (w1.alloc (.cells #[.int .u8 8] 5)) := (Below.refl _ _).alloc (Nat.le_refl _) _
  have hbb := hb1.trans (hba.mono hb1.size)
  have HW1 := Lib.hid (HW.out.trans (hb1.mono HW.out.size))
  have HW2 := Lib.hid (HW.out.trans (hbb.mono HW.out.size))
  have HX1 := Lib.hid (HX.out.later hb1)
  have HX2 := Lib.hid (HX.out.later hbb)
  have HR2 := Lib.hid (HR.out.later hbb)
  have HO : Hid (Row (w1.alloc (.cells #[.int .u8 8] 5)) (some ⟨w1.heap.size, 0, none⟩) 1 [8]) := Lib.hid (row_new w1 [8] (by decide))
  have HZ : Hid (Own w (w1.alloc (.cells #[.int .u8 8] 5)) (.slice (some ⟨w1.heap.size, 0, none⟩) 1 1) [8]) := Lib.hid (own_one HW1.out)
  obtain ⟨x0, x1, x2, x3, x4⟩ := HX1.out.c5
  clear hba hbb hb1 h hr hn HW HX HR HW1
  go_upto_region 4 with fail
  generalize (w1.alloc (.cells #[.int .u8 8] 5)) = w2 at *
  generalize w1.heap.size = p1 at *
  clear x0 x1 x2 x3 x4 HX1
  obtain ⟨x0, x1, x2, x3, x4⟩ := HX2.out.c5
  go_wp2_with fail
  go_ret2
  exact ⟨_, rfl, by rw [← HG.out]; exact HZ.out⟩
theorem rputE_any (k : Int) (hr : Row w ad c l) (hn : l.length = n) (hs : s.size ≤ 9223372036854775807) :
    Calls Try.prog 31 #[.agg #[.int .i64 k, .int .i64 o, .int .i64 m, .slice ad n c, .string s]] w fun e w' => ∃ v, e = .returned (.tuple #[v, .int .i64 (putEv ⟨k, o, m, l, s.data.toList⟩).2]) ∧ Own w w' v (putEv ⟨k, o, m, l, s.data.toList⟩).1 := by
  cases h : (Ev.mk k o m l s.data.toList).right with
  | true =>
    rw [putEv_yes h]
    have hk := right_kind h
    simp only at hk
    rcases (show k = 1 ∨ k = 2 ∨ k = 3 ∨ k = 4 ∨ k = 5 ∨ k = 6 ∨ k = 7 ∨ k = 8 by omega) with rfl | rfl | rfl | rfl | rfl | rfl | rfl | rfl
    · exact rputE_w o m ad n c l s w hr hn hs h
    · exact rputE_d2 o m ad n c l s w hr hn hs h
    · exact rputE_d3 o m ad n c l s w hr hn hs h
    · exact rputE_r o m ad n c l s w hr hn hs h
    · exact rputE_n5 o m ad n c l s w hr hn hs h
    · exact rputE_n6 o m ad n c l s w hr hn hs h
    · exact rputE_n7 o m ad n c l s w hr hn hs h
    · exact rputE_f o m ad n c l s w hr hn hs h
  | false =>
    rw [putEv_no h]
    have HW : Hid (Below w.heap.size w (w.alloc (.cells #[.int .i64 k, .int .i64 o, .int .i64 m, .slice ad n c, .string s] 46))) := Lib.hid ((Below.refl _ _).alloc (Nat.le_refl _) _)
    have HR := Lib.hid (hr.later HW.out)
    have HN := Lib.hid hn
    have HB := Lib.hid h
    clear h hr hn
    go_enter Try.func31, Try.ntmps31
    go_wp2_with fail
    refine (evrright_any _ _ _ _ _ _ _ _ _ HR.out HN.out hs).mono ?_
    rw [HB.out]
    rintro e w1 ⟨rfl, hb1⟩
    have HW1 := Lib.hid (HW.out.trans (hb1.mono HW.out.size))
    clear hb1
    go_wp2_with fail
    go_ret2
    exact ⟨_, rfl, World.ownsRow_nil _ _ _ _, HW1.out⟩
end
end Go.Proofs.Ytbpddcmehjgleaa
