/- Messages: may one be? The document's own: entries and marks that are sent. -/
import Derived.Test.YtiahifpbofkimaaGM
import Derived.Deep.RegionWith
import Derived.Deep.DeepCutAuto
namespace Go.Proofs.Ytiahifpbofkimaa
open Go.RowKit Go.Proofs
set_option linter.unusedVariables false
set_option linter.unusedSimpArgs false
set_option linter.unnecessarySimpa false

set_option maxRecDepth 20000 in
set_option maxHeartbeats 12800000 in
theorem batch_any (m : Ms) (p : MsAt) (w : World) (h : MsRows w m p) (hp0 : 0 ≤ m.pos) (hp1 : m.pos ≤ 1099511627776) : Calls Try.prog 46 #[msV m p] w fun e w' => e = .returned (.bool (rightC m.chain && entsB m.pos m.ents)) ∧ Below w.heap.size w w' := by
  have HB0 := Lib.hid ((Below.refl w.heap.size w).alloc (Nat.le_refl _) (.cells (msC m p) 27))
  have HX0 := Lib.hid (RecAt.new w (msC m p) 27)
  have hx := HX0.out.c10
  have HH := Lib.hid (h.later HB0.out)
  obtain ⟨w1, hw1⟩ : ∃ W, w.alloc (.cells (msC m p) 27) = W := ⟨_, rfl⟩
  rw [hw1] at HB0 HX0 HH
  have HC := Lib.hid (chrright_any _ _ _ m.chain w1 HH.out.c HH.out.hc)
  obtain ⟨CB, hCB⟩ : ∃ SB, rightC m.chain = SB := ⟨_, rfl⟩
  rw [hCB] at HC ⊢
  obtain ⟨k, n, o, f, s, u, C, E, T, D⟩ := m
  obtain ⟨ac, nc, cc, ae, ne, ce, am, nm, cm, ad, nd, cd⟩ := p
  have hce := HH.out.e.1
  rw [HH.out.he] at hce
  have hcm : ce ≤ 9223372036854775807 := by have := HH.out.e.2.1; unfold maxLen at this; simp only at this; omega
  have HR := Lib.hid HH.out.e
  have HN := Lib.hid HH.out.he
  simp only [msC] at hw1 hx hp0 hp1 hce HR HN HC ⊢
  clear hCB HH h
  obtain ⟨P, hP⟩ : ∃ P, (fun e w' => e = Ending.returned (.bool (CB && entsB o E)) ∧ Below w.heap.size w w') = P := ⟨_, rfl⟩
  rw [hP]
  have HP : Hid (∀ w', Below w1.heap.size w1 w' → P (.returned (.bool (CB && entsB o E))) w') := Lib.hid (fun w' hb => by rw [← hP]; exact ⟨rfl, HB0.out.trans (hb.mono HB0.out.size)⟩)
  clear hP HB0
  go_enter Try.func46, Try.ntmps46
  go_upto_region 1 with fail
  try rw [hw1]
  rw [hw1] at hx
  clear hw1
  obtain ⟨X, hX⟩ : ∃ X, w.heap.size = X := ⟨_, rfl⟩
  rw [hX]
  rw [hX] at HX0 hx
  clear hX
  obtain ⟨-, -, x2, -, -, -, x6, x7, -, -⟩ := hx
  cases CB with
  | false =>
    have HPF : Hid (∀ w', Below w1.heap.size w1 w' → P (.returned (.bool false)) w') := Lib.hid (by simpa using HP.out)
    clear HP
    go_wp2_with (go_at_call 61; refine HC.out.mono ?_; rintro e w2 ⟨rfl, hb2⟩)
    try go_ret
    exact HPF.out _ hb2
  | true =>
  have HPT : Hid (∀ w', Below w1.heap.size w1 w' → P (.returned (.bool (entsB o E))) w') := Lib.hid (by simpa using HP.out)
  clear HP
  by_cases hl : 4 < ne
  · have HPF : Hid (∀ w', Below w1.heap.size w1 w' → P (.returned (.bool false)) w') := Lib.hid (by have := entsB_long (p := o) HN.out hl; rw [this] at HPT; exact HPT.out)
    have hd : decide (4 < (ne : Int)) = true := by simp; omega
    clear hl HPT
    go_wp2_with (go_at_call 61; refine HC.out.mono ?_; rintro e w2 ⟨rfl, hb2⟩; obtain ⟨-, -, y2, -, -, -, y6, y7, -, -⟩ := (HX0.out.later hb2).c10)
    try go_ret
    exact HPF.out _ hb2
  · have hd : decide (4 < (ne : Int)) = false := by simp; omega
    have hl4 : ne ≤ 4 := by omega
    clear hl
    go_wp2_with (go_at_call 61; refine HC.out.mono ?_; rintro e w2 ⟨rfl, hb2⟩; have HB2 := Lib.hid hb2; clear x2 x6 x7; obtain ⟨-, -, x2, -, -, -, x6, x7, -, -⟩ := (HX0.out.later hb2).c10; clear hb2)
    clear x2 x6 x7 hd HC
    go_loopw [3] (fun i wr => ∃ j : Nat, i = .int .i64 j ∧ j ≤ ne ∧ Below w1.heap.size w1 wr ∧ Hid (∀ i, i < j → entStep o E i)) (fun i _ => ne - (intOf i).toNat)
    case atStart => exact ⟨0, rfl, by omega, HB2.out, Lib.hid (fun i h => by omega)⟩
    case round =>
      obtain ⟨j, rfl, hj, hb, HA⟩ := hrel
      have HB := Lib.hid hb
      have HX1 := Lib.hid (HX0.out.later hb)
      obtain ⟨-, -, x2, -, -, -, x6, x7, -, -⟩ := HX1.out.c10
      clear hb
      by_cases hjn : (j : Int) < ne
      · obtain ⟨e, he⟩ : ∃ e, E[j]? = some e := ⟨E[j]'(by have := HN.out; omega), List.getElem?_eq_getElem _⟩
        obtain ⟨b1, o1, d1, k1, rfl, p0, p1, p2, R1⟩ := (HR.out.later HB.out).at he
        have hL : e.data.length ≤ 9223372036854775807 := by have := R1.1; have := R1.2.1; unfold maxLen at this; omega
        have HT := Lib.hid he
        clear he R1
        obtain ⟨T', Z, D'⟩ := e
        simp only at p0 p1 p2 hL
        obtain ⟨L, hLL⟩ : ∃ L, D'.length = L := ⟨_, rfl⟩
        rw [hLL] at p2 hL
        have HK : Hid (∀ W, Below wr.heap.size wr W → Calls Try.prog 62 #[.agg #[.int .i64 T', .int .i64 Z, .slice d1 L k1]] W fun e w' => e = .returned (.bool (rightE T' Z L)) ∧ Below wr.heap.size wr w') :=
          Lib.hid fun W hb => (frrright_any T' Z d1 L k1 W hL).mono fun e w' ⟨a, c⟩ => ⟨a, hb.trans (c.mono hb.size)⟩
        have HK0 := Lib.hid fun W => frrright_any T' Z d1 L k1 W hL
        have HE : Hid (En.right ⟨T', Z, D'⟩ = rightE T' Z L) := Lib.hid (by unfold En.right; simp only; rw [hLL])
        have HP1 : Hid (∀ w', Below wr.heap.size wr w' → w'.cell? ⟨b1, o1 + j * 3 + 1, none⟩ = some (.int .i64 Z)) := Lib.hid (fun w' hb => by rw [hb.cell (World.block_lt_of_cell? wr _ p1)]; exact p1)
        clear hLL hL
        cases hb : rightE T' Z L with
        | false =>
          have HPF : Hid (∀ w', Below w1.heap.size w1 w' → P (.returned (.bool false)) w') := Lib.hid (by have := entsB_bad (p := o) HT.out (fun k => by rw [HE.out, hb] at k; exact absurd k.1 (by simp)); rw [this] at HPT; exact HPT.out)
          clear HPT
          rw [hb] at HK0
          clear hb
          have HP4 : Hid (∀ w', Below wr.heap.size wr w' → w'.cell? ⟨X, 7, none⟩ = some (.slice (some ⟨b1, o1, none⟩) ne ce) ∧ w'.cell? ⟨b1, o1 + j * 3, none⟩ = some (.int .i64 T') ∧ w'.cell? ⟨b1, o1 + j * 3 + 1, none⟩ = some (.int .i64 Z) ∧ w'.cell? ⟨b1, o1 + j * 3 + 2, none⟩ = some (.slice d1 L k1)) :=
            Lib.hid (fun w' hb => ⟨(HX1.out.later hb).cell rfl, by rw [hb.cell (World.block_lt_of_cell? wr _ p0)]; exact p0, by rw [hb.cell (World.block_lt_of_cell? wr _ p1)]; exact p1, by rw [hb.cell (World.block_lt_of_cell? wr _ p2)]; exact p2⟩)
          go_upto_region 6 with fail
          -- REG A
          refine wp_region_tab (L := [cV (.pointer (some ⟨X, 7, none⟩)), cV (.slice (some ⟨b1, o1, none⟩) ne ce), cV (.int .i64 (j : Nat)), cV (.pointer (some ⟨b1, o1 + j * 3, none⟩)), cV (.agg #[.int .i64 T', .int .i64 Z, .slice d1 L k1]), cV (.bool false), cV (.bool true), cV (.bool true), cV (undef), cV (undef), cV (undef), cV (undef), cV (undef), cV (undef), cV (undef), cV (undef), cV (undef), cV (undef), cV (undef), cV (undef), cV (Value.bool true)]) [[(1, none)], [(21, some 0)], [(3, none)], [(22, some 1), (23, some 2)], [(24, some 3)], [(25, some 4)], [(26, some 5)], [(27, some 6)], [(1, none), (28, some 7)], [(29, some 8), (28, some 7)], [(3, none), (28, some 7)], [(30, some 9), (31, some 10), (28, some 7)], [(32, some 11), (28, some 7)], [(33, some 12), (28, some 7)], [(1, none), (28, some 7)], [(35, some 14), (28, some 7)], [(36, some 15), (28, some 7)], [(3, none), (28, some 7)], [(37, some 16), (38, some 17), (28, some 7)], [(34, some 13), (39, some 18), (28, some 7)], [(28, some 7), (40, some 19)]] 21 42 (by kernel_rfl) rfl rfl (by kernel_rfl) (by kernel_rfl) ?_ ?_
          · show ∀ i, i < 21 → _
            iterate 21 (refine fls ?_ ?_)
            · exact fl0
            · intro a w1 hR hsz hs      -- 0: slot 21
              obtain ⟨h0, _⟩ := hs
              have h0 : a.tmps.getD 1 undef = .pointer (some ⟨X, 0, none⟩) := h0
              refine op_run rfl rfl (v := .pointer (some ⟨X, 7, none⟩)) (w' := w1) ?_ rfl (Below.refl _ _)
              simp [execOp, Act.eval, h0, go_sem]
            · intro a w1 hR hsz hs      -- 1: slot 22
              obtain ⟨h0, _⟩ := hs
              have h0 : a.tmps.getD 21 undef = .pointer (some ⟨X, 7, none⟩) := h0
              obtain ⟨z0, z1, z2, z3⟩ := HP4.out _ hR
              refine op_run rfl rfl (v := .slice (some ⟨b1, o1, none⟩) ne ce) (w' := w1) ?_ rfl (Below.refl _ _)
              simp [execOp, Act.eval, h0, z0, go_sem]
            · intro a w1 hR hsz hs      -- 2: slot 23
              obtain ⟨h0, _⟩ := hs
              have h0 : a.tmps.getD 3 undef = .int .i64 (j : Nat) := h0
              refine op_run rfl rfl (v := .int .i64 (j : Nat)) (w' := w1) ?_ rfl (Below.refl _ _)
              simp [execOp, Act.eval, h0, go_sem]
            · intro a w1 hR hsz hs      -- 3: slot 24
              obtain ⟨h0, h1, _⟩ := hs
              have h0 : a.tmps.getD 22 undef = .slice (some ⟨b1, o1, none⟩) ne ce := h0
              have h1 : a.tmps.getD 23 undef = .int .i64 (j : Nat) := h1
              have z0 : ((j : Nat) : Int) < (ne : Int) := by omega
              refine op_run rfl rfl (v := .pointer (some ⟨b1, o1 + j * 3, none⟩)) (w' := w1) ?_ rfl (Below.refl _ _)
              simp [execOp, Act.eval, h0, h1, z0, go_sem]
            · intro a w1 hR hsz hs      -- 4: slot 25
              obtain ⟨h0, _⟩ := hs
              have h0 : a.tmps.getD 24 undef = .pointer (some ⟨b1, o1 + j * 3, none⟩) := h0
              obtain ⟨z0, z1, z2, z3⟩ := HP4.out _ hR
              refine op_run rfl rfl (v := .agg #[.int .i64 T', .int .i64 Z, .slice d1 L k1]) (w' := w1) ?_ rfl (Below.refl _ _)
              simp [execOp, Act.eval, h0, z1, z2, z3, go_sem]
            · intro a w1 hR hsz hs      -- 5: slot 26
              obtain ⟨h0, _⟩ := hs
              have h0 : a.tmps.getD 25 undef = .agg #[.int .i64 T', .int .i64 Z, .slice d1 L k1] := h0
              refine op_call rfl rfl (f := 62) (args := #[.agg #[.int .i64 T', .int .i64 Z, .slice d1 L k1]]) (by simp [execOp, Act.eval, resolve, h0, go_sem]) ?_
              exact calls_c (HK0.out w1)
            · intro a w1 hR hsz hs      -- 6: slot 27
              obtain ⟨h0, _⟩ := hs
              have h0 : a.tmps.getD 26 undef = .bool false := h0
              refine op_run rfl rfl (v := .bool true) (w' := w1) ?_ rfl (Below.refl _ _)
              simp [execOp, Act.eval, h0, go_sem]
            · intro a w1 hR hsz hs      -- 7: slot 28
              obtain ⟨h0, _⟩ := hs
              have h0 : a.tmps.getD 27 undef = .bool true := h0
              refine op_run rfl rfl (v := .bool true) (w' := w1) ?_ rfl (Below.refl _ _)
              simp [execOp, Act.eval, h0, go_sem]
            · intro a w1 hR hsz hs      -- 8: slot 29
              obtain ⟨h0, h1, _⟩ := hs
              have h0 : a.tmps.getD 1 undef = .pointer (some ⟨X, 0, none⟩) := h0
              have h1 : a.tmps.getD 28 undef = .bool true := h1
              exact opg_skip rfl rfl rfl (by rw [hsz]; decide) h1 rfl rfl
            · intro a w1 hR hsz hs      -- 9: slot 30
              obtain ⟨h0, h1, _⟩ := hs
              have h0 : a.tmps.getD 29 undef = undef := h0
              have h1 : a.tmps.getD 28 undef = .bool true := h1
              exact opg_skip rfl rfl rfl (by rw [hsz]; decide) h1 rfl rfl
            · intro a w1 hR hsz hs      -- 10: slot 31
              obtain ⟨h0, h1, _⟩ := hs
              have h0 : a.tmps.getD 3 undef = .int .i64 (j : Nat) := h0
              have h1 : a.tmps.getD 28 undef = .bool true := h1
              exact opg_skip rfl rfl rfl (by rw [hsz]; decide) h1 rfl rfl
            · intro a w1 hR hsz hs      -- 11: slot 32
              obtain ⟨h0, h1, h2, _⟩ := hs
              have h0 : a.tmps.getD 30 undef = undef := h0
              have h1 : a.tmps.getD 31 undef = undef := h1
              have h2 : a.tmps.getD 28 undef = .bool true := h2
              exact opg_skip rfl rfl rfl (by rw [hsz]; decide) h2 rfl rfl
            · intro a w1 hR hsz hs      -- 12: slot 33
              obtain ⟨h0, h1, _⟩ := hs
              have h0 : a.tmps.getD 32 undef = undef := h0
              have h1 : a.tmps.getD 28 undef = .bool true := h1
              exact opg_skip rfl rfl rfl (by rw [hsz]; decide) h1 rfl rfl
            · intro a w1 hR hsz hs      -- 13: slot 34
              obtain ⟨h0, h1, _⟩ := hs
              have h0 : a.tmps.getD 33 undef = undef := h0
              have h1 : a.tmps.getD 28 undef = .bool true := h1
              exact opg_skip rfl rfl rfl (by rw [hsz]; decide) h1 rfl rfl
            · intro a w1 hR hsz hs      -- 14: slot 35
              obtain ⟨h0, h1, _⟩ := hs
              have h0 : a.tmps.getD 1 undef = .pointer (some ⟨X, 0, none⟩) := h0
              have h1 : a.tmps.getD 28 undef = .bool true := h1
              exact opg_skip rfl rfl rfl (by rw [hsz]; decide) h1 rfl rfl
            · intro a w1 hR hsz hs      -- 15: slot 36
              obtain ⟨h0, h1, _⟩ := hs
              have h0 : a.tmps.getD 35 undef = undef := h0
              have h1 : a.tmps.getD 28 undef = .bool true := h1
              exact opg_skip rfl rfl rfl (by rw [hsz]; decide) h1 rfl rfl
            · intro a w1 hR hsz hs      -- 16: slot 37
              obtain ⟨h0, h1, _⟩ := hs
              have h0 : a.tmps.getD 36 undef = undef := h0
              have h1 : a.tmps.getD 28 undef = .bool true := h1
              exact opg_skip rfl rfl rfl (by rw [hsz]; decide) h1 rfl rfl
            · intro a w1 hR hsz hs      -- 17: slot 38
              obtain ⟨h0, h1, _⟩ := hs
              have h0 : a.tmps.getD 3 undef = .int .i64 (j : Nat) := h0
              have h1 : a.tmps.getD 28 undef = .bool true := h1
              exact opg_skip rfl rfl rfl (by rw [hsz]; decide) h1 rfl rfl
            · intro a w1 hR hsz hs      -- 18: slot 39
              obtain ⟨h0, h1, h2, _⟩ := hs
              have h0 : a.tmps.getD 37 undef = undef := h0
              have h1 : a.tmps.getD 38 undef = undef := h1
              have h2 : a.tmps.getD 28 undef = .bool true := h2
              exact opg_skip rfl rfl rfl (by rw [hsz]; decide) h2 rfl rfl
            · intro a w1 hR hsz hs      -- 19: slot 40
              obtain ⟨h0, h1, h2, _⟩ := hs
              have h0 : a.tmps.getD 34 undef = undef := h0
              have h1 : a.tmps.getD 39 undef = undef := h1
              have h2 : a.tmps.getD 28 undef = .bool true := h2
              exact opg_skip rfl rfl rfl (by rw [hsz]; decide) h2 rfl rfl
            · intro a w1 hR hsz hs      -- 20: slot 41
              obtain ⟨h0, h1, _⟩ := hs
              have h0 : a.tmps.getD 28 undef = .bool true := h0
              have h1 : a.tmps.getD 40 undef = undef := h1
              refine op_run rfl rfl (v := Value.bool true) (w' := w1) ?_ rfl (Below.refl _ _)
              simp [execOp, Act.eval, h0, go_sem]
          intro f w1 hR hv
          have e41 : f 41 = .bool true := hv 20 _ 41 rfl rfl
          clear hv
          try simp only [Exit.then]
          simp only [putAll, List.foldl_cons, List.foldl_nil, Option.getD_some, Act.put, List.setIfInBounds_toArray, List.set_cons_succ, List.set_cons_zero]
          rw [e41]
          have HRR := Lib.hid hR
          clear hR e41
          -- END A
          go_wp2_with fail
          try go_ret
          exact HPF.out _ (HB.out.trans (HRR.out.mono HB.out.size))
        | true =>
          have HRT : Hid (En.right ⟨T', Z, D'⟩ = true) := Lib.hid (by rw [HE.out, hb])
          rw [hb] at HK
          clear hb
          have hw : wrap64 (o + 1 + j) = o + 1 + j := by unfold wrap64; omega
          have hwa : IntKind.i64.wrap (o + 1) = o + 1 := by rw [IntKind.wrap_i64]; omega
          have hwb : IntKind.i64.wrap (o + 1 + (j : Int)) = o + 1 + j := by rw [IntKind.wrap_i64]; omega
          cases hs : (Z == o + 1 + (j : Int)) with
          | false =>
            have hsn : (Z != o + 1 + (j : Int)) = true := by simp [bne, hs]
            have HPF : Hid (∀ w', Below w1.heap.size w1 w' → P (.returned (.bool false)) w') := Lib.hid (by have := entsB_bad (p := o) HT.out (fun k => by have := k.2; simp only at this; rw [this] at hs; simp at hs); rw [this] at HPT; exact HPT.out)
            clear HPT
            go_upto_region 6 with fail
            go_region_with (go_at_call 62; refine (HK.out _ (by first | exact Below.refl _ _ | exact (Below.refl _ _).drew | exact below_drewN _ _)).mono ?_; rintro e w6 ⟨rfl, hb6⟩; obtain ⟨-, -, y2, -, -, -, y6, y7, -, -⟩ := (HX1.out.later hb6).c10; have q1 := HP1.out _ hb6)
            all_goals
              go_wp2_with fail
              try go_ret
              exact HPF.out _ (HB.out.trans (Below.mono (by first | exact hb6 | exact hb6.trans ((Below.refl _ _).drew.mono hb6.size)) HB.out.size))
          | true =>
            have hsn : (Z != o + 1 + (j : Int)) = false := by simp [bne, hs]
            have HA2 := Lib.hid (ent_more HT.out HRT.out (by simpa using hs) HA.out)
            go_upto_region 6 with fail
            go_region_with (go_at_call 62; refine (HK.out _ (by first | exact Below.refl _ _ | exact (Below.refl _ _).drew | exact below_drewN _ _)).mono ?_; rintro e w6 ⟨rfl, hb6⟩; obtain ⟨-, -, y2, -, -, -, y6, y7, -, -⟩ := (HX1.out.later hb6).c10; have q1 := HP1.out _ hb6)
            all_goals
              go_wp2_with fail
              all_goals exact ⟨⟨j + 1, by go_num, by omega, HB.out.trans (Below.mono (by first | exact hb6 | exact hb6.trans ((Below.refl _ _).drew.mono hb6.size)) HB.out.size), HA2⟩, by simp [intOf]; omega⟩
      · have : j = ne := by omega
        subst this
        have HPF : Hid (∀ w', Below w1.heap.size w1 w' → P (.returned (.bool true)) w') := Lib.hid (by have := entsB_end HN.out hl4 HA.out; rw [this] at HPT; exact HPT.out)
        clear HPT
        go_wp2_with fail
        try go_ret
        exact HPF.out _ HB.out
end Go.Proofs.Ytiahifpbofkimaa
