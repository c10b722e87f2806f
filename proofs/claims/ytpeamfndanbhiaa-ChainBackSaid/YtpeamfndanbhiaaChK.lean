/- Chains: the document's own example. -/
import Derived.Test.YtpeamfndanbhiaaChI
import Derived.Test.YtpeamfndanbhiaaChO
namespace Go.Proofs.Ytpeamfndanbhiaa
open Go.RowKit Go.Proofs
set_option linter.unusedVariables false
set_option linter.unusedSimpArgs false

def kTg : Tg := ⟨1, 1, 0, 0⟩
theorem k_right : rightC [kTg] = true := rightC_iff.2 grown_one.1
theorem k_put : putCh [kTg] = (putC [kTg], 0) := putCh_yes k_right
theorem k_get : getCh (putC [kTg]) = ([kTg], 0) := getCh_some grown_one.1 rfl
theorem k_len : (putC [kTg]).length ≤ 417 := (putC_len grown_one.1).2
theorem kt_eql (w : World) : (binOp .eql 43 (.agg #[.int .i64 1, .int .i64 1, .int .i64 0, .int .i64 0]) (.agg #[.int .i64 1, .int .i64 1, .int .i64 0, .int .i64 0])).run Try.prog w = .ok (.bool true) w := by
  have := tag_eql w kTg kTg
  simpa [kTg] using this
theorem trow_one (w : World) (t : Tg) (h : t.B) : TRow (w.alloc (.cells #[.int .i64 t.id, .int .i64 t.owner, .int .i64 t.heir, .int .i64 t.at'] 43)) (some ⟨w.heap.size, 0, none⟩) 1 [t] := by
  obtain ⟨a, c, e, r⟩ := (TOwn.one (Below.refl w.heap.size w) h).row_n (n := 1) rfl
  cases e
  exact r
theorem k_B : kTg.B := by unfold Tg.B I64 kTg; decide
theorem k_next1 : nextC [] 1 = 1 := by decide
theorem k_next2 : nextC [kTg] 2 = 2 := by decide
theorem k_cmp : compareC [kTg] 3 [kTg] 5 = -1 := by decide
theorem k_of : ofC [kTg] 1 = 1 := by decide
set_option maxRecDepth 20000 in
set_option maxHeartbeats 6400000 in
theorem known_any (w : World) : Calls Try.prog 10 #[] w fun e w' => e = .returned (.bool true) ∧ Below w.heap.size w w' := by
  have HR : Hid (TRow (w.alloc (.cells #[.int .i64 1, .int .i64 1, .int .i64 0, .int .i64 0] 43)) (some ⟨w.heap.size, 0, none⟩) 1 [kTg]) := Lib.hid (trow_one w kTg k_B)
  have HL1 : Hid (RecAt (w.alloc (.cells #[.int .i64 1, .int .i64 1, .int .i64 0, .int .i64 0] 43)) w.heap.size #[.int .i64 1, .int .i64 1, .int .i64 0, .int .i64 0] 43) := Lib.hid (RecAt.new _ _ _)
  have HB := Lib.hid (show Below w.heap.size w (w.alloc (.cells #[.int .i64 1, .int .i64 1, .int .i64 0, .int .i64 0] 43)) from (Below.refl _ _).alloc (Nat.le_refl _) _)
  have HPLT : Hid (w.heap.size < (w.alloc (.cells #[.int .i64 1, .int .i64 1, .int .i64 0, .int .i64 0] 43)).heap.size) := Lib.hid (by simp)
  go_enter Try.func10, Try.ntmps10
  go_upto_region 2 with fail
  generalize hw1 : (w.alloc (.cells #[.int .i64 1, .int .i64 1, .int .i64 0, .int .i64 0] 43)) = w1 at *
  obtain ⟨p1, hp1⟩ : ∃ p, w.heap.size = p := ⟨_, rfl⟩
  have HPB : Hid (w.heap.size = p1) := Lib.hid hp1
  rw [hp1] at HR HL1 HPLT ⊢
  clear hw1 hp1
  go_wp2_with fail
  refine (put_any (some ⟨p1, 0, none⟩) 1 1 [kTg] w1 HR.out rfl).mono ?_
  rw [k_put]
  rintro e w2 ⟨v2, rfl, o2⟩
  simp only at o2
  obtain ⟨m, hm⟩ : ∃ m, (putC [kTg]).length = m := ⟨_, rfl⟩
  obtain ⟨a2, c2, rfl, r2⟩ := o2.row_n hm
  have hm2 : m ≤ 417 := by rw [← hm]; exact k_len
  have HG := Lib.hid (get_any a2 m c2 (putC [kTg]) w2 r2 hm (by omega))
  have HB12 := Lib.hid o2.below
  clear o2 r2 hm
  go_wp2_with fail
  refine HG.out.mono ?_
  unfold CGot
  rw [k_get]
  rintro e w3 ⟨v3, rfl, o3⟩
  simp only at o3
  obtain ⟨a3, cx, rfl, r3⟩ := o3.row_n (n := 1) rfl
  obtain ⟨bx, ox, rfl, _, _, _, _⟩ := r3.at (i := 0) rfl
  have HX : Hid (∀ W, Below w3.heap.size w3 W → W.cell? ⟨bx, ox, none⟩ = some (.int .i64 1) ∧ W.cell? ⟨bx, ox + 1, none⟩ = some (.int .i64 1) ∧ W.cell? ⟨bx, ox + 2, none⟩ = some (.int .i64 0) ∧ W.cell? ⟨bx, ox + 3, none⟩ = some (.int .i64 0)) := Lib.hid (fun W h => by
    obtain ⟨b, o, e, q⟩ := (r3.later h).at (i := 0) rfl
    cases e
    simpa [kTg] using q)
  have hb13 := HB12.out.trans (o3.below.mono HB12.out.size)
  have HL := Lib.hid (HL1.out.later hb13)
  have HR3 := Lib.hid (HR.out.later hb13)
  have HB3 := Lib.hid (HB.out.trans (hb13.mono HB.out.size))
  have HN1 : Hid (∀ W, Calls Try.prog 18 #[.slice none 0 0, .int .i64 1] W fun e W' => e = .returned (.int .i64 1) ∧ Below W.heap.size W W') := Lib.hid (fun W => by have := next_any none 0 0 [] 1 W (TRow.nil W) rfl; rwa [k_next1] at this)
  have HN2 : Hid (∀ W, Below w3.heap.size w3 W → Calls Try.prog 18 #[.slice (some ⟨p1, 0, none⟩) 1 1, .int .i64 2] W fun e W' => e = .returned (.int .i64 2) ∧ Below W.heap.size W W') := Lib.hid (fun W h => by have := next_any _ 1 1 [kTg] 2 W (HR3.out.later h) rfl; rwa [k_next2] at this)
  have HCM : Hid (∀ W, Below w3.heap.size w3 W → Calls Try.prog 26 #[.slice (some ⟨p1, 0, none⟩) 1 1, .int .i64 3, .slice (some ⟨p1, 0, none⟩) 1 1, .int .i64 5] W fun e W' => e = .returned (.int .i64 (-1)) ∧ Below W.heap.size W W') := Lib.hid (fun W h => by have := compare_any _ _ 1 1 1 1 [kTg] [kTg] 3 5 W (HR3.out.later h) (HR3.out.later h) rfl rfl; rwa [k_cmp] at this)
  have HOF : Hid (∀ W, Below w3.heap.size w3 W → Calls Try.prog 20 #[.slice (some ⟨p1, 0, none⟩) 1 1, .int .i64 1] W fun e W' => e = .returned (.int .i64 1) ∧ Below W.heap.size W W') := Lib.hid (fun W h => by have := of_any _ 1 1 [kTg] 1 W (HR3.out.later h) rfl (fun x hx => by cases hx; exact (HL.out.later h).lt); rwa [k_of] at this)
  clear o3 r3 hb13 HG HL1 HR HPLT
  go_upto_region 4 with fail
  -- REG 4
  refine wp_region_tab (L := [cV (.int .i64 0), cV (.bool true), cV (.bool true), cV (.int .i64 0), cV (.bool true), cV (.bool true), cV (.bool true), cV (.slice (some ⟨bx, ox, none⟩) 1 cx), cV (.int .i64 1), cV (.bool true), cV (.bool true), cV (.bool true), cV (.slice (some ⟨bx, ox, none⟩) 1 cx), cV (.pointer (some ⟨bx, ox, none⟩)), cV (.agg #[.int .i64 1, .int .i64 1, .int .i64 0, .int .i64 0]), cV (.slice (some ⟨p1, 0, none⟩) 1 1), cV (.pointer (some ⟨p1, 0, none⟩)), cV (.agg #[.int .i64 1, .int .i64 1, .int .i64 0, .int .i64 0]), cV (.bool true), cV (.bool true), cV (.bool true), cV (.int .i64 1), cV (.bool true), cV (.bool true), cV (.bool true), cV (.slice (some ⟨p1, 0, none⟩) 1 1), cV (.int .i64 2), cV (.bool true), cV (.bool true), cV (.bool true), cV (.slice (some ⟨p1, 0, none⟩) 1 1), cV (.slice (some ⟨p1, 0, none⟩) 1 1), cV (.int .i64 (-1)), cV (.bool true), cV (.bool true), cV (.bool true), cV (.slice (some ⟨p1, 0, none⟩) 1 1), cV (.int .i64 1), cV (.bool true), cV (.bool true), cV (.bool true)]) [[(3, none)], [(18, some 0)], [(19, some 1)], [(5, none), (20, some 2)], [(21, some 3), (20, some 2)], [(20, some 2), (22, some 4)], [(23, some 5)], [(4, none), (24, some 6)], [(25, some 7), (24, some 6)], [(26, some 8), (24, some 6)], [(24, some 6), (27, some 9)], [(28, some 10)], [(4, none), (29, some 11)], [(30, some 12), (29, some 11)], [(31, some 13), (29, some 11)], [(1, none), (29, some 11)], [(33, some 15), (29, some 11)], [(34, some 16), (29, some 11)], [(32, some 14), (35, some 17), (29, some 11)], [(29, some 11), (36, some 18)], [(37, some 19)], [(38, some 20)], [(39, some 21), (38, some 20)], [(38, some 20), (40, some 22)], [(41, some 23)], [(1, none), (42, some 24)], [(43, some 25), (42, some 24)], [(44, some 26), (42, some 24)], [(42, some 24), (45, some 27)], [(46, some 28)], [(1, none), (47, some 29)], [(1, none), (47, some 29)], [(48, some 30), (49, some 31), (47, some 29)], [(50, some 32), (47, some 29)], [(47, some 29), (51, some 33)], [(52, some 34)], [(1, none), (53, some 35)], [(54, some 36), (53, some 35)], [(55, some 37), (53, some 35)], [(53, some 35), (56, some 38)], [(57, some 39)]] 41 58 (by kernel_rfl) rfl rfl (by kernel_rfl) (by kernel_rfl) ?_ ?_
  · show ∀ i, i < 41 → _
    iterate 41 (refine fls ?_ ?_)
    · exact fl0
    · intro a w1 hR hsz hs      -- 0: slot 18
      obtain ⟨h0, _⟩ := hs
      have h0 : a.tmps.getD 3 undef = .int .i64 0 := h0
      refine op_run rfl rfl (v := .int .i64 0) (w' := w1) ?_ rfl (Below.refl _ _)
      simp [execOp, Act.eval, h0, go_sem]
    · intro a w1 hR hsz hs      -- 1: slot 19
      obtain ⟨h0, _⟩ := hs
      have h0 : a.tmps.getD 18 undef = .int .i64 0 := h0
      refine op_run rfl rfl (v := .bool true) (w' := w1) ?_ rfl (Below.refl _ _)
      simp [execOp, Act.eval, h0, go_sem]
    · intro a w1 hR hsz hs      -- 2: slot 20
      obtain ⟨h0, _⟩ := hs
      have h0 : a.tmps.getD 19 undef = .bool true := h0
      refine op_run rfl rfl (v := .bool true) (w' := w1) ?_ rfl (Below.refl _ _)
      simp [execOp, Act.eval, h0, go_sem]
    · intro a w1 hR hsz hs      -- 3: slot 21
      obtain ⟨h0, h1, _⟩ := hs
      have h0 : a.tmps.getD 5 undef = .int .i64 0 := h0
      have h1 : a.tmps.getD 20 undef = .bool true := h1
      refine opg_run rfl rfl rfl (by rw [hsz]; decide) h1 (v := .int .i64 0) (w' := w1) ?_ rfl (Below.refl _ _)
      simp [execOp, Act.eval, h0, go_sem]
    · intro a w1 hR hsz hs      -- 4: slot 22
      obtain ⟨h0, h1, _⟩ := hs
      have h0 : a.tmps.getD 21 undef = .int .i64 0 := h0
      have h1 : a.tmps.getD 20 undef = .bool true := h1
      refine opg_run rfl rfl rfl (by rw [hsz]; decide) h1 (v := .bool true) (w' := w1) ?_ rfl (Below.refl _ _)
      simp [execOp, Act.eval, h0, go_sem]
    · intro a w1 hR hsz hs      -- 5: slot 23
      obtain ⟨h0, h1, _⟩ := hs
      have h0 : a.tmps.getD 20 undef = .bool true := h0
      have h1 : a.tmps.getD 22 undef = .bool true := h1
      refine op_run rfl rfl (v := .bool true) (w' := w1) ?_ rfl (Below.refl _ _)
      simp [execOp, Act.eval, h0, h1, go_sem]
    · intro a w1 hR hsz hs      -- 6: slot 24
      obtain ⟨h0, _⟩ := hs
      have h0 : a.tmps.getD 23 undef = .bool true := h0
      refine op_run rfl rfl (v := .bool true) (w' := w1) ?_ rfl (Below.refl _ _)
      simp [execOp, Act.eval, h0, go_sem]
    · intro a w1 hR hsz hs      -- 7: slot 25
      obtain ⟨h0, h1, _⟩ := hs
      have h0 : a.tmps.getD 4 undef = .slice (some ⟨bx, ox, none⟩) 1 cx := h0
      have h1 : a.tmps.getD 24 undef = .bool true := h1
      refine opg_run rfl rfl rfl (by rw [hsz]; decide) h1 (v := .slice (some ⟨bx, ox, none⟩) 1 cx) (w' := w1) ?_ rfl (Below.refl _ _)
      simp [execOp, Act.eval, h0, go_sem]
    · intro a w1 hR hsz hs      -- 8: slot 26
      obtain ⟨h0, h1, _⟩ := hs
      have h0 : a.tmps.getD 25 undef = .slice (some ⟨bx, ox, none⟩) 1 cx := h0
      have h1 : a.tmps.getD 24 undef = .bool true := h1
      refine opg_run rfl rfl rfl (by rw [hsz]; decide) h1 (v := .int .i64 1) (w' := w1) ?_ rfl (Below.refl _ _)
      simp [execOp, Act.eval, h0, go_sem]
    · intro a w1 hR hsz hs      -- 9: slot 27
      obtain ⟨h0, h1, _⟩ := hs
      have h0 : a.tmps.getD 26 undef = .int .i64 1 := h0
      have h1 : a.tmps.getD 24 undef = .bool true := h1
      refine opg_run rfl rfl rfl (by rw [hsz]; decide) h1 (v := .bool true) (w' := w1) ?_ rfl (Below.refl _ _)
      simp [execOp, Act.eval, h0, go_sem]
    · intro a w1 hR hsz hs      -- 10: slot 28
      obtain ⟨h0, h1, _⟩ := hs
      have h0 : a.tmps.getD 24 undef = .bool true := h0
      have h1 : a.tmps.getD 27 undef = .bool true := h1
      refine op_run rfl rfl (v := .bool true) (w' := w1) ?_ rfl (Below.refl _ _)
      simp [execOp, Act.eval, h0, h1, go_sem]
    · intro a w1 hR hsz hs      -- 11: slot 29
      obtain ⟨h0, _⟩ := hs
      have h0 : a.tmps.getD 28 undef = .bool true := h0
      refine op_run rfl rfl (v := .bool true) (w' := w1) ?_ rfl (Below.refl _ _)
      simp [execOp, Act.eval, h0, go_sem]
    · intro a w1 hR hsz hs      -- 12: slot 30
      obtain ⟨h0, h1, _⟩ := hs
      have h0 : a.tmps.getD 4 undef = .slice (some ⟨bx, ox, none⟩) 1 cx := h0
      have h1 : a.tmps.getD 29 undef = .bool true := h1
      refine opg_run rfl rfl rfl (by rw [hsz]; decide) h1 (v := .slice (some ⟨bx, ox, none⟩) 1 cx) (w' := w1) ?_ rfl (Below.refl _ _)
      simp [execOp, Act.eval, h0, go_sem]
    · intro a w1 hR hsz hs      -- 13: slot 31
      obtain ⟨h0, h1, _⟩ := hs
      have h0 : a.tmps.getD 30 undef = .slice (some ⟨bx, ox, none⟩) 1 cx := h0
      have h1 : a.tmps.getD 29 undef = .bool true := h1
      refine opg_run rfl rfl rfl (by rw [hsz]; decide) h1 (v := .pointer (some ⟨bx, ox, none⟩)) (w' := w1) ?_ rfl (Below.refl _ _)
      simp [execOp, Act.eval, h0, go_sem]
    · intro a w1 hR hsz hs      -- 14: slot 32
      obtain ⟨h0, h1, _⟩ := hs
      have h0 : a.tmps.getD 31 undef = .pointer (some ⟨bx, ox, none⟩) := h0
      have h1 : a.tmps.getD 29 undef = .bool true := h1
      obtain ⟨k0, k1, k2, k3⟩ := HX.out w1 hR
      refine opg_run rfl rfl rfl (by rw [hsz]; decide) h1 (v := .agg #[.int .i64 1, .int .i64 1, .int .i64 0, .int .i64 0]) (w' := w1) ?_ rfl (Below.refl _ _)
      simp [execOp, Act.eval, h0, k0, k1, k2, k3, go_sem]
    · intro a w1 hR hsz hs      -- 15: slot 33
      obtain ⟨h0, h1, _⟩ := hs
      have h0 : a.tmps.getD 1 undef = .slice (some ⟨p1, 0, none⟩) 1 1 := h0
      have h1 : a.tmps.getD 29 undef = .bool true := h1
      refine opg_run rfl rfl rfl (by rw [hsz]; decide) h1 (v := .slice (some ⟨p1, 0, none⟩) 1 1) (w' := w1) ?_ rfl (Below.refl _ _)
      simp [execOp, Act.eval, h0, go_sem]
    · intro a w1 hR hsz hs      -- 16: slot 34
      obtain ⟨h0, h1, _⟩ := hs
      have h0 : a.tmps.getD 33 undef = .slice (some ⟨p1, 0, none⟩) 1 1 := h0
      have h1 : a.tmps.getD 29 undef = .bool true := h1
      refine opg_run rfl rfl rfl (by rw [hsz]; decide) h1 (v := .pointer (some ⟨p1, 0, none⟩)) (w' := w1) ?_ rfl (Below.refl _ _)
      simp [execOp, Act.eval, h0, go_sem]
    · intro a w1 hR hsz hs      -- 17: slot 35
      obtain ⟨h0, h1, _⟩ := hs
      have h0 : a.tmps.getD 34 undef = .pointer (some ⟨p1, 0, none⟩) := h0
      have h1 : a.tmps.getD 29 undef = .bool true := h1
      obtain ⟨k0, k1, k2, k3⟩ := (HL.out.later hR).c4
      refine opg_run rfl rfl rfl (by rw [hsz]; decide) h1 (v := .agg #[.int .i64 1, .int .i64 1, .int .i64 0, .int .i64 0]) (w' := w1) ?_ rfl (Below.refl _ _)
      simp [execOp, Act.eval, h0, k0, k1, k2, k3, go_sem]
    · intro a w1 hR hsz hs      -- 18: slot 36
      obtain ⟨h0, h1, h2, _⟩ := hs
      have h0 : a.tmps.getD 32 undef = .agg #[.int .i64 1, .int .i64 1, .int .i64 0, .int .i64 0] := h0
      have h1 : a.tmps.getD 35 undef = .agg #[.int .i64 1, .int .i64 1, .int .i64 0, .int .i64 0] := h1
      have h2 : a.tmps.getD 29 undef = .bool true := h2
      have k0 := kt_eql w1
      refine opg_run rfl rfl rfl (by rw [hsz]; decide) h2 (v := .bool true) (w' := w1) ?_ rfl (Below.refl _ _)
      simp [execOp, Act.eval, h0, h1, tag_guard, k0, go_sem]
    · intro a w1 hR hsz hs      -- 19: slot 37
      obtain ⟨h0, h1, _⟩ := hs
      have h0 : a.tmps.getD 29 undef = .bool true := h0
      have h1 : a.tmps.getD 36 undef = .bool true := h1
      refine op_run rfl rfl (v := .bool true) (w' := w1) ?_ rfl (Below.refl _ _)
      simp [execOp, Act.eval, h0, h1, go_sem]
    · intro a w1 hR hsz hs      -- 20: slot 38
      obtain ⟨h0, _⟩ := hs
      have h0 : a.tmps.getD 37 undef = .bool true := h0
      refine op_run rfl rfl (v := .bool true) (w' := w1) ?_ rfl (Below.refl _ _)
      simp [execOp, Act.eval, h0, go_sem]
    · intro a w1 hR hsz hs      -- 21: slot 39
      obtain ⟨h0, _⟩ := hs
      have h0 : a.tmps.getD 38 undef = .bool true := h0
      refine opg_call rfl rfl rfl (by rw [hsz]; decide) h0 (f := 18) (args := #[Value.slice none 0 0, .int .i64 1]) (by simp [execOp, Act.eval, resolve, go_sem]) ?_
      exact calls_c (HN1.out w1)
    · intro a w1 hR hsz hs      -- 22: slot 40
      obtain ⟨h0, h1, _⟩ := hs
      have h0 : a.tmps.getD 39 undef = .int .i64 1 := h0
      have h1 : a.tmps.getD 38 undef = .bool true := h1
      refine opg_run rfl rfl rfl (by rw [hsz]; decide) h1 (v := .bool true) (w' := w1) ?_ rfl (Below.refl _ _)
      simp [execOp, Act.eval, h0, go_sem]
    · intro a w1 hR hsz hs      -- 23: slot 41
      obtain ⟨h0, h1, _⟩ := hs
      have h0 : a.tmps.getD 38 undef = .bool true := h0
      have h1 : a.tmps.getD 40 undef = .bool true := h1
      refine op_run rfl rfl (v := .bool true) (w' := w1) ?_ rfl (Below.refl _ _)
      simp [execOp, Act.eval, h0, h1, go_sem]
    · intro a w1 hR hsz hs      -- 24: slot 42
      obtain ⟨h0, _⟩ := hs
      have h0 : a.tmps.getD 41 undef = .bool true := h0
      refine op_run rfl rfl (v := .bool true) (w' := w1) ?_ rfl (Below.refl _ _)
      simp [execOp, Act.eval, h0, go_sem]
    · intro a w1 hR hsz hs      -- 25: slot 43
      obtain ⟨h0, h1, _⟩ := hs
      have h0 : a.tmps.getD 1 undef = .slice (some ⟨p1, 0, none⟩) 1 1 := h0
      have h1 : a.tmps.getD 42 undef = .bool true := h1
      refine opg_run rfl rfl rfl (by rw [hsz]; decide) h1 (v := .slice (some ⟨p1, 0, none⟩) 1 1) (w' := w1) ?_ rfl (Below.refl _ _)
      simp [execOp, Act.eval, h0, go_sem]
    · intro a w1 hR hsz hs      -- 26: slot 44
      obtain ⟨h0, h1, _⟩ := hs
      have h0 : a.tmps.getD 43 undef = .slice (some ⟨p1, 0, none⟩) 1 1 := h0
      have h1 : a.tmps.getD 42 undef = .bool true := h1
      refine opg_call rfl rfl rfl (by rw [hsz]; decide) h1 (f := 18) (args := #[.slice (some ⟨p1, 0, none⟩) 1 1, .int .i64 2]) (by simp [execOp, Act.eval, resolve, h0, go_sem]) ?_
      exact calls_c (HN2.out w1 hR)
    · intro a w1 hR hsz hs      -- 27: slot 45
      obtain ⟨h0, h1, _⟩ := hs
      have h0 : a.tmps.getD 44 undef = .int .i64 2 := h0
      have h1 : a.tmps.getD 42 undef = .bool true := h1
      refine opg_run rfl rfl rfl (by rw [hsz]; decide) h1 (v := .bool true) (w' := w1) ?_ rfl (Below.refl _ _)
      simp [execOp, Act.eval, h0, go_sem]
    · intro a w1 hR hsz hs      -- 28: slot 46
      obtain ⟨h0, h1, _⟩ := hs
      have h0 : a.tmps.getD 42 undef = .bool true := h0
      have h1 : a.tmps.getD 45 undef = .bool true := h1
      refine op_run rfl rfl (v := .bool true) (w' := w1) ?_ rfl (Below.refl _ _)
      simp [execOp, Act.eval, h0, h1, go_sem]
    · intro a w1 hR hsz hs      -- 29: slot 47
      obtain ⟨h0, _⟩ := hs
      have h0 : a.tmps.getD 46 undef = .bool true := h0
      refine op_run rfl rfl (v := .bool true) (w' := w1) ?_ rfl (Below.refl _ _)
      simp [execOp, Act.eval, h0, go_sem]
    · intro a w1 hR hsz hs      -- 30: slot 48
      obtain ⟨h0, h1, _⟩ := hs
      have h0 : a.tmps.getD 1 undef = .slice (some ⟨p1, 0, none⟩) 1 1 := h0
      have h1 : a.tmps.getD 47 undef = .bool true := h1
      refine opg_run rfl rfl rfl (by rw [hsz]; decide) h1 (v := .slice (some ⟨p1, 0, none⟩) 1 1) (w' := w1) ?_ rfl (Below.refl _ _)
      simp [execOp, Act.eval, h0, go_sem]
    · intro a w1 hR hsz hs      -- 31: slot 49
      obtain ⟨h0, h1, _⟩ := hs
      have h0 : a.tmps.getD 1 undef = .slice (some ⟨p1, 0, none⟩) 1 1 := h0
      have h1 : a.tmps.getD 47 undef = .bool true := h1
      refine opg_run rfl rfl rfl (by rw [hsz]; decide) h1 (v := .slice (some ⟨p1, 0, none⟩) 1 1) (w' := w1) ?_ rfl (Below.refl _ _)
      simp [execOp, Act.eval, h0, go_sem]
    · intro a w1 hR hsz hs      -- 32: slot 50
      obtain ⟨h0, h1, h2, _⟩ := hs
      have h0 : a.tmps.getD 48 undef = .slice (some ⟨p1, 0, none⟩) 1 1 := h0
      have h1 : a.tmps.getD 49 undef = .slice (some ⟨p1, 0, none⟩) 1 1 := h1
      have h2 : a.tmps.getD 47 undef = .bool true := h2
      refine opg_call rfl rfl rfl (by rw [hsz]; decide) h2 (f := 26) (args := #[.slice (some ⟨p1, 0, none⟩) 1 1, .int .i64 3, .slice (some ⟨p1, 0, none⟩) 1 1, .int .i64 5]) (by simp [execOp, Act.eval, resolve, h0, h1, go_sem]) ?_
      exact calls_c (HCM.out w1 hR)
    · intro a w1 hR hsz hs      -- 33: slot 51
      obtain ⟨h0, h1, _⟩ := hs
      have h0 : a.tmps.getD 50 undef = .int .i64 (-1) := h0
      have h1 : a.tmps.getD 47 undef = .bool true := h1
      refine opg_run rfl rfl rfl (by rw [hsz]; decide) h1 (v := .bool true) (w' := w1) ?_ rfl (Below.refl _ _)
      simp [execOp, Act.eval, h0, go_sem]
    · intro a w1 hR hsz hs      -- 34: slot 52
      obtain ⟨h0, h1, _⟩ := hs
      have h0 : a.tmps.getD 47 undef = .bool true := h0
      have h1 : a.tmps.getD 51 undef = .bool true := h1
      refine op_run rfl rfl (v := .bool true) (w' := w1) ?_ rfl (Below.refl _ _)
      simp [execOp, Act.eval, h0, h1, go_sem]
    · intro a w1 hR hsz hs      -- 35: slot 53
      obtain ⟨h0, _⟩ := hs
      have h0 : a.tmps.getD 52 undef = .bool true := h0
      refine op_run rfl rfl (v := .bool true) (w' := w1) ?_ rfl (Below.refl _ _)
      simp [execOp, Act.eval, h0, go_sem]
    · intro a w1 hR hsz hs      -- 36: slot 54
      obtain ⟨h0, h1, _⟩ := hs
      have h0 : a.tmps.getD 1 undef = .slice (some ⟨p1, 0, none⟩) 1 1 := h0
      have h1 : a.tmps.getD 53 undef = .bool true := h1
      refine opg_run rfl rfl rfl (by rw [hsz]; decide) h1 (v := .slice (some ⟨p1, 0, none⟩) 1 1) (w' := w1) ?_ rfl (Below.refl _ _)
      simp [execOp, Act.eval, h0, go_sem]
    · intro a w1 hR hsz hs      -- 37: slot 55
      obtain ⟨h0, h1, _⟩ := hs
      have h0 : a.tmps.getD 54 undef = .slice (some ⟨p1, 0, none⟩) 1 1 := h0
      have h1 : a.tmps.getD 53 undef = .bool true := h1
      refine opg_call rfl rfl rfl (by rw [hsz]; decide) h1 (f := 20) (args := #[.slice (some ⟨p1, 0, none⟩) 1 1, .int .i64 1]) (by simp [execOp, Act.eval, resolve, h0, go_sem]) ?_
      exact calls_c (HOF.out w1 hR)
    · intro a w1 hR hsz hs      -- 38: slot 56
      obtain ⟨h0, h1, _⟩ := hs
      have h0 : a.tmps.getD 55 undef = .int .i64 1 := h0
      have h1 : a.tmps.getD 53 undef = .bool true := h1
      refine opg_run rfl rfl rfl (by rw [hsz]; decide) h1 (v := .bool true) (w' := w1) ?_ rfl (Below.refl _ _)
      simp [execOp, Act.eval, h0, go_sem]
    · intro a w1 hR hsz hs      -- 39: slot 57
      obtain ⟨h0, h1, _⟩ := hs
      have h0 : a.tmps.getD 53 undef = .bool true := h0
      have h1 : a.tmps.getD 56 undef = .bool true := h1
      refine op_run rfl rfl (v := .bool true) (w' := w1) ?_ rfl (Below.refl _ _)
      simp [execOp, Act.eval, h0, h1, go_sem]
    · intro a w1 hR hsz hs      -- 40: slot 0
      obtain ⟨h0, _⟩ := hs
      have h0 : a.tmps.getD 57 undef = .bool true := h0
      refine op_run rfl rfl (v := .bool true) (w' := w1) ?_ rfl (Below.refl _ _)
      simp [execOp, Act.eval, h0, go_sem]
  intro f w1 hR hv
  have e0 : f 0 = .bool true := hv 40 _ 0 rfl rfl
  clear hv
  try simp only [Exit.then]
  simp only [putAll, List.foldl_cons, List.foldl_nil, Option.getD_some, Act.put, List.setIfInBounds_toArray, List.set_cons_succ, List.set_cons_zero]
  rw [e0]
  have HRR := Lib.hid hR
  clear hR e0
  -- END 4
  go_wp2_with fail
  go_ret
  exact ⟨rfl, HB3.out.trans (HRR.out.mono HB3.out.size)⟩
end Go.Proofs.Ytpeamfndanbhiaa
