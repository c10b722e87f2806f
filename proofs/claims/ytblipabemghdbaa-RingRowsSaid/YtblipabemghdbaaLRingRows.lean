/- The law 'RingRows', walked. -/
import Derived.Test.YtblipabemghdbaaRgK
import Derived.Test.YtblipabemghdbaaGz
import Derived.Test.YtblipabemghdbaaFree
namespace Go.Proofs.Ytblipabemghdbaa
open Go.RowKit Go.Proofs
set_option linter.unusedVariables false
set_option linter.unusedSimpArgs false
set_option linter.unnecessarySimpa false

def gP (W0 : World) (ts : List Pc) : SV := ⟨fun w v => GOwn pcT W0 w v ts, fun w w' v h hb => h.later hb⟩
theorem gp_of {W0 w : World} {ts : List Pc} {f : FuncId} {args : Array Value} (h : Calls Try.prog f args w fun e w' => ∃ v, e = .returned v ∧ GOwn pcT w w' v ts) (hb : Below W0.heap.size W0 w) :
    Calls Try.prog f args w fun e w' => ∃ v, e = .returned v ∧ (gP W0 ts).p w' v ∧ Below w.heap.size w w' :=
  h.mono fun e w' ⟨v, h, o⟩ => ⟨_, h, o.back hb, o.below⟩
theorem samepc_refl (a1 a2 : Option Addr) (n c1 c2 : Nat) (ts : List Pc) (w : World) (h1 : GRow pcT w a1 c1 ts) (h2 : GRow pcT w a2 c2 ts) (hn : ts.length = n) :
    Calls Try.prog 16 #[.slice a1 n c1, .slice a2 n c2] w fun e w' => e = .returned (.bool true) ∧ Below w.heap.size w w' := by
  have := samepc_any a1 a2 n n c1 c2 ts ts w h1 h2 hn hn
  simpa using this
set_option maxRecDepth 100000 in
set_option maxHeartbeats 12800000 in
theorem ringRows_walk (a b c at' : Int) (ad : Option Addr) (n cap : Nat) (l : List Int) (g0 : Fl) (raw : Bool) (w : World) (hr : ZRow w ad cap l) (hn : l.length = n) (hat : inI at') (hgi : g0.InI) :
    Calls Try.prog 4 #[.int .i64 a, .int .i64 b, .int .i64 c, .int .i64 at', .slice ad n cap, flV g0, .bool raw] w fun x w' => x = .returned (.bool true) ∧ Below w.heap.size w w' := by
  have HR := Lib.hid hr
  have HN := Lib.hid hn
  have HB1 := Lib.hid ((Below.refl w.heap.size w).alloc (Nat.le_refl _) (.cells (flC g0) 26))
  have HX1 := Lib.hid (RecAt.new w (flC g0) 26)
  have HAT := Lib.hid hat
  have HGI := Lib.hid hgi
  clear hr hn hat hgi
  go_enter Try.func4, Try.ntmps4
  go_upto_region 1 with fail
  generalize (w.alloc (.cells (flC g0) 26)) = w1 at *
  obtain ⟨P12, hP12⟩ : ∃ P, w.heap.size = P := ⟨_, rfl⟩
  rw [hP12] at HX1
  rw [hP12]
  clear hP12
  cases d1 : decide (120 < (n : Int)) with
  | true =>
    go_wp2_with fail
    refine (knownRg_any _).mono ?_
    rintro e w9 ⟨rfl, b9⟩
    go_wp2_with fail
    go_ret
    exact ⟨rfl, HB1.out.trans (b9.mono HB1.out.size)⟩
  | false =>
  have hn120 : n ≤ 120 := by simp at d1; omega
  go_wp2_with fail
  refine (shape10_any a b c w1).mono ?_
  rintro e w2 ⟨s, rfl, hok, b2⟩
  have hba : Below w2.heap.size w2 (w2.alloc (.cells (rgC s) 23)) := (Below.refl _ _).alloc (Nat.le_refl _) _
  have HX15 := Lib.hid (RecAt.new w2 (rgC s) 23)
  have hb3 := b2.trans (hba.mono b2.size)
  have HX12 := Lib.hid (HX1.out.later hb3)
  have HB3 := Lib.hid (HB1.out.trans (hb3.mono HB1.out.size))
  clear b2 hba hb3 HX1 HB1 d1
  go_upto_region 4 with fail
  generalize (w2.alloc (.cells (rgC s) 23)) = w3 at *
  obtain ⟨P15, hP15⟩ : ∃ P, w2.heap.size = P := ⟨_, rfl⟩
  rw [hP15] at HX15
  rw [hP15]
  clear hP15
  have HE0 : Hid (GOwn inT w (w3.alloc (.cells #[] 3)) (.slice (some ⟨w3.heap.size, 0, none⟩) 0 0) []) := Lib.hid (GOwn.empty HB3.out rfl)
  have hba : Below w3.heap.size w3 (w3.alloc (.cells #[] 3)) := (Below.refl _ _).alloc (Nat.le_refl _) _
  have HR4 := Lib.hid (((HR.out.later HB3.out).later hba).grow)
  have HX154 := Lib.hid (HX15.out.later hba)
  have HX124 := Lib.hid (HX12.out.later hba)
  have HLM : Hid (([] ++ l).length = n) := Lib.hid (by rw [List.nil_append]; exact HN.out)
  clear hba
  go_upto_region 5 with (at_builtin; refine wp_gapp inOk rfl _ _ rfl rfl _ _ rfl w HE0.out _ _ _ l HR4.out HN.out rfl (by have := HN.out; simp; omega) ?_; intro v9 w9 o9 g9 h9; obtain ⟨a16, c16, rfl, _⟩ := o9.row_n inOk HLM.out; have HX155 := Lib.hid (HX154.out.grown g9 (fun e => (HE0.out.ne HX154.out (by decide)) e.symm)); have HX125 := Lib.hid (HX124.out.grown g9 (fun e => (HE0.out.ne HX124.out (by decide)) e.symm)); have HO9 := Lib.hid o9; clear o9 g9 h9)
  rw [List.nil_append] at HO9
  clear HE0 HR4 HX154 HX124 HX15 HX12 HB3
  go_wp2_with fail
  go_loopw [17] (fun iv wr => ∃ (j : Nat) (l' : List Int), iv = .int .i64 (j : Nat) ∧ j ≤ n ∧ Hid (l'.length = n) ∧ Hid (RecAt wr P15 (rgC s) 23) ∧ Hid (RecAt wr P12 (flC g0) 26) ∧ Hid (GOwn inT w wr (.slice a16 n c16) l')) (fun iv _ => n - (intOf iv).toNat)
  case atStart => exact ⟨0, l, rfl, by omega, HN, HX155, HX125, HO9⟩
  case round =>
    clear HX155 HX125 HO9
    obtain ⟨j, l', rfl, hj, HL, HX15, HX12, HO⟩ := hrel
    by_cases hgo : (j : Int) < n ∧ raw = false
    · obtain ⟨hjn, hraw⟩ := hgo
      subst hraw
      obtain ⟨g, cg, e16, _, _, _, _⟩ := HO.out.at HL.out (by omega)
      simp only [Value.slice.injEq, true_and] at e16
      obtain ⟨rfl, rfl⟩ := e16
      obtain ⟨x, hx⟩ : ∃ x, l'[j]? = some x := ⟨l'[j]'(by have := HL.out; omega), List.getElem?_eq_getElem _⟩
      have c0 := HO.out.cell1 inOk rfl HL.out hx rfl
      have f0 := HO.out.frozenAt HL.out j
      obtain ⟨y, hy⟩ : ∃ z, bits .and .i64 x 255 = z := ⟨_, rfl⟩
      have hyr : 0 ≤ y ∧ y ≤ 255 := by rw [← hy]; exact and_range x 255 (by decide)
      obtain ⟨Y, hY⟩ : ∃ Y, 1 + y % 90 = Y := ⟨_, rfl⟩
      have hYr : 1 ≤ Y ∧ Y ≤ 90 := by omega
      have HO2 := Lib.hid (HO.out.stored1 inOk rfl HL.out hx rfl (t' := Y) (v' := .int .i64 Y) rfl (show inB Y by unfold inB; omega))
      have hn15 : P15 ≠ g := fun e => HO.out.ne HX15.out (by decide) (by rw [e]; rfl)
      have hn12 : P12 ≠ g := fun e => HO.out.ne HX12.out (by decide) (by rw [e]; rfl)
      have HX152 := Lib.hid (HX15.out.other hn15 j (.int .i64 Y))
      have HX122 := Lib.hid (HX12.out.other hn12 j (.int .i64 Y))
      have HL2 : Hid ((l'.set j Y).length = n) := Lib.hid (by rw [List.length_set]; exact HL.out)
      clear HO HX15 HX12 HL hx hn15 hn12
      go_wp2_with fail
      go_roundw
      case rel => exact ⟨j + 1, _, by go_num, by omega, HL2, HX152, HX122, HO2⟩
      case measure => simp [intOf]; omega
    · have hcase : ∃ A : Int, (raw = true ∧ A = at' ∧ decide ((j : Int) < n) = true ∧ j < n) ∨ (raw = true ∧ A = at' ∧ decide ((j : Int) < n) = false ∧ ¬ j < n) ∨ (raw = false ∧ bits .and .i64 at' 1048575 = A ∧ decide ((j : Int) < n) = false ∧ ¬ j < n) := by
        cases raw
        · exact ⟨_, .inr (.inr ⟨rfl, rfl, by simp at hgo ⊢; omega, by simp at hgo; omega⟩)⟩
        · by_cases h : j < n
          · exact ⟨_, .inl ⟨rfl, rfl, by simp; omega, h⟩⟩
          · exact ⟨_, .inr (.inl ⟨rfl, rfl, by simp; omega, h⟩)⟩
      obtain ⟨A, hcase⟩ := hcase
      have hAI : inI A := by
        rcases hcase with ⟨_, h, _⟩ | ⟨_, h, _⟩ | ⟨_, h, _⟩
        · rw [h]; exact HAT.out
        · rw [h]; exact HAT.out
        · have h5 : 0 ≤ A ∧ A ≤ 1048575 := by rw [← h]; exact and_range at' 1048575 (by decide)
          unfold inI; omega
      obtain ⟨PL, hPL⟩ : ∃ PL, setsR s A l' = PL := ⟨_, rfl⟩
      obtain ⟨PN, hPN⟩ : ∃ k, PL.length = k := ⟨_, rfl⟩
      have HPN := Lib.hid hPN
      obtain ⟨NA, hNA⟩ : ∃ z, needR s noFl A l' = z := ⟨_, rfl⟩
      obtain ⟨NB, hNB⟩ : ∃ z, needR s g0 A l' = z := ⟨_, rfl⟩
      have HZ := Lib.hid (fun W (h : Below wr.heap.size wr W) => (HO.out.later h))
      have hzr := fun W (h : Below wr.heap.size wr W) => show ZRow W a16 c16 l' from by
        obtain ⟨_, _, e, r⟩ := (HO.out.later h).row_n inOk HL.out
        cases e
        exact r.zrow
      have HS1 := Lib.hid (fun W (h : Below wr.heap.size wr W) => ringsets_any s A a16 n c16 l' hok.in hAI W (hzr W h) HL.out (by omega))
      have HS2 := Lib.hid (fun W (h : Below wr.heap.size wr W) => rsets10_any s A a16 n c16 l' W (hzr W h) HL.out (by omega))
      rw [hPL] at HS1 HS2
      have HN1 := Lib.hid (fun W (h : Below wr.heap.size wr W) => ringneed_any s noFl A a16 n c16 l' hok.in noFl_in hAI W (hzr W h) HL.out)
      have HN2 := Lib.hid (fun W (h : Below wr.heap.size wr W) => rneed10_any s noFl A a16 n c16 l' W (hzr W h) HL.out)
      have HN3 := Lib.hid (fun W (h : Below wr.heap.size wr W) => ringneed_any s g0 A a16 n c16 l' hok.in HGI.out hAI W (hzr W h) HL.out)
      have HN4 := Lib.hid (fun W (h : Below wr.heap.size wr W) => rneed10_any s g0 A a16 n c16 l' W (hzr W h) HL.out)
      rw [hNA] at HN1 HN2
      rw [hNB] at HN3 HN4
      have HBZ := Lib.hid HO.out.below
      have HZF : Hid (∀ W : World, True) := Lib.hid (fun _ => trivial)
      clear hPL hPN hNA hNB hzr hgo HZ
      rcases hcase with ⟨rfl, rfl, hd, hd2⟩ | ⟨rfl, rfl, hd, hd2⟩ | ⟨rfl, hA, hd, hd2⟩
      all_goals
        go_upto_region 11 with fail
        -- REG 11
        refine wp_region_tab (L := [cV (.agg #[.int .i64 s.sp, .int .i64 s.st, .int .i64 s.sz]), cV (.int .i64 A), cV (.slice a16 n c16), gP w PL, cV (.agg #[.int .i64 s.sp, .int .i64 s.st, .int .i64 s.sz]), cV (.int .i64 A), cV (.slice a16 n c16), gP w PL, cV (.bool true), cV (.bool true), cV (.agg #[.int .i64 s.sp, .int .i64 s.st, .int .i64 s.sz]), cV (.agg #[.int .i64 0, .int .i64 0, .int .i64 0, .int .i64 0, .int .i64 0]), cV (.int .i64 A), cV (.slice a16 n c16), cV (.int .i64 NA), cV (.agg #[.int .i64 s.sp, .int .i64 s.st, .int .i64 s.sz]), cV (.agg #[.int .i64 0, .int .i64 0, .int .i64 0, .int .i64 0, .int .i64 0]), cV (.int .i64 A), cV (.slice a16 n c16), cV (.int .i64 NA), cV (.bool true), cV (.bool true), cV (.bool true), cV (.agg #[.int .i64 s.sp, .int .i64 s.st, .int .i64 s.sz]), cV (.agg #[.int .i64 g0.set, .int .i64 g0.u0, .int .i64 g0.u1, .int .i64 g0.u2, .int .i64 g0.u3]), cV (.int .i64 A), cV (.slice a16 n c16), cV (.int .i64 NB), cV (.agg #[.int .i64 s.sp, .int .i64 s.st, .int .i64 s.sz]), cV (.agg #[.int .i64 g0.set, .int .i64 g0.u0, .int .i64 g0.u1, .int .i64 g0.u2, .int .i64 g0.u3]), cV (.int .i64 A), cV (.slice a16 n c16), cV (.int .i64 NB), cV (.bool true), cV (.bool true), cV (.bool true), cV (.bool true), cV (.bool true), cV (.bool true)]) [[(15, none)], [(3, none)], [(16, none)], [(53, some 0), (54, some 1), (55, some 2)], [(15, none)], [(3, none)], [(16, none)], [(57, some 4), (58, some 5), (59, some 6)], [(56, some 3), (60, some 7)], [(61, some 8)], [(15, none), (62, some 9)], [(62, some 9)], [(3, none), (62, some 9)], [(16, none), (62, some 9)], [(63, some 10), (64, some 11), (65, some 12), (66, some 13), (62, some 9)], [(15, none), (62, some 9)], [(62, some 9)], [(3, none), (62, some 9)], [(16, none), (62, some 9)], [(68, some 15), (69, some 16), (70, some 17), (71, some 18), (62, some 9)], [(67, some 14), (72, some 19), (62, some 9)], [(62, some 9), (73, some 20)], [(74, some 21)], [(15, none), (75, some 22)], [(12, none), (75, some 22)], [(3, none), (75, some 22)], [(16, none), (75, some 22)], [(76, some 23), (77, some 24), (78, some 25), (79, some 26), (75, some 22)], [(15, none), (75, some 22)], [(12, none), (75, some 22)], [(3, none), (75, some 22)], [(16, none), (75, some 22)], [(81, some 28), (82, some 29), (83, some 30), (84, some 31), (75, some 22)], [(80, some 27), (85, some 32), (75, some 22)], [(75, some 22), (86, some 33)], [(87, some 34)], [(88, some 35)], [(88, some 35), (89, some 36)], [(90, some 37)]] 39 91 (by kernel_rfl) rfl rfl (by kernel_rfl) (by kernel_rfl) ?_ ?_
        · show ∀ i, i < 39 → _
          iterate 39 (refine fls ?_ ?_)
          · exact fl0
          · intro a w1 hR hsz hs      -- 0: slot 53
            obtain ⟨h0, _⟩ := hs
            have h0 : a.tmps.getD 15 undef = .pointer (some ⟨P15, 0, none⟩) := h0
            obtain ⟨x0, x1, x2⟩ := (HX15.out.later hR).c3
            refine op_run rfl rfl (v := .agg #[.int .i64 s.sp, .int .i64 s.st, .int .i64 s.sz]) (w' := w1) ?_ rfl (Below.refl _ _)
            simp [execOp, Act.eval, h0, x0, x1, x2, go_sem]
          · intro a w1 hR hsz hs      -- 1: slot 54
            obtain ⟨h0, _⟩ := hs
            have h0 : a.tmps.getD 3 undef = .int .i64 A := h0
            refine op_run rfl rfl (v := .int .i64 A) (w' := w1) ?_ rfl (Below.refl _ _)
            simp [execOp, Act.eval, h0, go_sem]
          · intro a w1 hR hsz hs      -- 2: slot 55
            obtain ⟨h0, _⟩ := hs
            have h0 : a.tmps.getD 16 undef = .slice a16 n c16 := h0
            refine op_run rfl rfl (v := .slice a16 n c16) (w' := w1) ?_ rfl (Below.refl _ _)
            simp [execOp, Act.eval, h0, go_sem]
          · intro a w1 hR hsz hs      -- 3: slot 56
            obtain ⟨h0, h1, h2, _⟩ := hs
            have h0 : a.tmps.getD 53 undef = .agg #[.int .i64 s.sp, .int .i64 s.st, .int .i64 s.sz] := h0
            have h1 : a.tmps.getD 54 undef = .int .i64 A := h1
            have h2 : a.tmps.getD 55 undef = .slice a16 n c16 := h2
            refine op_call rfl rfl (f := 17) (args := #[.agg #[.int .i64 s.sp, .int .i64 s.st, .int .i64 s.sz], .int .i64 A, .slice a16 n c16]) (by simp [execOp, Act.eval, resolve, h0, h1, h2, go_sem]) ?_
            exact gp_of (HS1.out w1 hR) (HBZ.out.trans (hR.mono HBZ.out.size))
          · intro a w1 hR hsz hs      -- 4: slot 57
            obtain ⟨h0, _⟩ := hs
            have h0 : a.tmps.getD 15 undef = .pointer (some ⟨P15, 0, none⟩) := h0
            obtain ⟨x0, x1, x2⟩ := (HX15.out.later hR).c3
            refine op_run rfl rfl (v := .agg #[.int .i64 s.sp, .int .i64 s.st, .int .i64 s.sz]) (w' := w1) ?_ rfl (Below.refl _ _)
            simp [execOp, Act.eval, h0, x0, x1, x2, go_sem]
          · intro a w1 hR hsz hs      -- 5: slot 58
            obtain ⟨h0, _⟩ := hs
            have h0 : a.tmps.getD 3 undef = .int .i64 A := h0
            refine op_run rfl rfl (v := .int .i64 A) (w' := w1) ?_ rfl (Below.refl _ _)
            simp [execOp, Act.eval, h0, go_sem]
          · intro a w1 hR hsz hs      -- 6: slot 59
            obtain ⟨h0, _⟩ := hs
            have h0 : a.tmps.getD 16 undef = .slice a16 n c16 := h0
            refine op_run rfl rfl (v := .slice a16 n c16) (w' := w1) ?_ rfl (Below.refl _ _)
            simp [execOp, Act.eval, h0, go_sem]
          · intro a w1 hR hsz hs      -- 7: slot 60
            obtain ⟨h0, h1, h2, _⟩ := hs
            have h0 : a.tmps.getD 57 undef = .agg #[.int .i64 s.sp, .int .i64 s.st, .int .i64 s.sz] := h0
            have h1 : a.tmps.getD 58 undef = .int .i64 A := h1
            have h2 : a.tmps.getD 59 undef = .slice a16 n c16 := h2
            refine op_call rfl rfl (f := 18) (args := #[.agg #[.int .i64 s.sp, .int .i64 s.st, .int .i64 s.sz], .int .i64 A, .slice a16 n c16]) (by simp [execOp, Act.eval, resolve, h0, h1, h2, go_sem]) ?_
            exact gp_of (HS2.out w1 hR) (HBZ.out.trans (hR.mono HBZ.out.size))
          · intro a w1 hR hsz hs      -- 8: slot 61
            obtain ⟨h0, h1, _⟩ := hs
            obtain ⟨a0, c0, h0, r0⟩ := GOwn.row_n pcOk (show GOwn pcT w w1 (a.tmps.getD 56 undef) PL from h0) HPN.out
            obtain ⟨a1, c1, h1, r1⟩ := GOwn.row_n pcOk (show GOwn pcT w w1 (a.tmps.getD 60 undef) PL from h1) HPN.out
            refine op_call rfl rfl (f := 16) (args := #[.slice a0 PN c0, .slice a1 PN c1]) (by simp [execOp, Act.eval, resolve, h0, h1, go_sem]) ?_
            exact calls_c (samepc_refl _ _ PN _ _ PL w1 r0 r1 HPN.out)
          · intro a w1 hR hsz hs      -- 9: slot 62
            obtain ⟨h0, _⟩ := hs
            have h0 : a.tmps.getD 61 undef = .bool true := h0
            refine op_run rfl rfl (v := .bool true) (w' := w1) ?_ rfl (Below.refl _ _)
            simp [execOp, Act.eval, h0, go_sem]
          · intro a w1 hR hsz hs      -- 10: slot 63
            obtain ⟨h0, h1, _⟩ := hs
            have h0 : a.tmps.getD 15 undef = .pointer (some ⟨P15, 0, none⟩) := h0
            have h1 : a.tmps.getD 62 undef = .bool true := h1
            obtain ⟨x0, x1, x2⟩ := (HX15.out.later hR).c3
            refine opg_run rfl rfl rfl (by rw [hsz]; decide) h1 (v := .agg #[.int .i64 s.sp, .int .i64 s.st, .int .i64 s.sz]) (w' := w1) ?_ rfl (Below.refl _ _)
            simp [execOp, Act.eval, h0, x0, x1, x2, go_sem]
          · intro a w1 hR hsz hs      -- 11: slot 64
            obtain ⟨h0, _⟩ := hs
            have h0 : a.tmps.getD 62 undef = .bool true := h0
            have zf := HZF.out w1
            refine opg_run rfl rfl rfl (by rw [hsz]; decide) h0 (v := .agg #[.int .i64 0, .int .i64 0, .int .i64 0, .int .i64 0, .int .i64 0]) (w' := w1) ?_ rfl (Below.refl _ _)
            simp [execOp, Act.eval, zf, go_sem]
          · intro a w1 hR hsz hs      -- 12: slot 65
            obtain ⟨h0, h1, _⟩ := hs
            have h0 : a.tmps.getD 3 undef = .int .i64 A := h0
            have h1 : a.tmps.getD 62 undef = .bool true := h1
            refine opg_run rfl rfl rfl (by rw [hsz]; decide) h1 (v := .int .i64 A) (w' := w1) ?_ rfl (Below.refl _ _)
            simp [execOp, Act.eval, h0, go_sem]
          · intro a w1 hR hsz hs      -- 13: slot 66
            obtain ⟨h0, h1, _⟩ := hs
            have h0 : a.tmps.getD 16 undef = .slice a16 n c16 := h0
            have h1 : a.tmps.getD 62 undef = .bool true := h1
            refine opg_run rfl rfl rfl (by rw [hsz]; decide) h1 (v := .slice a16 n c16) (w' := w1) ?_ rfl (Below.refl _ _)
            simp [execOp, Act.eval, h0, go_sem]
          · intro a w1 hR hsz hs      -- 14: slot 67
            obtain ⟨h0, h1, h2, h3, h4, _⟩ := hs
            have h0 : a.tmps.getD 63 undef = .agg #[.int .i64 s.sp, .int .i64 s.st, .int .i64 s.sz] := h0
            have h1 : a.tmps.getD 64 undef = .agg #[.int .i64 0, .int .i64 0, .int .i64 0, .int .i64 0, .int .i64 0] := h1
            have h2 : a.tmps.getD 65 undef = .int .i64 A := h2
            have h3 : a.tmps.getD 66 undef = .slice a16 n c16 := h3
            have h4 : a.tmps.getD 62 undef = .bool true := h4
            refine opg_call rfl rfl rfl (by rw [hsz]; decide) h4 (f := 19) (args := #[.agg #[.int .i64 s.sp, .int .i64 s.st, .int .i64 s.sz], .agg #[.int .i64 0, .int .i64 0, .int .i64 0, .int .i64 0, .int .i64 0], .int .i64 A, .slice a16 n c16]) (by simp [execOp, Act.eval, resolve, h0, h1, h2, h3, go_sem]) ?_
            exact calls_c (HN1.out w1 hR)
          · intro a w1 hR hsz hs      -- 15: slot 68
            obtain ⟨h0, h1, _⟩ := hs
            have h0 : a.tmps.getD 15 undef = .pointer (some ⟨P15, 0, none⟩) := h0
            have h1 : a.tmps.getD 62 undef = .bool true := h1
            obtain ⟨x0, x1, x2⟩ := (HX15.out.later hR).c3
            refine opg_run rfl rfl rfl (by rw [hsz]; decide) h1 (v := .agg #[.int .i64 s.sp, .int .i64 s.st, .int .i64 s.sz]) (w' := w1) ?_ rfl (Below.refl _ _)
            simp [execOp, Act.eval, h0, x0, x1, x2, go_sem]
          · intro a w1 hR hsz hs      -- 16: slot 69
            obtain ⟨h0, _⟩ := hs
            have h0 : a.tmps.getD 62 undef = .bool true := h0
            have zf := HZF.out w1
            refine opg_run rfl rfl rfl (by rw [hsz]; decide) h0 (v := .agg #[.int .i64 0, .int .i64 0, .int .i64 0, .int .i64 0, .int .i64 0]) (w' := w1) ?_ rfl (Below.refl _ _)
            simp [execOp, Act.eval, zf, go_sem]
          · intro a w1 hR hsz hs      -- 17: slot 70
            obtain ⟨h0, h1, _⟩ := hs
            have h0 : a.tmps.getD 3 undef = .int .i64 A := h0
            have h1 : a.tmps.getD 62 undef = .bool true := h1
            refine opg_run rfl rfl rfl (by rw [hsz]; decide) h1 (v := .int .i64 A) (w' := w1) ?_ rfl (Below.refl _ _)
            simp [execOp, Act.eval, h0, go_sem]
          · intro a w1 hR hsz hs      -- 18: slot 71
            obtain ⟨h0, h1, _⟩ := hs
            have h0 : a.tmps.getD 16 undef = .slice a16 n c16 := h0
            have h1 : a.tmps.getD 62 undef = .bool true := h1
            refine opg_run rfl rfl rfl (by rw [hsz]; decide) h1 (v := .slice a16 n c16) (w' := w1) ?_ rfl (Below.refl _ _)
            simp [execOp, Act.eval, h0, go_sem]
          · intro a w1 hR hsz hs      -- 19: slot 72
            obtain ⟨h0, h1, h2, h3, h4, _⟩ := hs
            have h0 : a.tmps.getD 68 undef = .agg #[.int .i64 s.sp, .int .i64 s.st, .int .i64 s.sz] := h0
            have h1 : a.tmps.getD 69 undef = .agg #[.int .i64 0, .int .i64 0, .int .i64 0, .int .i64 0, .int .i64 0] := h1
            have h2 : a.tmps.getD 70 undef = .int .i64 A := h2
            have h3 : a.tmps.getD 71 undef = .slice a16 n c16 := h3
            have h4 : a.tmps.getD 62 undef = .bool true := h4
            refine opg_call rfl rfl rfl (by rw [hsz]; decide) h4 (f := 20) (args := #[.agg #[.int .i64 s.sp, .int .i64 s.st, .int .i64 s.sz], .agg #[.int .i64 0, .int .i64 0, .int .i64 0, .int .i64 0, .int .i64 0], .int .i64 A, .slice a16 n c16]) (by simp [execOp, Act.eval, resolve, h0, h1, h2, h3, go_sem]) ?_
            exact calls_c (HN2.out w1 hR)
          · intro a w1 hR hsz hs      -- 20: slot 73
            obtain ⟨h0, h1, h2, _⟩ := hs
            have h0 : a.tmps.getD 67 undef = .int .i64 NA := h0
            have h1 : a.tmps.getD 72 undef = .int .i64 NA := h1
            have h2 : a.tmps.getD 62 undef = .bool true := h2
            refine opg_run rfl rfl rfl (by rw [hsz]; decide) h2 (v := .bool true) (w' := w1) ?_ rfl (Below.refl _ _)
            simp [execOp, Act.eval, h0, h1, go_sem]
          · intro a w1 hR hsz hs      -- 21: slot 74
            obtain ⟨h0, h1, _⟩ := hs
            have h0 : a.tmps.getD 62 undef = .bool true := h0
            have h1 : a.tmps.getD 73 undef = .bool true := h1
            refine op_run rfl rfl (v := .bool true) (w' := w1) ?_ rfl (Below.refl _ _)
            simp [execOp, Act.eval, h0, h1, go_sem]
          · intro a w1 hR hsz hs      -- 22: slot 75
            obtain ⟨h0, _⟩ := hs
            have h0 : a.tmps.getD 74 undef = .bool true := h0
            refine op_run rfl rfl (v := .bool true) (w' := w1) ?_ rfl (Below.refl _ _)
            simp [execOp, Act.eval, h0, go_sem]
          · intro a w1 hR hsz hs      -- 23: slot 76
            obtain ⟨h0, h1, _⟩ := hs
            have h0 : a.tmps.getD 15 undef = .pointer (some ⟨P15, 0, none⟩) := h0
            have h1 : a.tmps.getD 75 undef = .bool true := h1
            obtain ⟨x0, x1, x2⟩ := (HX15.out.later hR).c3
            refine opg_run rfl rfl rfl (by rw [hsz]; decide) h1 (v := .agg #[.int .i64 s.sp, .int .i64 s.st, .int .i64 s.sz]) (w' := w1) ?_ rfl (Below.refl _ _)
            simp [execOp, Act.eval, h0, x0, x1, x2, go_sem]
          · intro a w1 hR hsz hs      -- 24: slot 77
            obtain ⟨h0, h1, _⟩ := hs
            have h0 : a.tmps.getD 12 undef = .pointer (some ⟨P12, 0, none⟩) := h0
            have h1 : a.tmps.getD 75 undef = .bool true := h1
            obtain ⟨x0, x1, x2, x3, x4⟩ := (HX12.out.later hR).e5
            refine opg_run rfl rfl rfl (by rw [hsz]; decide) h1 (v := .agg #[.int .i64 g0.set, .int .i64 g0.u0, .int .i64 g0.u1, .int .i64 g0.u2, .int .i64 g0.u3]) (w' := w1) ?_ rfl (Below.refl _ _)
            simp [execOp, Act.eval, h0, x0, x1, x2, x3, x4, go_sem]
          · intro a w1 hR hsz hs      -- 25: slot 78
            obtain ⟨h0, h1, _⟩ := hs
            have h0 : a.tmps.getD 3 undef = .int .i64 A := h0
            have h1 : a.tmps.getD 75 undef = .bool true := h1
            refine opg_run rfl rfl rfl (by rw [hsz]; decide) h1 (v := .int .i64 A) (w' := w1) ?_ rfl (Below.refl _ _)
            simp [execOp, Act.eval, h0, go_sem]
          · intro a w1 hR hsz hs      -- 26: slot 79
            obtain ⟨h0, h1, _⟩ := hs
            have h0 : a.tmps.getD 16 undef = .slice a16 n c16 := h0
            have h1 : a.tmps.getD 75 undef = .bool true := h1
            refine opg_run rfl rfl rfl (by rw [hsz]; decide) h1 (v := .slice a16 n c16) (w' := w1) ?_ rfl (Below.refl _ _)
            simp [execOp, Act.eval, h0, go_sem]
          · intro a w1 hR hsz hs      -- 27: slot 80
            obtain ⟨h0, h1, h2, h3, h4, _⟩ := hs
            have h0 : a.tmps.getD 76 undef = .agg #[.int .i64 s.sp, .int .i64 s.st, .int .i64 s.sz] := h0
            have h1 : a.tmps.getD 77 undef = .agg #[.int .i64 g0.set, .int .i64 g0.u0, .int .i64 g0.u1, .int .i64 g0.u2, .int .i64 g0.u3] := h1
            have h2 : a.tmps.getD 78 undef = .int .i64 A := h2
            have h3 : a.tmps.getD 79 undef = .slice a16 n c16 := h3
            have h4 : a.tmps.getD 75 undef = .bool true := h4
            refine opg_call rfl rfl rfl (by rw [hsz]; decide) h4 (f := 19) (args := #[.agg #[.int .i64 s.sp, .int .i64 s.st, .int .i64 s.sz], .agg #[.int .i64 g0.set, .int .i64 g0.u0, .int .i64 g0.u1, .int .i64 g0.u2, .int .i64 g0.u3], .int .i64 A, .slice a16 n c16]) (by simp [execOp, Act.eval, resolve, h0, h1, h2, h3, go_sem]) ?_
            exact calls_c (HN3.out w1 hR)
          · intro a w1 hR hsz hs      -- 28: slot 81
            obtain ⟨h0, h1, _⟩ := hs
            have h0 : a.tmps.getD 15 undef = .pointer (some ⟨P15, 0, none⟩) := h0
            have h1 : a.tmps.getD 75 undef = .bool true := h1
            obtain ⟨x0, x1, x2⟩ := (HX15.out.later hR).c3
            refine opg_run rfl rfl rfl (by rw [hsz]; decide) h1 (v := .agg #[.int .i64 s.sp, .int .i64 s.st, .int .i64 s.sz]) (w' := w1) ?_ rfl (Below.refl _ _)
            simp [execOp, Act.eval, h0, x0, x1, x2, go_sem]
          · intro a w1 hR hsz hs      -- 29: slot 82
            obtain ⟨h0, h1, _⟩ := hs
            have h0 : a.tmps.getD 12 undef = .pointer (some ⟨P12, 0, none⟩) := h0
            have h1 : a.tmps.getD 75 undef = .bool true := h1
            obtain ⟨x0, x1, x2, x3, x4⟩ := (HX12.out.later hR).e5
            refine opg_run rfl rfl rfl (by rw [hsz]; decide) h1 (v := .agg #[.int .i64 g0.set, .int .i64 g0.u0, .int .i64 g0.u1, .int .i64 g0.u2, .int .i64 g0.u3]) (w' := w1) ?_ rfl (Below.refl _ _)
            simp [execOp, Act.eval, h0, x0, x1, x2, x3, x4, go_sem]
          · intro a w1 hR hsz hs      -- 30: slot 83
            obtain ⟨h0, h1, _⟩ := hs
            have h0 : a.tmps.getD 3 undef = .int .i64 A := h0
            have h1 : a.tmps.getD 75 undef = .bool true := h1
            refine opg_run rfl rfl rfl (by rw [hsz]; decide) h1 (v := .int .i64 A) (w' := w1) ?_ rfl (Below.refl _ _)
            simp [execOp, Act.eval, h0, go_sem]
          · intro a w1 hR hsz hs      -- 31: slot 84
            obtain ⟨h0, h1, _⟩ := hs
            have h0 : a.tmps.getD 16 undef = .slice a16 n c16 := h0
            have h1 : a.tmps.getD 75 undef = .bool true := h1
            refine opg_run rfl rfl rfl (by rw [hsz]; decide) h1 (v := .slice a16 n c16) (w' := w1) ?_ rfl (Below.refl _ _)
            simp [execOp, Act.eval, h0, go_sem]
          · intro a w1 hR hsz hs      -- 32: slot 85
            obtain ⟨h0, h1, h2, h3, h4, _⟩ := hs
            have h0 : a.tmps.getD 81 undef = .agg #[.int .i64 s.sp, .int .i64 s.st, .int .i64 s.sz] := h0
            have h1 : a.tmps.getD 82 undef = .agg #[.int .i64 g0.set, .int .i64 g0.u0, .int .i64 g0.u1, .int .i64 g0.u2, .int .i64 g0.u3] := h1
            have h2 : a.tmps.getD 83 undef = .int .i64 A := h2
            have h3 : a.tmps.getD 84 undef = .slice a16 n c16 := h3
            have h4 : a.tmps.getD 75 undef = .bool true := h4
            refine opg_call rfl rfl rfl (by rw [hsz]; decide) h4 (f := 20) (args := #[.agg #[.int .i64 s.sp, .int .i64 s.st, .int .i64 s.sz], .agg #[.int .i64 g0.set, .int .i64 g0.u0, .int .i64 g0.u1, .int .i64 g0.u2, .int .i64 g0.u3], .int .i64 A, .slice a16 n c16]) (by simp [execOp, Act.eval, resolve, h0, h1, h2, h3, go_sem]) ?_
            exact calls_c (HN4.out w1 hR)
          · intro a w1 hR hsz hs      -- 33: slot 86
            obtain ⟨h0, h1, h2, _⟩ := hs
            have h0 : a.tmps.getD 80 undef = .int .i64 NB := h0
            have h1 : a.tmps.getD 85 undef = .int .i64 NB := h1
            have h2 : a.tmps.getD 75 undef = .bool true := h2
            refine opg_run rfl rfl rfl (by rw [hsz]; decide) h2 (v := .bool true) (w' := w1) ?_ rfl (Below.refl _ _)
            simp [execOp, Act.eval, h0, h1, go_sem]
          · intro a w1 hR hsz hs      -- 34: slot 87
            obtain ⟨h0, h1, _⟩ := hs
            have h0 : a.tmps.getD 75 undef = .bool true := h0
            have h1 : a.tmps.getD 86 undef = .bool true := h1
            refine op_run rfl rfl (v := .bool true) (w' := w1) ?_ rfl (Below.refl _ _)
            simp [execOp, Act.eval, h0, h1, go_sem]
          · intro a w1 hR hsz hs      -- 35: slot 88
            obtain ⟨h0, _⟩ := hs
            have h0 : a.tmps.getD 87 undef = .bool true := h0
            refine op_run rfl rfl (v := .bool true) (w' := w1) ?_ rfl (Below.refl _ _)
            simp [execOp, Act.eval, h0, go_sem]
          · intro a w1 hR hsz hs      -- 36: slot 89
            obtain ⟨h0, _⟩ := hs
            have h0 : a.tmps.getD 88 undef = .bool true := h0
            refine opg_call rfl rfl rfl (by rw [hsz]; decide) h0 (f := 14) (args := #[]) (by simp [execOp, Act.eval, resolve, go_sem]) ?_
            exact calls_c (knownRg_any w1)
          · intro a w1 hR hsz hs      -- 37: slot 90
            obtain ⟨h0, h1, _⟩ := hs
            have h0 : a.tmps.getD 88 undef = .bool true := h0
            have h1 : a.tmps.getD 89 undef = .bool true := h1
            refine op_run rfl rfl (v := .bool true) (w' := w1) ?_ rfl (Below.refl _ _)
            simp [execOp, Act.eval, h0, h1, go_sem]
          · intro a w1 hR hsz hs      -- 38: slot 14
            obtain ⟨h0, _⟩ := hs
            have h0 : a.tmps.getD 90 undef = .bool true := h0
            refine op_run rfl rfl (v := .bool true) (w' := w1) ?_ rfl (Below.refl _ _)
            simp [execOp, Act.eval, h0, go_sem]
        · intro f w1 hR hv
          have e14 : f 14 = .bool true := hv 38 _ 14 rfl rfl
          clear hv
          try simp only [Exit.then]
          simp only [putAll, List.foldl_cons, List.foldl_nil, Option.getD_some, Act.put, List.setIfInBounds_toArray, List.set_cons_succ, List.set_cons_zero]
          go_wp2_with fail
          go_ret
          exact ⟨congrArg Ending.returned e14, HBZ.out.trans (hR.mono HBZ.out.size)⟩
        -- END 11
theorem ringRows_open (a b c at' : Int) (ad : Option Addr) (n cap : Nat) (l : List Int) (cf : Array Value) (g0 : Fl) (raw : Bool) (w : World) (hr : ZRow w ad cap l) (hn : l.length = n) (hat : inI at') (h : FlE cf.toList g0) :
    Calls Try.prog 4 #[.int .i64 a, .int .i64 b, .int .i64 c, .int .i64 at', .slice ad n cap, .agg cf, .bool raw] w fun x w' => x = .returned (.bool true) ∧ Below w.heap.size w w' := by
  obtain rfl := h.open
  exact ringRows_walk a b c at' ad n cap l g0 raw w hr hn hat h.2
end Go.Proofs.Ytblipabemghdbaa
