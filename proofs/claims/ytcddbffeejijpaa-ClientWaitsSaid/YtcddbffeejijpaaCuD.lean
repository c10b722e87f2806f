/- Clients: the document's own Act. -/
import Derived.Test.YtcddbffeejijpaaCuC
namespace Go.Proofs.Ytcddbffeejijpaa
open Go.RowKit Go.Proofs
set_option linter.unusedVariables false
set_option linter.unusedSimpArgs false
set_option linter.unnecessarySimpa false

/-- A record that was laid, when another block was laid behind it, and that one grew. -/
theorem rec_kept {α : Type} {R : RT α} (hR : R.Ok) {w0 w' : World} {o : Obj} {cs : Array Value} {E : TypeId} {row : Option Nat} (hg : ((w0.alloc (.cells cs E)).alloc o).grownBy w' row) {t : α} (ht : R.B t) (hc : cs.toList = R.V t) (x : Nat) (hx : x = w0.heap.size) (hne : some x ≠ row) : GRow R w' (some ⟨x, 0, none⟩) 1 [t] := by
  subst hx
  exact ((grow_new hR w0 ht hc E).later ((Below.refl _ _).alloc (Nat.le_refl _) o)).kept hg hne
theorem rec_kept2 {α : Type} {R : RT α} (hR : R.Ok) {w0 w' : World} {o : Obj} {cs : Array Value} {E : TypeId} {row : Option Nat} (hg : ((w0.alloc o).alloc (.cells cs E)).grownBy w' row) {t : α} (ht : R.B t) (hc : cs.toList = R.V t) (x : Nat) (hx : x = w0.heap.size + 1) (hne : some x ≠ row) : GRow R w' (some ⟨x, 0, none⟩) 1 [t] := by
  subst hx
  have := (grow_new hR (w0.alloc o) ht hc E)
  rw [show (w0.alloc o).heap.size = w0.heap.size + 1 by simp] at this
  exact this.kept hg hne
theorem alloc_neU (w : World) (o : Obj) : (w.alloc o).heap.size ≠ w.heap.size := by simp
set_option maxRecDepth 100000 in
set_option maxHeartbeats 6400000 in
theorem uract_any (ad : Option Addr) (n c : Nat) (ts : List Cu) (what : Nat) (k p : Int) (b : Bool) (w : World) (hr : CRow w ad c ts) (hn : ts.length = n) (hw : what ≤ 3) (hk : W64 k) (hp : W64 p) :
    Calls Try.prog 14 #[.slice ad n c, .int .i64 (what : Nat), .int .i64 k, .int .i64 p, .bool b] w (UAct (actU ts what k p b) w) := by
  have HK := Lib.hid (urright_any ad n c ts w hr hn)
  have HRW := Lib.hid hr
  have HN := Lib.hid hn
  have HKP : Hid (Cu.B ⟨k, p, false⟩) := Lib.hid ⟨hk, hp⟩
  have hc1 := hr.1
  rw [hn] at hc1
  have hcm : c ≤ 9223372036854775807 := by have := hr.2.1; unfold maxLen at this; omega
  have HNC := Lib.hid hr.2.2.1
  obtain ⟨R, hR⟩ : ∃ R, actU ts what k p b = R := ⟨_, rfl⟩
  rw [hR]
  have HR := Lib.hid hR
  clear hr hn hR hk hp
  cases hx : rightU ts with
  | false =>
    rw [hx] at HK
    have HF := Lib.hid ((actU_arg (ts := ts) (what := what) (k := k) (p := p) (b := b) (by rw [hx]; rfl)).symm.trans HR.out)
    clear hx
    go_enter Try.func14, Try.ntmps14
    go_wp2_with (go_at_call 22; refine HK.out.mono ?_; rintro e w1 ⟨rfl, hb1⟩)
    go_ret2
    rw [← HF.out]
    exact uact_no hb1
  | true =>
    rw [hx] at HK
    have HRI := Lib.hid (rightU_iff.1 hx)
    cases hy : inU what k p with
    | false =>
      have HF := Lib.hid ((actU_arg (ts := ts) (what := what) (k := k) (p := p) (b := b) (by rw [hx, hy]; rfl)).symm.trans HR.out)
      clear hx
      by_cases h1 : k < 1
      · clear hy
        go_enter Try.func14, Try.ntmps14
        go_wp2_with (go_at_call 22; refine HK.out.mono ?_; rintro e w1 ⟨rfl, hb1⟩)
        go_ret2
        rw [← HF.out]
        exact uact_no hb1
      · by_cases h2 : 1073741824 < k
        · clear hy
          go_enter Try.func14, Try.ntmps14
          go_wp2_with (go_at_call 22; refine HK.out.mono ?_; rintro e w1 ⟨rfl, hb1⟩)
          go_ret2
          rw [← HF.out]
          exact uact_no hb1
        · have hid : decide (IdOk k) = true := by rw [decide_eq_true_eq]; unfold IdOk; omega
          have hwh : what = 0 ∨ what = 2 := by
            unfold inU at hy; rw [hid] at hy
            simp only [Bool.true_and, Bool.or_eq_false_iff, decide_eq_false_iff_not] at hy; omega
          have hpo : ¬ PosOk p := by
            unfold inU at hy; rw [hid] at hy
            simp only [Bool.true_and, Bool.or_eq_false_iff, decide_eq_false_iff_not] at hy; exact hy.2
          unfold PosOk at hpo
          clear hy hid
          rcases hwh with rfl | rfl
          all_goals
            by_cases h3 : p < 0
            · clear hpo
              go_enter Try.func14, Try.ntmps14
              go_wp2_with (go_at_call 22; refine HK.out.mono ?_; rintro e w1 ⟨rfl, hb1⟩)
              go_ret2
              rw [← HF.out]
              exact uact_no hb1
            · have h4 : 1099511627776 < p := by omega
              clear hpo
              go_enter Try.func14, Try.ntmps14
              go_wp2_with (go_at_call 22; refine HK.out.mono ?_; rintro e w1 ⟨rfl, hb1⟩)
              go_ret2
              rw [← HF.out]
              exact uact_no hb1
    | true =>
      have HF := Lib.hid (actU_is HR.out (by rw [hx, hy]; rfl))
      have hid : IdOk k := by unfold inU at hy; simp only [Bool.and_eq_true, decide_eq_true_eq] at hy; exact hy.1
      have hpo : what = 1 ∨ what = 3 ∨ PosOk p := by
        unfold inU at hy; simp only [Bool.and_eq_true, Bool.or_eq_true, decide_eq_true_eq] at hy
        rcases hy.2 with (h | h) | h
        · exact .inl h
        · exact .inr (.inl h)
        · exact .inr (.inr h)
      clear hx hy
      have hn4 : n ≤ 4 := by have := HRI.out.1; have := HN.out; omega
      have e1 : decide (k < 1) = false := by unfold IdOk at hid; simp; omega
      have e2 : decide (1073741824 < k) = false := by unfold IdOk at hid; simp; omega
      clear hid
      have HLN : Hid (([] : List Cu).length + ts.length ≤ 1000000) := Lib.hid (by rw [HN.out]; simp; omega)
      have HUF := Lib.hid (fun W (h : Below w.heap.size w W) => urfind_any ad n c ts k W (HRW.out.later h) HN.out)
      cases hpl : placeU ts k with
      | none =>
        have HPL := Lib.hid hpl
        rw [hpl] at HUF
        simp only [numU] at HUF
        clear hpl
        rcases (show what = 0 ∨ what = 1 ∨ what = 2 ∨ what = 3 by omega) with rfl | rfl | rfl | rfl
        · unfold actW at HF
          simp only [HPL.out] at HF
          rw [HN.out] at HF
          have hpo2 : PosOk p := by rcases hpo with h | h | h <;> first | omega | exact h
          have e3 : decide (p < 0) = false := by unfold PosOk at hpo2; simp; omega
          have e4 : decide (1099511627776 < p) = false := by unfold PosOk at hpo2; simp; omega
          clear hpo hpo2
          go_enter Try.func14, Try.ntmps14
          go_upto_region 3 with (go_at_call 22; refine HK.out.mono ?_; rintro e w1 ⟨rfl, hb1⟩)
          have HB1 := Lib.hid hb1
          clear hb1
          have HUF2 := Lib.hid (HUF.out w1 HB1.out)
          have HB2 := Lib.hid (HB1.out.alloc HB1.out.size (.cells #[] 39))
          have HE2 : Hid (COwn w (w1.alloc (.cells #[] 39)) (.slice (some ⟨w1.heap.size, 0, none⟩) 0 0) []) := Lib.hid (GOwn.empty HB1.out rfl)
          go_upto_region 5 with (first
            | (go_at_call 20; refine HUF2.out.mono ?_; rintro e w2 ⟨rfl, rfl⟩)
            | (at_builtin; refine wp_gapp cuOk rfl _ _ rfl rfl _ _ rfl w HE2.out _ _ _ ts (HRW.out.later HB2.out) HN.out rfl HLN.out ?_; intro v3 w3 o3 g3 h3; have HO3 : Hid (COwn w w3 v3 ts) := Lib.hid o3; clear o3 g3 h3))
          clear HUF HUF2 HK HB1 HB2 HE2 HLN
          by_cases h4 : n = 4
          · rw [if_pos h4] at HF
            have hd : ((n : Int) == 4) = true := by simp; omega
            clear h4
            go_wp2_with fail
            go_ret2
            rw [← HF.out]
            exact uact_no HO3.out.below
          · rw [if_neg h4] at HF
            have hd : ((n : Int) == 4) = false := by simp; omega
            clear h4
            go_wp2_with fail
            go_loop [14] (fun i => ∃ j : Nat, i = .int .i64 j ∧ j ≤ n ∧ Hid (∀ m t, m < j → ts[m]? = some t → t.id < k)) (fun i => n - (intOf i).toNat)
            case atStart => exact ⟨0, rfl, by omega, Lib.hid (fun m t h => by omega)⟩
            case round =>
              obtain ⟨j, rfl, hj, HA⟩ := hrel
              by_cases hjn : (j : Int) < n
              · obtain ⟨t, ht⟩ : ∃ t, ts[j]? = some t := ⟨ts[j]'(by have := HN.out; omega), List.getElem?_eq_getElem _⟩
                obtain ⟨b0, o0, rfl, p0, p1, p2⟩ := (HRW.out.later HO3.out.below).c3 ht
                have HT := Lib.hid ht
                clear ht
                obtain ⟨ti, tp, tf⟩ := t
                simp only at p0
                cases hlt : decide (ti < k) with
                | true =>
                  have HA2 : Hid (∀ m t, m < j + 1 → ts[m]? = some t → t.id < k) := Lib.hid (fun m u hm hu => by
                    by_cases e : m = j
                    · subst e; rw [HT.out] at hu; cases hu; simpa using hlt
                    · exact HA.out m u (by omega) hu)
                  go_wp2_with fail
                  go_round
                  case rel => exact ⟨j + 1, by go_num, by omega, HA2⟩
                  case measure => simp [intOf]; omega
                | false =>
                  have HJ := Lib.hid (belowU_is (l := ts) (k := k) (j := j) HA.out (by have := HN.out; omega) (.inr ⟨_, HT.out, by simpa using hlt⟩))
                  have hs1 : ∀ W, (Instr.slice 22 (.slice (some ⟨b0, o0, none⟩) n c) none (some (.int .i64 j)) none).run Try.prog W = .ok (.slice (some ⟨b0, o0, none⟩) j c) W := fun W => run_slG cuOk rfl HNC.out hc1 (by omega)
                  have hs2 : ∀ W, (Instr.slice 22 (.slice (some ⟨b0, o0, none⟩) n c) (some (.int .i64 j)) none none).run Try.prog W = .ok (.slice (cutA 3 (some ⟨b0, o0, none⟩) j c) (n - j) (c - j)) W := fun W => run_slG_end cuOk rfl hc1 (by omega)
                  have HTK := Lib.hid (fun W (h : Below w.heap.size w W) => (HRW.out.later h).take j)
                  have HTD := Lib.hid (fun W (h : Below w.heap.size w W) => GRow.drop (lo := j) (HRW.out.later h) (by have := HN.out; omega))
                  have HTN : Hid ((ts.take j).length = j) := Lib.hid (by rw [List.length_take, HN.out]; omega)
                  have HTE : Hid ((ts.drop j).length = n - j) := Lib.hid (by rw [List.length_drop, HN.out])
                  have HT1 : Hid (([] : List Cu).length + (ts.take j).length ≤ 1000000) := Lib.hid (by rw [HTN.out]; simp; omega)
                  have HT2 : Hid (([] ++ ts.take j).length + [(⟨k, p, false⟩ : Cu)].length ≤ 1000000) := Lib.hid (by rw [List.nil_append, HTN.out]; simp; omega)
                  have HT3 : Hid ((([] ++ ts.take j) ++ [(⟨k, p, false⟩ : Cu)]).length + (ts.drop j).length ≤ 1000000) := Lib.hid (by rw [List.length_append, List.nil_append, HTN.out, HTE.out]; simp; omega)
                  have HFF : Hid ((([] ++ ts.take j) ++ [(⟨k, p, false⟩ : Cu)] ++ ts.drop j, 0) = R) := Lib.hid (by rw [← HF.out]; unfold addU; rw [HJ.out, List.nil_append])
                  have HB3 := Lib.hid HO3.out.below
                  have HL3 := Lib.hid (HO3.out.below.size)
                  have HL4 : Hid (∀ q, w.heap.size ≤ ((w3.drewN q).alloc (.cells #[] 39)).heap.size) := Lib.hid (fun q => by have := HO3.out.below.size; simp; omega)
                  have HLX : Hid (∀ q cs, Below w.heap.size w ((w3.drewN q).alloc (.cells cs 39))) := Lib.hid (fun q cs => (HB3.out.trans ((below_drewN w3 _).mono HL3.out)).alloc HL3.out _)
                  have HLY : Hid (∀ q cs, Below w.heap.size w (((w3.drewN q).alloc (.cells cs 39)).alloc (.cells #[] 39))) := Lib.hid (fun q cs => (HLX.out q cs).alloc (HLX.out q cs).size _)
                  simp only [show cuT.sz = 3 from rfl] at HTD
                  generalize (cutA 3 (some ⟨b0, o0, none⟩) j c) = A2 at *
                  generalize n - j = M at *
                  generalize c - j = D at *
                  go_upto_region 13 with fail
                  clear p0 p1 p2 hlt hjn
                  clear HO3 HF HR
                  go_region_held3 (fun _ => True) (exact trivial) (first
                    | (refine step_gapp cuOk (by rfl) _ _ (by rfl) rfl _ [] (by rfl) w ((GOwn.empty (HB3.out.trans ((below_drewN w3 _).mono HL3.out)) rfl)) _ _ _ _ (HTK.out _ ((HB3.out.trans ((below_drewN w3 _).mono HL3.out)).alloc HL3.out _)) HTN.out (by rfl) HT1.out ?_; intro v4 w4 o4 g4 h4)
                    | (refine step_gapp cuOk (by rfl) _ _ (by rfl) rfl _ [] (by rfl) w ((GOwn.empty (HB3.out.trans ((below_drewN w3 _).mono HL3.out)) rfl).later ((Below.refl _ _).alloc (Nat.le_refl _) _)) _ _ _ _ (HTK.out _ (((HB3.out.trans ((below_drewN w3 _).mono HL3.out)).alloc HL3.out _).alloc (HL4.out _) _)) HTN.out (by rfl) HT1.out ?_; intro v4 w4 o4 g4 h4)
                    | (refine step_gapp cuOk (by rfl) _ _ (by rfl) rfl _ [] (by rfl) w (GOwn.empty_at (HLX.out _ _) rfl (w3.heap.size + 1) (by simp)) _ _ _ _ (HTK.out _ (HLY.out _ _)) HTN.out (by rfl) HT1.out ?_; intro v4 w4 o4 g4 h4)
                    | (refine step_gapp cuOk (by rfl) _ _ (by rfl) rfl _ _ (by rfl) w (o4.later ((Below.refl _ _).alloc (Nat.le_refl _) _)) _ _ _ [(⟨k, p, false⟩ : Cu)] (grow_new cuOk w4 HKP.out rfl _) rfl (by rfl) HT2.out ?_; intro v5 w5 o5 g5 h5)
                    | (refine step_gapp cuOk (by rfl) _ _ (by rfl) rfl _ _ (by rfl) w o5 _ _ _ _ (HTD.out _ o5.below) HTE.out (by rfl) HT3.out ?_; intro v6 w6 o6 g6 h6)
                    | (refine step_gapp cuOk (by rfl) _ _ (by rfl) rfl _ _ (by rfl) w o4 (some ⟨w3.heap.size + 1, 0, none⟩) 1 1 [(⟨k, p, false⟩ : Cu)] (rec_kept2 cuOk (w0 := w3.drewN _) g4 HKP.out rfl (w3.heap.size + 1) rfl (ne_own (Nat.succ_ne_self w3.heap.size))) rfl (by rfl) HT2.out ?_; intro v5 w5 o5 g5 h5)
                    | (refine step_gapp cuOk (by rfl) _ _ (by rfl) rfl _ _ (by rfl) w o4 (some ⟨w3.heap.size, 0, none⟩) 1 1 [(⟨k, p, false⟩ : Cu)] (rec_kept cuOk (w0 := w3.drewN _) g4 HKP.out rfl w3.heap.size rfl (ne_own (Nat.ne_of_lt (Nat.lt_succ_self w3.heap.size)))) rfl (by rfl) HT2.out ?_; intro v5 w5 o5 g5 h5)
                    | fail)
                  all_goals
                    have HO6 := Lib.hid o6
                    clear o4 g4 h4 o5 g5 h5 o6 g6 h6
                    go_wp2_with fail
                    go_ret2
                    rw [← HFF.out]
                    exact ⟨_, rfl, HO6.out⟩
              · have HJN : Hid (j = n) := Lib.hid (by omega)
                have HJ := Lib.hid (belowU_is (l := ts) (k := k) (j := j) HA.out (by have := HN.out; omega) (.inl (by rw [HJN.out]; exact HN.out.symm)))
                have hs1 : ∀ W, (Instr.slice 22 (.slice ad n c) none (some (.int .i64 j)) none).run Try.prog W = .ok (.slice ad j c) W := fun W => run_slG cuOk rfl HNC.out hc1 (by omega)
                have hs2 : ∀ W, (Instr.slice 22 (.slice ad n c) (some (.int .i64 j)) none none).run Try.prog W = .ok (.slice (cutA 3 ad j c) (n - j) (c - j)) W := fun W => run_slG_end cuOk rfl hc1 (by omega)
                have HTK := Lib.hid (fun W (h : Below w.heap.size w W) => (HRW.out.later h).take j)
                have HTD := Lib.hid (fun W (h : Below w.heap.size w W) => GRow.drop (lo := j) (HRW.out.later h) (by have := HN.out; omega))
                have HTN : Hid ((ts.take j).length = j) := Lib.hid (by rw [List.length_take, HN.out]; omega)
                have HTE : Hid ((ts.drop j).length = n - j) := Lib.hid (by rw [List.length_drop, HN.out])
                have HT1 : Hid (([] : List Cu).length + (ts.take j).length ≤ 1000000) := Lib.hid (by rw [HTN.out]; simp; omega)
                have HT2 : Hid (([] ++ ts.take j).length + [(⟨k, p, false⟩ : Cu)].length ≤ 1000000) := Lib.hid (by rw [List.nil_append, HTN.out]; simp; omega)
                have HT3 : Hid ((([] ++ ts.take j) ++ [(⟨k, p, false⟩ : Cu)]).length + (ts.drop j).length ≤ 1000000) := Lib.hid (by rw [List.length_append, List.nil_append, HTN.out, HTE.out]; simp; omega)
                have HFF : Hid ((([] ++ ts.take j) ++ [(⟨k, p, false⟩ : Cu)] ++ ts.drop j, 0) = R) := Lib.hid (by rw [← HF.out]; unfold addU; rw [HJ.out, List.nil_append])
                have HB3 := Lib.hid HO3.out.below
                have HL3 := Lib.hid (HO3.out.below.size)
                have HL4 : Hid (∀ q, w.heap.size ≤ ((w3.drewN q).alloc (.cells #[] 39)).heap.size) := Lib.hid (fun q => by have := HO3.out.below.size; simp; omega)
                have HLX : Hid (∀ q cs, Below w.heap.size w ((w3.drewN q).alloc (.cells cs 39))) := Lib.hid (fun q cs => (HB3.out.trans ((below_drewN w3 _).mono HL3.out)).alloc HL3.out _)
                have HLY : Hid (∀ q cs, Below w.heap.size w (((w3.drewN q).alloc (.cells cs 39)).alloc (.cells #[] 39))) := Lib.hid (fun q cs => (HLX.out q cs).alloc (HLX.out q cs).size _)
                simp only [show cuT.sz = 3 from rfl] at HTD
                generalize (cutA 3 ad j c) = A2 at *
                generalize n - j = M at *
                generalize c - j = D at *
                go_upto_region 13 with fail
                clear hjn
                clear HO3 HF HR
                go_region_held3 (fun _ => True) (exact trivial) (first
                  | (refine step_gapp cuOk (by rfl) _ _ (by rfl) rfl _ [] (by rfl) w ((GOwn.empty (HB3.out.trans ((below_drewN w3 _).mono HL3.out)) rfl)) _ _ _ _ (HTK.out _ ((HB3.out.trans ((below_drewN w3 _).mono HL3.out)).alloc HL3.out _)) HTN.out (by rfl) HT1.out ?_; intro v4 w4 o4 g4 h4)
                  | (refine step_gapp cuOk (by rfl) _ _ (by rfl) rfl _ [] (by rfl) w ((GOwn.empty (HB3.out.trans ((below_drewN w3 _).mono HL3.out)) rfl).later ((Below.refl _ _).alloc (Nat.le_refl _) _)) _ _ _ _ (HTK.out _ (((HB3.out.trans ((below_drewN w3 _).mono HL3.out)).alloc HL3.out _).alloc (HL4.out _) _)) HTN.out (by rfl) HT1.out ?_; intro v4 w4 o4 g4 h4)
                  | (refine step_gapp cuOk (by rfl) _ _ (by rfl) rfl _ [] (by rfl) w (GOwn.empty_at (HLX.out _ _) rfl (w3.heap.size + 1) (by simp)) _ _ _ _ (HTK.out _ (HLY.out _ _)) HTN.out (by rfl) HT1.out ?_; intro v4 w4 o4 g4 h4)
                  | (refine step_gapp cuOk (by rfl) _ _ (by rfl) rfl _ _ (by rfl) w (o4.later ((Below.refl _ _).alloc (Nat.le_refl _) _)) _ _ _ [(⟨k, p, false⟩ : Cu)] (grow_new cuOk w4 HKP.out rfl _) rfl (by rfl) HT2.out ?_; intro v5 w5 o5 g5 h5)
                  | (refine step_gapp cuOk (by rfl) _ _ (by rfl) rfl _ _ (by rfl) w o5 _ _ _ _ (HTD.out _ o5.below) HTE.out (by rfl) HT3.out ?_; intro v6 w6 o6 g6 h6)
                  | (refine step_gapp cuOk (by rfl) _ _ (by rfl) rfl _ _ (by rfl) w o4 (some ⟨w3.heap.size + 1, 0, none⟩) 1 1 [(⟨k, p, false⟩ : Cu)] (rec_kept2 cuOk (w0 := w3.drewN _) g4 HKP.out rfl (w3.heap.size + 1) rfl (ne_own (Nat.succ_ne_self w3.heap.size))) rfl (by rfl) HT2.out ?_; intro v5 w5 o5 g5 h5)
                  | (refine step_gapp cuOk (by rfl) _ _ (by rfl) rfl _ _ (by rfl) w o4 (some ⟨w3.heap.size, 0, none⟩) 1 1 [(⟨k, p, false⟩ : Cu)] (rec_kept cuOk (w0 := w3.drewN _) g4 HKP.out rfl w3.heap.size rfl (ne_own (Nat.ne_of_lt (Nat.lt_succ_self w3.heap.size)))) rfl (by rfl) HT2.out ?_; intro v5 w5 o5 g5 h5)
                  | fail)
                all_goals
                  have HO6 := Lib.hid o6
                  clear o4 g4 h4 o5 g5 h5 o6 g6 h6
                  go_wp2_with fail
                  go_ret2
                  rw [← HFF.out]
                  exact ⟨_, rfl, HO6.out⟩
        · unfold actW at HF
          simp only [HPL.out] at HF
          clear hpo
          go_enter Try.func14, Try.ntmps14
          go_upto_region 3 with (go_at_call 22; refine HK.out.mono ?_; rintro e w1 ⟨rfl, hb1⟩)
          have HB1 := Lib.hid hb1
          clear hb1
          have HUF2 := Lib.hid (HUF.out w1 HB1.out)
          have HB2 := Lib.hid (HB1.out.alloc HB1.out.size (.cells #[] 39))
          have HE2 : Hid (COwn w (w1.alloc (.cells #[] 39)) (.slice (some ⟨w1.heap.size, 0, none⟩) 0 0) []) := Lib.hid (GOwn.empty HB1.out rfl)
          go_upto_region 5 with (first
            | (go_at_call 20; refine HUF2.out.mono ?_; rintro e w2 ⟨rfl, rfl⟩)
            | (at_builtin; refine wp_gapp cuOk rfl _ _ rfl rfl _ _ rfl w HE2.out _ _ _ ts (HRW.out.later HB2.out) HN.out rfl HLN.out ?_; intro v3 w3 o3 g3 h3; have HO3 : Hid (COwn w w3 v3 ts) := Lib.hid o3; clear o3 g3 h3))
          clear HUF HUF2 HK HB1 HB2 HE2 HLN
          go_wp2_with fail
          go_ret2
          rw [← HF.out]
          exact uact_no HO3.out.below
        · unfold actW at HF
          simp only [HPL.out] at HF
          have hpo2 : PosOk p := by rcases hpo with h | h | h <;> first | omega | exact h
          have e3 : decide (p < 0) = false := by unfold PosOk at hpo2; simp; omega
          have e4 : decide (1099511627776 < p) = false := by unfold PosOk at hpo2; simp; omega
          clear hpo hpo2
          go_enter Try.func14, Try.ntmps14
          go_upto_region 3 with (go_at_call 22; refine HK.out.mono ?_; rintro e w1 ⟨rfl, hb1⟩)
          have HB1 := Lib.hid hb1
          clear hb1
          have HUF2 := Lib.hid (HUF.out w1 HB1.out)
          have HB2 := Lib.hid (HB1.out.alloc HB1.out.size (.cells #[] 39))
          have HE2 : Hid (COwn w (w1.alloc (.cells #[] 39)) (.slice (some ⟨w1.heap.size, 0, none⟩) 0 0) []) := Lib.hid (GOwn.empty HB1.out rfl)
          go_upto_region 5 with (first
            | (go_at_call 20; refine HUF2.out.mono ?_; rintro e w2 ⟨rfl, rfl⟩)
            | (at_builtin; refine wp_gapp cuOk rfl _ _ rfl rfl _ _ rfl w HE2.out _ _ _ ts (HRW.out.later HB2.out) HN.out rfl HLN.out ?_; intro v3 w3 o3 g3 h3; have HO3 : Hid (COwn w w3 v3 ts) := Lib.hid o3; clear o3 g3 h3))
          clear HUF HUF2 HK HB1 HB2 HE2 HLN
          go_wp2_with fail
          go_ret2
          rw [← HF.out]
          exact uact_no HO3.out.below
        · unfold actW at HF
          simp only [HPL.out] at HF
          clear hpo
          go_enter Try.func14, Try.ntmps14
          go_upto_region 3 with (go_at_call 22; refine HK.out.mono ?_; rintro e w1 ⟨rfl, hb1⟩)
          have HB1 := Lib.hid hb1
          clear hb1
          have HUF2 := Lib.hid (HUF.out w1 HB1.out)
          have HB2 := Lib.hid (HB1.out.alloc HB1.out.size (.cells #[] 39))
          have HE2 : Hid (COwn w (w1.alloc (.cells #[] 39)) (.slice (some ⟨w1.heap.size, 0, none⟩) 0 0) []) := Lib.hid (GOwn.empty HB1.out rfl)
          go_upto_region 5 with (first
            | (go_at_call 20; refine HUF2.out.mono ?_; rintro e w2 ⟨rfl, rfl⟩)
            | (at_builtin; refine wp_gapp cuOk rfl _ _ rfl rfl _ _ rfl w HE2.out _ _ _ ts (HRW.out.later HB2.out) HN.out rfl HLN.out ?_; intro v3 w3 o3 g3 h3; have HO3 : Hid (COwn w w3 v3 ts) := Lib.hid o3; clear o3 g3 h3))
          clear HUF HUF2 HK HB1 HB2 HE2 HLN
          go_wp2_with fail
          go_ret2
          rw [← HF.out]
          exact uact_no HO3.out.below
      | some i =>
        have HPL := Lib.hid hpl
        rw [hpl] at HUF
        simp only [numU] at HUF
        have hi := placeU_lt hpl
        rw [HN.out] at hi
        obtain ⟨t, ht, _⟩ := placeU_some hpl
        have HT := Lib.hid ht
        clear hpl ht
        rcases (show what = 0 ∨ what = 1 ∨ what = 2 ∨ what = 3 by omega) with rfl | rfl | rfl | rfl
        · unfold actW at HF
          simp only [HPL.out] at HF
          have hpo2 : PosOk p := by rcases hpo with h | h | h <;> first | omega | exact h
          have e3 : decide (p < 0) = false := by unfold PosOk at hpo2; simp; omega
          have e4 : decide (1099511627776 < p) = false := by unfold PosOk at hpo2; simp; omega
          clear hpo hpo2
          go_enter Try.func14, Try.ntmps14
          go_upto_region 3 with (go_at_call 22; refine HK.out.mono ?_; rintro e w1 ⟨rfl, hb1⟩)
          have HB1 := Lib.hid hb1
          clear hb1
          have HUF2 := Lib.hid (HUF.out w1 HB1.out)
          have HB2 := Lib.hid (HB1.out.alloc HB1.out.size (.cells #[] 39))
          have HE2 : Hid (COwn w (w1.alloc (.cells #[] 39)) (.slice (some ⟨w1.heap.size, 0, none⟩) 0 0) []) := Lib.hid (GOwn.empty HB1.out rfl)
          go_upto_region 5 with (first
            | (go_at_call 20; refine HUF2.out.mono ?_; rintro e w2 ⟨rfl, rfl⟩)
            | (at_builtin; refine wp_gapp cuOk rfl _ _ rfl rfl _ _ rfl w HE2.out _ _ _ ts (HRW.out.later HB2.out) HN.out rfl HLN.out ?_; intro v3 w3 o3 g3 h3; have HO3 : Hid (COwn w w3 v3 ts) := Lib.hid o3; clear o3 g3 h3))
          clear HUF HUF2 HK HB1 HB2 HE2 HLN
          go_wp2_with fail
          go_ret2
          rw [← HF.out]
          exact uact_no HO3.out.below
        · unfold actW at HF
          simp only [HPL.out] at HF
          clear hpo
          go_enter Try.func14, Try.ntmps14
          go_upto_region 3 with (go_at_call 22; refine HK.out.mono ?_; rintro e w1 ⟨rfl, hb1⟩)
          have HB1 := Lib.hid hb1
          clear hb1
          have HUF2 := Lib.hid (HUF.out w1 HB1.out)
          have HB2 := Lib.hid (HB1.out.alloc HB1.out.size (.cells #[] 39))
          have HE2 : Hid (COwn w (w1.alloc (.cells #[] 39)) (.slice (some ⟨w1.heap.size, 0, none⟩) 0 0) []) := Lib.hid (GOwn.empty HB1.out rfl)
          go_upto_region 5 with (first
            | (go_at_call 20; refine HUF2.out.mono ?_; rintro e w2 ⟨rfl, rfl⟩)
            | (at_builtin; refine wp_gapp cuOk rfl _ _ rfl rfl _ _ rfl w HE2.out _ _ _ ts (HRW.out.later HB2.out) HN.out rfl HLN.out ?_; intro v3 w3 o3 g3 h3; have HO3 : Hid (COwn w w3 v3 ts) := Lib.hid o3; clear o3 g3 h3))
          clear HUF HUF2 HK HB1 HB2 HE2 HLN
          have hs1 : ∀ W, (Instr.slice 22 (.slice ad n c) none (some (.int .i64 i)) none).run Try.prog W = .ok (.slice ad i c) W := fun W => run_slG cuOk rfl HNC.out hc1 (by omega)
          obtain ⟨I, hI⟩ : ∃ I, i + 1 = I := ⟨_, rfl⟩
          have hs2 : ∀ W, (Instr.slice 22 (.slice ad n c) (some (.int .i64 I)) none none).run Try.prog W = .ok (.slice (cutA 3 ad I c) (n - I) (c - I)) W := fun W => run_slG_end cuOk rfl hc1 (by omega)
          have hadd : (i : Int) + 1 = (I : Nat) := by omega
          have hadd2 : IntKind.i64.wrap (I : Int) = (I : Nat) := by rw [IntKind.wrap_i64]; omega
          rw [hI] at HF
          have HTK := Lib.hid (fun W (h : Below w.heap.size w W) => (HRW.out.later h).take i)
          have HTD := Lib.hid (fun W (h : Below w.heap.size w W) => GRow.drop (lo := I) (HRW.out.later h) (by have := HN.out; omega))
          have HTN : Hid ((ts.take i).length = i) := Lib.hid (by rw [List.length_take, HN.out]; omega)
          have HTE : Hid ((ts.drop I).length = n - I) := Lib.hid (by rw [List.length_drop, HN.out])
          have HT1 : Hid (([] : List Cu).length + (ts.take i).length ≤ 1000000) := Lib.hid (by rw [HTN.out]; simp; omega)
          have HT3 : Hid (([] ++ ts.take i).length + (ts.drop I).length ≤ 1000000) := Lib.hid (by rw [List.nil_append, HTN.out, HTE.out]; omega)
          have HFF : Hid (([] ++ ts.take i ++ ts.drop I, 0) = R) := Lib.hid (by rw [← HF.out, List.nil_append])
          have HB3 := Lib.hid HO3.out.below
          have HL3 := Lib.hid (HO3.out.below.size)
          simp only [show cuT.sz = 3 from rfl] at HTD
          generalize (cutA 3 ad I c) = A2 at *
          generalize n - I = M at *
          generalize c - I = D at *
          clear HO3 HF HR hI HT
          go_upto_region 20 with fail
          go_region_held3 (fun _ => True) (exact trivial) (first
            | (refine step_gapp cuOk (by rfl) _ _ (by rfl) rfl _ [] (by rfl) w (GOwn.empty (HB3.out.trans ((below_drewN w3 _).mono HL3.out)) rfl) _ _ _ _ (HTK.out _ ((HB3.out.trans ((below_drewN w3 _).mono HL3.out)).alloc HL3.out _)) HTN.out (by rfl) HT1.out ?_; intro v4 w4 o4 g4 h4)
            | (refine step_gapp cuOk (by rfl) _ _ (by rfl) rfl _ _ (by rfl) w o4 _ _ _ _ (HTD.out _ o4.below) HTE.out (by rfl) HT3.out ?_; intro v5 w5 o5 g5 h5))
          have HO5 := Lib.hid o5
          clear o4 g4 h4 o5 g5 h5
          go_wp2_with fail
          go_ret2
          rw [← HFF.out]
          exact ⟨_, rfl, HO5.out⟩
        · unfold actW at HF
          simp only [HPL.out, HT.out] at HF
          have hpo2 : PosOk p := by rcases hpo with h | h | h <;> first | omega | exact h
          have e3 : decide (p < 0) = false := by unfold PosOk at hpo2; simp; omega
          have e4 : decide (1099511627776 < p) = false := by unfold PosOk at hpo2; simp; omega
          clear hpo hpo2
          go_enter Try.func14, Try.ntmps14
          go_upto_region 3 with (go_at_call 22; refine HK.out.mono ?_; rintro e w1 ⟨rfl, hb1⟩)
          have HB1 := Lib.hid hb1
          clear hb1
          have HUF2 := Lib.hid (HUF.out w1 HB1.out)
          have HB2 := Lib.hid (HB1.out.alloc HB1.out.size (.cells #[] 39))
          have HE2 : Hid (COwn w (w1.alloc (.cells #[] 39)) (.slice (some ⟨w1.heap.size, 0, none⟩) 0 0) []) := Lib.hid (GOwn.empty HB1.out rfl)
          go_upto_region 5 with (first
            | (go_at_call 20; refine HUF2.out.mono ?_; rintro e w2 ⟨rfl, rfl⟩)
            | (at_builtin; refine wp_gapp cuOk rfl _ _ rfl rfl _ _ rfl w HE2.out _ _ _ ts (HRW.out.later HB2.out) HN.out rfl HLN.out ?_; intro v3 w3 o3 g3 h3; have HO3 : Hid (COwn w w3 v3 ts) := Lib.hid o3; clear o3 g3 h3))
          clear HUF HUF2 HK HB1 HB2 HE2 HLN
          obtain ⟨g, cap, rfl, hcap, hcm3, hg1, hg2⟩ := HO3.out.at HN.out (by omega)
          have HTB := Lib.hid (HO3.out.2.2 t (List.mem_of_getElem? HT.out))
          obtain ⟨a1, c1, f1, r1⟩ := HO3.out.row_n cuOk HN.out
          cases f1
          obtain ⟨b1, q1, f2, p0, p1, p2⟩ := r1.c3 HT.out
          cases f2
          have fz := fun j => HO3.out.frozenAt HN.out j
          have hcm2 : cap ≤ 9223372036854775807 := by unfold maxLen at hcm3; omega
          have HOW := Lib.hid (GOwn.stored cuOk HO3.out HN.out HT.out (k := 1) (t' := t.moved p) (v := .int .i64 (max t.pos p)) (by decide) rfl (by have h1 : t.B := HTB.out; have h2 : W64 p := HKP.out.2; show Cu.B (t.moved p); unfold Cu.B W64 at h1; unfold W64 at h2; unfold Cu.B W64 Cu.moved; simp only; omega))
          simp only [Nat.zero_add] at p0 p1 p2
          clear r1 p0
          go_wp2_with fail
          go_ret2
          rw [← HF.out]
          exact ⟨_, rfl, HOW.out⟩
        · unfold actW at HF
          simp only [HPL.out, HT.out] at HF
          clear hpo
          go_enter Try.func14, Try.ntmps14
          go_upto_region 3 with (go_at_call 22; refine HK.out.mono ?_; rintro e w1 ⟨rfl, hb1⟩)
          have HB1 := Lib.hid hb1
          clear hb1
          have HUF2 := Lib.hid (HUF.out w1 HB1.out)
          have HB2 := Lib.hid (HB1.out.alloc HB1.out.size (.cells #[] 39))
          have HE2 : Hid (COwn w (w1.alloc (.cells #[] 39)) (.slice (some ⟨w1.heap.size, 0, none⟩) 0 0) []) := Lib.hid (GOwn.empty HB1.out rfl)
          go_upto_region 5 with (first
            | (go_at_call 20; refine HUF2.out.mono ?_; rintro e w2 ⟨rfl, rfl⟩)
            | (at_builtin; refine wp_gapp cuOk rfl _ _ rfl rfl _ _ rfl w HE2.out _ _ _ ts (HRW.out.later HB2.out) HN.out rfl HLN.out ?_; intro v3 w3 o3 g3 h3; have HO3 : Hid (COwn w w3 v3 ts) := Lib.hid o3; clear o3 g3 h3))
          clear HUF HUF2 HK HB1 HB2 HE2 HLN
          obtain ⟨g, cap, rfl, hcap, hcm3, hg1, hg2⟩ := HO3.out.at HN.out (by omega)
          have HTB := Lib.hid (HO3.out.2.2 t (List.mem_of_getElem? HT.out))
          obtain ⟨a1, c1, f1, r1⟩ := HO3.out.row_n cuOk HN.out
          cases f1
          obtain ⟨b1, q1, f2, p0, p1, p2⟩ := r1.c3 HT.out
          cases f2
          have fz := fun j => HO3.out.frozenAt HN.out j
          have hcm2 : cap ≤ 9223372036854775807 := by unfold maxLen at hcm3; omega
          have HOW := Lib.hid (GOwn.stored cuOk HO3.out HN.out HT.out (k := 2) (t' := t.turned b) (v := .bool b) (by decide) rfl HTB.out)
          simp only [Nat.zero_add] at p0 p1 p2
          clear r1 p0
          go_wp2_with fail
          go_ret2
          rw [← HF.out]
          exact ⟨_, rfl, HOW.out⟩
end Go.Proofs.Ytcddbffeejijpaa
