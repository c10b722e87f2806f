/- The law 'ScanGaps', walked. -/
import Derived.Test.YtabeleihpnnadaaScK
import Derived.Test.YtabeleihpnnadaaScL
import Derived.Deep.RegionLaw
namespace Go.Proofs.Ytabeleihpnnadaa
open Go.RowKit Go.Proofs
set_option linter.unusedVariables false
set_option linter.unusedSimpArgs false
set_option linter.unnecessarySimpa false

theorem few_sbG {n : Nat} {rows : List (List UInt8)} (hn : rows.length = n) (h : n ≤ 40 ∧ ∀ l ∈ rows, l.length ≤ 1500) : SB rows := ⟨by omega, fun l hl => by have := h.2 l hl; omega⟩
theorem roT_ok : (rawT 1 34 22).Ok := rawT_ok (by decide) Try.underlying22 info_by (by decide) rfl
theorem SRow.drop {w : World} {a : Option Addr} {cap : Nat} {rows : List (List UInt8)} (h : SRow w a cap rows) {lo : Nat} (hl : lo ≤ rows.length) : SRow w (cutA 1 a lo cap) (cap - lo) (rows.drop lo) := by
  refine ⟨by have := h.1; simp; omega, by have := h.2.1; omega, fun e => ?_, fun x hx i l he => ?_⟩
  · unfold cutA at e
    split at e
    · omega
    · have := h.2.2.1 (by simpa using e); omega
  · rw [List.getElem?_drop] at he
    obtain ⟨b, off, a1, c1, ha, c, r⟩ := h.at he
    have hi := (List.getElem?_eq_some_iff.1 he).1
    have h1 := h.1
    unfold cutA at hx
    rw [if_neg (by omega), ha] at hx
    simp only [Option.map_some, Option.some.injEq, Nat.mul_one] at hx
    have e0 : (⟨b, off, none⟩ : Addr).add lo = ⟨b, off + lo, none⟩ := by unfold Addr.add; split <;> simp_all
    rw [e0] at hx
    subst hx
    exact ⟨rfl, a1, c1, by rw [← c]; congr 2; simp only; omega, r⟩
/-- The first j of X, then Y's. -/
def mixL {α : Type} (X Y : List α) (j : Nat) : List α := X.take j ++ Y.drop j
theorem mixL_zero {α : Type} (X Y : List α) : mixL X Y 0 = Y := by simp [mixL]
theorem mixL_all {α : Type} {X Y : List α} {n : Nat} (hx : X.length = n) (hy : Y.length = n) : mixL X Y n = X := by
  unfold mixL; rw [List.take_of_length_le (by omega), List.drop_of_length_le (by omega), List.append_nil]
theorem mixL_at {α : Type} {X Y : List α} {n j : Nat} (hx : X.length = n) (hy : Y.length = n) (hj : j < n) : (mixL X Y j)[j]? = Y[j]? := by
  unfold mixL
  rw [List.getElem?_append_right (by rw [List.length_take]; omega), List.length_take, Nat.min_eq_left (by omega), Nat.sub_self, List.getElem?_drop]; rfl
theorem mixL_set {α : Type} {X Y : List α} {n j : Nat} (hx : X.length = n) (hy : Y.length = n) {v : α} (hv : X[j]? = some v) : (mixL X Y j).set j v = mixL X Y (j + 1) := by
  obtain ⟨hj, rfl⟩ := List.getElem?_eq_some_iff.1 hv
  unfold mixL
  rw [List.set_append_right _ _ (by rw [List.length_take]; omega), List.length_take, Nat.min_eq_left (by omega), Nat.sub_self, List.take_succ_eq_append_getElem hj, List.drop_eq_getElem_cons (by omega : j < Y.length), List.set_cons_zero, List.append_assoc]; rfl
theorem rowsP_app {sp : Nat} {A B : List En} {j : Nat} (hj : j < sp) : (rowsP sp (A ++ B))[j]? = some (rowL (dealE (sp : Int) A (j : Int)) ++ rowL (dealE (sp : Int) B (j : Int))) := by
  rw [rowsP_get hj, dealE_app, rowL_app]
theorem gap_rising {F k : Nat} {A B : List En} (hA : Runs F A) (hB : Runs (F + k + 1) B) (hk : A.length = k) : Rising (A ++ B) := by
  rw [Rising, List.pairwise_append]
  refine ⟨hA.rising, hB.rising, fun a ha b hb => ?_⟩
  obtain ⟨i, hi⟩ := List.mem_iff_getElem?.1 ha
  obtain ⟨j, hj⟩ := List.mem_iff_getElem?.1 hb
  have h1 := hA i a hi
  have h2 := hB j b hj
  have h3 := (List.getElem?_eq_some_iff.1 hi).1
  omega
theorem gap_pick {F k : Nat} {A B : List En} (hA : Runs F A) (hB : Runs (F + k + 1) B) (hk : A.length = k) (s : Int) : pickE (A ++ B) s = (if (F : Int) ≤ s then A[(s - F).toNat]? else none).or (if ((F + k + 1 : Nat) : Int) ≤ s then B[(s - ((F + k + 1 : Nat) : Int)).toNat]? else none) := by
  rw [pick_app, hA.pick, hB.pick]
theorem gap_merge {F k : Nat} {A B : List En} (hA : Runs F A) (hB : Runs (F + k + 1) B) (hk : A.length = k) (hes : ∀ e ∈ A ++ B, e.right = true) {sp : Nat} (hs : 1 ≤ sp) :
    mergeS (rowsP sp (A ++ B)) F = A ∧ mergeS (rowsP sp (A ++ B)) ((F + k + 1 : Nat) : Int) = B ∧ mergeS (rowsP sp (A ++ B)) ((F : Int) + k) = [] := by
  simp only [mergeS_eq, ents_rows hes]
  refine ⟨mergeE_take (fun i e he => ?_) ?_, mergeE_take (fun i e he => ?_) ?_, mergeE_none ?_⟩
  all_goals rw [pick_dealt (by omega), gap_pick hA hB hk]
  · rw [if_pos (by omega), show ((F : Int) + i - F).toNat = i by omega, he]; rfl
  · rw [if_pos (by omega), show ((F : Int) + (A.length : Nat) - F).toNat = A.length by omega, List.getElem?_eq_none (Nat.le_refl _), if_neg (by omega)]; rfl
  · rw [if_pos (by omega), List.getElem?_eq_none (by omega), if_pos (by omega), show (((F + k + 1 : Nat) : Int) + i - ((F + k + 1 : Nat) : Int)).toNat = i by omega, he]; rfl
  · rw [if_pos (by omega), List.getElem?_eq_none (by omega), if_pos (by omega), show (((F + k + 1 : Nat) : Int) + (B.length : Nat) - ((F + k + 1 : Nat) : Int)).toNat = B.length by omega, List.getElem?_eq_none (Nat.le_refl _)]; rfl
  · rw [if_pos (by omega), show ((F : Int) + (k : Nat) - F).toNat = k by omega, List.getElem?_eq_none (by omega), if_neg (by omega)]; rfl
theorem gap_torn {F k : Nat} {A B : List En} (hA : Runs F A) (hB : Runs (F + k + 1) B) (hk : A.length = k) (hes : ∀ e ∈ A ++ B, e.right = true) {sp : Nat} (hs : 1 ≤ sp) : tornS (rowsP sp (A ++ B)) ((F : Int) + k) = decide (0 < B.length) := by
  refine torn_rowsB hs (gap_rising hA hB hk) hes _ ?_
  rw [decide_eq_true_eq]
  constructor
  · intro h
    refine ⟨B[0], List.mem_append.2 (.inr (List.getElem_mem h)), ?_⟩
    have := hB 0 _ (List.getElem?_eq_getElem h)
    omega
  · rintro ⟨e, he, h2⟩
    rcases List.mem_append.1 he with he | he
    · obtain ⟨i, hi⟩ := List.mem_iff_getElem?.1 he
      have h3 := hA i e hi
      have h4 := (List.getElem?_eq_some_iff.1 hi).1
      omega
    · exact List.length_pos_iff.2 (fun c => by rw [c] at he; cases he)
set_option maxRecDepth 100000 in
set_option maxHeartbeats 12800000 in
theorem scanGaps_walk (a : Option Addr) (n cap : Nat) (ps : List (List UInt8)) (from_ sp_ gap : Int) (w : World) (hr : SRow w a cap ps) (hn : ps.length = n) :
    Calls Try.prog 7 #[.slice a n cap, .int .i64 from_, .int .i64 sp_, .int .i64 gap] w fun x w' => x = .returned (.bool true) ∧ Below w.heap.size w w' := by
  have HR := Lib.hid hr
  have HN := Lib.hid hn
  have HFEW := Lib.hid (few_any a n cap ps w hr hn)
  have hcap := hr.1
  have hcm := hr.2.1
  have hac := hr.2.2.1
  unfold maxLen at hcm
  rw [hn] at hcap
  clear hr hn
  obtain ⟨A', hA'⟩ : ∃ z, bits .and .i64 from_ 65535 = z := ⟨_, rfl⟩
  have hAr : 0 ≤ A' ∧ A' ≤ 65535 := by rw [← hA']; exact and_range from_ 65535 (by decide)
  obtain ⟨S, hS⟩ : ∃ z, bits .and .i64 sp_ 3 = z := ⟨_, rfl⟩
  have hSr : 0 ≤ S ∧ S ≤ 3 := by rw [← hS]; exact and_range sp_ 3 (by decide)
  obtain ⟨D, hD⟩ : ∃ z, bits .and .i64 gap 255 = z := ⟨_, rfl⟩
  have hDr : 0 ≤ D ∧ D ≤ 255 := by rw [← hD]; exact and_range gap 255 (by decide)
  obtain ⟨F, hF⟩ : ∃ F : Nat, 1 + A' = (F : Int) := ⟨(1 + A').toNat, by omega⟩
  obtain ⟨sp, hsp⟩ : ∃ F : Nat, 1 + S = (F : Int) := ⟨(1 + S).toNat, by omega⟩
  have hF1 : 1 ≤ F ∧ F ≤ 65536 := by omega
  have hs1 : 1 ≤ sp ∧ sp ≤ 4 := by omega
  have HKN := Lib.hid (fun W => known11_any W)
  go_enter Try.func7, Try.ntmps7
  go_wp2_with fail
  refine HFEW.out.mono ?_
  rintro e w1 ⟨B, rfl, rfl, hB⟩
  cases B with
  | false =>
    clear hB
    go_wp2_with fail
    refine (HKN.out w).mono ?_
    rintro e w2 ⟨rfl, hb⟩
    have HB := Lib.hid hb
    clear hb
    go_wp2_with fail
    go_ret
    exact ⟨rfl, HB.out⟩
  | true =>
    have HSB := Lib.hid (few_sbG HN.out (hB rfl))
    have hn40 := (hB rfl).1
    clear hB
    by_cases hn0 : n = 0
    · have hq0 : ((n : Int) == 0) = true := by simp [hn0]
      clear hn0
      go_wp2_with fail
      refine (HKN.out w).mono ?_
      rintro e w2 ⟨rfl, hb⟩
      have HB := Lib.hid hb
      clear hb
      go_wp2_with fail
      go_ret
      exact ⟨rfl, HB.out⟩
    have hq0 : ((n : Int) == 0) = false := by simp; omega
    obtain ⟨k, hk⟩ : ∃ k : Nat, D % (n : Int) = (k : Int) := ⟨(D % (n : Int)).toNat, by have := Int.emod_nonneg D (show (n : Int) ≠ 0 by omega); omega⟩
    have hkn : k < n := by have := Int.emod_lt_of_pos D (show 0 < (n : Int) by omega); omega
    go_upto_region 5 with fail
    rw [hk]
    clear hk hD hA' hS hF hsp
    have HSL1 := fun W => run_slG roT_ok (W := W) (a := a) (n := n) (cap := cap) (hi := k) (S := 22) rfl hac (by omega) (by omega)
    have HSL2 : ∀ W, (Instr.slice 22 (.slice a n cap) (some (.int .i64 ((k : Int) + 1))) none none).run Try.prog W = .ok (.slice (cutA 1 a (k + 1) cap) (n - (k + 1)) (cap - (k + 1))) W := fun W => by
      have h := run_slG_end roT_ok (W := W) (a := a) (n := n) (cap := cap) (lo := k + 1) (S := 22) rfl (by omega) (by omega)
      rw [show (k : Int) + 1 = ((k + 1 : Nat) : Int) by omega]; exact h
    have HRT := Lib.hid (HR.out.take k)
    have HRTL : Hid ((ps.take k).length = k) := Lib.hid (by rw [List.length_take, HN.out]; omega)
    have HRTB : Hid (SB (ps.take k)) := Lib.hid ⟨by rw [HRTL.out]; omega, fun l hl => HSB.out.2 l (List.mem_of_mem_take hl)⟩
    have HRD := Lib.hid (HR.out.drop (lo := k + 1) (by rw [HN.out]; omega))
    have HRDB : Hid (SB (ps.drop (k + 1))) := Lib.hid ⟨by rw [List.length_drop, HN.out]; omega, fun l hl => HSB.out.2 l (List.mem_of_mem_drop hl)⟩
    obtain ⟨a7, ha7⟩ : ∃ x, cutA 1 a (k + 1) cap = x := ⟨_, rfl⟩
    obtain ⟨n7, hn7⟩ : ∃ x, n - (k + 1) = x := ⟨_, rfl⟩
    obtain ⟨c7, hc7⟩ : ∃ x, cap - (k + 1) = x := ⟨_, rfl⟩
    have HRDL : Hid ((ps.drop (k + 1)).length = n7) := Lib.hid (by rw [List.length_drop, HN.out, hn7])
    rw [ha7, hn7, hc7] at HSL2
    rw [ha7, hc7] at HRD
    obtain ⟨A, hA⟩ : ∃ x, ensF F (ps.take k) = x := ⟨_, rfl⟩
    have HAL : Hid (A.length = k) := Lib.hid (by rw [← hA, ensF_len, HRTL.out])
    have HAU : Hid (Runs F A) := Lib.hid (by rw [← hA]; exact Runs.ens _ _)
    have HAR : Hid (∀ e ∈ A, e.right = true) := Lib.hid (by rw [← hA]; exact ensF_right hF1.1 (by rw [HRTL.out]; omega))
    have HAS : Hid (∀ e ∈ A, e.data.length ≤ 40) := Lib.hid (by rw [← hA]; exact ensF_short)
    obtain ⟨E, hE⟩ : ∃ x, ensF (F + k + 1) (ps.drop (k + 1)) = x := ⟨_, rfl⟩
    have HEL : Hid (E.length = n7) := Lib.hid (by rw [← hE, ensF_len, HRDL.out])
    have HEU : Hid (Runs (F + k + 1) E) := Lib.hid (by rw [← hE]; exact Runs.ens _ _)
    have HEER : Hid (∀ e ∈ E, e.right = true) := Lib.hid (by rw [← hE]; exact ensF_right (by omega) (by rw [HRDL.out]; omega))
    have HES : Hid (∀ e ∈ E, e.data.length ≤ 40) := Lib.hid (by rw [← hE]; exact ensF_short)
    obtain ⟨F2, hF2⟩ : ∃ x, F + k + 1 = x := ⟨_, rfl⟩
    rw [hF2] at hE
    have hF2i : (F : Int) + (k : Int) + 1 = (F2 : Int) := by omega
    have HRW1 := Lib.hid (rows_any a k cap F sp (ps.take k) w HRT.out HRTL.out HRTB.out hF1.1 (by omega) hs1.1 hs1.2)
    have HRW2 := Lib.hid (fun W (hb : Below w.heap.size w W) => rows_any a7 n7 c7 F2 sp (ps.drop (k + 1)) W (HRD.out.later hb) HRDL.out HRDB.out (by omega) (by omega) hs1.1 hs1.2)
    unfold RowsP at HRW1 HRW2
    rw [hA] at HRW1
    rw [hE] at HRW2
    have hn7i : (n : Int) - (k : Int) - 1 = (n7 : Int) := by omega
    clear ha7 hc7 hA hE
    go_wp2_with fail
    refine HRW1.out.mono ?_
    rintro e W1 ⟨g, rfl, o1⟩
    have HRW := Lib.hid (HRW2.out W1 o1.below)
    have HO1 := Lib.hid o1
    clear o1 HSL1 HRW1 HRW2
    go_wp2_with fail
    refine HRW.out.mono ?_
    rintro e w2 ⟨g2, rfl, o2⟩
    have HO2 := Lib.hid o2
    have HOZ : Hid (SOwnZ (fun b => b < W1.heap.size ∨ w2.heap.size ≤ b) w w2 g sp (rowsP sp A)) := Lib.hid ((HO1.out.zoned (fun q hq => .inl hq)).later o2.below)
    have hsz := o2.below.size
    have hg1 := HO1.out.lt.2
    clear o2 HSL2 HRW
    obtain ⟨X, hX⟩ : ∃ X, rowsP sp (A ++ E) = X := ⟨_, rfl⟩
    have HXL : Hid (X.length = sp) := Lib.hid (by rw [← hX, rowsP_len])
    have HXG : Hid (∀ j, j < sp → X[j]? = some (rowL (dealE (sp : Int) A (j : Int)) ++ rowL (dealE (sp : Int) E (j : Int)))) := Lib.hid (fun j hj => by rw [← hX]; exact rowsP_app hj)
    have HX := Lib.hid hX
    clear hX
    go_wp2_with fail
    go_loopw [12] (fun i wr => ∃ (j : Nat), i = .int .i64 j ∧ j ≤ sp ∧ SOwnZ (fun b => b < W1.heap.size ∨ w2.heap.size ≤ b) w wr g sp (mixL X (rowsP sp A) j) ∧ Gr W1 w2 wr) (fun i _ => sp - (intOf i).toNat)
    case atStart => exact ⟨0, rfl, by omega, by rw [mixL_zero]; exact HOZ.out, Gr.refl _ _⟩
    case round =>
      obtain ⟨j, rfl, hj, o, hgr⟩ := hrel
      have HO := Lib.hid o
      have HG := Lib.hid hgr
      clear o hgr
      by_cases hjs : (j : Int) < sp
      · have hjs2 : decide ((j : Int) < sp) = true := decide_eq_true hjs
        have hjn : j < sp := by omega
        have hm1 := mixL_at HXL.out (rowsP_len sp A) hjn
        rw [rowsP_get hjn] at hm1
        have HMS := Lib.hid (mixL_set (j := j) HXL.out (rowsP_len sp A) (HXG.out j hjn))
        have HRL : Hid ((rowL (dealE (sp : Int) A (j : Int))).length ≤ 6200) := Lib.hid (by
          have h1 := dealE_short (sp := (sp : Int)) (es := A) (k := (j : Int)) HAS.out
          have h2 := HAL.out
          omega)
        have HRL2 : Hid ((rowL (dealE (sp : Int) E (j : Int))).length ≤ 6200) := Lib.hid (by
          have h1 := dealE_short (sp := (sp : Int)) (es := E) (k := (j : Int)) HES.out
          have h2 := HEL.out
          omega)
        have hm2 := rowsP_get (es := E) hjn
        have HD := Lib.hid (HO.out.later (Below.refl wr.heap.size wr).drew)
        obtain ⟨u, hu, hfz, ou, hune⟩ := HD.out.at hm1
        have hun : ∀ q, u.ownBlock = some q → q < W1.heap.size ∨ w2.heap.size ≤ q := fun q hq => HD.out.zone_at hm1 hu hq
        obtain ⟨b2, o2, a5, c5, he2, q0, R5⟩ := (HO2.out.srow_kept (wr := wr.drew) (by omega) HG.out.2).at hm2
        cases he2
        obtain ⟨R, hR⟩ : ∃ l, rowL (dealE (sp : Int) A (j : Int)) = l := ⟨_, rfl⟩
        obtain ⟨M, hM⟩ : ∃ l, rowL (dealE (sp : Int) E (j : Int)) = l := ⟨_, rfl⟩
        rw [hR, hM] at HMS
        rw [hR] at HRL hm1 ou
        rw [hM] at HRL2 R5 q0
        obtain ⟨N5, hN5⟩ : ∃ x, M.length = x := ⟨_, rfl⟩
        rw [hN5] at q0
        obtain ⟨L9, hL9⟩ : ∃ x, (R ++ M).length = x := ⟨_, rfl⟩
        have hu2 : wr.cell? ⟨g, j, none⟩ = some u := hu
        have q02 : wr.cell? _ = _ := q0
        simp only [Nat.zero_add] at q02
        have HM1 := Lib.hid hm1
        have HD' := Lib.hid HD.out
        have HU := Lib.hid hu
        have HOU := Lib.hid ou
        have HUNE := Lib.hid hune
        have HUN := Lib.hid hun
        have HR5 := Lib.hid R5
        have HN5 := Lib.hid hN5
        have HLL : Hid (R.length + M.length ≤ 140737488355328) := Lib.hid (by have := HRL.out; have := HRL2.out; omega)
        have HL9 := Lib.hid hL9
        clear hm1 hm2 HD hu hfz ou hune hun q0 R5 hR hM hN5 hL9 HRL HRL2
        go_upto_region 10 with fail
        go_region_law (refine step_bapp (by rfl) (.tmp 61) (.tmp 65) (by rfl) u R (by rfl) w HOU.out a5 c5 N5 M HR5.out HN5.out (by rfl) HLL.out ?_; intro v9 w9 o9 gr hb9; obtain ⟨hc9, hf9⟩ := HD'.out.grown_at HM1.out HU.out gr HUNE.out; obtain ⟨a9, c9, rfl, -⟩ := o9.row_n HL9.out)
        all_goals
          have HP := Lib.hid (HD'.out.put HM1.out HU.out gr o9 (by rcases hb9 with h | h; exact .inl h; exact .inr (.inr h)) (.inr HG.out.1))
          rw [HMS.out] at HP
          have HG9 : Hid (Gr W1 w2 (w9.setCell ⟨g, j, none⟩ (.slice a9 L9 c9))) := Lib.hid ⟨by
            have h1 := gr.size
            have h2 := HG.out.1
            have h3 : wr.drew.heap.size = wr.heap.size := rfl
            simp; omega, fun b h1 h2 => by
            have h3 : (w9.setCell ⟨g, j, none⟩ (.slice a9 L9 c9)).heap[b]? = w9.heap[b]? := setCell_heap_other _ (by omega) _ _
            rw [h3, gr.block b (Nat.lt_of_lt_of_le h1 HG.out.1) (fun e => by
              have := HUN.out b e.symm; omega)]
            exact HG.out.2 b h1 h2⟩
          clear o9 gr hb9 hc9 hf9
          go_wp2_with fail
          go_roundw
          case rel => exact ⟨j + 1, by go_num, by omega, HP.out, HG9.out⟩
          case measure => simp [intOf]; omega
      · have hjs2 : decide ((j : Int) < sp) = false := decide_eq_false hjs
        have hjE : j = sp := by omega
        have HSO := Lib.hid (HO.out.srow (by omega))
        have HBO := Lib.hid HO.out.below
        rw [hjE, mixL_all HXL.out (rowsP_len sp A)] at HSO
        have HER : Hid (∀ e ∈ A ++ E, e.right = true) := Lib.hid (fun e he => by
          rcases List.mem_append.1 he with he | he
          · exact HAR.out e he
          · exact HEER.out e he)
        have HXB : Hid (SB X) := Lib.hid (by
          rw [← HX.out]
          refine rowsP_SB hs1.2 (by rw [List.length_append, HAL.out, HEL.out]; omega) (fun e he => ?_)
          rcases List.mem_append.1 he with he | he
          · exact HAS.out e he
          · exact HES.out e he)
        have HGM := Lib.hid (gap_merge HAU.out HEU.out HAL.out HER.out hs1.1)
        have HGT := Lib.hid (gap_torn HAU.out HEU.out HAL.out HER.out hs1.1)
        rw [HX.out, HEL.out] at HGT
        rw [HX.out, hF2] at HGM
        obtain ⟨w5, hw5⟩ : ∃ W, W = wr := ⟨_, rfl⟩
        subst hw5
        have hkk : ((k : Int) == (k : Int)) = true := by simp
        have hnn : ((n7 : Int) == (n7 : Int)) = true := by simp
        have h00 : ((0 : Int) == 0) = true := by simp
        have hlt : decide ((k : Int) < (n : Int) - 1) = decide (0 < n7) := by
          by_cases c : 0 < n7
          · rw [decide_eq_true c, decide_eq_true (by omega)]
          · rw [decide_eq_false c, decide_eq_false (by omega)]
        obtain ⟨T, hT⟩ : ∃ T, decide (0 < n7) = T := ⟨_, rfl⟩
        rw [hT] at hlt HGT
        have hTT : (T == T) = true := by simp
        clear HO HG hjE hT
        go_wp2_with fail
        refine (merge_any _ sp sp X (F : Int) w5 HSO.out HXL.out HXB.out (by omega) (by omega)).mono ?_
        rw [HGM.out.1]
        rintro e w6 ⟨v6, rfl, o6⟩
        obtain ⟨a6, c6, rfl⟩ := o6.val enT_ok HAL.out
        have HS6 := Lib.hid (HSO.out.later o6.below)
        have HB6 := Lib.hid (HBO.out.trans (o6.below.mono HBO.out.size))
        clear o6
        go_wp2_with fail
        refine (merge_any _ sp sp X (F2 : Int) w6 HS6.out HXL.out HXB.out (by omega) (by omega)).mono ?_
        rw [HGM.out.2.1]
        rintro e w7 ⟨v7, rfl, o7⟩
        obtain ⟨a8, c8, rfl⟩ := o7.val enT_ok HEL.out
        have HS7 := Lib.hid (HS6.out.later o7.below)
        have HB7 := Lib.hid (HB6.out.trans (o7.below.mono HB6.out.size))
        clear o7
        go_wp2_with fail
        refine (merge_any _ sp sp X ((F : Int) + (k : Int)) w7 HS7.out HXL.out HXB.out (by omega) (by omega)).mono ?_
        rw [HGM.out.2.2]
        rintro e w8 ⟨v8, rfl, o8⟩
        obtain ⟨a10, c10, rfl⟩ := o8.val (n := 0) enT_ok rfl
        have HS8 := Lib.hid (HS7.out.later o8.below)
        have HB8 := Lib.hid (HB7.out.trans (o8.below.mono HB7.out.size))
        clear o8
        go_wp2_with fail
        refine (torn_any _ sp sp X ((F : Int) + (k : Int)) w8 HS8.out HXL.out HXB.out).mono ?_
        rw [HGT.out]
        rintro e w9 ⟨rfl, b9⟩
        have HB9 := Lib.hid (HB8.out.trans (b9.mono HB8.out.size))
        clear b9
        go_wp2_with fail
        refine (HKN.out w9).mono ?_
        rintro e w10 ⟨rfl, b10⟩
        have HB10 := Lib.hid (HB9.out.trans (b10.mono HB9.out.size))
        clear b10
        go_wp2_with fail
        go_ret
        exact ⟨rfl, HB10.out⟩
end Go.Proofs.Ytabeleihpnnadaa
