/- Maps of objects: the program's own eight functions. -/
import Derived.Test.YtikbhekcpddoeaaOmPlain
import Derived.Test.YtikbhekcpddoeaaGz
import Derived.Test.YtikbhekcpddoeaaRv
import Derived.Test.YtikbhekcpddoeaaBy
import Derived.Test.YtikbhekcpddoeaaInts
import Derived.Test.YtikbhekcpddoeaaPut
import Derived.Laws.CopyOwn
import Derived.Deep.RegionWith
import Derived.BigQuiet
import Derived.Deep.DeepCutAuto
namespace Go.Proofs.Ytikbhekcpddoeaa
open Go.RowKit Go.Proofs
set_option linter.unusedVariables false
set_option linter.unusedSimpArgs false
set_option linter.unnecessarySimpa false

/-! ### a row of one's own, copied into -/
section
variable {α : Type} {R : RT α} {ops : Array Oper} {rest : List Oper} {o : Oper} {a : Act} {Q : Exit → Act → World → Prop}
theorem wp_gcopy (hR : R.Ok) (hsz : R.sz = 1) {w : World} (hgd : o.guard = none) (d s : Operand) {S : TypeId} (ho : o.op = .call { callee := .builtin .copy, args := #[d, s], argTypes := #[S, S] }) (hS : S = R.S)
    (W0 : World) (g n cap : Nat) (ts : List α) (hown : GOwn R W0 w (.slice (some ⟨g, 0, none⟩) n cap) ts) (hn : ts.length = n) (ad : Option Addr) (m c2 : Nat) (us : List α) (hr : GRow R w ad c2 us) (hm : us.length = m)
    (hd : a.eval d = .slice (some ⟨g, 0, none⟩) n cap) (hs : a.eval s = .slice ad m c2)
    (h : ∀ w' v, GOwn R W0 w' (.slice (some ⟨g, 0, none⟩) n cap) (us.take n ++ ts.drop m) → wpList Try.prog ops Q rest (a.put o.dst v) w') : wpList Try.prog ops Q (o :: rest) a w := by
  subst hS hn hm
  obtain ⟨i0, z, hi, hz0, hz1, hz2, hz3⟩ := hR.info
  rcases hown.1.2 with ⟨hv, hz⟩ | ⟨g', cap', cur, hv, hb, hg, hnc, hc, hss, ht⟩
  · cases hv
  · obtain ⟨rfl, rfl⟩ : g = g' ∧ cap = cap' := by simp only [Value.slice.injEq, Option.some.injEq, Addr.mk.injEq, and_true, true_and] at hv; exact hv
    have hl0 : (us.take ts.length).length = Nat.min us.length ts.length := by rw [List.length_take, Nat.min_comm]
    have hcl : ((us.take ts.length).flatMap R.V).length = Nat.min us.length ts.length := by rw [flat_lenG hR, hsz, Nat.mul_one, hl0]
    have hmn : Nat.min us.length ts.length ≤ ts.length := Nat.min_le_right _ _
    have hmm : Nat.min us.length ts.length ≤ us.length := Nat.min_le_left _ _
    rw [hsz, Nat.mul_one] at hss ht
    have h5 : cur.toList.length = cap := by rw [Array.length_toList, hss]
    refine wpList_copy_splice hgd d s R.S R.S ho R.E hR.und (by rw [hi]; simp [hz1, hsz]) _ ad _ cap us.length c2 hd hs g 0 cur.toList R.E (by simpa using hg) ((us.take ts.length).flatMap R.V) hcl ?_ ?_ (fun v hv => flat_oneG hR v hv) W0.heap.size W0 hown.2.1 hb ?_
    · intro h0
      refine ⟨rfl, ?_⟩
      cases ad with
      | none =>
        obtain ⟨rfl, _⟩ := hr.none_nil
        rw [hcl] at h0; simp at h0
      | some x => exact ⟨x, rfl, fun j v hv => (hr.take ts.length).flat hR hv⟩
    · rw [hcl, h5]
      have h6 : Nat.min us.length ts.length ≤ ts.length := hmn
      rw [Nat.zero_add]; exact Nat.le_trans h6 hnc
    · intro w' hg' hb'
      have e9 : (us.take ts.length ++ ts.drop us.length).length = ts.length := by simp only [List.length_append, List.length_take, List.length_drop]; omega
      refine h w' _ ⟨⟨?_, .inr ⟨g, cap, _, by rw [e9], hb, hg'.out, ?_, hc, ?_, ?_⟩⟩, hb', fun t ht => ?_⟩
      · rw [flat_lenG hR]
      · simp only [List.length_append, List.length_take, List.length_drop]; omega
      · rw [hsz, Nat.mul_one, List.size_toArray, length_splice _ _ _ (by rw [hcl, Nat.zero_add, h5]; exact Nat.le_trans hmn hnc), h5]
      · rw [hsz, Nat.mul_one]
        have e1 : (us.take ts.length ++ ts.drop us.length).length = ts.length := by simp only [List.length_append, List.length_take, List.length_drop]; omega
        rw [e1]
        unfold splice
        have e2 : ts.drop us.length = ts.drop (Nat.min us.length ts.length) := by
          by_cases c : us.length ≤ ts.length
          · rw [show Nat.min us.length ts.length = us.length from Nat.min_eq_left c]
          · rw [show Nat.min us.length ts.length = ts.length from Nat.min_eq_right (by omega), List.drop_of_length_le (by omega), List.drop_of_length_le (by omega)]
        rw [List.flatMap_append, e2]
        simp only [List.take_zero, List.nil_append, Nat.zero_add]
        rw [List.take_append, hcl, List.take_of_length_le (by rw [hcl]; omega)]
        congr 1
        rw [← List.drop_take, ht]
        have e3 := flat_takeG hR ts (Nat.min us.length ts.length)
        have e4 : (ts.flatMap R.V) = (ts.flatMap R.V).take (Nat.min us.length ts.length) ++ (ts.drop (Nat.min us.length ts.length)).flatMap R.V := by
          rw [hsz, Nat.mul_one] at e3
          rw [e3, ← List.flatMap_append, List.take_append_drop]
        have e5 : ((ts.flatMap R.V).take (Nat.min us.length ts.length)).length = Nat.min us.length ts.length := by rw [List.length_take, flat_lenG hR, hsz]; omega
        conv => lhs; rw [e4]
        rw [List.drop_append_of_le_length (by rw [e5]; exact Nat.le_refl _), List.drop_of_length_le (by rw [e5]; exact Nat.le_refl _), List.nil_append]
      · rcases List.mem_append.1 ht with ht | ht
        · exact hr.2.2.2.1 t (List.mem_of_mem_take ht)
        · exact hown.2.2 t (List.mem_of_mem_drop ht)
end

/-! ### numbers -/
set_option maxHeartbeats 800000 in
theorem oknown_any (x : Int) (w : World) : Calls Try.prog 23 #[.int .i64 x] w fun e w' => e = .returned (.bool (decide (stOk x))) ∧ w = w' := by
  rcases (show x = 0 ∨ x = 1 ∨ x = 2 ∨ (¬ x = 0 ∧ ¬ x = 1 ∧ ¬ x = 2) by omega) with rfl | rfl | rfl | ⟨h0, h1, h2⟩
  · go_enter Try.func23, Try.ntmps23
    go_wp2_with fail
    go_ret
    exact ⟨ret_bool (by decide), rfl⟩
  · go_enter Try.func23, Try.ntmps23
    go_wp2_with fail
    go_ret
    exact ⟨ret_bool (by decide), rfl⟩
  · go_enter Try.func23, Try.ntmps23
    go_wp2_with fail
    go_ret
    exact ⟨ret_bool (by decide), rfl⟩
  · have e0 : (x == 0) = false := beq_eq_false_iff_ne.2 h0
    have e1 : (x == 1) = false := beq_eq_false_iff_ne.2 h1
    have e2 : (x == 2) = false := beq_eq_false_iff_ne.2 h2
    have HF : Hid (decide (stOk x) = false) := Lib.hid (decide_eq_false (by unfold stOk; omega))
    clear h0 h1 h2
    go_enter Try.func23, Try.ntmps23
    go_wp2_with fail
    go_ret
    exact ⟨ret_bool HF.out.symm, rfl⟩
set_option maxHeartbeats 800000 in
theorem osizeof_any (n k : Nat) (hn : n ≤ 100000) (hk : (n + 3) / 4 = k) (w : World) : Calls Try.prog 18 #[.int .i64 n] w fun e w' => e = .returned (.int .i64 (k : Nat)) ∧ w = w' := by
  have e1 : wrap64 ((n : Int) + 3) = (n : Int) + 3 := IntWalk.wrap64_in _ (by omega)
  go_enter Try.func18, Try.ntmps18
  go_wp2
  go_ret
  exact ⟨ret_int (by omega), rfl⟩
set_option maxHeartbeats 800000 in
theorem oplace_any (i p : Nat) (hi : i ≤ 100000) (hp : i % 4 * 2 = p) (w : World) : Calls Try.prog 19 #[.int .i64 i] w fun e w' => e = .returned (.int .i64 (p : Nat)) ∧ w = w' := by
  have e0 : bits .and .i64 (i : Int) 3 = ((i % 4 : Nat) : Int) := by
    have := i64_and_nat i 3 (by omega) (by decide)
    rw [show (3 : Nat) = 2 ^ 2 - 1 from rfl, Nat.and_two_pow_sub_one_eq_mod] at this
    exact this
  obtain ⟨q, hq⟩ : ∃ q, i % 4 = q := ⟨_, rfl⟩
  rw [hq] at e0 hp
  have hq4 : q < 4 := by rw [← hq]; exact Nat.mod_lt _ (by decide)
  clear hq
  have e1 : wrap64 ((q : Int) * 2) = (q : Int) * 2 := IntWalk.wrap64_in _ (by omega)
  go_enter Try.func19, Try.ntmps19
  go_wp2
  go_ret
  exact ⟨ret_int (by omega), rfl⟩

/-! ### the first states -/
def firstO (l : List Int) (k : Nat) : List Int := (List.range k).map fun i => l[i]?.getD 0
theorem firstO_len (l : List Int) (k : Nat) : (firstO l k).length = k := by unfold firstO; simp
theorem firstO_at (l : List Int) {k i : Nat} (h : i < k) : (firstO l k)[i]? = some (l[i]?.getD 0) := by
  unfold firstO; rw [List.getElem?_map, List.getElem?_range h]; rfl
theorem firstO_eq (l : List Int) (k : Nat) : l.take k ++ (List.replicate k (0 : Int)).drop l.length = firstO l k := by
  apply List.ext_getElem?
  intro i
  by_cases hi : i < k
  · rw [firstO_at l hi]
    by_cases c : i < l.length
    · rw [List.getElem?_append_left (by rw [List.length_take]; omega), List.getElem?_take, if_pos hi, List.getElem?_eq_getElem c]; rfl
    · rw [List.getElem?_append_right (by rw [List.length_take]; omega), List.getElem?_drop, List.getElem?_replicate, List.getElem?_eq_none (by omega : l.length ≤ i)]
      rw [if_pos (by rw [List.length_take]; omega)]; rfl
  · have h1 : (firstO l k)[i]? = none := List.getElem?_eq_none (by rw [firstO_len]; omega)
    have h2 : (l.take k ++ (List.replicate k (0 : Int)).drop l.length).length ≤ i := by simp only [List.length_append, List.length_take, List.length_drop, List.length_replicate]; omega
    rw [h1, List.getElem?_eq_none h2]
theorem firstO_all (l : List Int) : firstO l l.length = l := by
  rw [← firstO_eq]; simp
set_option maxHeartbeats 1600000 in
theorem ofirst_any (a : Option Addr) (n cap : Nat) (l : List Int) (k : Nat) (w : World) (h : GRow inT w a cap l) (hn : l.length = n) (hk : k ≤ 200000) :
    Calls Try.prog 22 #[.slice a n cap, .int .i64 k] w fun e w' => ∃ g, e = .returned (.slice (some ⟨g, 0, none⟩) k k) ∧ GOwn inT w w' (.slice (some ⟨g, 0, none⟩) k k) (firstO l k) := by
  have HR := Lib.hid h
  have HN := Lib.hid hn
  clear h hn
  go_enter Try.func22, Try.ntmps22
  go_upto_region 2 with (refine wp_gzeros inOk info_in (by decide) rfl rfl 0 rfl (show inB 0 by unfold inB; omega) rfl _ _ rfl rfl w (Below.refl _ _) .i64 .i64 _ _ k rfl rfl rfl rfl (by omega) ?_; intro w1 o1 b1; have HO1 := Lib.hid o1; have HR1 := Lib.hid (HR.out.later b1); clear o1 b1)
  go_wp2_with (refine wp_gcopy inOk rfl rfl _ _ rfl rfl w _ k k _ HO1.out (by rw [List.length_replicate]) a n cap l HR1.out HN.out rfl rfl ?_; intro w2 v2 o2; have HO2 := Lib.hid o2; clear o2)
  go_ret
  exact ⟨_, rfl, by have := HO2.out; rw [← HN.out, firstO_eq] at this; exact this⟩

/-! ### At, Size -/
set_option maxHeartbeats 1600000 in
theorem oat_any (a : Option Addr) (n cap : Nat) (l : List Int) (i : Int) (w : World) (h : GRow inT w a cap l) (hn : l.length = n) :
    Calls Try.prog 15 #[.slice a n cap, .int .i64 i] w fun e w' => e = .returned (.int .i64 (atO l i)) ∧ Below w.heap.size w w' := by
  by_cases h0 : i < 0
  · have hd0 : decide (i < 0) = true := decide_eq_true h0
    have HF : Hid (atO l i = 0) := Lib.hid (by unfold atO; rw [if_pos h0])
    clear h hn h0
    go_enter Try.func15, Try.ntmps15
    go_wp2_with fail
    go_ret
    exact ⟨ret_int HF.out.symm, Below.refl _ _⟩
  · obtain ⟨j, rfl⟩ : ∃ j : Nat, i = j := ⟨i.toNat, by omega⟩
    by_cases h1 : n ≤ j
    · have HF : Hid (atO l (j : Int) = 0) := Lib.hid (by unfold atO; rw [if_neg h0, Int.toNat_natCast, List.getElem?_eq_none (by omega)]; rfl)
      clear h hn h0
      go_enter Try.func15, Try.ntmps15
      go_wp2_with fail
      go_ret
      exact ⟨ret_int HF.out.symm, Below.refl _ _⟩
    · obtain ⟨x, hx⟩ : ∃ e, l[j]? = some e := ⟨l[j]'(by omega), List.getElem?_eq_getElem _⟩
      have HF : Hid (atO l (j : Int) = x) := Lib.hid (by unfold atO; rw [if_neg h0, Int.toNat_natCast, hx]; rfl)
      obtain ⟨b1, o1, rfl, p⟩ := h.at hx
      have p0 := p 0 (.int .i64 x) rfl
      simp only [Nat.mul_one, Nat.add_zero] at p0
      have hc := h.1
      rw [hn] at hc
      have hcm : cap ≤ 9223372036854775807 := by have := h.2.1; unfold maxLen at this; omega
      have h2 : j < n := by omega
      clear h hn h0 p hx h1
      go_enter Try.func15, Try.ntmps15
      go_wp2_with fail
      go_ret
      exact ⟨ret_int HF.out.symm, Below.refl _ _⟩
set_option maxHeartbeats 1600000 in
theorem osize_any (a : Option Addr) (n cap : Nat) (l : List Int) (k : Int) (hk : inB k) (w : World) (h : GRow inT w a cap l) (hn : l.length = n) (hb : n ≤ 100000) :
    Calls Try.prog 16 #[.slice a n cap, .int .i64 k] w fun e w' => ∃ v, e = .returned v ∧ GOwn inT w w' v (sizeO l k) := by
  obtain ⟨K, hK⟩ : ∃ K, heldO k = K := ⟨_, rfl⟩
  have HE : Hid (sizeO l k = firstO l K) := Lib.hid (by rw [← hK]; rfl)
  have hK5 : K ≤ 512 := by rw [← hK]; unfold heldO; omega
  have HC := Lib.hid (ofirst_any a n cap l K w h hn (by omega))
  have HK : Hid ((K : Int) = min (max k 0) 512) := Lib.hid (by rw [← hK]; unfold heldO; omega)
  clear h hn hb hK
  rcases (show k < 0 ∨ k = 0 ∨ (0 < k ∧ 512 < k) ∨ (0 < k ∧ k ≤ 512) by omega) with h0 | rfl | ⟨h0, h1⟩ | ⟨h0, h1⟩
  · obtain rfl : K = 0 := by have := HK.out; omega
    go_enter Try.func16, Try.ntmps16
    go_wp2_with fail
    refine HC.out.mono ?_
    rintro e w2 ⟨g, rfl, o2⟩
    go_wp2_with fail
    go_ret
    exact ⟨_, rfl, by rw [HE.out]; exact o2⟩
  · obtain rfl : K = 0 := by have := HK.out; omega
    go_enter Try.func16, Try.ntmps16
    go_wp2_with fail
    refine HC.out.mono ?_
    rintro e w2 ⟨g, rfl, o2⟩
    go_wp2_with fail
    go_ret
    exact ⟨_, rfl, by rw [HE.out]; exact o2⟩
  · obtain rfl : K = 512 := by have := HK.out; omega
    go_enter Try.func16, Try.ntmps16
    go_wp2_with fail
    refine HC.out.mono ?_
    rintro e w2 ⟨g, rfl, o2⟩
    go_wp2_with fail
    go_ret
    exact ⟨_, rfl, by rw [HE.out]; exact o2⟩
  · obtain rfl : k = (K : Int) := by have := HK.out; omega
    go_enter Try.func16, Try.ntmps16
    go_wp2_with fail
    refine HC.out.mono ?_
    rintro e w2 ⟨g, rfl, o2⟩
    go_wp2_with fail
    go_ret
    exact ⟨_, rfl, by rw [HE.out]; exact o2⟩

/-! ### Right -/
theorem right_step {l : List Int} {j : Nat} {x : Int} (hj : l[j]? = some x) (h : ¬ stOk x) : rightO l = false := by
  rw [Bool.eq_false_iff]; intro c
  exact h ((rightO_iff.1 c).2 x (List.mem_of_getElem? hj))
set_option maxHeartbeats 3200000 in
theorem oright_any (a : Option Addr) (n cap : Nat) (l : List Int) (w : World) (h : GRow inT w a cap l) (hn : l.length = n) (hb : n ≤ 100000) :
    Calls Try.prog 17 #[.slice a n cap] w fun e w' => e = .returned (.bool (rightO l)) ∧ Below w.heap.size w w' := by
  have HR := Lib.hid h
  have HN := Lib.hid hn
  have hc := h.1
  rw [hn] at hc
  have hcm : cap ≤ 9223372036854775807 := by have := h.2.1; unfold maxLen at this; omega
  clear h hn
  by_cases h5 : 512 < n
  · have HF : Hid (rightO l = false) := Lib.hid (by rw [Bool.eq_false_iff]; intro c; have := (rightO_iff.1 c).1; rw [HN.out] at this; omega)
    go_enter Try.func17, Try.ntmps17
    go_wp2_with fail
    go_ret
    exact ⟨ret_bool HF.out.symm, Below.refl _ _⟩
  · go_enter Try.func17, Try.ntmps17
    go_wp2_with fail
    go_loopw [10] (fun i wr => ∃ j : Nat, i = .int .i64 j ∧ j ≤ n ∧ wr = w ∧ ∀ (q : Nat) x, q < j → l[q]? = some x → stOk x) (fun i _ => n - (intOf i).toNat)
    case atStart => exact ⟨0, rfl, by omega, rfl, fun q x hq => by omega⟩
    case round =>
      obtain ⟨j, rfl, hj, hwr, hall⟩ := hrel
      have HALL := Lib.hid hall
      have HW := Lib.hid hwr
      clear hall hwr
      by_cases hjn : (j : Int) < n
      · obtain ⟨x, hx⟩ : ∃ e, l[j]? = some e := ⟨l[j]'(by have := HN.out; omega), List.getElem?_eq_getElem _⟩
        obtain ⟨b1, o1, rfl, p⟩ := (HR.out.later (by rw [HW.out]; exact Below.refl _ _)).at (w := wr) hx
        have p0 := p 0 (.int .i64 x) rfl
        simp only [Nat.mul_one, Nat.add_zero] at p0
        have HX := Lib.hid hx
        clear hx p
        by_cases hs : stOk x
        · have hsd : decide (stOk x) = true := decide_eq_true hs
          go_wp2_with fail
          refine (oknown_any x wr).mono ?_
          rw [hsd]
          rintro e w2 ⟨rfl, rfl⟩
          go_wp2_with fail
          go_roundw
          case rel => exact ⟨j + 1, by go_num, by omega, HW.out, fun q y hq hy => by
            by_cases c : q < j
            · exact HALL.out q y c hy
            · obtain rfl : q = j := by omega
              have := HX.out; rw [hy] at this; cases this; exact hs⟩
          case measure => simp [intOf]; omega
        · have hsd : decide (stOk x) = false := decide_eq_false hs
          have HF := Lib.hid (right_step HX.out hs)
          go_wp2_with fail
          refine (oknown_any x wr).mono ?_
          rw [hsd]
          rintro e w2 ⟨rfl, rfl⟩
          go_wp2_with fail
          go_ret
          exact ⟨ret_bool HF.out.symm, by rw [HW.out]; exact Below.refl _ _⟩
      · have HF : Hid (rightO l = true) := Lib.hid (rightO_iff.2 ⟨by rw [HN.out]; omega, fun x hx => by
          obtain ⟨q, hq⟩ := List.mem_iff_getElem?.1 hx
          have := (List.getElem?_eq_some_iff.1 hq).1
          exact HALL.out q x (by rw [HN.out] at this; omega) hq⟩)
        go_wp2_with fail
        go_ret
        exact ⟨ret_bool HF.out.symm, by rw [HW.out]; exact Below.refl _ _⟩

/-! ### Freeze -/
def frz (l : List Int) (j : Nat) : List Int := freezeO (l.take j) ++ l.drop j
theorem frz_len (l : List Int) (j : Nat) : (frz l j).length = l.length := by unfold frz freezeO; simp; omega
theorem frz_at {l : List Int} {j : Nat} {x : Int} (h : l[j]? = some x) : (frz l j)[j]? = some x := by
  have hj := (List.getElem?_eq_some_iff.1 h).1
  unfold frz freezeO
  rw [List.getElem?_append_right (by rw [List.length_map, List.length_take]; omega), List.length_map, List.length_take, List.getElem?_drop, ← h]
  congr 1; omega
theorem frz_set {l : List Int} {j : Nat} {x : Int} (h : l[j]? = some x) : (frz l j).set j (if x = 1 then 2 else x) = frz l (j + 1) := by
  have hj := (List.getElem?_eq_some_iff.1 h).1
  have hx : l.drop j = x :: l.drop (j + 1) := by rw [List.drop_eq_getElem_cons hj]; congr 1; exact (List.getElem?_eq_some_iff.1 h).2
  unfold frz freezeO
  rw [hx, List.set_append_right _ _ (by rw [List.length_map, List.length_take]; omega), List.length_map, List.length_take, show j - min j l.length = 0 by omega, List.set_cons_zero, List.take_add_one, h]
  simp
theorem frz_keep {l : List Int} {j : Nat} {x : Int} (h : l[j]? = some x) (hx : x ≠ 1) : frz l j = frz l (j + 1) := by
  rw [← frz_set h, if_neg hx]
  apply List.ext_getElem?
  intro i
  rw [List.getElem?_set]
  split
  · rename_i e; subst e
    have hj := (List.getElem?_eq_some_iff.1 h).1
    rw [if_pos (by rw [frz_len]; exact hj)]; exact frz_at h
  · rfl
theorem frz_end (l : List Int) : frz l l.length = freezeO l := by unfold frz; simp
set_option maxHeartbeats 3200000 in
theorem ofreeze_any (a : Option Addr) (n cap : Nat) (l : List Int) (w : World) (h : GRow inT w a cap l) (hn : l.length = n) (hb : n ≤ 100000) :
    Calls Try.prog 12 #[.slice a n cap] w fun e w' => ∃ v, e = .returned v ∧ GOwn inT w w' v (freezeO l) := by
  have HC := Lib.hid (ofirst_any a n cap l n w h hn (by omega))
  have HN := Lib.hid hn
  have hfa : firstO l n = l := by rw [← hn]; exact firstO_all l
  rw [hfa] at HC
  have HI := Lib.hid h.2.2.2.1
  clear h hn hfa
  go_enter Try.func12, Try.ntmps12
  go_wp2_with fail
  refine HC.out.mono ?_
  rintro e w2 ⟨g, rfl, o2⟩
  have HO2 := Lib.hid o2
  clear o2 HC
  go_wp2_with fail
  go_loopw [12] (fun i wr => ∃ j : Nat, i = .int .i64 j ∧ j ≤ n ∧ GOwn inT w wr (.slice (some ⟨g, 0, none⟩) n n) (frz l j)) (fun i _ => n - (intOf i).toNat)
  case atStart => exact ⟨0, rfl, by omega, by simpa [frz, freezeO] using HO2.out⟩
  case round =>
    obtain ⟨j, rfl, hj, o⟩ := hrel
    have HO := Lib.hid o
    clear o
    by_cases hjn : (j : Int) < n
    · obtain ⟨x, hx⟩ : ∃ e, l[j]? = some e := ⟨l[j]'(by have := HN.out; omega), List.getElem?_eq_getElem _⟩
      have p0 := HO.out.cell1 inOk rfl (by rw [frz_len, HN.out]) (frz_at hx) rfl
      have hf := HO.out.frozenAt (by rw [frz_len, HN.out]) j
      have HX := Lib.hid hx
      clear hx
      by_cases h1 : x = 1
      · subst h1
        have HS := Lib.hid (frz_set HX.out)
        go_wp2_with fail
        go_roundw
        case rel => exact ⟨j + 1, by go_num, by omega, by
          rw [← HS.out]
          exact HO.out.stored1 inOk rfl (by rw [frz_len, HN.out]) (frz_at HX.out) rfl rfl (show inB _ by unfold inB; decide)⟩
        case measure => simp [intOf]; omega
      · have e1 : (x == 1) = false := beq_eq_false_iff_ne.2 h1
        have HS := Lib.hid (frz_keep HX.out h1)
        clear h1
        go_wp2_with fail
        go_roundw
        case rel => exact ⟨j + 1, by go_num, by omega, by rw [← HS.out]; exact HO.out⟩
        case measure => simp [intOf]; omega
    · have hjN : j = n := by omega
      subst hjN
      have HE : Hid (frz l j = freezeO l) := Lib.hid (by rw [← HN.out]; exact frz_end l)
      go_wp2_with fail
      go_ret
      exact ⟨_, rfl, by rw [← HE.out]; exact HO.out⟩

/-! ### Turn -/
theorem turnO_first {l : List Int} {i M : Nat} {tt : Int} (hi : i < 512) (hs : stOk tt) (hM : max l.length (i + 1) = M) : (firstO l M).set i tt = turnO l (i : Int) tt := by
  unfold turnO
  rw [if_pos ⟨by omega, by omega, hs⟩, Int.toNat_natCast]
  congr 1
  apply List.ext_getElem?
  intro q
  by_cases c : q < M
  · rw [firstO_at l c]
    by_cases c2 : q < l.length
    · rw [List.getElem?_append_left c2, List.getElem?_eq_getElem c2]; rfl
    · rw [List.getElem?_append_right (by omega), List.getElem?_replicate, if_pos (by omega), List.getElem?_eq_none (by omega : l.length ≤ q)]; rfl
  · rw [List.getElem?_eq_none (by rw [firstO_len]; omega), List.getElem?_eq_none (by rw [List.length_append, List.length_replicate]; omega)]
set_option maxHeartbeats 3200000 in
theorem oturn_any (a : Option Addr) (n cap : Nat) (l : List Int) (i tt : Int) (hi : inB i) (ht : inB tt) (w : World) (h : GRow inT w a cap l) (hn : l.length = n) (hb : n ≤ 100000) :
    Calls Try.prog 13 #[.slice a n cap, .int .i64 i, .int .i64 tt] w fun e w' => ∃ v, e = .returned v ∧ GOwn inT w w' v (turnO l i tt) := by
  have HC := Lib.hid (ofirst_any a n cap l n w h hn (by omega))
  have hfa : firstO l n = l := by rw [← hn]; exact firstO_all l
  rw [hfa] at HC
  by_cases h0 : i < 0
  · have HE : Hid (turnO l i tt = l) := Lib.hid (by unfold turnO; rw [if_neg (by omega)])
    have hd0 : decide (i < 0) = true := decide_eq_true h0
    clear h hn hi ht hfa
    go_enter Try.func13, Try.ntmps13
    go_wp2_with fail
    refine HC.out.mono ?_
    rintro e w2 ⟨g, rfl, o2⟩
    go_wp2_with fail
    go_ret
    exact ⟨_, rfl, by rw [HE.out]; exact o2⟩
  · by_cases h5 : 512 ≤ i
    · have HE : Hid (turnO l i tt = l) := Lib.hid (by unfold turnO; rw [if_neg (by omega)])
      have hd0 : decide (i < 0) = false := decide_eq_false h0
      have hd1 : decide (i ≥ 512) = true := decide_eq_true h5
      clear h hn hi ht hfa
      go_enter Try.func13, Try.ntmps13
      go_wp2_with fail
      refine HC.out.mono ?_
      rintro e w2 ⟨g, rfl, o2⟩
      go_wp2_with fail
      go_ret
      exact ⟨_, rfl, by rw [HE.out]; exact o2⟩
    · obtain ⟨j, rfl⟩ : ∃ j : Nat, i = j := ⟨i.toNat, by omega⟩
      have hj : j < 512 := by omega
      have hd0 : decide ((j : Int) < 0) = false := decide_eq_false h0
      have hd1 : decide ((j : Int) ≥ 512) = false := decide_eq_false h5
      by_cases hs : stOk tt
      · have hsd : decide (stOk tt) = true := decide_eq_true hs
        obtain ⟨M, hM⟩ : ∃ M, max l.length (j + 1) = M := ⟨_, rfl⟩
        have HT := Lib.hid (turnO_first hj hs hM)
        have hjM : j < M := by omega
        obtain ⟨x, hx⟩ : ∃ x, (firstO l M)[j]? = some x := ⟨_, firstO_at l hjM⟩
        have HX := Lib.hid hx
        have HCM := Lib.hid (ofirst_any a n cap l M w h hn (by omega))
        have HTB := Lib.hid ht
        rw [hn] at hM
        have e1 : wrap64 ((j : Int) + 1) = (j : Int) + 1 := IntWalk.wrap64_in _ (by omega)
        clear h hi ht hfa HC hx h0 h5 hs
        rcases (show (n ≤ j ∧ M = j + 1) ∨ (j < n ∧ M = n) by omega) with ⟨hnj, rfl⟩ | ⟨hnj, rfl⟩
        · go_enter Try.func13, Try.ntmps13
          go_wp2_with fail
          refine (oknown_any tt w).mono ?_
          rw [hsd]
          rintro e w2 ⟨rfl, rfl⟩
          go_wp2_with fail
          refine HCM.out.mono ?_
          rintro e w2 ⟨g, rfl, o2⟩
          have HO := Lib.hid o2
          have hf := o2.frozenAt (by rw [firstO_len]) j
          have p0 := o2.cell1 inOk rfl (by rw [firstO_len]) HX.out rfl
          clear o2 HCM
          go_wp2_with fail
          go_ret
          exact ⟨_, rfl, by
            rw [← HT.out]
            exact HO.out.stored1 inOk rfl (by rw [firstO_len]) HX.out rfl rfl HTB.out⟩
        · go_enter Try.func13, Try.ntmps13
          go_wp2_with fail
          refine (oknown_any tt w).mono ?_
          rw [hsd]
          rintro e w2 ⟨rfl, rfl⟩
          go_wp2_with fail
          refine HCM.out.mono ?_
          rintro e w2 ⟨g, rfl, o2⟩
          have HO := Lib.hid o2
          have hf := o2.frozenAt (by rw [firstO_len]) j
          have p0 := o2.cell1 inOk rfl (by rw [firstO_len]) HX.out rfl
          clear o2 HCM
          go_wp2_with fail
          go_ret
          exact ⟨_, rfl, by
            rw [← HT.out]
            exact HO.out.stored1 inOk rfl (by rw [firstO_len]) HX.out rfl rfl HTB.out⟩
      · have hsd : decide (stOk tt) = false := decide_eq_false hs
        have HE : Hid (turnO l (j : Int) tt = l) := Lib.hid (by unfold turnO; rw [if_neg (by intro c; exact hs c.2.2)])
        clear h hn hi ht hfa hs
        go_enter Try.func13, Try.ntmps13
        go_wp2_with fail
        refine (oknown_any tt w).mono ?_
        rw [hsd]
        rintro e w2 ⟨rfl, rfl⟩
        go_wp2_with fail
        refine HC.out.mono ?_
        rintro e w2 ⟨g, rfl, o2⟩
        go_wp2_with fail
        go_ret
        exact ⟨_, rfl, by rw [HE.out]; exact o2⟩

/-! ### Diff -/
def difJ (a b : List Int) (j : Nat) : List Int := ((List.range j).filter fun i => mayO (a[i]?.getD 0) (b[i]?.getD 0)).map fun (i : Nat) => (i : Int)
theorem mayO_bool (x y : Int) : mayO x y = (y == 1 || !((x == 0) == (y == 0))) := by
  unfold mayO
  by_cases q1 : y = 1
  · subst q1; simp
  · by_cases q2 : x = 0
    · by_cases q3 : y = 0
      · simp [q2, q3]
      · simp [q1, q2, q3]
    · by_cases q3 : y = 0
      · simp [q2, q3]
      · simp [q1, q2, q3, beq_eq_false_iff_ne.2 q2]
theorem difJ_yes {a b : List Int} {j : Nat} (h : mayO (a[j]?.getD 0) (b[j]?.getD 0) = true) : difJ a b (j + 1) = difJ a b j ++ [(j : Int)] := by
  unfold difJ
  rw [List.range_succ, List.filter_append, List.map_append]
  simp [h]
theorem difJ_no {a b : List Int} {j : Nat} (h : mayO (a[j]?.getD 0) (b[j]?.getD 0) = false) : difJ a b (j + 1) = difJ a b j := by
  unfold difJ
  rw [List.range_succ, List.filter_append, List.map_append]
  simp [h]
theorem difJ_len (a b : List Int) (j : Nat) : (difJ a b j).length ≤ j := by
  unfold difJ
  rw [List.length_map]
  exact Nat.le_trans (List.length_filter_le _ _) (by simp)
theorem atP_nat (l : List Int) (j : Nat) : atO l (j : Int) = l[j]?.getD 0 := by
  unfold atO; rw [if_neg (by omega), Int.toNat_natCast]
set_option maxHeartbeats 6400000 in
theorem odiff_any (a1 a2 : Option Addr) (n m c1 c2 : Nat) (l k : List Int) (w : World) (h1 : GRow inT w a1 c1 l) (h2 : GRow inT w a2 c2 k) (hn : l.length = n) (hm : k.length = m) (hb : n ≤ 100000) (hb2 : m ≤ 100000) :
    Calls Try.prog 14 #[.slice a1 n c1, .slice a2 m c2] w fun e w' => ∃ v, e = .returned v ∧ GOwn inT w w' v (diffO l k) := by
  obtain ⟨M, hM⟩ : ∃ M, max n m = M := ⟨_, rfl⟩
  have HE : Hid (diffO l k = difJ l k M) := Lib.hid (by rw [← hM, ← hn, ← hm]; rfl)
  have HN := Lib.hid hn
  have HM := Lib.hid hm
  have HR1 := Lib.hid h1
  have HR2 := Lib.hid h2
  have hMb : M ≤ 100000 := by omega
  clear h1 h2 hn hm
  go_enter Try.func14, Try.ntmps14
  rcases (show (n < m ∧ M = m) ∨ (m ≤ n ∧ M = n) by omega) with ⟨hnm, hMm⟩ | ⟨hnm, hMm⟩
  · go_wp2_with fail
    go_loopw [5, 14] (fun v i wr => ∃ j : Nat, i = .int .i64 j ∧ j ≤ m ∧ GOwn inT w wr v (difJ l k j)) (fun _ i _ => m - (intOf i).toNat)
    case atStart => exact ⟨0, rfl, by omega, by simpa [difJ] using GOwn.nil inT w⟩
    case round =>
      obtain ⟨j, rfl, hj, o⟩ := hrel
      have HO := Lib.hid o
      clear o
      by_cases hjn : (j : Int) < m
      · have hjn2 : decide ((j : Int) < (m : Int)) = true := decide_eq_true hjn
        have HC1 := Lib.hid (fun W h => oat_any a1 n c1 l (j : Int) W h HN.out)
        have HC2 := Lib.hid (fun W h => oat_any a2 m c2 k (j : Int) W h HM.out)
        have HQ1 := Lib.hid (atP_nat l j)
        have HQ2 := Lib.hid (atP_nat k j)
        obtain ⟨x, hx⟩ : ∃ x, atO l (j : Int) = x := ⟨_, rfl⟩
        obtain ⟨y, hy⟩ : ∃ x, atO k (j : Int) = x := ⟨_, rfl⟩
        rw [hx] at HQ1 HC1
        rw [hy] at HQ2 HC2
        clear hx hy
        obtain ⟨B, hB⟩ : ∃ B, mayO x y = B := ⟨_, rfl⟩
        have HB := Lib.hid hB
        clear hB
        go_wp2_with fail
        refine (HC1.out wr (HR1.out.later HO.out.below)).mono ?_
        rintro e w2 ⟨rfl, b2⟩
        have HB2 := Lib.hid b2
        clear b2
        go_wp2_with fail
        refine (HC2.out w2 (HR2.out.later (HO.out.below.trans (HB2.out.mono HO.out.below.size)))).mono ?_
        rintro e w3 ⟨rfl, b3⟩
        have HO3 := Lib.hid ((HO.out.later HB2.out).later b3)
        clear b3 HC1 HC2
        have HL := Lib.hid (difJ_len l k j)
        have HV : Hid ((y == 1 || !((x == 0) == (y == 0))) = B) := Lib.hid (by rw [← HB.out]; exact (mayO_bool x y).symm)
        cases B with
        | true =>
          have HS := Lib.hid (difJ_yes (a := l) (b := k) (j := j) (by rw [← HQ1.out, ← HQ2.out]; exact HB.out))
          have HIB : inB (j : Int) := by unfold inB; omega
          rcases (show (y == 1) = true ∨ ((y == 1) = false ∧ ((x == 0) = true ∧ (y == 0) = false ∨ (x == 0) = false ∧ (y == 0) = true)) by
            have := HV.out; revert this; cases (y == 1) <;> cases (x == 0) <;> cases (y == 0) <;> decide) with e1 | ⟨e1, ⟨e2, e3⟩ | ⟨e2, e3⟩⟩
          all_goals
            go_wp2_with (at_builtin; refine wp_gone inOk rfl _ _ rfl rfl _ (difJ l k j) rfl w HO3.out (j : Int) HIB rfl rfl (by have := HL.out; omega) ?_; rotate_left; intro v9 w9 o9 _ _)
            go_roundw
            case rel => exact ⟨j + 1, by go_num, by omega, by rw [HS.out]; exact o9⟩
            case measure => simp [intOf]; omega
        | false =>
          have HS := Lib.hid (difJ_no (a := l) (b := k) (j := j) (by rw [← HQ1.out, ← HQ2.out]; exact HB.out))
          rcases (show (y == 1) = false ∧ ((x == 0) = true ∧ (y == 0) = true ∨ (x == 0) = false ∧ (y == 0) = false) by
            have := HV.out; revert this; cases (y == 1) <;> cases (x == 0) <;> cases (y == 0) <;> decide) with ⟨e1, ⟨e2, e3⟩ | ⟨e2, e3⟩⟩
          all_goals
            go_wp2_with fail
            go_roundw
            case rel => exact ⟨j + 1, by go_num, by omega, by rw [HS.out]; exact HO3.out⟩
            case measure => simp [intOf]; omega
      · have hjN : j = m := by omega
        have HQ : Hid (difJ l k j = diffO l k) := Lib.hid (by rw [HE.out, hMm, hjN])
        have hjn2 : decide ((j : Int) < (m : Int)) = false := decide_eq_false hjn
        clear hjN
        go_wp2_with fail
        go_ret
        exact ⟨_, rfl, by rw [← HQ.out]; exact HO.out⟩
  · go_wp2_with fail
    go_loopw [5, 14] (fun v i wr => ∃ j : Nat, i = .int .i64 j ∧ j ≤ n ∧ GOwn inT w wr v (difJ l k j)) (fun _ i _ => n - (intOf i).toNat)
    case atStart => exact ⟨0, rfl, by omega, by simpa [difJ] using GOwn.nil inT w⟩
    case round =>
      obtain ⟨j, rfl, hj, o⟩ := hrel
      have HO := Lib.hid o
      clear o
      by_cases hjn : (j : Int) < n
      · have hjn2 : decide ((j : Int) < (n : Int)) = true := decide_eq_true hjn
        have HC1 := Lib.hid (fun W h => oat_any a1 n c1 l (j : Int) W h HN.out)
        have HC2 := Lib.hid (fun W h => oat_any a2 m c2 k (j : Int) W h HM.out)
        have HQ1 := Lib.hid (atP_nat l j)
        have HQ2 := Lib.hid (atP_nat k j)
        obtain ⟨x, hx⟩ : ∃ x, atO l (j : Int) = x := ⟨_, rfl⟩
        obtain ⟨y, hy⟩ : ∃ x, atO k (j : Int) = x := ⟨_, rfl⟩
        rw [hx] at HQ1 HC1
        rw [hy] at HQ2 HC2
        clear hx hy
        obtain ⟨B, hB⟩ : ∃ B, mayO x y = B := ⟨_, rfl⟩
        have HB := Lib.hid hB
        clear hB
        go_wp2_with fail
        refine (HC1.out wr (HR1.out.later HO.out.below)).mono ?_
        rintro e w2 ⟨rfl, b2⟩
        have HB2 := Lib.hid b2
        clear b2
        go_wp2_with fail
        refine (HC2.out w2 (HR2.out.later (HO.out.below.trans (HB2.out.mono HO.out.below.size)))).mono ?_
        rintro e w3 ⟨rfl, b3⟩
        have HO3 := Lib.hid ((HO.out.later HB2.out).later b3)
        clear b3 HC1 HC2
        have HL := Lib.hid (difJ_len l k j)
        have HV : Hid ((y == 1 || !((x == 0) == (y == 0))) = B) := Lib.hid (by rw [← HB.out]; exact (mayO_bool x y).symm)
        cases B with
        | true =>
          have HS := Lib.hid (difJ_yes (a := l) (b := k) (j := j) (by rw [← HQ1.out, ← HQ2.out]; exact HB.out))
          have HIB : inB (j : Int) := by unfold inB; omega
          rcases (show (y == 1) = true ∨ ((y == 1) = false ∧ ((x == 0) = true ∧ (y == 0) = false ∨ (x == 0) = false ∧ (y == 0) = true)) by
            have := HV.out; revert this; cases (y == 1) <;> cases (x == 0) <;> cases (y == 0) <;> decide) with e1 | ⟨e1, ⟨e2, e3⟩ | ⟨e2, e3⟩⟩
          all_goals
            go_wp2_with (at_builtin; refine wp_gone inOk rfl _ _ rfl rfl _ (difJ l k j) rfl w HO3.out (j : Int) HIB rfl rfl (by have := HL.out; omega) ?_; rotate_left; intro v9 w9 o9 _ _)
            go_roundw
            case rel => exact ⟨j + 1, by go_num, by omega, by rw [HS.out]; exact o9⟩
            case measure => simp [intOf]; omega
        | false =>
          have HS := Lib.hid (difJ_no (a := l) (b := k) (j := j) (by rw [← HQ1.out, ← HQ2.out]; exact HB.out))
          rcases (show (y == 1) = false ∧ ((x == 0) = true ∧ (y == 0) = true ∨ (x == 0) = false ∧ (y == 0) = false) by
            have := HV.out; revert this; cases (y == 1) <;> cases (x == 0) <;> cases (y == 0) <;> decide) with ⟨e1, ⟨e2, e3⟩ | ⟨e2, e3⟩⟩
          all_goals
            go_wp2_with fail
            go_roundw
            case rel => exact ⟨j + 1, by go_num, by omega, by rw [HS.out]; exact HO3.out⟩
            case measure => simp [intOf]; omega
      · have hjN : j = n := by omega
        have HQ : Hid (difJ l k j = diffO l k) := Lib.hid (by rw [HE.out, hMm, hjN])
        have hjn2 : decide ((j : Int) < (n : Int)) = false := decide_eq_false hjn
        clear hjN
        go_wp2_with fail
        go_ret
        exact ⟨_, rfl, by rw [← HQ.out]; exact HO.out⟩

/-! ### Put -/
/-- The bytes of the first j states, noughts behind. -/
def putJ (l : List Int) (j : Nat) : List UInt8 := (List.range ((l.length + 3) / 4)).map fun q => UInt8.ofNat (byteK l q (min 4 (j - 4 * q)))
theorem putJ_len (l : List Int) (j : Nat) : (putJ l j).length = (l.length + 3) / 4 := by unfold putJ; simp
theorem putJ_at {l : List Int} {j q : Nat} (h : q < (l.length + 3) / 4) : (putJ l j)[q]? = some (UInt8.ofNat (byteK l q (min 4 (j - 4 * q)))) := by
  unfold putJ
  rw [List.getElem?_map, List.getElem?_range h]; rfl
theorem putJ_zero (l : List Int) : putJ l 0 = List.replicate ((l.length + 3) / 4) 0 := by
  apply List.ext_getElem?
  intro i
  by_cases h : i < (l.length + 3) / 4
  · rw [putJ_at h, List.getElem?_replicate, if_pos h]
    rw [show min 4 (0 - 4 * i) = 0 by omega]; rfl
  · rw [List.getElem?_eq_none (by rw [putJ_len]; omega), List.getElem?_eq_none (by rw [List.length_replicate]; omega)]
theorem byteK_le {l : List Int} (h : ∀ x ∈ l, stOk x) (q : Nat) : ∀ k, byteK l q k < 4 ^ k
  | 0 => by simp [byteK]
  | k + 1 => by
    have h1 := byteK_le h q k
    have h2 := stN_le h (4 * q + k)
    have h3 := Nat.mul_le_mul_right (4 ^ k) h2
    unfold byteK
    rw [Nat.pow_succ]; omega
theorem byteK_end {l : List Int} {q k : Nat} (h : l.length ≤ 4 * q + k) : ∀ m, byteK l q (k + m) = byteK l q k
  | 0 => rfl
  | m + 1 => by
    rw [← Nat.add_assoc]
    show byteK l q (k + m) + stN l (4 * q + (k + m)) * 4 ^ (k + m) = _
    rw [byteK_end h m, stN_end (by omega)]; simp
theorem putJ_end (l : List Int) : putJ l l.length = putO l := by
  unfold putJ putO byteO
  apply List.map_congr_left
  intro q hq
  have hq2 := List.mem_range.1 hq
  congr 1
  by_cases c : 4 ≤ l.length - 4 * q
  · rw [show min 4 (l.length - 4 * q) = 4 by omega]
  · obtain ⟨k, hk⟩ : ∃ k, l.length - 4 * q = k := ⟨_, rfl⟩
    rw [hk, show min 4 k = k by omega]
    have := byteK_end (l := l) (q := q) (k := k) (by omega) (4 - k)
    rw [← this]; congr 1; omega
theorem or_step4 (A s p : Nat) (hA : A < 4 ^ p) (hp : p < 4) (hs : s ≤ 2) : bits .or .u8 (A : Int) (IntKind.u8.wrap ((s : Int) * 2 ^ (p * 2))) = ((A + s * 4 ^ p : Nat) : Int) := by
  have e : ∀ (p : Nat), p < 4 → ∀ (s : Nat), s < 3 → ∀ (A : Nat), A < 4 ^ p → bits .or .u8 (A : Int) (IntKind.u8.wrap ((s : Int) * 2 ^ (p * 2))) = ((A + s * 4 ^ p : Nat) : Int) := by decide
  exact e p hp s (by omega) A hA
theorem putJ_set {l : List Int} {j : Nat} (hj : j < l.length) : (putJ l j).set (j / 4) (UInt8.ofNat (byteK l (j / 4) (j % 4) + stN l j * 4 ^ (j % 4))) = putJ l (j + 1) := by
  apply List.ext_getElem?
  intro q
  rw [List.getElem?_set]
  by_cases hq : q < (l.length + 3) / 4
  · rw [putJ_at hq, putJ_at hq]
    split
    · rename_i e; subst e
      rw [if_pos (by rw [putJ_len]; omega)]
      have e1 : min 4 (j + 1 - 4 * (j / 4)) = j % 4 + 1 := by omega
      rw [e1]
      show _ = some (UInt8.ofNat (byteK l (j / 4) (j % 4) + stN l (4 * (j / 4) + j % 4) * 4 ^ (j % 4)))
      rw [Nat.div_add_mod]
    · rename_i e
      rw [show min 4 (j - 4 * q) = min 4 (j + 1 - 4 * q) by omega]
  · rw [if_neg (by omega), List.getElem?_eq_none (by rw [putJ_len]; omega), List.getElem?_eq_none (by rw [putJ_len]; omega)]

theorem own_none {W0 w : World} (h : Below W0.heap.size W0 w) : Own W0 w (.slice none 0 0) [] := ⟨World.ownsRow_nil _ _ _ _, h⟩
set_option maxRecDepth 20000 in
set_option maxHeartbeats 6400000 in
theorem oput_any (a : Option Addr) (n cap : Nat) (l : List Int) (w : World) (h : GRow inT w a cap l) (hn : l.length = n) (hb : n ≤ 100000) :
    Calls Try.prog 9 #[.slice a n cap] w fun e w' => ∃ v, e = .returned (.tuple #[v, .int .i64 (if rightO l = true then 0 else 1)]) ∧ Own w w' v (if rightO l = true then putO l else []) := by
  have HRT := Lib.hid (oright_any a n cap l w h hn hb)
  have HR := Lib.hid h
  have HN := Lib.hid hn
  have hc := h.1
  rw [hn] at hc
  have hcm : cap ≤ 9223372036854775807 := by have := h.2.1; unfold maxLen at this; omega
  clear h hn
  obtain ⟨B, hB⟩ : ∃ B, rightO l = B := ⟨_, rfl⟩
  rw [hB] at HRT
  cases B with
  | false =>
    rw [hB, if_neg (by decide), if_neg (by decide)]
    clear hB
    go_enter Try.func9, Try.ntmps9
    go_wp2_with fail
    refine HRT.out.mono ?_
    rintro e w2 ⟨rfl, b2⟩
    have HB2 := Lib.hid b2
    clear b2
    go_wp2_with fail
    go_ret2
    exact ⟨_, rfl, own_none HB2.out⟩
  | true =>
    rw [hB, if_pos rfl, if_pos rfl]
    have HOK := Lib.hid (rightO_iff.1 hB)
    have hn5 : n ≤ 512 := by have := HOK.out.1; rw [HN.out] at this; exact this
    clear hB
    obtain ⟨K, hK⟩ : ∃ K, (n + 3) / 4 = K := ⟨_, rfl⟩
    have HK := Lib.hid hK
    have hKb : K ≤ 128 := by omega
    clear hK
    go_enter Try.func9, Try.ntmps9
    go_wp2_with fail
    refine HRT.out.mono ?_
    rintro e w2 ⟨rfl, b2⟩
    have HB2 := Lib.hid b2
    clear b2 HRT
    go_wp2_with fail
    refine (osizeof_any n K hb HK.out w2).mono ?_
    rintro e w3 ⟨rfl, rfl⟩
    go_upto_region 4 with (refine wp_zeros rfl _ _ rfl w HB2.out .i64 .i64 _ _ K rfl rfl rfl rfl (by omega) ?_; intro w3 o3 b3; have HO3 := Lib.hid o3; clear o3 b3)
    generalize w2.heap.size = g at *
    go_wp2_with fail
    go_loopw [16] (fun i wr => ∃ j : Nat, i = .int .i64 j ∧ j ≤ n ∧ Own w wr (.slice (some ⟨g, 0, none⟩) K K) (putJ l j)) (fun i _ => n - (intOf i).toNat)
    case atStart => exact ⟨0, rfl, by omega, by rw [putJ_zero, HN.out, HK.out]; exact HO3.out⟩
    case round =>
      obtain ⟨j, rfl, hj, o⟩ := hrel
      have HO := Lib.hid o
      clear o
      by_cases hjn : (j : Int) < n
      · have hjn2 : decide ((j : Int) < (n : Int)) = true := decide_eq_true hjn
        have hjl : j < l.length := by have := HN.out; omega
        obtain ⟨x, hx⟩ : ∃ e, l[j]? = some e := ⟨l[j]'hjl, List.getElem?_eq_getElem _⟩
        have hsx := HOK.out.2 x (List.mem_of_getElem? hx)
        obtain ⟨s, rfl⟩ : ∃ s : Nat, x = s := ⟨x.toNat, by unfold stOk at hsx; omega⟩
        have hs2 : s ≤ 2 := by unfold stOk at hsx; omega
        have hsn : stN l j = s := by unfold stN; rw [hx]; rfl
        obtain ⟨b1, o1, rfl, p⟩ := (HR.out.later HO.out.below).at hx
        have p0 := p 0 (.int .i64 s) rfl
        simp only [Nat.mul_one, Nat.add_zero] at p0
        have hput := putJ_set hjl
        rw [hsn] at hput
        obtain ⟨q, hq⟩ : ∃ q, j / 4 = q := ⟨_, rfl⟩
        have hqK : q < K := by have := HK.out; omega
        have hAt := putJ_at (l := l) (j := j) (q := q) (by rw [HN.out, HK.out]; exact hqK)
        rw [show min 4 (j - 4 * q) = j % 4 by omega] at hAt
        obtain ⟨P, hP⟩ : ∃ P, j % 4 = P := ⟨_, rfl⟩
        have hP4 : P < 4 := by omega
        rw [hq, hP] at hput
        rw [hP] at hAt
        have hAl := byteK_le HOK.out.2 q P
        obtain ⟨A, hA⟩ : ∃ A, byteK l q P = A := ⟨_, rfl⟩
        rw [hA] at hput hAt hAl
        have hA256 : A < 64 := by
          have : 4 ^ P ≤ 4 ^ 3 := Nat.pow_le_pow_right (by decide) (by omega)
          omega
        have HOR := Lib.hid (or_step4 A s P hAl hP4 hs2)
        have hpl : (putJ l j).length = K := by rw [putJ_len, HN.out, HK.out]
        have hcell := HO.out.cellAt hpl hAt
        have hfr := HO.out.frozenAt hpl q
        have HPL := Lib.hid (fun W => oplace_any j (P * 2) (by omega) (by rw [hP]) W)
        have HS := Lib.hid (show Own w (wr.setCell ⟨g, q, none⟩ (B8 (UInt8.ofNat (A + s * 4 ^ P)))) (.slice (some ⟨g, 0, none⟩) K K) (putJ l (j + 1)) by
          rw [← hput]; exact HO.out.stored hpl q _)
        have hAs : A + s * 4 ^ P < 256 := by
          have : 4 ^ P ≤ 4 ^ 3 := Nat.pow_le_pow_right (by decide) (by omega)
          have h3 := Nat.mul_le_mul hs2 this
          omega
        have e5 : B8 (UInt8.ofNat A) = .int .u8 (A : Int) := by unfold B8; congr 1; rw [UInt8.toNat_ofNat']; omega
        obtain ⟨Z, hZ⟩ : ∃ Z, A + s * 4 ^ P = Z := ⟨_, rfl⟩
        rw [hZ] at HS HOR hAs
        have e6 : B8 (UInt8.ofNat Z) = .int .u8 (Z : Int) := by unfold B8; congr 1; rw [UInt8.toNat_ofNat']; omega
        rw [e6] at HS
        rw [e5] at hcell
        obtain ⟨Y, hY⟩ : ∃ Y, IntKind.u8.wrap ((s : Int) * 2 ^ (P * 2)) = Y := ⟨_, rfl⟩
        rw [hY] at HOR
        have HY : Hid (bits .or .u8 (A : Int) (((s : Int) * 2 ^ (P * 2)) % 256) = Z) := Lib.hid (by rw [← IntKind.wrap_u8, hY]; exact HOR.out)
        have h4 : (j : Int) / 4 = (q : Int) := by omega
        have hsw : IntKind.u8.wrap (s : Int) = s := by rw [byte_low, UInt8.toNat_ofNat']; omega
        clear hZ hY e5 e6 hA hput hAt hP hq hsn hsx p hAl hpl HO HR hx
        go_upto_region 7 with fail
        go_region_with (go_at_call 19; refine (HPL.out _).mono ?_; rintro e w6 ⟨rfl, rfl⟩)
        all_goals
          have HS2 := Lib.hid (HS.out.later (Below.refl _ _).drew)
          go_wp2_with fail
          go_roundw
          case rel => exact ⟨j + 1, by go_num, by omega, by rw [HY.out]; first | exact HS.out | exact HS2.out⟩
          case measure => simp [intOf]; omega
      · have hjN : j = n := by omega
        subst hjN
        have HE : Hid (putJ l j = putO l) := Lib.hid (by rw [← HN.out]; exact putJ_end l)
        go_wp2_with fail
        go_ret2
        exact ⟨_, rfl, by rw [← HE.out]; exact HO.out⟩

/-! ### Get -/
open Classical in
noncomputable def getOE (b : List UInt8) (n : Int) : Int := if 0 ≤ n ∧ n ≤ 512 then (if FormO b n.toNat then 0 else 2) else 1
open Classical in
noncomputable def getOL (b : List UInt8) (n : Int) : List Int := if 0 ≤ n ∧ n ≤ 512 ∧ FormO b n.toNat then readO b n.toNat else []
theorem getO_arg {b : List UInt8} {n : Int} (h : ¬ (0 ≤ n ∧ n ≤ 512)) : getOE b n = 1 ∧ getOL b n = [] := by
  unfold getOE getOL
  rw [if_neg h, if_neg (fun c => h ⟨c.1, c.2.1⟩)]
  exact ⟨rfl, rfl⟩
theorem getO_form {b : List UInt8} {n : Nat} (h : ¬ FormO b n) (hn : n ≤ 512) : getOE b (n : Int) = 2 ∧ getOL b (n : Int) = [] := by
  unfold getOE getOL
  rw [if_pos ⟨by omega, by omega⟩, Int.toNat_natCast, if_neg h, if_neg (fun c => h c.2.2)]
  exact ⟨rfl, rfl⟩
theorem getO_ok {b : List UInt8} {n : Nat} (h : FormO b n) (hn : n ≤ 512) : getOE b (n : Int) = 0 ∧ getOL b (n : Int) = readO b n := by
  unfold getOE getOL
  rw [if_pos ⟨by omega, by omega⟩, Int.toNat_natCast, if_pos h, if_pos ⟨by omega, by omega, h⟩]
  exact ⟨rfl, rfl⟩
theorem form_of {b : List UInt8} {n : Nat} (h : rightO (readO b n) = true) (h2 : putO (readO b n) = b) : FormO b n := by
  have := FormO.put (rightO_iff.1 h)
  rw [h2, readO_len] at this
  exact this
/-- The first j states, noughts behind. -/
def rdJ (b : List UInt8) (n j : Nat) : List Int := readO b j ++ List.replicate (n - j) 0
theorem rdJ_len {b : List UInt8} {n j : Nat} (h : j ≤ n) : (rdJ b n j).length = n := by
  unfold rdJ; rw [List.length_append, readO_len, List.length_replicate]; omega
theorem rdJ_at {b : List UInt8} {n j : Nat} (h : j < n) : (rdJ b n j)[j]? = some 0 := by
  unfold rdJ
  rw [List.getElem?_append_right (by rw [readO_len]; omega), readO_len, List.getElem?_replicate, if_pos (by omega)]
theorem rdJ_set {b : List UInt8} {n j : Nat} (h : j < n) : (rdJ b n j).set j ((digO b j : Nat) : Int) = rdJ b n (j + 1) := by
  unfold rdJ
  rw [List.set_append_right _ _ (by rw [readO_len]; omega), readO_len, Nat.sub_self, show n - j = (n - (j + 1)) + 1 by omega, List.replicate_succ, List.set_cons_zero]
  unfold readO
  rw [List.range_succ, List.map_append]; simp
theorem rdJ_end (b : List UInt8) (n : Nat) : rdJ b n n = readO b n := by unfold rdJ; simp
theorem cutN_dig {u P : Nat} (hP : P < 4) : cutN u ((P * 2 : Nat) : Int) 2 = u / 4 ^ P % 4 := by
  unfold cutN heldN
  have e1 : (min (max ((P * 2 : Nat) : Int) 0) 64).toNat = P * 2 := by omega
  have e2 : (min (max (2 : Int) 0) 64).toNat = 2 := by decide
  rw [e1, e2, Nat.mul_comm P 2, Nat.pow_mul]
set_option maxRecDepth 20000 in
set_option maxHeartbeats 6400000 in
theorem oget_any (a : Option Addr) (m cap : Nat) (b : List UInt8) (n : Int) (hz : inB n) (w : World) (h : Row w a cap b) (hn : b.length = m) (hb : m ≤ 100000) :
    Calls Try.prog 10 #[.slice a m cap, .int .i64 n] w fun e w' => ∃ v, e = .returned (.tuple #[v, .int .i64 (getOE b n)]) ∧ GOwn inT w w' v (getOL b n) := by
  by_cases h0 : n < 0
  · obtain ⟨e1, e2⟩ := getO_arg (b := b) (n := n) (by omega)
    have hd0 : decide (n < 0) = true := decide_eq_true h0
    rw [e1, e2]
    clear h hn e1 e2 h0
    go_enter Try.func10, Try.ntmps10
    go_wp2_with fail
    go_ret2
    exact ⟨_, rfl, GOwn.nil inT w⟩
  · have hd0 : decide (n < 0) = false := decide_eq_false h0
    by_cases h5 : 512 < n
    · obtain ⟨e1, e2⟩ := getO_arg (b := b) (n := n) (by omega)
      have hd1 : decide (n > 512) = true := decide_eq_true h5
      rw [e1, e2]
      clear h hn e1 e2 h0
      go_enter Try.func10, Try.ntmps10
      go_wp2_with fail
      go_ret2
      exact ⟨_, rfl, GOwn.nil inT w⟩
    · obtain ⟨k, rfl⟩ : ∃ k : Nat, n = k := ⟨n.toNat, by omega⟩
      have hk5 : k ≤ 512 := by omega
      have hd1 : decide ((k : Int) > 512) = false := decide_eq_false h5
      obtain ⟨K, hK⟩ : ∃ K, (k + 3) / 4 = K := ⟨_, rfl⟩
      have HK := Lib.hid hK
      have HS := Lib.hid (fun W => osizeof_any k K (by omega) HK.out W)
      by_cases hmK : m = K
      · subst hmK
        obtain ⟨E, hE⟩ : ∃ E, getOE b (k : Int) = E := ⟨_, rfl⟩
        obtain ⟨L, hL⟩ : ∃ L, getOL b (k : Int) = L := ⟨_, rfl⟩
        rw [hE, hL]
        have HE := Lib.hid hE
        have HL := Lib.hid hL
        have HR := Lib.hid h
        have HN := Lib.hid hn
        have hcp := h.1
        rw [hn] at hcp
        have hcm : cap ≤ 9223372036854775807 := by have := h.2.1; unfold maxLen at this; omega
        clear h hn hE hL h0 h5 hz hK
        go_enter Try.func10, Try.ntmps10
        go_wp2_with fail
        refine (HS.out w).mono ?_
        rintro e w2 ⟨rfl, rfl⟩
        clear HS
        go_upto_region 6 with (refine wp_gzeros inOk info_in (by decide) rfl rfl 0 rfl (show inB 0 by unfold inB; omega) rfl _ _ rfl rfl w (Below.refl _ _) .i64 .i64 _ _ k rfl rfl rfl rfl (by omega) ?_; intro w1 o1 b1; have HO1 := Lib.hid o1; have HR1 := Lib.hid (HR.out.later b1); clear o1 b1)
        obtain ⟨g, hg⟩ : ∃ g, w.heap.size = g := ⟨_, rfl⟩
        rw [hg] at HO1 ⊢
        clear hg
        go_wp2_with fail
        go_loopw [25] (fun i wr => ∃ j : Nat, i = .int .i64 j ∧ j ≤ k ∧ GOwn inT w wr (.slice (some ⟨g, 0, none⟩) k k) (rdJ b k j)) (fun i _ => k - (intOf i).toNat)
        case atStart => exact ⟨0, rfl, by omega, by simpa [rdJ, readO] using HO1.out⟩
        case round =>
          obtain ⟨j, rfl, hj, o⟩ := hrel
          have HO := Lib.hid o
          clear o
          by_cases hjn : (j : Int) < k
          · have hjn2 : decide ((j : Int) < (k : Int)) = true := decide_eq_true hjn
            have hjk : j < k := by omega
            obtain ⟨q, hq⟩ : ∃ q, j / 4 = q := ⟨_, rfl⟩
            have hqK : q < m := by have := HK.out; omega
            obtain ⟨u, hu⟩ : ∃ u, b[q]? = some u := ⟨b[q]'(by rw [HN.out]; exact hqK), List.getElem?_eq_getElem _⟩
            obtain ⟨b1, o1, rfl, p⟩ := (HR.out.later HO.out.below).at (by rw [HN.out]; omega)
            have p0 := p q u hu
            obtain ⟨P, hP⟩ : ∃ P, j % 4 = P := ⟨_, rfl⟩
            have hP4 : P < 4 := by omega
            obtain ⟨U, hU⟩ : ∃ U, u.toNat = U := ⟨_, rfl⟩
            have hU2 : U < 256 := by rw [← hU]; exact u.toNat_lt
            have hdig : digO b j = U / 4 ^ P % 4 := by unfold digO; rw [hq, hP, hu, ← hU]; rfl
            have HPL := Lib.hid (fun W => oplace_any j (P * 2) (by omega) (by rw [hP]) W)
            have HCU := Lib.hid (fun W => cut_any U (by omega) ((P * 2 : Nat) : Int) 2 W)
            rw [cutN_dig hP4] at HCU
            have hset := rdJ_set (b := b) hjk
            rw [hdig] at hset
            obtain ⟨Z, hZ⟩ : ∃ Z, U / 4 ^ P % 4 = Z := ⟨_, rfl⟩
            have hZ4 : Z < 4 := by rw [← hZ]; exact Nat.mod_lt _ (by decide)
            rw [hZ] at hset HCU
            have hrl := rdJ_len (b := b) hj
            have HFR := Lib.hid (fun W (hb : Below wr.heap.size wr W) => (HO.out.later hb).frozenAt hrl j)
            have HCL := Lib.hid (fun W (hb : Below wr.heap.size wr W) => (HO.out.later hb).cell1 inOk rfl hrl (rdJ_at hjk) rfl)
            have HST := Lib.hid (fun W (hb : Below wr.heap.size wr W) => show GOwn inT w (W.setCell ⟨g, j, none⟩ (.int .i64 (Z : Int))) (.slice (some ⟨g, 0, none⟩) k k) (rdJ b k (j + 1)) by
              rw [← hset]; exact (HO.out.later hb).stored1 inOk rfl hrl (rdJ_at hjk) rfl rfl (show inB _ by unfold inB; omega))
            have h4 : (j : Int) / 4 = (q : Int) := by omega
            have p1 : wr.cell? ⟨b1, o1 + q, none⟩ = some (.int .u8 (U : Int)) := by rw [p0, ← hU]; rfl
            have f0 := HFR.out wr (Below.refl _ _)
            have c0 := HCL.out wr (Below.refl _ _)
            have hw1 : IntKind.u64.wrap (U : Int) = U := by rw [IntKind.wrap_u64]; omega
            have hw2 : IntKind.i64.wrap (Z : Int) = Z := i64_small Z (by omega)
            clear hZ hset hdig hU hP hq hu p p0 HR
            go_upto_region 9 with fail
            go_region_with (first
              | (go_at_call 19; refine (HPL.out _).mono ?_; rintro e w6 ⟨rfl, rfl⟩)
              | (go_at_call 20; refine (HCU.out _).mono ?_; rintro e w6 ⟨rfl, q6, rfl⟩))
            all_goals
              go_wp2_with fail
              go_roundw
              case rel => exact ⟨j + 1, by go_num, by omega, by
                first
                | exact HST.out _ (Below.refl _ _)
                | exact HST.out _ (below_drewN _ _)
                | exact (HST.out _ (below_drewN _ _)).later (Below.refl _ _).drew
                | exact (HST.out _ (below_drewN _ _)).later (below_drewN _ _)
                | exact (HST.out _ (Below.refl _ _).drew).later (Below.refl _ _).drew⟩
              case measure => simp [intOf]; omega
          · have hjN : j = k := by omega
            subst hjN
            have HO2 : Hid (GOwn inT w wr (.slice (some ⟨g, 0, none⟩) j j) (readO b j)) := Lib.hid (by rw [← rdJ_end]; exact HO.out)
            have HRO := Lib.hid (HO2.out.row_n inOk (readO_len b j))
            clear HO HO1
            obtain ⟨a3, c3, e3, R3⟩ := HRO.out
            cases e3
            have HPU := Lib.hid (oput_any _ j j (readO b j) wr R3 (readO_len b j) (by omega))
            obtain ⟨B, hB⟩ : ∃ B, rightO (readO b j) = B := ⟨_, rfl⟩
            rw [hB] at HPU
            have HB := Lib.hid hB
            clear hB R3 HRO
            cases B with
            | false =>
              have HNF : Hid (E = 2 ∧ L = []) := Lib.hid (by
                rw [← HE.out, ← HL.out]
                exact getO_form (fun c => by have := rightO_iff.2 (readO_ok c hk5); rw [HB.out] at this; cases this) hk5)
              rw [if_neg (by decide), if_neg (by decide)] at HPU
              go_wp2_with fail
              refine HPU.out.mono ?_
              rintro e w2 ⟨v2, rfl, o2⟩
              have HB2 := Lib.hid (HO2.out.below.trans (o2.below.mono HO2.out.below.size))
              clear o2 HPU HO2
              go_wp2_with fail
              go_ret2
              rw [HNF.out.1, HNF.out.2]
              exact ⟨_, rfl, GOwn.nil' HB2.out⟩
            | true =>
              rw [if_pos rfl, if_pos rfl] at HPU
              obtain ⟨D, hD⟩ : ∃ D, decide (putO (readO b j) = b) = D := ⟨_, rfl⟩
              have HD := Lib.hid hD
              clear hD
              go_wp2_with fail
              refine HPU.out.mono ?_
              rintro e w2 ⟨v2, rfl, o2⟩
              obtain ⟨a4, c4, rfl, R4⟩ := o2.row_n (n := m) (by rw [putO_len, readO_len]; exact HK.out)
              have HEQ := Lib.hid (equal_any a4 a m m c4 cap _ b w2 R4 (HR.out.later (HO2.out.below.trans (o2.below.mono HO2.out.below.size))) (by rw [putO_len, readO_len]; exact HK.out) HN.out)
              rw [HD.out] at HEQ
              have HO3 := Lib.hid (HO2.out.later o2.below)
              clear o2 R4 HPU HO2
              go_wp2_with fail
              refine HEQ.out.mono ?_
              rintro e w3 ⟨rfl, rfl⟩
              cases D with
              | true =>
                have HF : Hid (E = 0 ∧ L = readO b j) := Lib.hid (by
                  rw [← HE.out, ← HL.out]
                  exact getO_ok (form_of HB.out (of_decide_eq_true HD.out)) hk5)
                go_wp2_with fail
                go_ret2
                rw [HF.out.1, HF.out.2]
                exact ⟨_, rfl, HO3.out⟩
              | false =>
                have HF : Hid (E = 2 ∧ L = []) := Lib.hid (by
                  rw [← HE.out, ← HL.out]
                  exact getO_form (fun c => of_decide_eq_false HD.out (putO_read c)) hk5)
                go_wp2_with fail
                go_ret2
                rw [HF.out.1, HF.out.2]
                exact ⟨_, rfl, GOwn.nil' HO3.out.below⟩
      · obtain ⟨e1, e2⟩ := getO_form (b := b) (n := k) (fun c => hmK (by rw [← hn, c.1, hK])) hk5
        have hne : ((m : Int) == (K : Int)) = false := beq_eq_false_iff_ne.2 (by omega)
        have hne2 : ((m : Int) != (K : Int)) = true := by simp [bne, hne]
        have hne3 : (m == K) = false := beq_eq_false_iff_ne.2 hmK
        have hne4 : (m != K) = true := by simp [bne, hne3]
        rw [e1, e2]
        clear h hn e1 e2 h0 h5 hz hmK hK
        go_enter Try.func10, Try.ntmps10
        go_wp2_with fail
        refine (HS.out w).mono ?_
        rintro e w2 ⟨rfl, rfl⟩
        go_wp2_with fail
        go_ret2
        exact ⟨_, rfl, GOwn.nil inT w⟩
end Go.Proofs.Ytikbhekcpddoeaa
