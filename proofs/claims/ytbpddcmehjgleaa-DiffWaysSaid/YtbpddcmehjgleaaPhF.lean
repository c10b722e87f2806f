/- A region that draws its order, as in XPhW, in which several blocks are made: no two of them are one. -/
import Derived.Test.YtbpddcmehjgleaaPhW
namespace Go.Proofs.Ytbpddcmehjgleaa
open Go.RowKit
set_option linter.unusedVariables false
variable {P : Program} {ops : Array Oper} {Q : Exit → Act → World → Prop} {V : Nat → Nat → World → Value → Prop} {J : Nat → World → Prop} {a0 : Act} {w0 : World} {hs : List Nat} {ran : List (Nat × Nat)}
/-- The slots D hold blocks that are there, no two of them one. -/
def Fr (D : List Nat) (a : Act) (w : World) : Prop := ∀ d, d ∈ D → ∀ g, a.tmps.getD d undef = .pointer (some ⟨g, 0, none⟩) → g < w.heap.size ∧ ∀ d', d' ∈ D → d' ≠ d → a.tmps.getD d' undef ≠ .pointer (some ⟨g, 0, none⟩)
/-- An operation that makes one of them makes it anew. -/
def FrOp (D : List Nat) (o : Oper) (v : Value) (w w' : World) : Prop := ∀ d, o.dst = some d → d ∈ D → v = .pointer (some ⟨w.heap.size, 0, none⟩) ∧ w.heap.size < w'.heap.size
theorem Fr.off {D : List Nat} {a : Act} {w w' : World} (h : Fr D a w) {o : Oper} {v : Value} (hs : w.heap.size ≤ w'.heap.size) (hd : ∀ d, o.dst = some d → d ∉ D) : Fr D (a.put o.dst v) w' := by
  have e : ∀ d, d ∈ D → (a.put o.dst v).tmps.getD d undef = a.tmps.getD d undef := by
    intro d hm
    cases hx : o.dst with
    | none => rfl
    | some x =>
      have hne : x ≠ d := fun e => hd x hx (by rw [e]; exact hm)
      simp only [Act.put, Array.getD_eq_getD_getElem?, Array.getElem?_setIfInBounds, if_neg hne]
  intro d hm g hg
  rw [e d hm] at hg
  obtain ⟨h1, h2⟩ := h d hm g hg
  exact ⟨Nat.lt_of_lt_of_le h1 hs, fun d' hm' hne => by rw [e d' hm']; exact h2 d' hm' hne⟩
theorem Fr.on {D : List Nat} {a : Act} {w w' : World} (h : Fr D a w) {o : Oper} {v : Value} (hs : w.heap.size ≤ w'.heap.size) (hsz : ∀ d, o.dst = some d → d < a.tmps.size) (hf : FrOp D o v w w') : Fr D (a.put o.dst v) w' := by
  by_cases hd : ∀ d, o.dst = some d → d ∉ D
  · exact h.off hs hd
  · simp only [Classical.not_forall, Classical.not_not] at hd
    obtain ⟨x, hx, hm⟩ := hd
    obtain ⟨rfl, hlt⟩ := hf x hx hm
    have hx2 := hsz x hx
    rw [hx]
    have e : ∀ d, (a.put (some x) (.pointer (some ⟨w.heap.size, 0, none⟩))).tmps.getD d undef = if d = x then .pointer (some ⟨w.heap.size, 0, none⟩) else a.tmps.getD d undef := fun d => getD_put hx2
    intro d hmd g hg
    rw [e] at hg
    by_cases c : d = x
    · subst c
      rw [if_pos rfl] at hg
      simp only [Value.pointer.injEq, Option.some.injEq, Addr.mk.injEq, and_true] at hg
      subst hg
      refine ⟨hlt, fun d' hm' hne h9 => ?_⟩
      rw [e, if_neg hne] at h9
      exact Nat.lt_irrefl _ (h d' hm' _ h9).1
    · rw [if_neg c] at hg
      obtain ⟨h1, h2⟩ := h d hmd g hg
      refine ⟨Nat.lt_of_lt_of_le h1 hs, fun d' hm' hne h9 => ?_⟩
      rw [e] at h9
      by_cases c2 : d' = x
      · rw [if_pos c2] at h9
        simp only [Value.pointer.injEq, Option.some.injEq, Addr.mk.injEq, and_true] at h9
        omega
      · rw [if_neg c2] at h9
        exact h2 d' hm' hne h9
def OpGoalF (D : List Nat) (P : Program) (ops : Array Oper) (Q : Exit → Act → World → Prop) (L : List SV) (i : Nat) (a : Act) (w : World) : Prop :=
  wpOp P ops Q i (fun a' w' => ∃ o v, ops[i]? = some o ∧ a' = a.put o.dst v ∧ VL L i w' v ∧ Below w.heap.size w w' ∧ FrOp D o v w w') a w
theorem opF {D : List Nat} {L : List SV} {i : Nat} {a : Act} {w : World} {o0 : Oper} (hi : ops[i]? = some o0) (hd : ∀ d, o0.dst = some d → d ∉ D) (h : OpGoal P ops Q L i a w) : OpGoalF D P ops Q L i a w := by
  unfold OpGoalF
  refine wpOp_mono ?_ h
  rintro a' w' ⟨o, v, h1, h2, h3, h4⟩
  rw [hi] at h1
  cases h1
  exact ⟨_, v, hi, h2, h3, h4, fun d hd1 hd2 => absurd hd2 (hd d hd1)⟩
theorem op_runF {D : List Nat} {L : List SV} {i : Nat} {a : Act} {w : World} {o : Oper} (hi : ops[i]? = some o) (hg : o.guard = none) {v : Value} {w' : World} (hrun : (execOp a.eval o).run P w = .ok (.value v) w') (hv : VL L i w' v) (hR : Below w.heap.size w w') (hF : v = .pointer (some ⟨w.heap.size, 0, none⟩) ∧ w.heap.size < w'.heap.size) : OpGoalF D P ops Q L i a w := by
  unfold OpGoalF wpOp
  simp only [hi]
  have : Region.wanted o (yielded ops a.tmps) = true := by unfold Region.wanted; rw [hg]
  rw [if_pos this]
  refine .inl ?_
  unfold Oper.wp
  rw [hrun]
  exact ⟨o, v, rfl, rfl, hv, hR, fun _ _ _ => hF⟩
/-- The step. -/
theorem PhInv.stepF (D : List Nat) (R : World → World → Prop) (hRs : ∀ w w', R w w' → w.heap.size ≤ w'.heap.size) (hok : freeOk2 ops a0.tmps.size = true) (hpo : phaseOk ops hs ran = true) (hnd : hs.Nodup)
    (hst : ∀ ph i w w' v, V ph i w v → R w w' → V ph i w' v) (hJst : ∀ ph w w', J ph w → R w w' → J ph w')
    {listed : Array Bool} {a : Act} {w : World} {ph : Nat} (hinv : PhInv ops hs V J a0 listed a w ph) (hfr : Fr D a w) {i : Nat} (hr : i ∈ Region.ready .any ops listed) {K : Act → World → Prop}
    (hq : i ∉ hs → ∀ lo hi, ran[i]? = some (lo, hi) → lo ≤ ph → ph ≤ hi → ∀ a w, J ph w → Sees ops (V ph) a0 i a w → wpOp P ops Q i (fun a' w' => ∃ o v, ops[i]? = some o ∧ a' = a.put o.dst v ∧ V ph i w' v ∧ R w w' ∧ FrOp D o v w w') a w)
    (hh : hs[ph]? = some i → ∀ a w, J ph w → Fr D a w → Sees ops (V ph) a0 i a w → wpOp P ops Q i (fun a' w' => ∃ o v, ops[i]? = some o ∧ a' = a.put o.dst v ∧ V (ph + 1) i w' v ∧ J (ph + 1) w' ∧ (w.heap.size ≤ w'.heap.size ∧ ∀ d, o.dst = some d → d ∉ D) ∧ ∀ k ok dk, k ≠ i → ops[k]? = some ok → ok.dst = some dk → V ph k w (a.tmps.getD dk undef) → V (ph + 1) k w' (a.tmps.getD dk undef)) a w)
    (hK : ∀ a' w' ph', PhInv ops hs V J a0 (listed.setIfInBounds i true) a' w' ph' → Fr D a' w' → K a' w') : wpOp P ops Q i K a w := by
  have hr2 := List.mem_filter.1 hr
  have hlt : i < ops.size := List.mem_range.1 hr2.1
  obtain ⟨o, hi⟩ : ∃ o, ops[i]? = some o := ⟨ops[i], Array.getElem?_eq_getElem hlt⟩
  have hready := hr2.2
  simp only [hi, Option.map_some, Option.getD_some, Bool.and_eq_true, Bool.not_eq_true'] at hready
  have hnl : listed.getD i false = false := by
    have h1 := hready.1
    have hl : i < listed.size := by rw [hinv.lsize]; exact hlt
    simp only [Array.getD_eq_getD_getElem?, Array.getElem?_eq_getElem hl, Option.getD_some] at h1 ⊢
    exact h1
  have hdeps : ∀ j ∈ bindsOn o, listed.getD j false = true := by
    intro j hj
    unfold bindsOn at hj
    obtain ⟨e, he, rfl⟩ := List.mem_map.1 hj
    obtain ⟨he1, he2⟩ := List.mem_filter.1 he
    have := (Array.all_eq_true_iff_forall_mem.1 hready.2) e (by simpa using he1)
    simp only [he2, Bool.not_true, Bool.false_or] at this
    exact this
  have hancs : ∀ j ∈ anc ops i, listed.getD j false = true := fun j hj => anc_listed hinv.closed ops.size i j (fun o2 h2 k hk => by rw [hi] at h2; cases h2; exact hdeps k hk) hj
  have hancl : ∀ x, listed.getD x false = true → ∀ j ∈ anc ops x, listed.getD j false = true := fun x hx j hj => anc_listed hinv.closed ops.size x j (fun o2 h2 k hk => hinv.closed x o2 k h2 hx hk) hj
  obtain ⟨hdst, hlook, hin⟩ := freeOk2_at hok hi
  have hsees : Sees ops (V ph) a0 i a w := by
    refine ⟨hinv.defers, hinv.size, fun t ht => ?_⟩
    have ht2 := ht o hi
    cases hs2 : srcOf ops i t with
    | some j =>
      obtain ⟨o2, oj, h2, hj1, hj2, hj3⟩ := srcOf_some hs2
      rw [hi] at h2
      cases h2
      exact hinv.val j oj t hj2 hj3 (hdeps j hj1)
    | none =>
      refine hinv.old t fun j oj hj hl hdj => ?_
      have hb := hlook t ht2 hs2 j oj hj hdj
      have := hinv.closed j oj i hj hl hb
      rw [hnl] at this
      cases this
  have hil : i < listed.size := by rw [hinv.lsize]; exact hlt
  simp only [phaseOk, Bool.and_eq_true] at hpo
  obtain ⟨⟨hp1, hp2⟩, hp3⟩ := hpo
  -- what both cases share
  have build : ∀ (a' : Act) (w' : World) (ph' : Nat) (v : Value), a' = a.put o.dst v → ph' ≤ hs.length → (∀ (j h : Nat), hs[j]? = some h → ((listed.setIfInBounds i true).getD h false = true ↔ j < ph')) →
      V ph' i w' v → (∀ k ok dk, k ≠ i → ops[k]? = some ok → ok.dst = some dk → V ph k w (a.tmps.getD dk undef) → V ph' k w' (a.tmps.getD dk undef)) → J ph' w' → PhInv ops hs V J a0 (listed.setIfInBounds i true) a' w' ph' := by
    rintro a' w' ph' v rfl hle hph hv hall hJ
    refine ⟨by simp [hinv.lsize], ?_, ?_, hle, hph, ?_, ?_, ?_, hJ⟩
    · cases o.dst <;> exact hinv.defers
    · cases o.dst <;> simp [Act.put, hinv.size]
    · intro k ok dk hk hdk hl
      by_cases e : k = i
      · subst e
        rw [hi] at hk
        cases hk
        obtain ⟨hdl, huniq⟩ := hdst dk hdk
        rw [hdk, getD_put (by rw [hinv.size]; exact hdl), if_pos rfl]; exact hv
      · rw [getD_set hil, if_neg e] at hl
        have hvk := hall k ok dk e hk hdk (hinv.val k ok dk hk hdk hl)
        cases hd : o.dst with
        | none => exact hvk
        | some d =>
          obtain ⟨hdl, huniq⟩ := hdst d hd
          have hne : dk ≠ d := fun e2 => huniq k ok hk e (by rw [hdk, e2])
          rw [getD_put (by rw [hinv.size]; exact hdl), if_neg hne]
          exact hvk
    · intro t ht
      have hold := hinv.old t fun k ok hk hl => ht k ok hk (by
        rw [getD_set hil]
        split
        · rfl
        · exact hl)
      cases hd : o.dst with
      | none => exact hold
      | some d =>
        obtain ⟨hdl, huniq⟩ := hdst d hd
        have hne : t ≠ d := fun e => ht i o hi (by rw [getD_set hil, if_pos rfl]) (by rw [hd, e])
        rw [getD_put (by rw [hinv.size]; exact hdl), if_neg hne]
        exact hold
    · intro k ok j hk hl hj
      rw [getD_set hil] at hl ⊢
      split
      · rfl
      · by_cases e : k = i
        · subst e
          rw [hi] at hk
          cases hk
          exact hdeps j hj
        · rw [if_neg e] at hl
          exact hinv.closed k ok j hk hl hj
  by_cases hmem : i ∈ hs
  · obtain ⟨j, hj⟩ := List.mem_iff_getElem?.1 hmem
    have hjl := (List.getElem?_eq_some_iff.1 hj).1
    have hle : ph ≤ j := by
      by_cases hc : j < ph
      · have := (hinv.pre j i hj).2 hc
        rw [hnl] at this; cases this
      · omega
    have hge : j ≤ ph := by
      rcases Nat.eq_zero_or_pos j with h0 | h0
      · omega
      · have := (List.all_eq_true.1 hp2) j (List.mem_range.2 hjl)
        simp only [Bool.or_eq_true, decide_eq_true_eq, hj] at this
        rcases this with e | e
        · omega
        · cases hg : hs[j - 1]? with
          | none => simp [hg] at e
          | some g =>
            simp only [hg, List.contains_iff_mem] at e
            have := (hinv.pre (j - 1) g hg).1 (hancs g e)
            omega
    have hje : j = ph := by omega
    subst hje
    refine wpOp_mono ?_ (hh hj a w hinv.world hfr hsees)
    rintro a' w' ⟨o2, v, h2, ha, hv, hJ, hfo, hall⟩
    rw [hi] at h2
    cases h2
    refine hK _ _ (j + 1) (build a' w' (j + 1) v ha hjl ?_ hv hall hJ) (by rw [ha]; exact hfr.off hfo.1 hfo.2)
    intro k h hk
    rw [getD_set hil]
    by_cases e : h = i
    · subst e
      have hkl := (List.getElem?_eq_some_iff.1 hk).1
      have : k = j := (List.getElem?_inj hkl hnd).1 (hk.trans hj.symm)
      subst this
      simp
    · rw [if_neg e, hinv.pre k h hk]
      have hne : k ≠ j := fun e2 => e (by subst e2; rw [hj] at hk; cases hk; rfl)
      omega
  · have hran := (List.all_eq_true.1 hp3) i (List.mem_range.2 hlt)
    have hnc : hs.contains i = false := by simpa using hmem
    rw [hnc, Bool.false_or] at hran
    cases hrn : ran[i]? with
    | none => simp [hrn] at hran
    | some lh =>
      obtain ⟨lo, hi2⟩ := lh
      simp only [hrn, Bool.and_eq_true, Bool.or_eq_true, decide_eq_true_eq] at hran
      have hlo : lo ≤ ph := by
        rcases hran.1 with e | e
        · omega
        · cases hg : hs[lo - 1]? with
          | none => simp [hg] at e
          | some g =>
            simp only [hg, List.contains_iff_mem] at e
            have := (hinv.pre (lo - 1) g hg).1 (hancs g e)
            omega
      have hhi : ph ≤ hi2 := by
        rcases hran.2 with e | e
        · rw [e]; exact hinv.le
        · cases hg : hs[hi2]? with
          | none => simp [hg] at e
          | some g =>
            simp only [hg, List.contains_iff_mem] at e
            by_cases hc : hi2 < ph
            · have := hancl g ((hinv.pre hi2 g hg).2 hc) i e
              rw [hnl] at this; cases this
            · omega
      refine wpOp_mono ?_ (hq hmem lo hi2 hrn hlo hhi a w hinv.world hsees)
      rintro a' w' ⟨o2, v, h2, ha, hv, hb, hfo⟩
      rw [hi] at h2
      cases h2
      refine hK _ _ ph (build a' w' ph v ha hinv.le ?_ hv (fun k ok dk _ _ _ h => hst _ _ _ _ _ h hb) (hJst _ _ _ hinv.world hb)) (by rw [ha]; exact hfr.on (hRs _ _ hb) (fun d hd => by rw [hinv.size]; exact (hdst d hd).1) hfo)
      intro k h hk
      rw [getD_set hil]
      have e : h ≠ i := fun e => hmem (by rw [← e]; exact List.mem_iff_getElem?.2 ⟨k, hk⟩)
      rw [if_neg e]
      exact hinv.pre k h hk


/-- THE REGION, WHATEVER THE ORDER. -/
theorem wp_region_phaseF {id : Nat} (D : List Nat) (hfr0 : Fr D a0 { w0 with drawn := w0.drawn + 1 }) (R : World → World → Prop) (V : Nat → Nat → World → Value → Prop) (J : Nat → World → Prop) (hs : List Nat) (ran : List (Nat × Nat)) (hm : P.follows .mixedOrders = true) (hok : freeOk2 ops a0.tmps.size = true) (hpo : phaseOk ops hs ran = true) (hnd : hs.Nodup)
    (hRs : ∀ w w', R w w' → w.heap.size ≤ w'.heap.size) (hst : ∀ ph i w w' v, V ph i w v → R w w' → V ph i w' v) (hJst : ∀ ph w w', J ph w → R w w' → J ph w') (hJ0 : J 0 { w0 with drawn := w0.drawn + 1 })
    (hq : ∀ i, i < ops.size → i ∉ hs → ∀ lo hi ph, ran[i]? = some (lo, hi) → lo ≤ ph → ph ≤ hi → ∀ a w, J ph w → Sees ops (V ph) a0 i a w → wpOp P ops Q i (fun a' w' => ∃ o v, ops[i]? = some o ∧ a' = a.put o.dst v ∧ V ph i w' v ∧ R w w' ∧ FrOp D o v w w') a w)
    (hh : ∀ ph i, hs[ph]? = some i → ∀ a w, J ph w → Fr D a w → Sees ops (V ph) a0 i a w → wpOp P ops Q i (fun a' w' => ∃ o v, ops[i]? = some o ∧ a' = a.put o.dst v ∧ V (ph + 1) i w' v ∧ J (ph + 1) w' ∧ (w.heap.size ≤ w'.heap.size ∧ ∀ d, o.dst = some d → d ∉ D) ∧ ∀ k ok dk, k ≠ i → ops[k]? = some ok → ok.dst = some dk → V ph k w (a.tmps.getD dk undef) → V (ph + 1) k w' (a.tmps.getD dk undef)) a w)
    (hend : ∀ (f : Nat → Value) w, J hs.length w → (∀ i o d, ops[i]? = some o → o.dst = some d → V hs.length i w (f d)) → Q .normal (putAll ops f a0) w) :
    (Code.region id ops true).wp P Q a0 w0 := by
  refine wp_region_any hm ?_
  have hbound : ∀ o ∈ ops.toList, ∀ d, o.dst = some d → d < a0.tmps.size := by
    intro o ho d hdd
    obtain ⟨i, hi⟩ := List.mem_iff_getElem?.1 ho
    have hi2 : ops[i]? = some o := by simpa using hi
    exact ((freeOk2_at hok hi2).1 d hdd).1
  have hh0 : ∀ h ∈ hs, h < ops.size := by
    simp only [phaseOk, Bool.and_eq_true] at hpo
    intro h hm2
    simpa using (List.all_eq_true.1 hpo.1.1) h hm2
  have fin : ∀ listed a w ph, PhInv ops hs V J a0 listed a w ph → (∀ i, i < ops.size → listed.getD i false = true) → Q .normal a w := by
    intro listed a w ph hinv hall
    have hph : ph = hs.length := by
      have h1 := hinv.le
      rcases Nat.lt_or_ge ph hs.length with c | c
      · have h2 : hs[ph]? = some hs[ph] := List.getElem?_eq_getElem c
        have := (hinv.pre ph hs[ph] h2).1 (hall _ (hh0 _ (List.getElem_mem c)))
        omega
      · omega
    subst hph
    have hv := hend (fun d => a.tmps.getD d undef) w hinv.world (fun i o d hi hdd => hinv.val i o d hi hdd (hall i (Array.getElem?_eq_some_iff.1 hi).1))
    have e : putAll ops (fun d => a.tmps.getD d undef) a0 = a := by
      refine act_ext ?_ ?_ ?_
      · exact (putAll_defers (fun d => a.tmps.getD d undef) ops.toList a0).trans hinv.defers.symm
      · exact (putAll_size (fun d => a.tmps.getD d undef) ops.toList a0).trans hinv.size.symm
      · intro t
        refine (putAll_get (fun d => a.tmps.getD d undef) t ops.toList a0 hbound).trans ?_
        split
        · rfl
        · rename_i hne
          exact (hinv.old t fun i o hi _ hdt => hne ⟨o, List.mem_iff_getElem?.2 ⟨i, by simpa using hi⟩, hdt⟩).symm
    rw [e] at hv
    exact hv
  have main : ∀ fuel listed a w ph, PhInv ops hs V J a0 listed a w ph → Fr D a w → unl ops listed ≤ fuel → wpAny P .any ops Q fuel listed a w := by
    intro fuel
    induction fuel with
    | zero =>
      intro listed a w ph hinv hfr hu
      have hall := all_listed_of_unl (ops := ops) (listed := listed) (by omega)
      refine ⟨?_, fin listed a w ph hinv hall⟩
      refine List.filter_eq_nil_iff.2 fun i hi => ?_
      have := hall i (List.mem_range.1 hi)
      have hil : i < listed.size := by rw [hinv.lsize]; exact List.mem_range.1 hi
      simp only [Array.getD_eq_getD_getElem?, Array.getElem?_eq_getElem hil, Option.getD_some] at this ⊢
      simp [this]
    | succ fuel ih =>
      intro listed a w ph hinv hfr hu
      refine ⟨fun hr => fin listed a w ph hinv (all_listed_of_ready2 hok hinv.lsize hr), fun i hi => ?_⟩
      have hlt : i < ops.size := List.mem_range.1 (List.mem_filter.1 hi).1
      refine PhInv.stepF D R hRs hok hpo hnd hst hJst hinv hfr hi (fun hne lo hi2 h1 h2 h3 => hq i hlt hne lo hi2 ph h1 h2 h3) (fun h1 => hh ph i h1) fun a' w' ph' hinv' hfr' => ih _ _ _ ph' hinv' hfr' ?_
      have hil : i < listed.size := by rw [hinv.lsize]; exact hlt
      have hnl : listed.getD i false = false := by
        have := (List.mem_filter.1 hi).2
        simp only [Bool.and_eq_true, Bool.not_eq_true'] at this
        have h1 := this.1
        simp only [Array.getD_eq_getD_getElem?, Array.getElem?_eq_getElem hil, Option.getD_some] at h1 ⊢
        exact h1
      have := filter_less (fun k => !listed.getD k false) (fun k => !(listed.setIfInBounds i true).getD k false) (fun k hk => by
        rw [getD_set hil] at hk
        split at hk
        · cases hk
        · exact hk) i (by simp [hnl]) (by rw [getD_set hil, if_pos rfl]; rfl) (List.range ops.size) (List.mem_range.2 hlt)
      unfold unl at hu ⊢
      omega
  have hno : ∀ i, (Array.replicate ops.size false).getD i false = false := by
    intro i
    simp only [Array.getD_eq_getD_getElem?, Array.getElem?_replicate]
    split <;> rfl
  refine main ops.size (Array.replicate ops.size false) a0 _ 0 ⟨by simp, rfl, rfl, Nat.zero_le _, fun j h _ => ?_, ?_, fun _ _ => rfl, ?_, hJ0⟩ hfr0 ?_
  · rw [hno]; simp
  · intro i o d _ _ hl
    rw [hno] at hl; cases hl
  · intro i o j _ hl _
    rw [hno] at hl; cases hl
  · unfold unl
    exact Nat.le_trans (List.length_filter_le _ _) (by simp)


/-- What is to be shown of a light operation in a phase, of a heavy one. -/
def HvGoalF (D : List Nat) (P : Program) (ops : Array Oper) (Q : Exit → Act → World → Prop) (L L' : List SV) (J' : World → Prop) (i : Nat) (a : Act) (w : World) : Prop :=
  wpOp P ops Q i (fun a' w' => ∃ o v, ops[i]? = some o ∧ a' = a.put o.dst v ∧ VL L' i w' v ∧ J' w' ∧ (w.heap.size ≤ w'.heap.size ∧ ∀ d, o.dst = some d → d ∉ D) ∧ ∀ k ok dk, k ≠ i → ops[k]? = some ok → ok.dst = some dk → VL L k w (a.tmps.getD dk undef) → VL L' k w' (a.tmps.getD dk undef)) a w

theorem wp_region_ptabF {id : Nat} (D : List Nat) (hfr0 : Fr D a0 w0) (L : Nat → List SV) (J : Nat → World → Prop) (hs : List Nat) (ran : List (Nat × Nat)) (tab : List (List (Nat × Option Nat))) (n m size : Nat)
    (hm : P.follows .mixedOrders = true) (hn : ops.size = n) (hm2 : hs.length = m) (hsize : a0.tmps.size = size) (hok : freeOk2 ops size = true) (hpo : phaseOk ops hs ran = true) (hnd : hs.Nodup) (htab : table ops = tab)
    (hJst : ∀ ph w w', J ph w → Below w.heap.size w w' → J ph w') (hJ0 : J 0 w0)
    (hq : ∀ i, i < n → i ∉ hs → ∀ lo hi ph, ran[i]? = some (lo, hi) → lo ≤ ph → ph ≤ hi → ∀ a w, J ph w → a.tmps.size = size → SeesL (VL (L ph)) a0 a w (tab.getD i []) → OpGoalF D P ops Q (L ph) i a w)
    (hh : ∀ ph, ph < m → ∀ i, hs[ph]? = some i → ∀ a w, J ph w → Fr D a w → a.tmps.size = size → SeesL (VL (L ph)) a0 a w (tab.getD i []) → HvGoalF D P ops Q (L ph) (L (ph + 1)) (J (ph + 1)) i a w)
    (hend : ∀ (f : Nat → Value) w, J m w → (∀ i o d, ops[i]? = some o → o.dst = some d → VL (L m) i w (f d)) → Q .normal (putAll ops f a0) w) :
    (Code.region id ops true).wp P Q a0 w0 := by
  subst hn hsize hm2
  have he : ∀ i, i < ops.size → tab.getD i [] = ((((ops[i]?).map fun o => o.looksAt ops).getD []).map fun t => (t, srcOf ops i t)) := by
    intro i hi
    rw [← htab]
    unfold table
    rw [List.getD_eq_getElem?_getD, List.getElem?_map, List.getElem?_range hi]
    rfl
  refine wp_region_phaseF D hfr0 (fun w w' => Below w.heap.size w w') (fun ph => VL (L ph)) J hs ran hm hok hpo hnd (fun _ _ h => h.size) (fun ph i w w' v h hb => VL_st (L ph) i w w' v h hb) hJst (hJst _ _ _ hJ0 ⟨rfl, rfl, rfl, Nat.le_refl _, fun _ _ => rfl⟩) ?_ ?_ hend
  · intro i hi hne lo hi2 ph h1 h2 h3 a w hJ hS
    exact hq i hi hne lo hi2 ph h1 h2 h3 a w hJ hS.2.1 (by rw [he i hi]; exact seesL_of hS)
  · intro ph i h1 a w hJ hF hS
    have hlt : i < ops.size := by
      have hpo2 := hpo
      simp only [phaseOk, Bool.and_eq_true] at hpo2
      simpa using (List.all_eq_true.1 hpo2.1.1) i (List.mem_iff_getElem?.2 ⟨ph, h1⟩)
    exact hh ph (List.getElem?_eq_some_iff.1 h1).1 i h1 a w hJ hF hS.2.1 (by rw [he i hlt]; exact seesL_of hS)

theorem hv_skipF {D : List Nat} {L L' : List SV} {J' : World → Prop} {i : Nat} {a : Act} {w : World} {o : Oper} (hi : ops[i]? = some o) (hg : o.guard = none) (hd : o.dst = none) {w' : World} (hrun : (execOp a.eval o).run P w = .ok .skip w') (hsz : w.heap.size ≤ w'.heap.size)
    (hv : VL L' i w' undef) (hJ : J' w') (hall : ∀ k ok dk, k ≠ i → ops[k]? = some ok → ok.dst = some dk → VL L k w (a.tmps.getD dk undef) → VL L' k w' (a.tmps.getD dk undef)) : HvGoalF D P ops Q L L' J' i a w := by
  unfold HvGoalF wpOp
  simp only [hi]
  have : Region.wanted o (yielded ops a.tmps) = true := by unfold Region.wanted; rw [hg]
  rw [if_pos this]
  refine .inl ?_
  unfold Oper.wp
  rw [hrun]
  exact ⟨o, undef, rfl, rfl, hv, hJ, ⟨hsz, fun d h => by rw [hd] at h; cases h⟩, hall⟩
/-- A record stored whole. -/
theorem hv_recF {D : List Nat} {L L' : List SV} {J' : World → Prop} {i : Nat} {a : Act} {w : World} {o : Oper} (hi : ops[i]? = some o) (hg : o.guard = none) (hd : o.dst = none)
    {x : Nat} {ty : TypeId} {cs vs : Array Value} {p v : Operand} (ho : o.op = .store ty p v) (hp : a.eval p = .pointer (some ⟨x, 0, none⟩)) (hv : a.eval v = .agg vs)
    (h : RecAt w x cs ty) (hs : vs.size = cs.size) (hinfo : (P.info? ty).map (·.size) = some vs.size) (h1 : vs.all (·.oneCell') = true) (hV : ∀ w', VL L' i w' undef)
    (hJ : ∀ w', RecAt w' x vs ty → w'.heap.size = w.heap.size → (∀ y, y ≠ x → w'.heap[y]? = w.heap[y]?) → w.grownBy w' (some x) → J' w' ∧ ∀ k ok dk, k ≠ i → ops[k]? = some ok → ok.dst = some dk → VL L k w (a.tmps.getD dk undef) → VL L' k w' (a.tmps.getD dk undef)) : HvGoalF D P ops Q L L' J' i a w := by
  obtain ⟨w', hrun, r1, r2, r3, r4⟩ := run_rec (P := P) w x ty cs vs h hs hinfo h1 o a p v ho hp hv
  exact hv_skipF hi hg hd hrun (Nat.le_of_eq r2.symm) (hV w') (hJ w' r1 r2 r3 r4).1 (hJ w' r1 r2 r3 r4).2
end Go.Proofs.Ytbpddcmehjgleaa
