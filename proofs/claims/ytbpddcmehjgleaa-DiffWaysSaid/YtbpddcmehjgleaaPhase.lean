/- A region that draws its order and holds operations that turn memory: these stand in one order among themselves (each waits for the one ahead), the others are walked alone, in each phase in which they may come up. -/
import Derived.Test.YtbpddcmehjgleaaFree
namespace Go.Proofs.Ytbpddcmehjgleaa
open Go.RowKit
set_option linter.unusedVariables false

/-- Whatever an operation waits for, at whatever remove. -/
def ancF (ops : Array Oper) : Nat → Nat → List Nat
  | 0, _ => []
  | n + 1, i => match ops[i]? with
    | none => []
    | some o => (bindsOn o).flatMap fun j => j :: ancF ops n j
def anc (ops : Array Oper) (i : Nat) : List Nat := ancF ops ops.size i

def freeOk2 (ops : Array Oper) (size : Nat) : Bool :=
  (List.range ops.size).all fun i =>
    match ops[i]? with
    | none => true
    | some o =>
      (match o.dst with
       | none => true
       | some d => decide (d < size) && (List.range ops.size).all fun j => decide (j = i) || decide ((ops[j]?).bind (·.dst) ≠ some d)) &&
      (o.looksAt ops).all (fun t => decide (t < size) && ((srcOf ops i t).isSome || (List.range ops.size).all fun j => decide ((ops[j]?).bind (·.dst) ≠ some t) || (match ops[j]? with | some oj => (bindsOn oj).contains i | none => true))) &&
      (bindsOn o).all fun j => decide (j < i)
/-- The heavy ones wait each for the one ahead; the others' phases. -/
def phaseOk (ops : Array Oper) (hs : List Nat) (ran : List (Nat × Nat)) : Bool :=
  hs.all (fun h => decide (h < ops.size)) &&
  (List.range hs.length).all (fun j => decide (j = 0) || (match hs[j]?, hs[j - 1]? with | some h, some g => (anc ops h).contains g | _, _ => false)) &&
  (List.range ops.size).all (fun i => hs.contains i || match ran[i]? with
    | none => false
    | some (lo, hi) => (decide (lo = 0) || (match hs[lo - 1]? with | some h => (anc ops i).contains h | none => false)) && (decide (hi = hs.length) || (match hs[hi]? with | some h => (anc ops h).contains i | none => false)))

structure PhInv (ops : Array Oper) (hs : List Nat) (V : Nat → Nat → World → Value → Prop) (J : Nat → World → Prop) (a0 : Act) (listed : Array Bool) (a : Act) (w : World) (ph : Nat) : Prop where
  lsize : listed.size = ops.size
  defers : a.defers = a0.defers
  size : a.tmps.size = a0.tmps.size
  le : ph ≤ hs.length
  pre : ∀ (j h : Nat), hs[j]? = some h → (listed.getD h false = true ↔ j < ph)
  val : ∀ i o d, ops[i]? = some o → o.dst = some d → listed.getD i false = true → V ph i w (a.tmps.getD d undef)
  old : ∀ t, (∀ i o, ops[i]? = some o → listed.getD i false = true → o.dst ≠ some t) → a.tmps.getD t undef = a0.tmps.getD t undef
  closed : ∀ i o j, ops[i]? = some o → listed.getD i false = true → j ∈ bindsOn o → listed.getD j false = true
  world : J ph w

section
variable {P : Program} {ops : Array Oper} {Q : Exit → Act → World → Prop} {V : Nat → Nat → World → Value → Prop} {J : Nat → World → Prop} {a0 : Act} {w0 : World} {hs : List Nat} {ran : List (Nat × Nat)}

theorem freeOk2_at (h : freeOk2 ops a0.tmps.size = true) {i : Nat} {o : Oper} (hi : ops[i]? = some o) :
    (∀ d, o.dst = some d → d < a0.tmps.size ∧ (∀ (j : Nat) (oj : Oper), ops[j]? = some oj → j ≠ i → oj.dst ≠ some d)) ∧
      (∀ t ∈ o.looksAt ops, srcOf ops i t = none → ∀ (j : Nat) (oj : Oper), ops[j]? = some oj → oj.dst = some t → i ∈ bindsOn oj) ∧ ∀ j ∈ bindsOn o, j < i := by
  have hlt : i < ops.size := (Array.getElem?_eq_some_iff.1 hi).1
  have := (List.all_eq_true.1 h) i (List.mem_range.2 hlt)
  simp only [hi, Bool.and_eq_true] at this
  obtain ⟨⟨h1, h2⟩, h3⟩ := this
  refine ⟨fun d hd => ?_, fun t ht hs j oj hj hd2 => ?_, fun j hj => ?_⟩
  · simp only [hd, Bool.and_eq_true, decide_eq_true_eq] at h1
    refine ⟨h1.1, fun j oj hj hne => ?_⟩
    have hjl : j < ops.size := (Array.getElem?_eq_some_iff.1 hj).1
    have := (List.all_eq_true.1 h1.2) j (List.mem_range.2 hjl)
    simp only [Bool.or_eq_true, decide_eq_true_eq, hj, Option.bind_some] at this
    rcases this with e | e
    · exact absurd e hne
    · exact e
  · have hjl : j < ops.size := (Array.getElem?_eq_some_iff.1 hj).1
    have := (List.all_eq_true.1 h2) t ht
    simp only [Bool.and_eq_true, hs, Option.isSome_none, Bool.false_or] at this
    have := (List.all_eq_true.1 this.2) j (List.mem_range.2 hjl)
    simp only [Bool.or_eq_true, decide_eq_true_eq, hj, Option.bind_some] at this
    rcases this with e | e
    · exact absurd hd2 e
    · simpa using e
  · have := (List.all_eq_true.1 h3) j hj
    simpa using this

theorem anc_listed {listed : Array Bool} (hc : ∀ i o j, ops[i]? = some o → listed.getD i false = true → j ∈ bindsOn o → listed.getD j false = true) :
    ∀ n i j, (∀ o, ops[i]? = some o → ∀ k ∈ bindsOn o, listed.getD k false = true) → j ∈ ancF ops n i → listed.getD j false = true := by
  intro n
  induction n with
  | zero => intro i j _ hj; simp [ancF] at hj
  | succ n ih =>
    intro i j hd hj
    unfold ancF at hj
    cases ho : ops[i]? with
    | none => simp [ho] at hj
    | some o =>
      simp only [ho] at hj
      obtain ⟨k, hk, hk2⟩ := List.mem_flatMap.1 hj
      have hkl := hd o ho k hk
      rcases List.mem_cons.1 hk2 with e | e
      · subst e; exact hkl
      · exact ih k j (fun ok hok m hm => hc k ok m hok hkl hm) e

/-- The step. -/
theorem PhInv.step (R : World → World → Prop) (hok : freeOk2 ops a0.tmps.size = true) (hpo : phaseOk ops hs ran = true) (hnd : hs.Nodup)
    (hst : ∀ ph i w w' v, V ph i w v → R w w' → V ph i w' v) (hJst : ∀ ph w w', J ph w → R w w' → J ph w')
    {listed : Array Bool} {a : Act} {w : World} {ph : Nat} (hinv : PhInv ops hs V J a0 listed a w ph) {i : Nat} (hr : i ∈ Region.ready .any ops listed) {K : Act → World → Prop}
    (hq : i ∉ hs → ∀ lo hi, ran[i]? = some (lo, hi) → lo ≤ ph → ph ≤ hi → ∀ a w, J ph w → Sees ops (V ph) a0 i a w → wpOp P ops Q i (fun a' w' => ∃ o v, ops[i]? = some o ∧ a' = a.put o.dst v ∧ V ph i w' v ∧ R w w') a w)
    (hh : hs[ph]? = some i → ∀ a w, J ph w → Sees ops (V ph) a0 i a w → wpOp P ops Q i (fun a' w' => ∃ o v, ops[i]? = some o ∧ a' = a.put o.dst v ∧ V (ph + 1) i w' v ∧ J (ph + 1) w' ∧ ∀ k v0, k ≠ i → V ph k w v0 → V (ph + 1) k w' v0) a w)
    (hK : ∀ a' w' ph', PhInv ops hs V J a0 (listed.setIfInBounds i true) a' w' ph' → K a' w') : wpOp P ops Q i K a w := by
  have hr2 := List.mem_filter.1 hr
  have hlt : i < ops.size := List.mem_range.1 hr2.1
  obtain ⟨o, hi⟩ : ∃ o, ops[i]? = some o := ⟨ops[i], Array.getElem?_eq_getElem hlt⟩
  have hready := hr2.2
  simp only [hi, Option.map_some, Option.getD_some, Bool.and_eq_true, Bool.not_eq_true'] at hready
  have hnl : listed.getD i false = false := by
    have h1 := hready.1
    have hl : i < listed.size := by rw [hinv.lsize]; exact hlt
    simp only [Array.getD_eq_getD_getElem?, Array.getElem?_eq_getElem hl, Option.getD_some] at h1 ⊢
    exact h1
  have hdeps : ∀ j ∈ bindsOn o, listed.getD j false = true := by
    intro j hj
    unfold bindsOn at hj
    obtain ⟨e, he, rfl⟩ := List.mem_map.1 hj
    obtain ⟨he1, he2⟩ := List.mem_filter.1 he
    have := (Array.all_eq_true_iff_forall_mem.1 hready.2) e (by simpa using he1)
    simp only [he2, Bool.not_true, Bool.false_or] at this
    exact this
  have hancs : ∀ j ∈ anc ops i, listed.getD j false = true := fun j hj => anc_listed hinv.closed ops.size i j (fun o2 h2 k hk => by rw [hi] at h2; cases h2; exact hdeps k hk) hj
  have hancl : ∀ x, listed.getD x false = true → ∀ j ∈ anc ops x, listed.getD j false = true := fun x hx j hj => anc_listed hinv.closed ops.size x j (fun o2 h2 k hk => hinv.closed x o2 k h2 hx hk) hj
  obtain ⟨hdst, hlook, hin⟩ := freeOk2_at hok hi
  have hsees : Sees ops (V ph) a0 i a w := by
    refine ⟨hinv.defers, hinv.size, fun t ht => ?_⟩
    have ht2 := ht o hi
    cases hs2 : srcOf ops i t with
    | some j =>
      obtain ⟨o2, oj, h2, hj1, hj2, hj3⟩ := srcOf_some hs2
      rw [hi] at h2
      cases h2
      exact hinv.val j oj t hj2 hj3 (hdeps j hj1)
    | none =>
      refine hinv.old t fun j oj hj hl hdj => ?_
      have hb := hlook t ht2 hs2 j oj hj hdj
      have := hinv.closed j oj i hj hl hb
      rw [hnl] at this
      cases this
  have hil : i < listed.size := by rw [hinv.lsize]; exact hlt
  simp only [phaseOk, Bool.and_eq_true] at hpo
  obtain ⟨⟨hp1, hp2⟩, hp3⟩ := hpo
  -- what both cases share
  have build : ∀ (a' : Act) (w' : World) (ph' : Nat) (v : Value), a' = a.put o.dst v → ph' ≤ hs.length → (∀ (j h : Nat), hs[j]? = some h → ((listed.setIfInBounds i true).getD h false = true ↔ j < ph')) →
      V ph' i w' v → (∀ k v0, k ≠ i → V ph k w v0 → V ph' k w' v0) → J ph' w' → PhInv ops hs V J a0 (listed.setIfInBounds i true) a' w' ph' := by
    rintro a' w' ph' v rfl hle hph hv hall hJ
    refine ⟨by simp [hinv.lsize], ?_, ?_, hle, hph, ?_, ?_, ?_, hJ⟩
    · cases o.dst <;> exact hinv.defers
    · cases o.dst <;> simp [Act.put, hinv.size]
    · intro k ok dk hk hdk hl
      by_cases e : k = i
      · subst e
        rw [hi] at hk
        cases hk
        obtain ⟨hdl, huniq⟩ := hdst dk hdk
        rw [hdk, getD_put (by rw [hinv.size]; exact hdl), if_pos rfl]; exact hv
      · rw [getD_set hil, if_neg e] at hl
        have hvk := hall k _ e (hinv.val k ok dk hk hdk hl)
        cases hd : o.dst with
        | none => exact hvk
        | some d =>
          obtain ⟨hdl, huniq⟩ := hdst d hd
          have hne : dk ≠ d := fun e2 => huniq k ok hk e (by rw [hdk, e2])
          rw [getD_put (by rw [hinv.size]; exact hdl), if_neg hne]
          exact hvk
    · intro t ht
      have hold := hinv.old t fun k ok hk hl => ht k ok hk (by
        rw [getD_set hil]
        split
        · rfl
        · exact hl)
      cases hd : o.dst with
      | none => exact hold
      | some d =>
        obtain ⟨hdl, huniq⟩ := hdst d hd
        have hne : t ≠ d := fun e => ht i o hi (by rw [getD_set hil, if_pos rfl]) (by rw [hd, e])
        rw [getD_put (by rw [hinv.size]; exact hdl), if_neg hne]
        exact hold
    · intro k ok j hk hl hj
      rw [getD_set hil] at hl ⊢
      split
      · rfl
      · by_cases e : k = i
        · subst e
          rw [hi] at hk
          cases hk
          exact hdeps j hj
        · rw [if_neg e] at hl
          exact hinv.closed k ok j hk hl hj
  by_cases hmem : i ∈ hs
  · obtain ⟨j, hj⟩ := List.mem_iff_getElem?.1 hmem
    have hjl := (List.getElem?_eq_some_iff.1 hj).1
    have hle : ph ≤ j := by
      by_cases hc : j < ph
      · have := (hinv.pre j i hj).2 hc
        rw [hnl] at this; cases this
      · omega
    have hge : j ≤ ph := by
      rcases Nat.eq_zero_or_pos j with h0 | h0
      · omega
      · have := (List.all_eq_true.1 hp2) j (List.mem_range.2 hjl)
        simp only [Bool.or_eq_true, decide_eq_true_eq, hj] at this
        rcases this with e | e
        · omega
        · cases hg : hs[j - 1]? with
          | none => simp [hg] at e
          | some g =>
            simp only [hg, List.contains_iff_mem] at e
            have := (hinv.pre (j - 1) g hg).1 (hancs g e)
            omega
    have hje : j = ph := by omega
    subst hje
    refine wpOp_mono ?_ (hh hj a w hinv.world hsees)
    rintro a' w' ⟨o2, v, h2, ha, hv, hJ, hall⟩
    rw [hi] at h2
    cases h2
    refine hK _ _ (j + 1) (build a' w' (j + 1) v ha hjl ?_ hv hall hJ)
    intro k h hk
    rw [getD_set hil]
    by_cases e : h = i
    · subst e
      have hkl := (List.getElem?_eq_some_iff.1 hk).1
      have : k = j := (List.getElem?_inj hkl hnd).1 (hk.trans hj.symm)
      subst this
      simp
    · rw [if_neg e, hinv.pre k h hk]
      have hne : k ≠ j := fun e2 => e (by subst e2; rw [hj] at hk; cases hk; rfl)
      omega
  · have hran := (List.all_eq_true.1 hp3) i (List.mem_range.2 hlt)
    have hnc : hs.contains i = false := by simpa using hmem
    rw [hnc, Bool.false_or] at hran
    cases hrn : ran[i]? with
    | none => simp [hrn] at hran
    | some lh =>
      obtain ⟨lo, hi2⟩ := lh
      simp only [hrn, Bool.and_eq_true, Bool.or_eq_true, decide_eq_true_eq] at hran
      have hlo : lo ≤ ph := by
        rcases hran.1 with e | e
        · omega
        · cases hg : hs[lo - 1]? with
          | none => simp [hg] at e
          | some g =>
            simp only [hg, List.contains_iff_mem] at e
            have := (hinv.pre (lo - 1) g hg).1 (hancs g e)
            omega
      have hhi : ph ≤ hi2 := by
        rcases hran.2 with e | e
        · rw [e]; exact hinv.le
        · cases hg : hs[hi2]? with
          | none => simp [hg] at e
          | some g =>
            simp only [hg, List.contains_iff_mem] at e
            by_cases hc : hi2 < ph
            · have := hancl g ((hinv.pre hi2 g hg).2 hc) i e
              rw [hnl] at this; cases this
            · omega
      refine wpOp_mono ?_ (hq hmem lo hi2 hrn hlo hhi a w hinv.world hsees)
      rintro a' w' ⟨o2, v, h2, ha, hv, hb⟩
      rw [hi] at h2
      cases h2
      refine hK _ _ ph (build a' w' ph v ha hinv.le ?_ hv (fun k v0 _ h => hst _ _ _ _ _ h hb) (hJst _ _ _ hinv.world hb))
      intro k h hk
      rw [getD_set hil]
      have e : h ≠ i := fun e => hmem (by rw [← e]; exact List.mem_iff_getElem?.2 ⟨k, hk⟩)
      rw [if_neg e]
      exact hinv.pre k h hk

theorem all_listed_of_ready2 (hok : freeOk2 ops a0.tmps.size = true) {listed : Array Bool} (hl : listed.size = ops.size) (h : Region.ready .any ops listed = []) :
    ∀ i, i < ops.size → listed.getD i false = true := by
  intro i
  induction i using Nat.strongRecOn with
  | _ i ih =>
    intro hi
    obtain ⟨o, ho⟩ : ∃ o, ops[i]? = some o := ⟨ops[i], Array.getElem?_eq_getElem hi⟩
    obtain ⟨_, _, hin⟩ := freeOk2_at hok ho
    have hnr := (List.filter_eq_nil_iff.1 h) i (List.mem_range.2 hi)
    simp only [ho, Option.map_some, Option.getD_some, Bool.and_eq_true, Bool.not_eq_true', not_and] at hnr
    have hil : i < listed.size := by omega
    by_cases e : listed.getD i true = false
    · refine absurd ?_ (hnr e)
      refine Array.all_eq_true_iff_forall_mem.2 fun x hx => ?_
      by_cases hb : Region.binds .any x = true
      · have hm : x.on ∈ bindsOn o := List.mem_map.2 ⟨x, List.mem_filter.2 ⟨by simpa using hx, hb⟩, rfl⟩
        have hlt := hin x.on hm
        simp only [ih x.on hlt (by omega), Bool.or_true]
      · simp [hb]
    · simp only [Array.getD_eq_getD_getElem?, Array.getElem?_eq_getElem hil, Option.getD_some] at e ⊢
      simpa using e
/-- THE REGION, WHATEVER THE ORDER. -/
theorem wp_region_phase {id : Nat} (R : World → World → Prop) (V : Nat → Nat → World → Value → Prop) (J : Nat → World → Prop) (hs : List Nat) (ran : List (Nat × Nat)) (hm : P.follows .mixedOrders = true) (hok : freeOk2 ops a0.tmps.size = true) (hpo : phaseOk ops hs ran = true) (hnd : hs.Nodup)
    (hst : ∀ ph i w w' v, V ph i w v → R w w' → V ph i w' v) (hJst : ∀ ph w w', J ph w → R w w' → J ph w') (hJ0 : J 0 { w0 with drawn := w0.drawn + 1 })
    (hq : ∀ i, i < ops.size → i ∉ hs → ∀ lo hi ph, ran[i]? = some (lo, hi) → lo ≤ ph → ph ≤ hi → ∀ a w, J ph w → Sees ops (V ph) a0 i a w → wpOp P ops Q i (fun a' w' => ∃ o v, ops[i]? = some o ∧ a' = a.put o.dst v ∧ V ph i w' v ∧ R w w') a w)
    (hh : ∀ ph i, hs[ph]? = some i → ∀ a w, J ph w → Sees ops (V ph) a0 i a w → wpOp P ops Q i (fun a' w' => ∃ o v, ops[i]? = some o ∧ a' = a.put o.dst v ∧ V (ph + 1) i w' v ∧ J (ph + 1) w' ∧ ∀ k v0, k ≠ i → V ph k w v0 → V (ph + 1) k w' v0) a w)
    (hend : ∀ (f : Nat → Value) w, J hs.length w → (∀ i o d, ops[i]? = some o → o.dst = some d → V hs.length i w (f d)) → Q .normal (putAll ops f a0) w) :
    (Code.region id ops true).wp P Q a0 w0 := by
  refine wp_region_any hm ?_
  have hbound : ∀ o ∈ ops.toList, ∀ d, o.dst = some d → d < a0.tmps.size := by
    intro o ho d hdd
    obtain ⟨i, hi⟩ := List.mem_iff_getElem?.1 ho
    have hi2 : ops[i]? = some o := by simpa using hi
    exact ((freeOk2_at hok hi2).1 d hdd).1
  have hh0 : ∀ h ∈ hs, h < ops.size := by
    simp only [phaseOk, Bool.and_eq_true] at hpo
    intro h hm2
    simpa using (List.all_eq_true.1 hpo.1.1) h hm2
  have fin : ∀ listed a w ph, PhInv ops hs V J a0 listed a w ph → (∀ i, i < ops.size → listed.getD i false = true) → Q .normal a w := by
    intro listed a w ph hinv hall
    have hph : ph = hs.length := by
      have h1 := hinv.le
      rcases Nat.lt_or_ge ph hs.length with c | c
      · have h2 : hs[ph]? = some hs[ph] := List.getElem?_eq_getElem c
        have := (hinv.pre ph hs[ph] h2).1 (hall _ (hh0 _ (List.getElem_mem c)))
        omega
      · omega
    subst hph
    have hv := hend (fun d => a.tmps.getD d undef) w hinv.world (fun i o d hi hdd => hinv.val i o d hi hdd (hall i (Array.getElem?_eq_some_iff.1 hi).1))
    have e : putAll ops (fun d => a.tmps.getD d undef) a0 = a := by
      refine act_ext ?_ ?_ ?_
      · exact (putAll_defers (fun d => a.tmps.getD d undef) ops.toList a0).trans hinv.defers.symm
      · exact (putAll_size (fun d => a.tmps.getD d undef) ops.toList a0).trans hinv.size.symm
      · intro t
        refine (putAll_get (fun d => a.tmps.getD d undef) t ops.toList a0 hbound).trans ?_
        split
        · rfl
        · rename_i hne
          exact (hinv.old t fun i o hi _ hdt => hne ⟨o, List.mem_iff_getElem?.2 ⟨i, by simpa using hi⟩, hdt⟩).symm
    rw [e] at hv
    exact hv
  have main : ∀ fuel listed a w ph, PhInv ops hs V J a0 listed a w ph → unl ops listed ≤ fuel → wpAny P .any ops Q fuel listed a w := by
    intro fuel
    induction fuel with
    | zero =>
      intro listed a w ph hinv hu
      have hall := all_listed_of_unl (ops := ops) (listed := listed) (by omega)
      refine ⟨?_, fin listed a w ph hinv hall⟩
      refine List.filter_eq_nil_iff.2 fun i hi => ?_
      have := hall i (List.mem_range.1 hi)
      have hil : i < listed.size := by rw [hinv.lsize]; exact List.mem_range.1 hi
      simp only [Array.getD_eq_getD_getElem?, Array.getElem?_eq_getElem hil, Option.getD_some] at this ⊢
      simp [this]
    | succ fuel ih =>
      intro listed a w ph hinv hu
      refine ⟨fun hr => fin listed a w ph hinv (all_listed_of_ready2 hok hinv.lsize hr), fun i hi => ?_⟩
      have hlt : i < ops.size := List.mem_range.1 (List.mem_filter.1 hi).1
      refine hinv.step R hok hpo hnd hst hJst hi (fun hne lo hi2 h1 h2 h3 => hq i hlt hne lo hi2 ph h1 h2 h3) (fun h1 => hh ph i h1) fun a' w' ph' hinv' => ih _ _ _ ph' hinv' ?_
      have hil : i < listed.size := by rw [hinv.lsize]; exact hlt
      have hnl : listed.getD i false = false := by
        have := (List.mem_filter.1 hi).2
        simp only [Bool.and_eq_true, Bool.not_eq_true'] at this
        have h1 := this.1
        simp only [Array.getD_eq_getD_getElem?, Array.getElem?_eq_getElem hil, Option.getD_some] at h1 ⊢
        exact h1
      have := filter_less (fun k => !listed.getD k false) (fun k => !(listed.setIfInBounds i true).getD k false) (fun k hk => by
        rw [getD_set hil] at hk
        split at hk
        · cases hk
        · exact hk) i (by simp [hnl]) (by rw [getD_set hil, if_pos rfl]; rfl) (List.range ops.size) (List.mem_range.2 hlt)
      unfold unl at hu ⊢
      omega
  have hno : ∀ i, (Array.replicate ops.size false).getD i false = false := by
    intro i
    simp only [Array.getD_eq_getD_getElem?, Array.getElem?_replicate]
    split <;> rfl
  refine main ops.size (Array.replicate ops.size false) a0 _ 0 ⟨by simp, rfl, rfl, Nat.zero_le _, fun j h _ => ?_, ?_, fun _ _ => rfl, ?_, hJ0⟩ ?_
  · rw [hno]; simp
  · intro i o d _ _ hl
    rw [hno] at hl; cases hl
  · intro i o j _ hl _
    rw [hno] at hl; cases hl
  · unfold unl
    exact Nat.le_trans (List.length_filter_le _ _) (by simp)

/-- What is to be shown of a light operation in a phase, of a heavy one. -/
def HvGoal (P : Program) (ops : Array Oper) (Q : Exit → Act → World → Prop) (L L' : List SV) (J' : World → Prop) (i : Nat) (a : Act) (w : World) : Prop :=
  wpOp P ops Q i (fun a' w' => ∃ o v, ops[i]? = some o ∧ a' = a.put o.dst v ∧ VL L' i w' v ∧ J' w' ∧ ∀ k v0, k ≠ i → VL L k w v0 → VL L' k w' v0) a w

theorem wp_region_ptab {id : Nat} (L : Nat → List SV) (J : Nat → World → Prop) (hs : List Nat) (ran : List (Nat × Nat)) (tab : List (List (Nat × Option Nat))) (n m size : Nat)
    (hm : P.follows .mixedOrders = true) (hn : ops.size = n) (hm2 : hs.length = m) (hsize : a0.tmps.size = size) (hok : freeOk2 ops size = true) (hpo : phaseOk ops hs ran = true) (hnd : hs.Nodup) (htab : table ops = tab)
    (hJst : ∀ ph w w', J ph w → Below w.heap.size w w' → J ph w') (hJ0 : J 0 w0)
    (hq : ∀ i, i < n → i ∉ hs → ∀ lo hi ph, ran[i]? = some (lo, hi) → lo ≤ ph → ph ≤ hi → ∀ a w, J ph w → a.tmps.size = size → SeesL (VL (L ph)) a0 a w (tab.getD i []) → OpGoal P ops Q (L ph) i a w)
    (hh : ∀ ph, ph < m → ∀ i, hs[ph]? = some i → ∀ a w, J ph w → a.tmps.size = size → SeesL (VL (L ph)) a0 a w (tab.getD i []) → HvGoal P ops Q (L ph) (L (ph + 1)) (J (ph + 1)) i a w)
    (hend : ∀ (f : Nat → Value) w, J m w → (∀ i o d, ops[i]? = some o → o.dst = some d → VL (L m) i w (f d)) → Q .normal (putAll ops f a0) w) :
    (Code.region id ops true).wp P Q a0 w0 := by
  subst hn hsize hm2
  have he : ∀ i, i < ops.size → tab.getD i [] = ((((ops[i]?).map fun o => o.looksAt ops).getD []).map fun t => (t, srcOf ops i t)) := by
    intro i hi
    rw [← htab]
    unfold table
    rw [List.getD_eq_getElem?_getD, List.getElem?_map, List.getElem?_range hi]
    rfl
  refine wp_region_phase (fun w w' => Below w.heap.size w w') (fun ph => VL (L ph)) J hs ran hm hok hpo hnd (fun ph i w w' v h hb => VL_st (L ph) i w w' v h hb) hJst (hJst _ _ _ hJ0 ⟨rfl, rfl, rfl, Nat.le_refl _, fun _ _ => rfl⟩) ?_ ?_ hend
  · intro i hi hne lo hi2 ph h1 h2 h3 a w hJ hS
    exact hq i hi hne lo hi2 ph h1 h2 h3 a w hJ hS.2.1 (by rw [he i hi]; exact seesL_of hS)
  · intro ph i h1 a w hJ hS
    have hlt : i < ops.size := by
      have hpo2 := hpo
      simp only [phaseOk, Bool.and_eq_true] at hpo2
      simpa using (List.all_eq_true.1 hpo2.1.1) i (List.mem_iff_getElem?.2 ⟨ph, h1⟩)
    exact hh ph (List.getElem?_eq_some_iff.1 h1).1 i h1 a w hJ hS.2.1 (by rw [he i hlt]; exact seesL_of hS)

/-! ### exact: light operations leave the world as it is -/
def OpGoalX (P : Program) (ops : Array Oper) (Q : Exit → Act → World → Prop) (L : List SV) (i : Nat) (a : Act) (w : World) : Prop :=
  wpOp P ops Q i (fun a' w' => ∃ o v, ops[i]? = some o ∧ a' = a.put o.dst v ∧ VL L i w' v ∧ w' = w) a w
theorem wp_region_xtab {id : Nat} (L : Nat → List SV) (J : Nat → World → Prop) (hs : List Nat) (ran : List (Nat × Nat)) (tab : List (List (Nat × Option Nat))) (n m size : Nat)
    (hm : P.follows .mixedOrders = true) (hn : ops.size = n) (hm2 : hs.length = m) (hsize : a0.tmps.size = size) (hok : freeOk2 ops size = true) (hpo : phaseOk ops hs ran = true) (hnd : hs.Nodup) (htab : table ops = tab)
    (hJ0 : J 0 w0.drew)
    (hq : ∀ i, i < n → i ∉ hs → ∀ lo hi ph, ran[i]? = some (lo, hi) → lo ≤ ph → ph ≤ hi → ∀ a w, J ph w → a.tmps.size = size → SeesL (VL (L ph)) a0 a w (tab.getD i []) → OpGoalX P ops Q (L ph) i a w)
    (hh : ∀ ph, ph < m → ∀ i, hs[ph]? = some i → ∀ a w, J ph w → a.tmps.size = size → SeesL (VL (L ph)) a0 a w (tab.getD i []) → HvGoal P ops Q (L ph) (L (ph + 1)) (J (ph + 1)) i a w)
    (hend : ∀ (f : Nat → Value) w, J m w → (∀ i o d, ops[i]? = some o → o.dst = some d → VL (L m) i w (f d)) → Q .normal (putAll ops f a0) w) :
    (Code.region id ops true).wp P Q a0 w0 := by
  subst hn hsize hm2
  have he : ∀ i, i < ops.size → tab.getD i [] = ((((ops[i]?).map fun o => o.looksAt ops).getD []).map fun t => (t, srcOf ops i t)) := by
    intro i hi
    rw [← htab]
    unfold table
    rw [List.getD_eq_getElem?_getD, List.getElem?_map, List.getElem?_range hi]
    rfl
  refine wp_region_phase (fun w w' => w' = w) (fun ph => VL (L ph)) J hs ran hm hok hpo hnd (fun ph i w w' v h hb => by subst hb; exact h) (fun ph w w' h hb => by subst hb; exact h) hJ0 ?_ ?_ hend
  · intro i hi hne lo hi2 ph h1 h2 h3 a w hJ hS
    exact hq i hi hne lo hi2 ph h1 h2 h3 a w hJ hS.2.1 (by rw [he i hi]; exact seesL_of hS)
  · intro ph i h1 a w hJ hS
    have hlt : i < ops.size := by
      have hpo2 := hpo
      simp only [phaseOk, Bool.and_eq_true] at hpo2
      simpa using (List.all_eq_true.1 hpo2.1.1) i (List.mem_iff_getElem?.2 ⟨ph, h1⟩)
    exact hh ph (List.getElem?_eq_some_iff.1 h1).1 i h1 a w hJ hS.2.1 (by rw [he i hlt]; exact seesL_of hS)
theorem op_runX {L : List SV} {i : Nat} {a : Act} {w : World} {o : Oper} (hi : ops[i]? = some o) (hg : o.guard = none) {v : Value} (hrun : (execOp a.eval o).run P w = .ok (.value v) w) (hv : VL L i w v) : OpGoalX P ops Q L i a w := by
  unfold OpGoalX wpOp
  simp only [hi]
  have : Region.wanted o (yielded ops a.tmps) = true := by unfold Region.wanted; rw [hg]
  rw [if_pos this]
  refine .inl ?_
  unfold Oper.wp
  rw [hrun]
  exact ⟨o, v, rfl, rfl, hv, rfl⟩
theorem op_callX {L : List SV} {i : Nat} {a : Act} {w : World} {o : Oper} (hi : ops[i]? = some o) (hg : o.guard = none) {f : FuncId} {args : Array Value} (hrun : (execOp a.eval o).run P w = .ok (.enter f args) w)
    (hc : Calls P f args w fun e w' => ∃ v, e = .returned v ∧ VL L i w' v ∧ w' = w) : OpGoalX P ops Q L i a w := by
  unfold OpGoalX wpOp
  simp only [hi]
  have : Region.wanted o (yielded ops a.tmps) = true := by unfold Region.wanted; rw [hg]
  rw [if_pos this]
  refine .inl ?_
  unfold Oper.wp
  rw [hrun]
  refine Calls.mono hc fun e w' ⟨v, he, hv, hR⟩ => ?_
  subst he
  exact ⟨o, v, rfl, rfl, hv, hR⟩
theorem calls_x {P : Program} {f : FuncId} {args : Array Value} {w : World} {c : Value} (h : Calls P f args w fun e w' => e = .returned c ∧ w = w') :
    Calls P f args w fun e w' => ∃ v, e = .returned v ∧ v = c ∧ w' = w := h.mono fun e w' ⟨h1, h2⟩ => ⟨c, h1, rfl, h2.symm⟩
theorem hv_run {L L' : List SV} {J' : World → Prop} {i : Nat} {a : Act} {w : World} {o : Oper} (hi : ops[i]? = some o) (hg : o.guard = none) {v : Value} {w' : World} (hrun : (execOp a.eval o).run P w = .ok (.value v) w')
    (hv : VL L' i w' v) (hJ : J' w') (hall : ∀ k v0, k ≠ i → VL L k w v0 → VL L' k w' v0) : HvGoal P ops Q L L' J' i a w := by
  unfold HvGoal wpOp
  simp only [hi]
  have : Region.wanted o (yielded ops a.tmps) = true := by unfold Region.wanted; rw [hg]
  rw [if_pos this]
  refine .inl ?_
  unfold Oper.wp
  rw [hrun]
  exact ⟨o, v, rfl, rfl, hv, hJ, hall⟩
theorem hv_call {L L' : List SV} {J' : World → Prop} {i : Nat} {a : Act} {w : World} {o : Oper} (hi : ops[i]? = some o) (hg : o.guard = none) {f : FuncId} {args : Array Value} (hrun : (execOp a.eval o).run P w = .ok (.enter f args) w)
    (hc : Calls P f args w fun e w' => ∃ v, e = .returned v ∧ VL L' i w' v ∧ J' w' ∧ ∀ k v0, k ≠ i → VL L k w v0 → VL L' k w' v0) : HvGoal P ops Q L L' J' i a w := by
  unfold HvGoal wpOp
  simp only [hi]
  have : Region.wanted o (yielded ops a.tmps) = true := by unfold Region.wanted; rw [hg]
  rw [if_pos this]
  refine .inl ?_
  unfold Oper.wp
  rw [hrun]
  refine Calls.mono hc fun e w' ⟨v, he, hv, hJ, hall⟩ => ?_
  subst he
  exact ⟨o, v, rfl, rfl, hv, hJ, hall⟩
theorem hv_skip {L L' : List SV} {J' : World → Prop} {i : Nat} {a : Act} {w : World} {o : Oper} (hi : ops[i]? = some o) (hg : o.guard = none) {w' : World} (hrun : (execOp a.eval o).run P w = .ok .skip w')
    (hv : VL L' i w' undef) (hJ : J' w') (hall : ∀ k v0, k ≠ i → VL L k w v0 → VL L' k w' v0) : HvGoal P ops Q L L' J' i a w := by
  unfold HvGoal wpOp
  simp only [hi]
  have : Region.wanted o (yielded ops a.tmps) = true := by unfold Region.wanted; rw [hg]
  rw [if_pos this]
  refine .inl ?_
  unfold Oper.wp
  rw [hrun]
  exact ⟨o, undef, rfl, rfl, hv, hJ, hall⟩
/-- A mark that says nothing: of what nobody asks any more. -/
def tV : SV := ⟨fun _ _ => True, fun _ _ _ h _ => h⟩
/-- Marks that a heavy operation leaves alone: constants, and those of which nobody asks any more. -/
def Calm (i : Nat) : Nat → List SV → List SV → Prop
  | _, [], _ => True
  | n, s :: r, s' :: r' => ((∃ c, s = cV c ∧ s' = cV c) ∨ s' = tV ∨ n = i) ∧ Calm i (n + 1) r r'
  | _, _ :: _, [] => False
theorem Calm.all' {i : Nat} : ∀ {L L' : List SV} {n : Nat}, Calm i n L L' → ∀ w1 w2 k v0, n + k ≠ i → VL L k w1 v0 → VL L' k w2 v0
  | [], _, _, _, w1, w2, k, v0, _, h => by simp [VL] at h
  | s :: r, [], _, hc, _, _, _, _, _, _ => hc.elim
  | s :: r, s' :: r', n, hc, w1, w2, 0, v0, hne, h => by
    obtain ⟨h1, _⟩ := hc
    rcases h1 with ⟨c, rfl, rfl⟩ | rfl | h1
    · exact h
    · exact trivial
    · exact absurd h1 hne
  | s :: r, s' :: r', n, hc, w1, w2, k + 1, v0, hne, h => by
    have := Calm.all' hc.2 w1 w2 k v0 (by omega) (by simpa [VL] using h)
    simpa [VL] using this
theorem Calm.all {i n : Nat} {L L' : List SV} (h : Calm i n L L') (hn : n = 0 := by rfl) : ∀ w1 w2 k v0, k ≠ i → VL L k w1 v0 → VL L' k w2 v0 := fun w1 w2 k v0 hk hv => by
  subst hn
  exact Calm.all' h w1 w2 k v0 (by omega) hv
end
end Go.Proofs.Ytbpddcmehjgleaa
