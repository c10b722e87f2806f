/- A region that draws its order, walked operation by operation: what each operation leaves is said once ('V i w v': the value v that operation i leaves, in any later world w), each is walked alone in any world that may stand there, and no order is looked at. -/
import Derived.Orders
import Derived.WalkKit
import Derived.Deep.Draws
namespace Go.Proofs.Ytbpddcmehjgleaa
open Go.RowKit

/-- The edges of operation o that bind in whatever order. -/
def bindsOn (o : Oper) : List Nat := (o.after.toList.filter fun e => Region.binds .any e).map (·.on)
/-- Which operation's value stands in slot t when operation i runs: the one among those that it waits for. -/
def srcOf (ops : Array Oper) (i t : Nat) : Option Nat :=
  match ops[i]? with
  | none => none
  | some o => (bindsOn o).find? fun j => decide ((ops[j]?).bind (·.dst) = some t)

/-- The region's form: slots apart, in bounds, each slot that is read known. -/
def freeOk (ops : Array Oper) (size : Nat) : Bool :=
  (List.range ops.size).all fun i =>
    match ops[i]? with
    | none => true
    | some o =>
      (match o.dst with
       | none => false
       | some d => decide (d < size) && (List.range ops.size).all fun j => decide (j = i) || decide ((ops[j]?).bind (·.dst) ≠ some d)) &&
      (o.looksAt ops).all (fun t => decide (t < size) && ((srcOf ops i t).isSome || (List.range ops.size).all fun j => decide ((ops[j]?).bind (·.dst) ≠ some t) || (match ops[j]? with | some oj => (bindsOn oj).contains i | none => true))) &&
      (bindsOn o).all fun j => decide (j < i)

/-- What stands in the slots that operation i reads. -/
def Sees (ops : Array Oper) (V : Nat → World → Value → Prop) (a0 : Act) (i : Nat) (a : Act) (w : World) : Prop :=
  a.defers = a0.defers ∧ a.tmps.size = a0.tmps.size ∧ ∀ t, (∀ o, ops[i]? = some o → t ∈ o.looksAt ops) →
    match srcOf ops i t with
    | some j => V j w (a.tmps.getD t undef)
    | none => a.tmps.getD t undef = a0.tmps.getD t undef

structure FreeInv (ops : Array Oper) (V : Nat → World → Value → Prop) (R : World → World → Prop) (a0 : Act) (w0 : World) (listed : Array Bool) (a : Act) (w : World) : Prop where
  lsize : listed.size = ops.size
  defers : a.defers = a0.defers
  size : a.tmps.size = a0.tmps.size
  rel : R w0 w
  val : ∀ i o d, ops[i]? = some o → o.dst = some d → listed.getD i false = true → V i w (a.tmps.getD d undef)
  old : ∀ t, (∀ i o, ops[i]? = some o → listed.getD i false = true → o.dst ≠ some t) → a.tmps.getD t undef = a0.tmps.getD t undef
  closed : ∀ i o j, ops[i]? = some o → listed.getD i false = true → j ∈ bindsOn o → listed.getD j false = true

section
variable {P : Program} {ops : Array Oper} {Q : Exit → Act → World → Prop} {V : Nat → World → Value → Prop} {R : World → World → Prop} {a0 : Act} {w0 : World}

theorem getD_put {a : Act} {d t : Nat} {v : Value} (h : d < a.tmps.size) : (a.put (some d) v).tmps.getD t undef = if t = d then v else a.tmps.getD t undef := by
  simp only [Act.put, Array.getD_eq_getD_getElem?]
  rw [Array.getElem?_setIfInBounds]
  by_cases e : d = t
  · subst e; simp [h]
  · rw [if_neg e, if_neg (fun x => e x.symm)]

theorem getD_set {l : Array Bool} {i k : Nat} (h : i < l.size) : (l.setIfInBounds i true).getD k false = if k = i then true else l.getD k false := by
  simp only [Array.getD_eq_getD_getElem?]
  rw [Array.getElem?_setIfInBounds]
  by_cases e : i = k
  · subst e; simp [h]
  · rw [if_neg e, if_neg (fun x => e x.symm)]

theorem freeOk_at (h : freeOk ops a0.tmps.size = true) {i : Nat} {o : Oper} (hi : ops[i]? = some o) :
    ∃ d, o.dst = some d ∧ d < a0.tmps.size ∧ (∀ (j : Nat) (oj : Oper), ops[j]? = some oj → j ≠ i → oj.dst ≠ some d) ∧
      (∀ t ∈ o.looksAt ops, srcOf ops i t = none → ∀ (j : Nat) (oj : Oper), ops[j]? = some oj → oj.dst = some t → i ∈ bindsOn oj) ∧ ∀ j ∈ bindsOn o, j < i := by
  have hlt : i < ops.size := (Array.getElem?_eq_some_iff.1 hi).1
  have := (List.all_eq_true.1 h) i (List.mem_range.2 hlt)
  simp only [hi, Bool.and_eq_true] at this
  obtain ⟨⟨h1, h2⟩, h3⟩ := this
  cases hd : o.dst with
  | none => simp [hd] at h1
  | some d =>
    simp only [hd, Bool.and_eq_true, decide_eq_true_eq] at h1
    refine ⟨d, rfl, h1.1, fun j oj hj hne => ?_, fun t ht hs j oj hj hd2 => ?_, fun j hj => ?_⟩
    · have hjl : j < ops.size := (Array.getElem?_eq_some_iff.1 hj).1
      have := (List.all_eq_true.1 h1.2) j (List.mem_range.2 hjl)
      simp only [Bool.or_eq_true, decide_eq_true_eq, hj, Option.bind_some] at this
      rcases this with e | e
      · exact absurd e hne
      · exact e
    · have hjl : j < ops.size := (Array.getElem?_eq_some_iff.1 hj).1
      have := (List.all_eq_true.1 h2) t ht
      simp only [Bool.and_eq_true, hs, Option.isSome_none, Bool.false_or] at this
      have := (List.all_eq_true.1 this.2) j (List.mem_range.2 hjl)
      simp only [Bool.or_eq_true, decide_eq_true_eq, hj, Option.bind_some] at this
      rcases this with e | e
      · exact absurd hd2 e
      · simpa using e
    · have := (List.all_eq_true.1 h3) j hj
      simpa using this

theorem srcOf_some {i t j : Nat} (h : srcOf ops i t = some j) : ∃ o oj, ops[i]? = some o ∧ j ∈ bindsOn o ∧ ops[j]? = some oj ∧ oj.dst = some t := by
  unfold srcOf at h
  cases ho : ops[i]? with
  | none => simp [ho] at h
  | some o =>
    simp only [ho] at h
    have h1 := List.find?_some h
    have h2 := List.mem_of_find?_eq_some h
    simp only [decide_eq_true_eq] at h1
    cases hj : ops[j]? with
    | none => simp [hj] at h1
    | some oj => simp only [hj, Option.bind_some] at h1; exact ⟨o, oj, rfl, h2, rfl, h1⟩

/-- The step: operation i, ready, its own walk in hand. -/
theorem FreeInv.step (hok : freeOk ops a0.tmps.size = true) (hst : ∀ i w w' v, V i w v → R w w' → V i w' v) (htr : ∀ x y z, R x y → R y z → R x z)
    {listed : Array Bool} {a : Act} {w : World} (hinv : FreeInv ops V R a0 w0 listed a w) {i : Nat} (hr : i ∈ Region.ready .any ops listed) {K : Act → World → Prop}
    (hop : ∀ a w, R w0 w → Sees ops V a0 i a w → wpOp P ops Q i (fun a' w' => ∃ o v, ops[i]? = some o ∧ a' = a.put o.dst v ∧ V i w' v ∧ R w w') a w)
    (hK : ∀ a' w', FreeInv ops V R a0 w0 (listed.setIfInBounds i true) a' w' → K a' w') : wpOp P ops Q i K a w := by
  have hr2 := List.mem_filter.1 hr
  have hlt : i < ops.size := List.mem_range.1 hr2.1
  obtain ⟨o, hi⟩ : ∃ o, ops[i]? = some o := ⟨ops[i], Array.getElem?_eq_getElem hlt⟩
  have hready := hr2.2
  simp only [hi, Option.map_some, Option.getD_some, Bool.and_eq_true, Bool.not_eq_true'] at hready
  have hnl : listed.getD i false = false := by
    have h1 := hready.1
    have hl : i < listed.size := by rw [hinv.lsize]; exact hlt
    simp only [Array.getD_eq_getD_getElem?, Array.getElem?_eq_getElem hl, Option.getD_some] at h1 ⊢
    exact h1
  have hdeps : ∀ j ∈ bindsOn o, listed.getD j false = true := by
    intro j hj
    unfold bindsOn at hj
    obtain ⟨e, he, rfl⟩ := List.mem_map.1 hj
    obtain ⟨he1, he2⟩ := List.mem_filter.1 he
    have := (Array.all_eq_true_iff_forall_mem.1 hready.2) e (by simpa using he1)
    simp only [he2, Bool.not_true, Bool.false_or] at this
    exact this
  obtain ⟨d, hd, hdl, huniq, hlook, hin⟩ := freeOk_at hok hi
  have hsees : Sees ops V a0 i a w := by
    refine ⟨hinv.defers, hinv.size, fun t ht => ?_⟩
    have ht2 := ht o hi
    cases hs : srcOf ops i t with
    | some j =>
      obtain ⟨o2, oj, h2, hj1, hj2, hj3⟩ := srcOf_some hs
      rw [hi] at h2
      cases h2
      exact hinv.val j oj t hj2 hj3 (hdeps j hj1)
    | none =>
      refine hinv.old t fun j oj hj hl hdj => ?_
      have hb := hlook t ht2 hs j oj hj hdj
      have := hinv.closed j oj i hj hl hb
      rw [hnl] at this
      cases this
  refine wpOp_mono ?_ (hop a w hinv.rel hsees)
  rintro a' w' ⟨o2, v, h2, rfl, hv, hR⟩
  rw [hi] at h2
  cases h2
  refine hK _ _ ?_
  have hil : i < listed.size := by rw [hinv.lsize]; exact hlt
  rw [hd]
  refine ⟨by simp [hinv.lsize], hinv.defers, by simp [Act.put, hinv.size], htr _ _ _ hinv.rel hR, ?_, ?_, ?_⟩
  · intro k ok dk hk hdk hl
    rw [getD_put (by rw [hinv.size]; exact hdl)]
    by_cases e : k = i
    · subst e
      rw [hi] at hk
      cases hk
      rw [hd] at hdk
      cases hdk
      rw [if_pos rfl]; exact hv
    · rw [getD_set hil, if_neg e] at hl
      have hne : dk ≠ d := fun e2 => huniq k ok hk e (by rw [hdk, e2])
      rw [if_neg hne]
      exact hst _ _ _ _ (hinv.val k ok dk hk hdk hl) hR
  · intro t ht
    have hne : t ≠ d := fun e => ht i o hi (by rw [getD_set hil, if_pos rfl]) (by rw [hd, e])
    rw [getD_put (by rw [hinv.size]; exact hdl), if_neg hne]
    refine hinv.old t fun k ok hk hl => ht k ok hk ?_
    rw [getD_set hil]
    split
    · rfl
    · exact hl
  · intro k ok j hk hl hj
    rw [getD_set hil] at hl ⊢
    split
    · rfl
    · by_cases e : k = i
      · subst e
        rw [hi] at hk
        cases hk
        exact hdeps j hj
      · rw [if_neg e] at hl
        exact hinv.closed k ok j hk hl hj

theorem filter_less (p q : Nat → Bool) (hpq : ∀ x, q x = true → p x = true) (i : Nat) (hp : p i = true) (hq : q i = false) :
    ∀ l : List Nat, i ∈ l → (l.filter q).length < (l.filter p).length := by
  have hle : ∀ l : List Nat, (l.filter q).length ≤ (l.filter p).length := by
    intro l
    induction l with
    | nil => simp
    | cons x l ih =>
      simp only [List.filter_cons]
      by_cases hx : q x = true
      · simp [hx, hpq x hx]; exact ih
      · by_cases hx2 : p x = true
        · simp [hx, hx2]; omega
        · simp [hx, hx2]; exact ih
  intro l hl
  induction l with
  | nil => cases hl
  | cons x l ih =>
    simp only [List.filter_cons]
    rcases List.mem_cons.1 hl with e | e
    · subst e
      have := hle l
      simp [hp, hq]; omega
    · have := ih e
      by_cases hx : q x = true
      · simp [hx, hpq x hx]; exact this
      · by_cases hx2 : p x = true
        · simp [hx, hx2]; omega
        · simp [hx, hx2]; exact this

/-- How many have not come up. -/
def unl (ops : Array Oper) (listed : Array Bool) : Nat := ((List.range ops.size).filter fun i => !listed.getD i false).length

theorem all_listed_of_unl {listed : Array Bool} (h : unl ops listed = 0) : ∀ i, i < ops.size → listed.getD i false = true := by
  intro i hi
  have := List.length_eq_zero_iff.1 h
  have := (List.filter_eq_nil_iff.1 this) i (List.mem_range.2 hi)
  simpa using this

theorem all_listed_of_ready (hok : freeOk ops a0.tmps.size = true) {listed : Array Bool} (hl : listed.size = ops.size) (h : Region.ready .any ops listed = []) :
    ∀ i, i < ops.size → listed.getD i false = true := by
  intro i
  induction i using Nat.strongRecOn with
  | _ i ih =>
    intro hi
    obtain ⟨o, ho⟩ : ∃ o, ops[i]? = some o := ⟨ops[i], Array.getElem?_eq_getElem hi⟩
    obtain ⟨d, hd, hdl, huniq, hlook, hin⟩ := freeOk_at hok ho
    have hnr := (List.filter_eq_nil_iff.1 h) i (List.mem_range.2 hi)
    simp only [ho, Option.map_some, Option.getD_some, Bool.and_eq_true, Bool.not_eq_true', not_and] at hnr
    have hil : i < listed.size := by omega
    by_cases e : listed.getD i true = false
    · refine absurd ?_ (hnr e)
      refine Array.all_eq_true_iff_forall_mem.2 fun x hx => ?_
      by_cases hb : Region.binds .any x = true
      · have hm : x.on ∈ bindsOn o := List.mem_map.2 ⟨x, List.mem_filter.2 ⟨by simpa using hx, hb⟩, rfl⟩
        have hlt := hin x.on hm
        simp only [ih x.on hlt (by omega), Bool.or_true]
      · simp [hb]
    · simp only [Array.getD_eq_getD_getElem?, Array.getElem?_eq_getElem hil, Option.getD_some] at e ⊢
      simpa using e

/-- What the frame is when all have come up. -/
def putAll (ops : Array Oper) (f : Nat → Value) (a : Act) : Act := ops.toList.foldl (fun b o => b.put o.dst (f (o.dst.getD 0))) a

theorem putAll_defers (f : Nat → Value) : ∀ (l : List Oper) (a : Act), (l.foldl (fun b o => b.put o.dst (f (o.dst.getD 0))) a).defers = a.defers := by
  intro l
  induction l with
  | nil => intro a; rfl
  | cons o l ih => intro a; rw [List.foldl_cons, ih]; cases o.dst <;> rfl
theorem putAll_size (f : Nat → Value) : ∀ (l : List Oper) (a : Act), (l.foldl (fun b o => b.put o.dst (f (o.dst.getD 0))) a).tmps.size = a.tmps.size := by
  intro l
  induction l with
  | nil => intro a; rfl
  | cons o l ih => intro a; rw [List.foldl_cons, ih]; cases o.dst <;> simp [Act.put]
theorem putAll_get (f : Nat → Value) (t : Nat) : ∀ (l : List Oper) (a : Act), (∀ o ∈ l, ∀ d, o.dst = some d → d < a.tmps.size) →
    (l.foldl (fun b o => b.put o.dst (f (o.dst.getD 0))) a).tmps.getD t undef = if (∃ o ∈ l, o.dst = some t) then f t else a.tmps.getD t undef := by
  intro l
  induction l with
  | nil => intro a _; simp
  | cons o l ih =>
    intro a hb
    rw [List.foldl_cons, ih _ (fun o2 ho2 d hd => by
      have := hb o2 (List.mem_cons_of_mem _ ho2) d hd
      cases o.dst <;> simpa [Act.put] using this)]
    cases hd : o.dst with
    | none => simp [Act.put, hd]
    | some d =>
      have hlt := hb o (List.mem_cons_self) d hd
      rw [show (Option.some d).getD 0 = d from rfl, getD_put hlt]
      by_cases e : t = d
      · subst e
        simp [hd]
      · have hne : ¬ (some d = some t) := fun x => e (by injection x with x; exact x.symm)
        simp [hd, e, hne]

theorem act_ext {a b : Act} (h1 : a.defers = b.defers) (h2 : a.tmps.size = b.tmps.size) (h3 : ∀ t, a.tmps.getD t undef = b.tmps.getD t undef) : a = b := by
  cases a with
  | mk x dx =>
    cases b with
    | mk y dy =>
      simp only at h1 h2 h3
      subst h1
      congr 1
      refine Array.ext h2 fun i hi hj => ?_
      have := h3 i
      simpa [Array.getD_eq_getD_getElem?, Array.getElem?_eq_getElem hi, Array.getElem?_eq_getElem hj] using this

/-- A REGION THAT DRAWS ITS ORDER, WHATEVER THE ORDER. -/
theorem wp_region_free {id : Nat} (V : Nat → World → Value → Prop) (R : World → World → Prop) (hm : P.follows .mixedOrders = true) (hok : freeOk ops a0.tmps.size = true)
    (hst : ∀ i w w' v, V i w v → R w w' → V i w' v) (htr : ∀ x y z, R x y → R y z → R x z) (hd : R w0 { w0 with drawn := w0.drawn + 1 })
    (hop : ∀ i, i < ops.size → ∀ a w, R w0 w → Sees ops V a0 i a w → wpOp P ops Q i (fun a' w' => ∃ o v, ops[i]? = some o ∧ a' = a.put o.dst v ∧ V i w' v ∧ R w w') a w)
    (hend : ∀ (f : Nat → Value) w, R w0 w → (∀ i o d, ops[i]? = some o → o.dst = some d → V i w (f d)) → Q .normal (putAll ops f a0) w) :
    (Code.region id ops true).wp P Q a0 w0 := by
  refine wp_region_any hm ?_
  have hbound : ∀ o ∈ ops.toList, ∀ d, o.dst = some d → d < a0.tmps.size := by
    intro o ho d hdd
    obtain ⟨i, hi⟩ := List.mem_iff_getElem?.1 ho
    have hi2 : ops[i]? = some o := by simpa using hi
    obtain ⟨d2, hd2, hlt, _⟩ := freeOk_at hok hi2
    rw [hdd] at hd2
    cases hd2
    exact hlt
  have fin : ∀ listed a w, FreeInv ops V R a0 w0 listed a w → (∀ i, i < ops.size → listed.getD i false = true) → Q .normal a w := by
    intro listed a w hinv hall
    have hv := hend (fun d => a.tmps.getD d undef) w hinv.rel (fun i o d hi hdd => hinv.val i o d hi hdd (hall i (Array.getElem?_eq_some_iff.1 hi).1))
    have e : putAll ops (fun d => a.tmps.getD d undef) a0 = a := by
      refine act_ext ?_ ?_ ?_
      · exact (putAll_defers (fun d => a.tmps.getD d undef) ops.toList a0).trans hinv.defers.symm
      · exact (putAll_size (fun d => a.tmps.getD d undef) ops.toList a0).trans hinv.size.symm
      · intro t
        refine (putAll_get (fun d => a.tmps.getD d undef) t ops.toList a0 hbound).trans ?_
        split
        · rfl
        · rename_i hne
          exact (hinv.old t fun i o hi _ hdt => hne ⟨o, List.mem_iff_getElem?.2 ⟨i, by simpa using hi⟩, hdt⟩).symm
    rw [e] at hv
    exact hv
  have main : ∀ fuel listed a w, FreeInv ops V R a0 w0 listed a w → unl ops listed ≤ fuel → wpAny P .any ops Q fuel listed a w := by
    intro fuel
    induction fuel with
    | zero =>
      intro listed a w hinv hu
      have hall := all_listed_of_unl (ops := ops) (listed := listed) (by omega)
      refine ⟨?_, fin listed a w hinv hall⟩
      refine List.filter_eq_nil_iff.2 fun i hi => ?_
      have := hall i (List.mem_range.1 hi)
      have hil : i < listed.size := by rw [hinv.lsize]; exact List.mem_range.1 hi
      simp only [Array.getD_eq_getD_getElem?, Array.getElem?_eq_getElem hil, Option.getD_some] at this ⊢
      simp [this]
    | succ fuel ih =>
      intro listed a w hinv hu
      refine ⟨fun hr => fin listed a w hinv (all_listed_of_ready hok hinv.lsize hr), fun i hi => ?_⟩
      have hlt : i < ops.size := List.mem_range.1 (List.mem_filter.1 hi).1
      refine hinv.step hok hst htr hi (hop i hlt) fun a' w' hinv' => ih _ _ _ hinv' ?_
      have hil : i < listed.size := by rw [hinv.lsize]; exact hlt
      have hnl : listed.getD i false = false := by
        have := (List.mem_filter.1 hi).2
        simp only [Bool.and_eq_true, Bool.not_eq_true'] at this
        have h1 := this.1
        simp only [Array.getD_eq_getD_getElem?, Array.getElem?_eq_getElem hil, Option.getD_some] at h1 ⊢
        exact h1
      have := filter_less (fun k => !listed.getD k false) (fun k => !(listed.setIfInBounds i true).getD k false) (fun k hk => by
        rw [getD_set hil] at hk
        split at hk
        · cases hk
        · exact hk) i (by simp [hnl]) (by rw [getD_set hil, if_pos rfl]; rfl) (List.range ops.size) (List.mem_range.2 hlt)
      unfold unl at hu ⊢
      omega
  refine main ops.size (Array.replicate ops.size false) a0 _ ⟨by simp, rfl, rfl, hd, ?_, fun _ _ => rfl, ?_⟩ ?_
  · intro i o d _ _ hl
    exfalso
    simp only [Array.getD_eq_getD_getElem?, Array.getElem?_replicate] at hl
    split at hl <;> simp at hl
  · intro i o j _ hl _
    exfalso
    simp only [Array.getD_eq_getD_getElem?, Array.getElem?_replicate] at hl
    split at hl <;> simp at hl
  · unfold unl
    exact Nat.le_trans (List.length_filter_le _ _) (by simp)
end

/-! ### the same, with what each operation reads laid out in a table -/
def table (ops : Array Oper) : List (List (Nat × Option Nat)) := (List.range ops.size).map fun i => (((ops[i]?).map fun o => o.looksAt ops).getD []).map fun t => (t, srcOf ops i t)

def SeesL (V : Nat → World → Value → Prop) (a0 : Act) (a : Act) (w : World) : List (Nat × Option Nat) → Prop
  | [] => True
  | (t, none) :: r => a.tmps.getD t undef = a0.tmps.getD t undef ∧ SeesL V a0 a w r
  | (t, some j) :: r => V j w (a.tmps.getD t undef) ∧ SeesL V a0 a w r

/-- A value's mark that stays true as memory grows. -/
structure SV where
  p : World → Value → Prop
  st : ∀ w w' v, p w v → Below w.heap.size w w' → p w' v
def cV (c : Value) : SV := ⟨fun _ v => v = c, fun _ _ _ h _ => h⟩
def VL (l : List SV) (i : Nat) (w : World) (v : Value) : Prop := match l[i]? with
  | some s => s.p w v
  | none => False
theorem VL_st (l : List SV) (i : Nat) (w w' : World) (v : Value) (h : VL l i w v) (hb : Below w.heap.size w w') : VL l i w' v := by
  unfold VL at *
  cases hs : l[i]? with
  | none => simp [hs] at h
  | some s => simp only [hs] at h ⊢; exact s.st _ _ _ h hb

/-- What is to be shown of operation i. -/
def OpGoal (P : Program) (ops : Array Oper) (Q : Exit → Act → World → Prop) (L : List SV) (i : Nat) (a : Act) (w : World) : Prop :=
  wpOp P ops Q i (fun a' w' => ∃ o v, ops[i]? = some o ∧ a' = a.put o.dst v ∧ VL L i w' v ∧ Below w.heap.size w w') a w

theorem fl0 {p : Nat → Prop} : ∀ i, i < 0 → p i := fun i h => absurd h (Nat.not_lt_zero i)
theorem fls {p : Nat → Prop} {n : Nat} (h : ∀ i, i < n → p i) (hn : p n) : ∀ i, i < n + 1 → p i := fun i hi => by
  rcases Nat.lt_or_ge i n with c | c
  · exact h i c
  · have : i = n := by omega
    subst this; exact hn

theorem seesL_of {P : Nat → World → Value → Prop} {ops : Array Oper} {a0 a : Act} {w : World} {i : Nat} (h : Sees ops P a0 i a w) :
    SeesL P a0 a w ((((ops[i]?).map fun o => o.looksAt ops).getD []).map fun t => (t, srcOf ops i t)) := by
  have key : ∀ l : List Nat, (∀ t ∈ l, ∀ o, ops[i]? = some o → t ∈ o.looksAt ops) → SeesL P a0 a w (l.map fun t => (t, srcOf ops i t)) := by
    intro l
    induction l with
    | nil => intro _; exact trivial
    | cons t l ih =>
      intro hl
      have h1 := h.2.2 t (hl t List.mem_cons_self)
      have h2 := ih fun t2 h2 => hl t2 (List.mem_cons_of_mem _ h2)
      simp only [List.map_cons]
      cases hs : srcOf ops i t with
      | none => rw [hs] at h1; exact ⟨h1, h2⟩
      | some j => rw [hs] at h1; exact ⟨h1, h2⟩
  refine key _ fun t ht o ho => ?_
  rw [ho] at ht
  exact ht

theorem wp_region_tab {P : Program} {ops : Array Oper} {Q : Exit → Act → World → Prop} {a0 : Act} {w0 : World} {id : Nat} (L : List SV) (tab : List (List (Nat × Option Nat))) (n size : Nat)
    (hm : P.follows .mixedOrders = true) (hn : ops.size = n) (hsize : a0.tmps.size = size) (hok : freeOk ops size = true) (htab : table ops = tab)
    (hop : ∀ i, i < n → ∀ a w, Below w0.heap.size w0 w → a.tmps.size = size → SeesL (VL L) a0 a w (tab.getD i []) → OpGoal P ops Q L i a w)
    (hend : ∀ (f : Nat → Value) w, Below w0.heap.size w0 w → (∀ i o d, ops[i]? = some o → o.dst = some d → VL L i w (f d)) → Q .normal (putAll ops f a0) w) :
    (Code.region id ops true).wp P Q a0 w0 := by
  subst hn hsize
  refine wp_region_free (VL L) (fun w w' => Below w.heap.size w w') hm hok (VL_st L) (fun x y z h1 h2 => h1.trans (h2.mono h1.size)) ⟨rfl, rfl, rfl, Nat.le_refl _, fun _ _ => rfl⟩ ?_ hend
  intro i hi a w hR hS
  refine hop i hi a w hR hS.2.1 ?_
  have h := seesL_of hS
  have e : tab.getD i [] = ((((ops[i]?).map fun o => o.looksAt ops).getD []).map fun t => (t, srcOf ops i t)) := by
    rw [← htab]
    unfold table
    rw [List.getD_eq_getElem?_getD, List.getElem?_map, List.getElem?_range hi]
    rfl
  rw [e]; exact h

section
variable {P : Program} {ops : Array Oper} {Q : Exit → Act → World → Prop} {L : List SV} {i : Nat} {a : Act} {w : World} {o : Oper}

theorem op_run (hi : ops[i]? = some o) (hg : o.guard = none) {v : Value} {w' : World} (hrun : (execOp a.eval o).run P w = .ok (.value v) w') (hv : VL L i w' v) (hR : Below w.heap.size w w') : OpGoal P ops Q L i a w := by
  unfold OpGoal wpOp
  simp only [hi]
  have : Region.wanted o (yielded ops a.tmps) = true := by unfold Region.wanted; rw [hg]
  rw [if_pos this]
  refine .inl ?_
  unfold Oper.wp
  rw [hrun]
  exact ⟨o, v, rfl, rfl, hv, hR⟩
theorem op_call (hi : ops[i]? = some o) (hg : o.guard = none) {f : FuncId} {args : Array Value} (hrun : (execOp a.eval o).run P w = .ok (.enter f args) w)
    (hc : Calls P f args w fun e w' => ∃ v, e = .returned v ∧ VL L i w' v ∧ Below w.heap.size w w') : OpGoal P ops Q L i a w := by
  unfold OpGoal wpOp
  simp only [hi]
  have : Region.wanted o (yielded ops a.tmps) = true := by unfold Region.wanted; rw [hg]
  rw [if_pos this]
  refine .inl ?_
  unfold Oper.wp
  rw [hrun]
  refine Calls.mono hc fun e w' ⟨v, he, hv, hR⟩ => ?_
  subst he
  exact ⟨o, v, rfl, rfl, hv, hR⟩

theorem wanted_of {g t : Nat} {b c : Bool} (hg : o.guard = some (g, b)) (hd : (ops[g]?).bind (·.dst) = some t) (hlt : t < a.tmps.size) (hv : a.tmps.getD t undef = .bool c) : Region.wanted o (yielded ops a.tmps) = (c == b) := by
  unfold Region.wanted
  rw [hg]
  unfold yielded
  have : a.tmps[t]? = some (.bool c) := by
    rw [Array.getD_eq_getD_getElem?, Array.getElem?_eq_getElem hlt, Option.getD_some] at hv
    rw [Array.getElem?_eq_getElem hlt, hv]
  simp only [hd, Option.bind_some, this]
  cases c <;> cases b <;> rfl
theorem opg_run (hi : ops[i]? = some o) {g t : Nat} {b : Bool} (hg : o.guard = some (g, b)) (hd : (ops[g]?).bind (·.dst) = some t) (hlt : t < a.tmps.size) (hgv : a.tmps.getD t undef = .bool b)
    {v : Value} {w' : World} (hrun : (execOp a.eval o).run P w = .ok (.value v) w') (hv : VL L i w' v) (hR : Below w.heap.size w w') : OpGoal P ops Q L i a w := by
  unfold OpGoal wpOp
  simp only [hi]
  rw [wanted_of hg hd hlt hgv, if_pos (by simp)]
  refine .inl ?_
  unfold Oper.wp
  rw [hrun]
  exact ⟨o, v, rfl, rfl, hv, hR⟩
theorem opg_call (hi : ops[i]? = some o) {g t : Nat} {b : Bool} (hg : o.guard = some (g, b)) (hd : (ops[g]?).bind (·.dst) = some t) (hlt : t < a.tmps.size) (hgv : a.tmps.getD t undef = .bool b)
    {f : FuncId} {args : Array Value} (hrun : (execOp a.eval o).run P w = .ok (.enter f args) w)
    (hc : Calls P f args w fun e w' => ∃ v, e = .returned v ∧ VL L i w' v ∧ Below w.heap.size w w') : OpGoal P ops Q L i a w := by
  unfold OpGoal wpOp
  simp only [hi]
  rw [wanted_of hg hd hlt hgv, if_pos (by simp)]
  refine .inl ?_
  unfold Oper.wp
  rw [hrun]
  refine Calls.mono hc fun e w' ⟨v, he, hv, hR⟩ => ?_
  subst he
  exact ⟨o, v, rfl, rfl, hv, hR⟩
/-- The guard says no. -/
theorem opg_skip (hi : ops[i]? = some o) {g t : Nat} {b c : Bool} (hg : o.guard = some (g, b)) (hd : (ops[g]?).bind (·.dst) = some t) (hlt : t < a.tmps.size) (hgv : a.tmps.getD t undef = .bool c) (hne : (c == b) = false)
    (hv : VL L i w undef) : OpGoal P ops Q L i a w := by
  unfold OpGoal wpOp
  simp only [hi]
  rw [wanted_of hg hd hlt hgv, hne, if_neg (by simp)]
  exact ⟨o, undef, rfl, rfl, hv, Below.refl _ _⟩
/-- The guard was itself left out. -/
theorem opg_skipU (hi : ops[i]? = some o) {g t : Nat} {b : Bool} (hg : o.guard = some (g, b)) (hd : (ops[g]?).bind (·.dst) = some t) (hlt : t < a.tmps.size) (hgv : a.tmps.getD t undef = undef)
    (hv : VL L i w undef) : OpGoal P ops Q L i a w := by
  have hw : Region.wanted o (yielded ops a.tmps) = false := by
    unfold Region.wanted
    rw [hg]
    unfold yielded
    have : a.tmps[t]? = some undef := by
      rw [Array.getD_eq_getD_getElem?, Array.getElem?_eq_getElem hlt, Option.getD_some] at hgv
      rw [Array.getElem?_eq_getElem hlt, hgv]
    simp only [hd, Option.bind_some, this]
    rfl
  unfold OpGoal wpOp
  simp only [hi]
  rw [hw, if_neg (by simp)]
  exact ⟨o, undef, rfl, rfl, hv, Below.refl _ _⟩
end

/-! ### contracts in the form that an operation of a region asks -/
theorem calls_c {P : Program} {f : FuncId} {args : Array Value} {w : World} {c : Value} (h : Calls P f args w fun e w' => e = .returned c ∧ Below w.heap.size w w') :
    Calls P f args w fun e w' => ∃ v, e = .returned v ∧ (cV c).p w' v ∧ Below w.heap.size w w' := h.mono fun _ _ ⟨he, hb⟩ => ⟨c, he, rfl, hb⟩
theorem calls_eq {P : Program} {f : FuncId} {args : Array Value} {w : World} {c : Value} (h : Calls P f args w fun e w' => e = .returned c ∧ w = w') :
    Calls P f args w fun e w' => ∃ v, e = .returned v ∧ (cV c).p w' v ∧ Below w.heap.size w w' := h.mono fun _ _ ⟨he, hb⟩ => ⟨c, he, rfl, by subst hb; exact Below.refl _ _⟩
theorem calls_dr {P : Program} {f : FuncId} {args : Array Value} {w : World} {c : Value} (h : Calls P f args w fun e w' => e = .returned c ∧ ∃ q, w' = w.drewN q) :
    Calls P f args w fun e w' => ∃ v, e = .returned v ∧ (cV c).p w' v ∧ Below w.heap.size w w' := h.mono fun _ _ ⟨he, q, hb⟩ => ⟨c, he, rfl, by subst hb; exact ⟨rfl, rfl, rfl, Nat.le_refl _, fun _ _ => rfl⟩⟩
end Go.Proofs.Ytbpddcmehjgleaa
