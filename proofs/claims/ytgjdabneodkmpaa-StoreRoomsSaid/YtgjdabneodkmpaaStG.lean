/- A Fall: the plain model, the roles of a dry object that is seen from now on. -/
import Derived.Test.YtgjdabneodkmpaaStQ
import Derived.Test.YtgjdabneodkmpaaStF
import Derived.Test.YtgjdabneodkmpaaStS
namespace Go.Proofs.Ytgjdabneodkmpaa
open Go.RowKit
set_option linter.unusedVariables false

/-- Roles that no store has: nobody's, and the caller's own. -/
def free (t : Role) : Prop := t = .junk ∨ t = .own
/-- Blocks that are no store's stay, and stay so. -/
structure Jk (w w' : World) (r r' : Nat → Role) : Prop where
  os : w'.os = w.os
  tape : w'.tape = w.tape
  output : w'.output = w.output
  size : w.heap.size ≤ w'.heap.size
  block : ∀ b, b < w.heap.size → free (r b) → w'.heap[b]? = w.heap[b]?
  role : ∀ b, b < w.heap.size → free (r b) → r' b = r b
theorem Jk.refl (w : World) (r : Nat → Role) : Jk w w r r := ⟨rfl, rfl, rfl, Nat.le_refl _, fun _ _ _ => rfl, fun _ _ _ => rfl⟩
theorem Jk.trans {w w1 w2 : World} {r r1 r2 : Nat → Role} (h : Jk w w1 r r1) (k : Jk w1 w2 r1 r2) : Jk w w2 r r2 :=
  ⟨k.os.trans h.os, k.tape.trans h.tape, k.output.trans h.output, Nat.le_trans h.size k.size,
   fun b hb hz => (k.block b (Nat.lt_of_lt_of_le hb h.size) (by rw [h.role b hb hz]; exact hz)).trans (h.block b hb hz), fun b hb hz => (k.role b (Nat.lt_of_lt_of_le hb h.size) (by rw [h.role b hb hz]; exact hz)).trans (h.role b hb hz)⟩
theorem Jk.of_fr {w w' : World} {r r' : Nat → Role} {Z : Role → Prop} (h : Fr w w' r r' Z) (hz : ¬ Z .junk ∧ ¬ Z .own) : Jk w w' r r' :=
  ⟨h.os, h.tape, h.output, h.size, fun b hb hj => h.block b hb (hj.elim (fun e => by rw [e]; exact hz.1) (fun e => by rw [e]; exact hz.2)), fun b hb hj => h.role b hb⟩
theorem Jk.of_below {w w' : World} (h : Below w.heap.size w w') (r : Nat → Role) : Jk w w' r r := Jk.of_fr (Fr.of_below h r (fun _ => False)) ⟨fun h => h, fun h => h⟩
theorem Jk.later {w w1 w2 : World} {r r1 : Nat → Role} (h : Jk w w1 r r1) (hb : Below w1.heap.size w1 w2) : Jk w w2 r r1 := h.trans (Jk.of_below hb r1)
theorem Jk.map {w w' : World} {r r' : Nat → Role} (h : Jk w w' r r') (f : Role → Role) (hf : f .junk = .junk) (hf2 : f .own = .own) : Jk w w' r (fun b => f (r' b)) :=
  ⟨h.os, h.tape, h.output, h.size, h.block, fun b hb hj => by show f (r' b) = _; rw [h.role b hb hj]; exact hj.elim (fun e => by rw [e, hf]) (fun e => by rw [e, hf2])⟩
theorem KeyAt.jk {w w' : World} {r r' : Nat → Role} {x : Nat} {k : K4} (h : KeyAt w x k) (hf : Jk w w' r r') (hj : r x = .junk) : KeyAt w' x k := by
  unfold KeyAt at *
  rw [hf.block x (Array.getElem?_eq_some_iff.1 h).1 (.inl hj)]; exact h

/-- The dry object of that key is the one that is seen. -/
def reK (k : K4) : Role → Role
  | .ob p k' => if k' = k then (if p then .ob false k else .junk) else .ob p k'
  | .by p k' => if k' = k then (if p then .by false k else .junk) else .by p k'
  | .at_ p k' => if k' = k then (if p then .at_ false k else .junk) else .at_ p k'
  | t => t
theorem Shr.map {w : World} {r : Nat → Role} {v : Value} {l : List UInt8} (h : Shr w r v l) (f : Role → Role) (hf : f .junk = .junk) : Shr w (fun b => f (r b)) v l := by
  obtain ⟨a, cap, hv, hr, hj⟩ := h
  exact ⟨a, cap, hv, hr, fun x hx => ⟨(hj x hx).1, by show f _ = _; rw [(hj x hx).2, hf]⟩⟩
theorem ObX.map {w : World} {r : Nat → Role} {p p' : Bool} {k k' : K4} {x : Nat} {o : Ob} (h : ObX w r p k x o) (f : Role → Role) (hf : f .junk = .junk) (h1 : f (.ob p k) = .ob p' k') (h2 : f (.by p k) = .by p' k') (h3 : f (.at_ p k) = .at_ p' k') :
    ObX w (fun b => f (r b)) p' k' x o := by
  obtain ⟨bv, av, h⟩ := h
  refine ⟨bv, av, by show f _ = _; rw [h.role, h1], h.heap, h.row, fun g hg => by show f _ = _; rw [h.rrow g hg, h2], ?_⟩
  rcases h.attrs with h | ⟨b, n, D, hv, hr, ho, hs⟩
  · exact .inl h
  · refine .inr ⟨b, n, D, hv, by show f _ = _; rw [hr, h3], ho, fun s hl => ?_, hs.2⟩
    obtain ⟨v, e1, e2⟩ := hs.1 s hl
    exact ⟨v, e1, e2.map f hf⟩
theorem OpAt.map {w : World} {r : Nat → Role} {p p' : Bool} {k k' : K4} {x : Option Nat} {o : Option Ob} (h : OpAt w r p k x o) (f : Role → Role) (hf : f .junk = .junk) (h1 : f (.ob p k) = .ob p' k') (h2 : f (.by p k) = .by p' k') (h3 : f (.at_ p k) = .at_ p' k') :
    OpAt w (fun b => f (r b)) p' k' x o := by
  cases x <;> cases o <;> simp only [OpAt] at h ⊢
  exact h.map f hf h1 h2 h3
theorem PpAt.map {w : World} {r : Nat → Role} {k : K4} {x : Option Nat} {o : Option Past} (h : PpAt w r k x o) (f : Role → Role) (hf : f .junk = .junk) (h1 : f (.ob true k) = .ob true k) (h2 : f (.by true k) = .by true k) (h3 : f (.at_ true k) = .at_ true k) (h4 : f (.pa k) = .pa k) (h5 : f (.de k) = .de k) :
    PpAt w (fun b => f (r b)) k x o := by
  cases x <;> cases o <;> simp only [PpAt] at h ⊢
  obtain ⟨dp, dv, h⟩ := h
  refine ⟨dp, dv, by show f _ = _; rw [h.role, h4], h.heap, h.dry.map f hf h1 h2 h3, ?_, fun g hg => by show f _ = _; rw [h.rrow g hg, h5]⟩
  obtain ⟨vs, e1, e2, e3⟩ := h.row
  exact ⟨vs, e1, e2, fun i d v a b => (e3 i d v a b).map f hf⟩

/-- Of the keys L the wet part. -/
def wetK (pw : K4 → Option Nat) (wet : K4 → Option Past) (L : List K4) (w : World) (r : Nat → Role) : Prop := ∀ k, k ∈ L → PpAt w r k (pw k) (wet k)
theorem wetK_stay (pw : K4 → Option Nat) (wet : K4 → Option Past) (L : List K4) : WStay (wetK pw wet L) := fun w w' r r' h hf k hk => (h k hk).fr hf (by rintro t (rfl | rfl | rfl | rfl | rfl) <;> rintro (h | h) <;> cases h) (by rintro (h | h) <;> cases h)
theorem StoL.lt {w : World} {b : Nat} {g : Gh} {S : St} {X : World → (Nat → Role) → Prop} (h : StoL w b g S X) : b < w.heap.size := (Array.getElem?_eq_some_iff.1 h.heap).1
theorem StoL.later {w w' : World} {b : Nat} {g : Gh} {S : St} {X : World → (Nat → Role) → Prop} (h : StoL w b g S X) (hX : WStay X) (hb : Below w.heap.size w w') : StoL w' b g S X :=
  ⟨h.role, by rw [hb.block b h.lt]; exact h.heap, h.sm.keep fun x _ hlt => hb.block x hlt, h.sr, h.wm.keep fun x _ hlt => hb.block x hlt, h.wr,
    fun k' hk' => (h.seen k' hk').fr (Fr.of_below hb g.r (fun _ => False)) (fun _ _ h => h) (fun h => h), hX _ _ _ _ h.wet (Fr.of_below hb g.r _), h.dom.later hb.size⟩
theorem StoL.holeK {w w' : World} {b : Nat} {g : Gh} {S : St} {W : K4 → Option Past} {k : K4} {L : List K4} (h : StoL w b g S (wetK g.pw W (k :: L))) (hk : k.ok) (hL : k ∉ L) {r' : Nat → Role} (hf : Fr w w' g.r r' (ofOb true k)) (hd : Dom w' r') :
    StoH w' b ⟨fun z => reK k (r' z), g.sv, g.wv, g.pm, g.pw⟩ S k (wetK g.pw W L) where
  role := by show reK k (r' b) = .st; rw [hf.role b h.lt, h.role]; rfl
  heap := by rw [hf.block b h.lt (by rw [h.role]; rintro (h | h | h) <;> cases h)]; exact h.heap
  sm := h.sm.keep fun x hx hlt => hf.block x hlt (by rw [h.sr x hx]; rintro (h | h | h) <;> cases h)
  sr := fun x hx => by
    have hx2 : x < w.heap.size := by have hsm := h.sm; rw [show g.sv = .map (some x) from hx] at hsm; exact hsm.lt
    show reK k (r' x) = .seen
    rw [hf.role x hx2, h.sr x hx]; rfl
  wm := h.wm.keep fun x hx hlt => hf.block x hlt (by rw [h.wr x hx]; rintro (h | h | h) <;> cases h)
  wr := fun x hx => by
    have hx2 : x < w.heap.size := by have hsm := h.wm; rw [show g.wv = .map (some x) from hx] at hsm; exact hsm.lt
    show reK k (r' x) = .wet
    rw [hf.role x hx2, h.wr x hx]; rfl
  seen := fun k' hk' hne => by
    refine ((h.seen k' hk').fr hf ?_ ?_).map (reK k) rfl ?_ ?_ ?_
    · rintro t (rfl | rfl | rfl) <;> rintro (h | h | h) <;> cases h
    · rintro (h | h | h) <;> cases h
    all_goals simp [reK, hne]
  wet := fun k' hk' => by
    have hne : k' ≠ k := fun e => hL (e ▸ hk')
    refine ((h.wet k' (List.mem_cons_of_mem _ hk')).fr hf ?_ ?_).map (reK k) rfl ?_ ?_ ?_ rfl rfl
    · rintro t (rfl | rfl | rfl | rfl | rfl) <;> rintro (h | h | h) <;> simp at h <;> exact hne h
    · rintro (h | h | h) <;> cases h
    all_goals simp [reK, hne]
  dom := fun y hy => by show reK k (r' y) = .junk; rw [hd y hy]; rfl
  hk := (h.seen k hk).some_eq
theorem OpAt.seenK {w : World} {r : Nat → Role} {k : K4} {x : Option Nat} {o : Option Ob} (h : OpAt w r true k x o) : OpAt w (fun z => reK k (r z)) false k x o := h.map (reK k) rfl (by simp [reK]) (by simp [reK]) (by simp [reK])

/-! ### the plain model -/
def St.leftOf (S : St) (t : Int) (x : K4 × Int) : Option Ob := match S.wet x.1 with
  | some p => leftO p x.2 t
  | .none => .none
def St.leftNo (S : St) (x : K4 × Int) : Nat := match S.wet x.1 with
  | some p => leftN p x.2
  | .none => 0
/-- Each key of the wet part with how many deeds are to be kept. -/
def St.fallL (S : St) (keep : List Int) : List (K4 × Int) := (sortK S.wks).zipIdx.map fun x => (x.1, keep.getD x.2 0)
def fallS (S : St) (t : Int) (l : List (K4 × Int)) : St := l.foldl (fun T x => T.laid x.1 (S.leftOf t x) (usedOf (T.seen x.1))) S
theorem fallS_snoc (S : St) (t : Int) (l : List (K4 × Int)) (x : K4 × Int) : fallS S t (l ++ [x]) = (fallS S t l).laid x.1 (S.leftOf t x) (usedOf ((fallS S t l).seen x.1)) := by simp [fallS]
def St.lostN (S : St) (l : List (K4 × Int)) : Int := (S.wetN : Int) - ((l.map S.leftNo).sum : Nat)
def St.fallen (S : St) (keep : List Int) (t : Int) : St := { fallS S t (S.fallL keep) with wet := fun _ => .none, wks := [], off := true }
theorem fallL_get (S : St) (keep : List Int) (i : Nat) {k : K4} (h : (sortK S.wks)[i]? = some k) : (S.fallL keep)[i]? = some (k, keep.getD i 0) := by
  simp [St.fallL, List.getElem?_zipIdx, h]
theorem fallL_len (S : St) (keep : List Int) : (S.fallL keep).length = S.wks.length := by simp [St.fallL, sortK]
/-- What stays so while the objects are laid one by one. -/
structure FB (S T : St) (n i : Nat) : Prop where
  nd : T.sks.Nodup
  mem : ∀ k, k ∈ T.sks ↔ ((T.seen k).isSome = true ∧ k.ok)
  seen : ∀ k o, T.seen k = some o → o.bytes.length ≤ 16384 ∧ 0 ≤ o.named ∧ o.named ≤ 500000000
  used : -(10000000000 + (i : Int) * 500016384) ≤ T.used ∧ T.used ≤ 10000000000 + (i : Int) * 500016384
  len : T.sks.length ≤ n + i
  same : T.wet = S.wet ∧ T.wks = S.wks ∧ T.room = S.room ∧ T.deeds = S.deeds ∧ T.off = S.off
theorem FB.start {S : St} (h : S.WF) {n : Nat} (hn : S.Sm n) : FB S S n 0 :=
  ⟨h.nd.1, h.sks, fun k o ho => ⟨(h.seen k o ho).1, (h.seen k o ho).2, hn.named k o ho⟩, by have := hn.used; omega, by have := hn.sks; omega, rfl, rfl, rfl, rfl, rfl⟩
theorem FB.step {S T : St} {n i : Nat} (h : FB S T n i) {k : K4} (hk : k.ok) {o : Option Ob} (ho : ∀ o', o = some o' → o'.bytes.length ≤ 16384 ∧ 0 ≤ o'.named ∧ o'.named ≤ 500000000) : FB S (T.laid k o (usedOf (T.seen k))) n (i + 1) := by
  have hu1 : 0 ≤ usedOf o ∧ usedOf o ≤ 500016384 := by
    cases o with
    | none => simp [usedOf]
    | some o => have := ho o rfl; simp only [usedOf]; omega
  have hu2 : 0 ≤ usedOf (T.seen k) ∧ usedOf (T.seen k) ≤ 500016384 := by
    cases hs : T.seen k with
    | none => simp [usedOf]
    | some o => have := h.seen k o hs; simp only [usedOf]; omega
  refine ⟨?_, ?_, ?_, ?_, ?_, h.same⟩
  · unfold St.laid
    cases o with
    | none => exact h.nd.filter _
    | some o =>
      simp only
      split
      · exact h.nd
      · rename_i hs
        refine List.nodup_append.2 ⟨h.nd, by simp, fun a ha b hb => ?_⟩
        simp at hb
        subst hb
        rintro rfl
        exact hs ((h.mem a).1 ha).1
  · intro k'
    unfold St.laid
    by_cases e : k' = k
    · subst e
      cases o with
      | none => simp [upd_same]
      | some o =>
        simp only [upd_same]
        split
        · rename_i hs; simp [h.mem, hs]
        · simp [hk]
    · cases o with
      | none => simp [upd_other _ _ e, h.mem, e]
      | some o =>
        simp only [upd_other _ _ e]
        split
        · exact h.mem k'
        · simp [h.mem, e]
  · intro k' o' h'
    unfold St.laid at h'
    by_cases e : k' = k
    · subst e
      simp only [upd_same] at h'
      exact ho o' h'
    · simp only [upd_other _ _ e] at h'
      exact h.seen k' o' h'
  · have := h.used
    show _ ≤ T.used + (usedOf o - usedOf (T.seen k)) ∧ T.used + (usedOf o - usedOf (T.seen k)) ≤ _
    omega
  · have := h.len
    unfold St.laid
    cases o with
    | none =>
      have := List.length_filter_le (fun x => decide (x ≠ k)) T.sks
      simp only; omega
    | some o =>
      simp only
      split
      · omega
      · simp; omega
theorem Past.Leg.run_bd {p : Past} (h : p.Leg) {N : Int} (hN : 0 ≤ N) (hd : ∀ o, p.dry = some o → 0 ≤ o.named ∧ o.named ≤ N) (i : Nat) : ∀ o, runD (p.deeds.take i) p.dry = some o → o.bytes.length ≤ 16384 ∧ 0 ≤ o.named ∧ o.named ≤ N + 5000 * (min i p.deeds.length : Nat) := by
  induction i with
  | zero => intro o ho; have := hd o (by simpa [runD] using ho); exact ⟨h.dry o (by simpa [runD] using ho), by omega, by omega⟩
  | succ i ih =>
    by_cases hi : i < p.deeds.length
    · have hg : p.deeds[i]? = some p.deeds[i] := List.getElem?_eq_getElem hi
      have e : p.deeds.take (i + 1) = p.deeds.take i ++ [p.deeds[i]] := by rw [List.take_add_one, hg]; rfl
      rw [e, runD_snoc]
      intro o ho
      have := doneD_bd (h.can i _ hg) (N := N + 5000 * (min i p.deeds.length : Nat)) (by omega) ih o ho
      exact ⟨this.1, this.2.1, by have := this.2.2; omega⟩
    · have e : p.deeds.take (i + 1) = p.deeds.take i := by rw [List.take_of_length_le (by omega), List.take_of_length_le (by omega)]
      rw [e]
      intro o ho
      have := ih o ho
      exact ⟨this.1, this.2.1, by have := this.2.2; omega⟩
theorem Past.Leg.left_bd {p : Past} (h : p.Leg) {M : Int} (hM : 5000 * (p.deeds.length : Int) ≤ M) (hd : ∀ o, p.dry = some o → 0 ≤ o.named ∧ o.named + 5000 * (p.deeds.length : Int) ≤ M) (n t : Int) : ∀ o, leftO p n t = some o → o.bytes.length ≤ 16384 ∧ 0 ≤ o.named ∧ o.named ≤ M := by
  have hlen := h.len
  have h1 := h.run_bd (N := M - 5000 * (p.deeds.length : Int)) (by omega) (fun o ho => by have := hd o ho; omega) (leftN p n)
  have hq := leftN_le p n
  have h3 : ∀ o, runD (p.deeds.take (leftN p n)) p.dry = some o → o.bytes.length ≤ 16384 ∧ 0 ≤ o.named ∧ o.named ≤ M := fun o ho => by have := h1 o ho; exact ⟨this.1, this.2.1, by have := this.2.2; omega⟩
  unfold leftO
  cases hg : p.deeds[leftN p n]? with
  | none => exact h3
  | some d =>
    have hlt := (List.getElem?_eq_some_iff.1 hg).1
    simp only
    split
    · rename_i hk
      intro o ho
      have := doneD_bd (canD_torn (h.can _ _ hg) hk t) (N := M - 5000 * (p.deeds.length : Int) + 5000 * (min (leftN p n) p.deeds.length : Nat)) (by omega) h1 o ho
      exact ⟨this.1, this.2.1, by have := this.2.2; omega⟩
    · exact h3
/-- What a Fall wants of the wet part. -/
def St.Legs (S : St) : Prop := ∀ k p, S.wet k = some p → k.ok → p.Leg ∧ ∀ o, p.dry = some o → 0 ≤ o.named ∧ o.named + 5000 * (p.deeds.length : Int) ≤ 500000000
theorem sortK_mem {k : K4} {l : List K4} : k ∈ sortK l ↔ k ∈ l := by unfold sortK; exact List.mem_mergeSort
theorem sortK_nodup {l : List K4} (h : l.Nodup) : (sortK l).Nodup := (List.mergeSort_perm l leK).nodup_iff.2 h
theorem sortK_length (l : List K4) : (sortK l).length = l.length := by simp [sortK]
theorem take_snoc {α : Type} {l : List α} {j : Nat} {x : α} (h : l[j]? = some x) : l.take (j + 1) = l.take j ++ [x] := by rw [List.take_add_one, h]; rfl
theorem FB.all {S : St} (h : S.WF) {n : Nat} (hn : S.Sm n) (hl : S.Legs) (keep : List Int) (t : Int) : ∀ j, FB S (fallS S t ((S.fallL keep).take j)) n j
  | 0 => FB.start h hn
  | j + 1 => by
    have ih := FB.all h hn hl keep t j
    cases hx : (sortK S.wks)[j]? with
    | none =>
      have hj : (S.fallL keep).length ≤ j := by rw [fallL_len, ← sortK_length]; exact List.getElem?_eq_none_iff.1 hx
      have e : (S.fallL keep).take (j + 1) = (S.fallL keep).take j := by rw [List.take_of_length_le (by omega), List.take_of_length_le (by omega)]
      rw [e]
      obtain ⟨a1, a2, a3, a4, a5, a6⟩ := ih
      refine ⟨a1, a2, a3, ?_, by omega, a6⟩
      omega
    | some k =>
      rw [take_snoc (fallL_get S keep j hx), fallS_snoc]
      have hkm : k ∈ S.wks := sortK_mem.1 (List.mem_of_getElem? hx)
      have hk := (h.wks k).1 hkm
      refine ih.step hk.2 ?_
      intro o ho
      unfold St.leftOf at ho
      cases hw : S.wet k with
      | none => simp [hw] at ho
      | some p =>
        simp only [hw] at ho
        obtain ⟨l1, l2⟩ := hl k p hw hk.2
        exact l1.left_bd (by have := l1.len; omega) l2 _ _ o ho
theorem lostN_snoc (S : St) (l : List (K4 × Int)) (x : K4 × Int) : S.lostN (l ++ [x]) = S.lostN l - S.leftNo x := by
  unfold St.lostN
  rw [List.map_append, List.sum_append]
  simp
  omega
theorem St.wetN_le {S : St} {n : Nat} (hn : S.Sm n) : S.wetN ≤ n * n := by
  have h1 := sum_le_of (f := S.lenOf) (M := n) S.wks (fun k => by
    unfold St.lenOf
    cases hSk : S.wet k with
    | none => simp
    | some p2 => exact hn.row k p2 hSk)
  have h2 : S.wks.length * n ≤ n * n := Nat.mul_le_mul_right n hn.wks
  unfold St.wetN
  omega
theorem St.leftNo_le {S : St} {n : Nat} (hn : S.Sm n) (x : K4 × Int) : S.leftNo x ≤ n := by
  unfold St.leftNo
  cases h : S.wet x.1 with
  | none => simp
  | some p => have := leftN_le p x.2; have := hn.row _ p h; simp only; omega
theorem lostN_bd {S : St} {n : Nat} (hn : S.Sm n) (hm : n ≤ 1000) (keep : List Int) (j : Nat) : -1000000 ≤ S.lostN ((S.fallL keep).take j) ∧ S.lostN ((S.fallL keep).take j) ≤ 1000000 := by
  have h1 := sum_le_of (f := S.leftNo) (M := n) ((S.fallL keep).take j) (fun x => S.leftNo_le hn x)
  have h2 : ((S.fallL keep).take j).length ≤ n := by rw [List.length_take, fallL_len]; have := hn.wks; omega
  have h3 : ((S.fallL keep).take j).length * n ≤ n * n := Nat.mul_le_mul_right n h2
  have h4 := S.wetN_le hn
  have h5 : n * n ≤ 1000 * 1000 := Nat.mul_le_mul hm hm
  unfold St.lostN
  omega
end Go.Proofs.Ytgjdabneodkmpaa
