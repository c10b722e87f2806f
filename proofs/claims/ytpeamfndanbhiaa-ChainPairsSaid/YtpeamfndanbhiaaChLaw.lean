/- Chains: what the laws without the document's answer ask; no program in sight. -/
import Derived.Test.YtpeamfndanbhiaaChPlain
namespace Go.Proofs.Ytpeamfndanbhiaa
set_option linter.unusedVariables false
set_option linter.unnecessarySimpa false
set_option linter.unusedSimpArgs false

theorem begins_trans {a b c : List Tg} {x y z : Int} (h1 : beginsC c x a y = true) (h2 : beginsC a y b z = true) : beginsC c x b z = true := by
  rw [begins_iff] at *
  obtain ⟨p1, p2⟩ := h1
  obtain ⟨q1, q2⟩ := h2
  refine ⟨headOf_trans p1 q1, ?_⟩
  have hl := headOf_len p1
  by_cases e : c.length < a.length
  · have hg := headOf_get q1 e
    unfold atOr at p2 ⊢
    rw [hg]
    rw [List.getElem?_eq_getElem e] at p2 ⊢
    exact p2
  · have e2 : c.length = a.length := by omega
    rw [e2] at p2 ⊢
    unfold atOr at p2
    rw [List.getElem?_eq_none (Nat.le_refl _)] at p2
    simp only at p2
    omega
/-! ### a history cut off -/
theorem takeWhile_take {α : Type} (p : α → Bool) : ∀ l : List α, l.take (l.takeWhile p).length = l.takeWhile p
  | [] => rfl
  | x :: l => by
    rw [List.takeWhile_cons]
    cases h : p x with
    | true => simp [takeWhile_take p l]
    | false => simp
theorem takeWhile_next {α : Type} (p : α → Bool) : ∀ (l : List α) (x : α), l[(l.takeWhile p).length]? = some x → p x = false
  | [], x, h => by simp at h
  | y :: l, x, h => by
    rw [List.takeWhile_cons] at h
    cases hp : p y with
    | true => rw [hp] at h; exact takeWhile_next p l x (by simpa using h)
    | false => rw [hp] at h; simp at h; rw [← h]; exact hp
theorem takeWhile_all {α : Type} (p : α → Bool) : ∀ (l : List α) (x : α), x ∈ l.takeWhile p → p x = true
  | [], x, h => by simp at h
  | y :: l, x, h => by
    rw [List.takeWhile_cons] at h
    cases hp : p y with
    | true =>
      rw [hp] at h
      simp only [if_true, List.mem_cons] at h
      rcases h with rfl | h
      · exact hp
      · exact takeWhile_all p l x h
    | false => rw [hp] at h; simp at h
theorem cut_head (a : List Tg) (e : Int) : headOf (cutC a e) a = true := headOf_iff.2 (takeWhile_take _ _)
theorem cut_begins {a : List Tg} {e m : Int} (h : e ≤ m) : beginsC (cutC a e) e a m = true := by
  rw [begins_iff]
  refine ⟨cut_head a e, ?_⟩
  unfold atOr
  cases hg : a[(cutC a e).length]? with
  | none => exact h
  | some t =>
    have := takeWhile_next _ a t hg
    simp only [decide_eq_false_iff_not] at this
    simp only; omega
theorem cut_some {a : List Tg} {e : Int} (h : ChOk a) (he : 0 ≤ e) : 1 ≤ (cutC a e).length := by
  match a, h with
  | [], h => exact absurd h.1 (by simp)
  | t :: a, h =>
    have := h.2.2.1 t rfl
    unfold cutC
    rw [List.takeWhile_cons, if_pos (by rw [decide_eq_true_iff]; omega)]
    simp
theorem take_head (c : List Tg) (r : Nat) (hr : r ≤ c.length) : headOf (c.take r) c = true := by
  rw [headOf_iff, List.length_take, Nat.min_eq_left hr]
/-- A beginning's beginning, as far as it may reach. -/
theorem take_begins {c : List Tg} {e : Int} {r : Nat} (hr : r ≤ c.length) : beginsC (c.take r) (minAt c r e) c e = true := by
  rw [begins_iff]
  refine ⟨take_head c r hr, ?_⟩
  rw [List.length_take, Nat.min_eq_left hr]
  unfold atOr minAt
  cases c[r]? with
  | none => exact Int.le_refl _
  | some t => simp only; omega
/-! ### the next number -/
theorem foldl_max : ∀ (l : List Tg) (m : Int), m ≤ l.foldl (fun m t => max m t.id) m ∧ ∀ t ∈ l, t.id ≤ l.foldl (fun m t => max m t.id) m
  | [], m => ⟨Int.le_refl _, fun t h => by cases h⟩
  | u :: l, m => by
    have h := foldl_max l (max m u.id)
    simp only [List.foldl_cons]
    refine ⟨by have := h.1; omega, fun t ht => ?_⟩
    rcases List.mem_cons.1 ht with rfl | ht
    · have := h.1; omega
    · exact h.2 t ht
theorem foldl_top : ∀ (l : List Tg) (m b : Int), m ≤ b → (∀ t ∈ l, t.id ≤ b) → l.foldl (fun m t => max m t.id) m ≤ b
  | [], m, b, h, _ => h
  | u :: l, m, b, h, hl => by
    simp only [List.foldl_cons]
    exact foldl_top l _ b (by have := hl u List.mem_cons_self; omega) fun t ht => hl t (List.mem_cons_of_mem _ ht)
theorem next_few {l : List Tg} (h : ∀ t ∈ l, t.id ≤ 1073741824) (site : Int) : nextC l site = if decide ((nextMost l + 1) % 2 = 1) = decide (site = 1) then nextMost l + 1 else nextMost l + 1 + 1 := by
  unfold nextC
  rw [if_neg]
  rw [Bool.not_eq_true, List.any_eq_false]
  intro t ht
  have := h t ht
  simp only [decide_eq_true_eq]; omega
theorem next_above {l : List Tg} (h : ∀ t ∈ l, t.id ≤ 1073741824) (site : Int) : 1 ≤ nextC l site ∧ (∀ t ∈ l, t.id < nextC l site) ∧ nextC l site ≤ nextMost l + 2 := by
  have h1 := foldl_max l 0
  rw [next_few h]
  have h2 : nextMost l = l.foldl (fun m t => max m t.id) 0 := rfl
  refine ⟨?_, fun t ht => ?_, ?_⟩
  · have := h1.1; split <;> omega
  · have := h1.2 t ht; split <;> omega
  · split <;> omega
theorem next_odd {l : List Tg} (h : ∀ t ∈ l, t.id ≤ 1073741824) : nextC l 1 % 2 = 1 := by
  rw [next_few h]
  by_cases hp : (nextMost l + 1) % 2 = 1
  · rw [if_pos (by simp [hp])]; exact hp
  · rw [if_neg (by simp [hp])]; omega
theorem next_even {l : List Tg} (h : ∀ t ∈ l, t.id ≤ 1073741824) {site : Int} (hs : site ≠ 1) : nextC l site % 2 = 0 := by
  rw [next_few h]
  by_cases hp : (nextMost l + 1) % 2 = 1
  · rw [if_neg (by simp [hp, hs])]; omega
  · rw [if_pos (by simp [hp, hs])]; omega
theorem next_one (l : List Tg) (site : Int) (h : site ≠ 1) : nextC l site = nextC l 2 := by
  unfold nextC; simp [h]
/-! ### one tag more -/
theorem ok_snoc {l : List Tg} {t : Tg} (h : ChOk l) (hl : l.length < 32) (ht : t.Ok) (hat : ∀ u, l[l.length - 1]? = some u → u.at' ≤ t.at') (hid : ∀ u ∈ l, u.id ≠ t.id) : ChOk (l ++ [t]) := by
  have h1 := h.1
  refine ⟨by simp, by simp; omega, fun u hu => ?_, fun i hi => ?_⟩
  · rw [List.getElem?_append_left (by omega)] at hu
    exact h.2.2.1 u hu
  · rw [List.length_append, List.length_singleton] at hi
    intro u hu
    by_cases hlt : i < l.length
    · rw [List.getElem?_append_left hlt] at hu
      obtain ⟨p1, p2, p3⟩ := h.2.2.2 i hlt u hu
      refine ⟨p1, fun v h0 hv => p2 v h0 ?_, fun k v hk hv => p3 k v hk ?_⟩
      · rwa [List.getElem?_append_left (by omega)] at hv
      · rwa [List.getElem?_append_left (by omega)] at hv
    · obtain rfl : i = l.length := by omega
      rw [List.getElem?_append_right (Nat.le_refl _), Nat.sub_self] at hu
      simp at hu
      subst hu
      refine ⟨ht, fun v h0 hv => hat v ?_, fun k v hk hv => hid v ?_⟩
      · rwa [List.getElem?_append_left (by omega)] at hv
      · rw [List.getElem?_append_left (by omega)] at hv
        exact List.mem_of_getElem? hv
/-- A history that grew: a chain that may be, with few numbers, and an end not ahead of its last tag. -/
def Grown (l : List Tg) (e : Int) (n : Nat) : Prop := ChOk l ∧ l.length ≤ 20 ∧ (∀ t ∈ l, t.id ≤ 2 * l.length) ∧ (∀ t ∈ l, t.at' ≤ e) ∧ 0 ≤ e ∧ e ≤ 3 * n
theorem grown_one : Grown [⟨1, 1, 0, 0⟩] 0 0 := by
  refine ⟨⟨by simp, by simp, fun t h => by simp at h; rw [← h], fun i hi t ht => ?_⟩, by simp, by simp, by simp, by omega, by omega⟩
  simp only [List.length_singleton] at hi
  obtain rfl : i = 0 := by omega
  simp at ht
  subst ht
  exact ⟨by decide, fun u h => absurd h (by omega), fun k u h => absurd h (by omega)⟩
theorem Grown.on {l : List Tg} {e : Int} {n : Nat} (h : Grown l e n) {d : Int} (h0 : 0 ≤ d) (h3 : d ≤ 3) : Grown l (e + d) (n + 1) :=
  ⟨h.1, h.2.1, h.2.2.1, fun t ht => by have := h.2.2.2.1 t ht; omega, by have := h.2.2.2.2.1; omega, by have := h.2.2.2.2.2; omega⟩
theorem Grown.ids {l : List Tg} {e : Int} {n : Nat} (h : Grown l e n) : ∀ t ∈ l, t.id ≤ 1073741824 := fun t ht => by
  have := h.2.2.1 t ht; have := h.2.1; omega
theorem Grown.tag {l : List Tg} {e : Int} {n : Nat} (h : Grown l e n) (hl : l.length < 20) (hn : n ≤ 1000) {site o hr : Int} (ho : 0 ≤ o ∧ o ≤ 2) (hh : 0 ≤ hr ∧ hr ≤ 2) (hoh : o = 0 ↔ 0 < hr) : Grown (l ++ [⟨nextC l site, o, hr, e⟩]) e n := by
  obtain ⟨p1, p2, p3, p4, p5, p6⟩ := h
  have hi := next_above (Grown.ids ⟨p1, p2, p3, p4, p5, p6⟩) site
  have hm : nextMost l ≤ 2 * l.length := foldl_top l 0 _ (by omega) p3
  refine ⟨ok_snoc p1 (by omega) ⟨hi.1, by simp only; omega, ho.1, ho.2, hh.1, hh.2, hoh, by simp only; omega⟩ (fun u hu => p4 u (List.mem_of_getElem? hu)) (fun u hu => by have := hi.2.1 u hu; simp only; omega), by simp; omega, fun t ht => ?_, fun t ht => ?_, p5, p6⟩
  · rw [List.length_append, List.length_singleton]
    rcases List.mem_append.1 ht with ht | ht
    · have := p3 t ht; omega
    · simp at ht; subst ht; simp only; omega
  · rcases List.mem_append.1 ht with ht | ht
    · exact p4 t ht
    · simp at ht; subst ht; exact Int.le_refl _
/-! ### the law of numbers to come -/
theorem nexts_law {l : List Tg} {m : Int} {n : Nat} (h : Grown l m n) (hn : n ≤ 1000) : rightC (l ++ [⟨nextC l 1, 1, 0, m⟩]) = true ∧ beginsC l m (l ++ [⟨nextC l 1, 1, 0, m⟩]) m = true ∧ compareC l m (l ++ [⟨nextC l 1, 1, 0, m⟩]) (m + 1) = -1 := by
  have hi := next_above h.ids 1
  have hm : nextMost l ≤ 2 * l.length := foldl_top l 0 _ (by omega) h.2.2.1
  have h20 := h.2.1
  have hok : ChOk (l ++ [⟨nextC l 1, 1, 0, m⟩]) := ok_snoc h.1 (by omega) ⟨hi.1, by simp only; omega, by simp, by simp, by simp, by simp, by simp, by have := h.2.2.2.2.2; simp only; omega⟩ (fun u hu => h.2.2.2.1 u (List.mem_of_getElem? hu)) (fun u hu => by have := hi.2.1 u hu; simp only; omega)
  have hb : ∀ e, beginsC l m (l ++ [⟨nextC l 1, 1, 0, m⟩]) e = true := fun e => by
    rw [begins_iff]
    refine ⟨headOf_iff.2 (by simp), ?_⟩
    unfold atOr
    rw [List.getElem?_append_right (Nat.le_refl _), Nat.sub_self]
    exact Int.le_refl _
  refine ⟨rightC_iff.2 hok, hb m, ?_⟩
  unfold compareC
  rw [hb (m + 1), if_pos rfl, if_neg]
  intro hx
  have := headOf_len (begins_iff.1 hx).1
  simp at this; omega
/-! ### the law of forks -/
theorem minAt_le (l : List Tg) (c : Nat) (n : Int) : minAt l c n ≤ n := by
  unfold minAt; cases l[c]? <;> simp only <;> omega
theorem fork_range {a b : List Tg} {m n : Int} (hm : 0 ≤ m) (hn : 0 ≤ n) : 0 ≤ forkC a m b n ∧ forkC a m b n ≤ m ∧ forkC a m b n ≤ n := by
  unfold forkC
  have h1 := minAt_le b (alike a b) (minAt a (alike a b) (min m n))
  have h2 := minAt_le a (alike a b) (min m n)
  omega
theorem fork_begins {a b : List Tg} {m n : Int} (hm : 0 ≤ m) (h : beginsC a m b n = true) (hn : m ≤ n ∨ a.length < b.length) (hbn : ∀ t ∈ b, t.at' ≤ n) : forkC a m b n = m := by
  obtain ⟨h1, h2⟩ := begins_iff.1 h
  have he := alike_head h1
  unfold forkC minAt
  rw [he, List.getElem?_eq_none (Nat.le_refl _)]
  unfold atOr at h2
  cases hg : b[a.length]? with
  | none => rw [hg] at h2; simp only at h2 ⊢; omega
  | some t =>
    rw [hg] at h2
    have := hbn t (List.mem_of_getElem? hg)
    simp only at h2 ⊢; omega
theorem foldl_skip : ∀ (l : List Tg) (seq m : Int), (∀ t ∈ l, seq ≤ t.at') → l.foldl (fun m t => if t.at' < seq then t.id else m) m = m
  | [], _, _, _ => rfl
  | t :: l, seq, m, h => by
    have := h t List.mem_cons_self
    rw [List.foldl_cons, if_neg (by omega)]
    exact foldl_skip l seq m fun u hu => h u (List.mem_cons_of_mem _ hu)
theorem of_take {l : List Tg} {seq : Int} {c : Nat} (h : ChOk l) (hc : ∀ t, l[c]? = some t → seq ≤ t.at') : ofC l seq = ofC (l.take c) seq := by
  unfold ofC
  conv => lhs; rw [← List.take_append_drop c l, List.foldl_append]
  refine foldl_skip _ _ _ fun t ht => ?_
  obtain ⟨i, hi⟩ := List.mem_iff_getElem?.1 ht
  rw [List.getElem?_drop] at hi
  have hlt := (List.getElem?_eq_some_iff.1 hi).1
  have hu : l[c]? = some l[c] := List.getElem?_eq_getElem (by omega)
  have h1 := hc _ hu
  have h2 := h.rises hu (by omega : c ≤ c + i) hi
  omega
theorem foldl_pos : ∀ (l : List Tg) (seq m : Int), (∀ t ∈ l, 1 ≤ t.id) → 1 ≤ m → 1 ≤ l.foldl (fun m t => if t.at' < seq then t.id else m) m
  | [], _, _, _, h => h
  | t :: l, seq, m, h, hm => by
    rw [List.foldl_cons]
    refine foldl_pos l seq _ (fun u hu => h u (List.mem_cons_of_mem _ hu)) ?_
    have := h t List.mem_cons_self
    split <;> omega
theorem of_some {l : List Tg} {seq : Int} (h : ChOk l) (hs : 1 ≤ seq) : ofC l seq ≠ 0 := by
  match l, h with
  | [], h => exact absurd h.1 (by simp)
  | t :: l, h =>
    have h0 := h.2.2.1 t rfl
    have h1 : ∀ u ∈ t :: l, 1 ≤ u.id := fun u hu => by
      obtain ⟨i, hi⟩ := List.mem_iff_getElem?.1 hu
      exact (h.tag hi).1
    unfold ofC
    rw [List.foldl_cons, if_pos (by omega)]
    have := foldl_pos l seq t.id (fun u hu => h1 u (List.mem_cons_of_mem _ hu)) (h1 t List.mem_cons_self)
    omega
theorem of_none {l : List Tg} (h : ChOk l) : ofC l 0 = 0 := foldl_skip l 0 0 fun t ht => by
  obtain ⟨i, hi⟩ := List.mem_iff_getElem?.1 ht
  exact h.pos hi
/-- Up to the fork two are one. -/
theorem fork_of {a b : List Tg} {m n seq : Int} (ha : ChOk a) (hb : ChOk b) (h1 : 1 ≤ seq) (h2 : seq ≤ forkC a m b n) : ofC a seq = ofC b seq := by
  have hx : ∀ t, a[alike a b]? = some t → seq ≤ t.at' := fun t ht => by
    have h3 := minAt_le b (alike a b) (minAt a (alike a b) (min m n))
    unfold forkC at h2
    have h4 : minAt a (alike a b) (min m n) ≤ t.at' := by unfold minAt; rw [ht]; simp only; omega
    omega
  have hy : ∀ t, b[alike a b]? = some t → seq ≤ t.at' := fun t ht => by
    unfold forkC at h2
    have h4 : minAt b (alike a b) (minAt a (alike a b) (min m n)) ≤ t.at' := by unfold minAt; rw [ht]; simp only; omega
    omega
  rw [of_take ha hx, of_take hb hy]
  congr 1
  refine List.ext_getElem? fun i => ?_
  rw [List.getElem?_take, List.getElem?_take]
  by_cases hi : i < alike a b
  · rw [if_pos hi, if_pos hi]; exact alike_get a b hi
  · rw [if_neg hi, if_neg hi]
/-! ### the law of orders -/
theorem orders_law {a b : List Tg} {m n e : Int} (he : e ≤ m) {r : Nat} (hr : r ≤ (cutC a e).length) :
    beginsC ((cutC a e).take r) (minAt (cutC a e) r e) (cutC a e) e = true ∧ beginsC ((cutC a e).take r) (minAt (cutC a e) r e) a m = true ∧ (compareC a m b n ≠ -1 ∨ beginsC (cutC a e) e b n = true) := by
  have h1 := take_begins (c := cutC a e) (e := e) hr
  have h2 := cut_begins (a := a) he
  refine ⟨h1, begins_trans h1 h2, ?_⟩
  cases hb : beginsC a m b n with
  | true => exact .inr (begins_trans h2 hb)
  | false =>
    left
    unfold compareC
    rw [hb, if_neg (by simp)]
    split <;> decide
end Go.Proofs.Ytpeamfndanbhiaa
