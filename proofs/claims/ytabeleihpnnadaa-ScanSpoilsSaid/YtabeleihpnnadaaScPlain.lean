/- Scans: entries out of rows of bytes; no program in sight. -/
import Derived.Test.YtabeleihpnnadaaFrPlain
namespace Go.Proofs.Ytabeleihpnnadaa
set_option linter.unusedVariables false
set_option linter.unnecessarySimpa false
set_option linter.unusedSimpArgs false

/-! ### what is merged -/
def pickE (l : List En) (s : Int) : Option En := l.find? fun e => decide (e.seq = s)
def entsS (rows : List (List UInt8)) : List En := rows.flatMap fun r => (allA r).1
def mergeF : Nat → List En → Int → List En
  | 0, _, _ => []
  | f + 1, l, s => match pickE l s with
    | none => []
    | some e => e :: mergeF f l (s + 1)
def mergeE (l : List En) (s : Int) : List En := mergeF (l.length + 1) l s
def mergeS (rows : List (List UInt8)) (s : Int) : List En := if s < 1 then [] else mergeE (entsS rows) s
theorem mergeF_none {l : List En} {s : Int} {f : Nat} (h : pickE l s = none) : mergeF f l s = [] := by
  cases f with
  | zero => rfl
  | succ f => rw [mergeF, h]
theorem mergeF_some {l : List En} {s : Int} {f : Nat} {e : En} (h : pickE l s = some e) : mergeF (f + 1) l s = e :: mergeF f l (s + 1) := by rw [mergeF, h]
theorem pickE_seq {l : List En} {s : Int} {e : En} (h : pickE l s = some e) : e.seq = s ∧ e ∈ l := by
  unfold pickE at h
  exact ⟨by simpa using List.find?_some h, List.mem_of_find?_eq_some h⟩
/-- How many have a number of s and above. -/
def fromC (l : List En) (s : Int) : Nat := (l.filter fun e => decide (s ≤ e.seq)).length
theorem fromC_le (l : List En) (s : Int) : fromC l s ≤ l.length := List.length_filter_le _ _
theorem fromC_step : ∀ {l : List En} {s : Int} {e : En}, pickE l s = some e → fromC l (s + 1) + 1 ≤ fromC l s
  | [], s, e, h => by simp [pickE] at h
  | t :: l, s, e, h => by
    have hmono : ∀ m : List En, fromC m (s + 1) ≤ fromC m s := fun m => by
      unfold fromC
      induction m with
      | nil => simp
      | cons a m ih =>
        rw [List.filter_cons, List.filter_cons]
        by_cases c1 : s + 1 ≤ a.seq
        · have c2 : s ≤ a.seq := by omega
          simp only [c1, c2, decide_true, if_true, List.length_cons]; omega
        · by_cases c2 : s ≤ a.seq
          · simp only [c1, c2, decide_true, decide_false, if_true, if_false, List.length_cons, Bool.false_eq_true]; omega
          · simp only [c1, c2, decide_false, if_false, Bool.false_eq_true]; omega
    unfold pickE at h
    rw [List.find?_cons] at h
    by_cases c : t.seq = s
    · have := hmono l
      unfold fromC at *
      rw [List.filter_cons, List.filter_cons]
      simp only [show ¬ s + 1 ≤ t.seq by omega, show s ≤ t.seq by omega, decide_true, decide_false, if_true, if_false, List.length_cons, Bool.false_eq_true]
      omega
    · simp only [c, decide_false] at h
      have := fromC_step (l := l) (s := s) (e := e) h
      unfold fromC at *
      rw [List.filter_cons, List.filter_cons]
      by_cases c1 : s + 1 ≤ t.seq
      · have c2 : s ≤ t.seq := by omega
        simp only [c1, c2, decide_true, if_true, List.length_cons]; omega
      · have c2 : ¬ s ≤ t.seq := by omega
        simp only [c1, c2, decide_false, if_false, Bool.false_eq_true]; omega
theorem mergeF_fuel : ∀ {f g : Nat} {l : List En} {s : Int}, fromC l s < f → fromC l s < g → mergeF f l s = mergeF g l s
  | 0, _, _, _, h, _ => by omega
  | f + 1, 0, _, _, _, h => by omega
  | f + 1, g + 1, l, s, h1, h2 => by
    cases hp : pickE l s with
    | none => rw [mergeF_none hp, mergeF_none hp]
    | some e =>
      have := fromC_step hp
      rw [mergeF_some hp, mergeF_some hp, mergeF_fuel (f := f) (g := g) (by omega) (by omega)]
theorem mergeE_fuel {f : Nat} {l : List En} {s : Int} (h : l.length < f) : mergeF f l s = mergeE l s := by
  have := fromC_le l s
  exact mergeF_fuel (by omega) (by omega)
theorem mergeE_none {l : List En} {s : Int} (h : pickE l s = none) : mergeE l s = [] := mergeF_none h
theorem mergeE_some {l : List En} {s : Int} {e : En} (h : pickE l s = some e) : mergeE l s = e :: mergeE l (s + 1) := by
  have h1 := fromC_step h
  have h2 := fromC_le l s
  unfold mergeE
  rw [mergeF_some h, mergeF_fuel (f := l.length) (g := l.length + 1) (by omega) (by omega)]
/-- What is told one by one. -/
theorem mergeE_take {l : List En} {es : List En} : ∀ {s : Int}, (∀ (i : Nat) e, es[i]? = some e → pickE l (s + i) = some e) → pickE l (s + es.length) = none → mergeE l s = es := by
  induction es with
  | nil => intro s _ h2; exact mergeE_none (by simpa using h2)
  | cons e es ih =>
    intro s h1 h2
    have h3 := h1 0 e rfl
    rw [Int.natCast_zero, Int.add_zero] at h3
    rw [mergeE_some h3, ih (s := s + 1) (fun i u hu => by
      have := h1 (i + 1) u (by rw [List.getElem?_cons_succ]; exact hu)
      rw [show s + ((i + 1 : Nat) : Int) = s + 1 + (i : Int) by omega] at this
      exact this) (by
      rw [List.length_cons, show s + ((es.length + 1 : Nat) : Int) = s + 1 + (es.length : Int) by omega] at h2
      exact h2)]

/-! ### where rows end -/
/-- Behind the first frames from p on whose numbers are at most 'last'; f frames at most. -/
def endF : Nat → List UInt8 → Nat → Int → Nat
  | 0, _, p, _ => p
  | f + 1, l, p, last => if (takeM (l.drop p)).2.2 = 0 ∧ (takeM (l.drop p)).1.seq ≤ last then endF f l (p + (takeM (l.drop p)).2.1) last else p
def endA (l : List UInt8) (last : Int) : Nat := endF (l.length + 1) l 0 last
def endsS (rows : List (List UInt8)) (last : Int) : List Nat := rows.map fun r => endA r last
theorem endF_no {l : List UInt8} {p f : Nat} {last : Int} (h : ¬ ((takeM (l.drop p)).2.2 = 0 ∧ (takeM (l.drop p)).1.seq ≤ last)) : endF f l p last = p := by
  cases f with
  | zero => rfl
  | succ f => rw [endF, if_neg h]
theorem endF_go {l : List UInt8} {p f n : Nat} {e : En} {last : Int} (h : takeM (l.drop p) = (e, n, 0)) (h2 : e.seq ≤ last) : endF (f + 1) l p last = endF f l (p + n) last := by
  rw [endF, h, if_pos ⟨rfl, h2⟩]
theorem takeM_adv (m : List UInt8) (h : (takeM m).2.2 = 0) : 22 ≤ (takeM m).2.1 ∧ (takeM m).2.1 ≤ m.length := by
  rcases takeM_cases m with h1 | h1 | h1 | ⟨e, h1, h2, h3⟩
  · rw [h1.1] at h; simp at h
  · rw [h1] at h; simp at h
  · rw [h1] at h; simp at h
  · rw [h1]; simp only; omega
theorem endF_fuel : ∀ {f g : Nat} {l : List UInt8} {p : Nat} {last : Int}, p ≤ l.length → l.length - p < f → l.length - p < g → endF f l p last = endF g l p last
  | 0, _, _, _, _, _, h, _ => by omega
  | _ + 1, 0, _, _, _, _, _, h => by omega
  | f + 1, g + 1, l, p, last, hp, h1, h2 => by
    by_cases c : (takeM (l.drop p)).2.2 = 0 ∧ (takeM (l.drop p)).1.seq ≤ last
    · have := takeM_adv _ c.1
      rw [List.length_drop] at this
      rw [endF, endF, if_pos c, if_pos c, endF_fuel (f := f) (g := g) (by omega) (by omega) (by omega)]
    · rw [endF_no c, endF_no c]
theorem endF_le : ∀ {f : Nat} {l : List UInt8} {p : Nat} {last : Int}, p ≤ l.length → endF f l p last ≤ l.length
  | 0, _, _, _, hp => hp
  | f + 1, l, p, last, hp => by
    by_cases c : (takeM (l.drop p)).2.2 = 0 ∧ (takeM (l.drop p)).1.seq ≤ last
    · have := takeM_adv _ c.1
      rw [List.length_drop] at this
      rw [endF, if_pos c]
      exact endF_le (by omega)
    · rw [endF_no c]; exact hp
theorem endA_le (l : List UInt8) (last : Int) : endA l last ≤ l.length := endF_le (Nat.zero_le _)
theorem endA_step {l : List UInt8} {p n : Nat} {e : En} {last : Int} (hp : p ≤ l.length) (h : takeM (l.drop p) = (e, n, 0)) (h2 : e.seq ≤ last) : endF (l.length + 1) l p last = endF (l.length + 1) l (p + n) last := by
  have := takeM_adv (l.drop p) (by rw [h])
  rw [h, List.length_drop] at this
  simp only at this
  rw [endF_go h h2]
  exact endF_fuel (by omega) (by omega) (by omega)
/-- Has a row anything behind that? -/
def tornS (rows : List (List UInt8)) (last : Int) : Bool := rows.any fun r => decide (endA r last < r.length)

/-! ### the least number -/
def firstE : List En → Int
  | [] => 0
  | e :: l => if l = [] then e.seq else min e.seq (firstE l)
def minE (n : Int) (e : En) : Int := if n = 0 ∨ e.seq < n then e.seq else n
def firstS (rows : List (List UInt8)) : Int := (entsS rows).foldl minE 0
theorem foldl_minE : ∀ {l : List En} {m : Int}, (∀ e ∈ l, 1 ≤ e.seq) → 1 ≤ m → l.foldl minE m ≤ m ∧ 1 ≤ l.foldl minE m ∧ (∀ e ∈ l, l.foldl minE m ≤ e.seq) ∧ (l.foldl minE m = m ∨ ∃ e ∈ l, l.foldl minE m = e.seq)
  | [], m, _, hm => ⟨Int.le_refl _, hm, (fun e h => by cases h), .inl rfl⟩
  | e :: l, m, hl, hm => by
    have h1 := hl e List.mem_cons_self
    have hs : 1 ≤ minE m e ∧ minE m e ≤ m ∧ minE m e ≤ e.seq ∧ (minE m e = m ∨ minE m e = e.seq) := by unfold minE; split <;> omega
    obtain ⟨a, b, c, d⟩ := foldl_minE (l := l) (m := minE m e) (fun u hu => hl u (List.mem_cons_of_mem _ hu)) hs.1
    rw [List.foldl_cons]
    refine ⟨by omega, b, fun u hu => ?_, ?_⟩
    · rcases List.mem_cons.1 hu with rfl | hu
      · omega
      · exact c u hu
    · rcases d with d | ⟨u, hu, d⟩
      · rcases hs.2.2.2 with h | h
        · exact .inl (by omega)
        · exact .inr ⟨e, List.mem_cons_self, by omega⟩
      · exact .inr ⟨u, List.mem_cons_of_mem _ hu, d⟩

/-! ### entries dealt to rows -/
/-- The entries of es that go into row k of sp. -/
def dealE (sp : Int) (es : List En) (k : Int) : List En := es.filter fun e => decide (e.seq % sp = k)
def dealt (sp : Nat) (es : List En) : List (List En) := (List.range sp).map fun k => dealE (sp : Int) es ((k : Nat) : Int)
theorem pick_deal {sp : Int} {es : List En} {s k : Int} : pickE (dealE sp es k) s = if s % sp = k then pickE es s else none := by
  unfold pickE dealE
  rw [List.find?_filter]
  by_cases c : s % sp = k
  · rw [if_pos c]
    congr 1
    funext e
    by_cases h : e.seq = s
    · subst h; simp [c]
    · simp [h]
  · rw [if_neg c]
    rw [List.find?_eq_none]
    intro e _ h
    simp only [Bool.and_eq_true, decide_eq_true_eq] at h
    exact c (by rw [← h.2]; exact h.1)
theorem pick_app (a b : List En) (s : Int) : pickE (a ++ b) s = (pickE a s).or (pickE b s) := by
  unfold pickE; rw [List.find?_append]
theorem pick_dealt {sp : Nat} (h : 0 < sp) (es : List En) (s : Int) : pickE ((dealt sp es).flatten) s = pickE es s := by
  have hg : ∀ n, n ≤ sp → pickE (((List.range n).map fun k => dealE (sp : Int) es ((k : Nat) : Int)).flatten) s = if s % (sp : Int) < n then pickE es s else none := by
    intro n
    induction n with
    | zero =>
      intro _
      have := Int.emod_nonneg s (show (sp : Int) ≠ 0 by omega)
      rw [if_neg (by omega)]; rfl
    | succ n ih =>
      intro hn
      have h0 := Int.emod_nonneg s (show (sp : Int) ≠ 0 by omega)
      rw [List.range_succ, List.map_append, List.flatten_append, pick_app, ih (by omega)]
      simp only [List.map_cons, List.map_nil, List.flatten_cons, List.flatten_nil, List.append_nil]
      rw [pick_deal]
      by_cases c1 : s % (sp : Int) < n
      · rw [if_pos c1, if_neg (by omega), if_pos (by omega)]; simp
      · rw [if_neg c1]
        by_cases c2 : s % (sp : Int) = n
        · rw [if_pos c2, if_pos (by omega)]; simp
        · rw [if_neg c2, if_neg (by omega)]; simp
  have h2 := hg sp (Nat.le_refl _)
  have := Int.emod_lt_of_pos s (show 0 < (sp : Int) by omega)
  rw [if_pos this] at h2
  exact h2

/-! ### rows of frames with anything behind -/
theorem allF_le : ∀ (f : Nat) (l : List UInt8) (p : Nat), p ≤ (allF f l p).2
  | 0, l, p => Nat.le_refl _
  | f + 1, l, p => by
    rw [allF]
    split
    · exact Nat.le_trans (Nat.le_add_right _ _) (allF_le f l _)
    · exact Nat.le_refl _
theorem allF_still {f : Nat} {l : List UInt8} {p : Nat} (h : (allF f l p).2 = p) : (allF f l p).1 = [] := by
  cases f with
  | zero => rfl
  | succ f =>
    rw [allF] at h ⊢
    split
    · rename_i c
      rw [if_pos c] at h
      have := takeM_adv _ c
      have := allF_le f l (p + (takeM (l.drop p)).2.1)
      simp only at h
      omega
    · rfl
theorem all_more (es : List En) (hes : ∀ e ∈ es, e.right = true) (t : List UInt8) : ∀ (pre : List UInt8) (f : Nat), allF (es.length + f) (pre ++ (rowL es ++ t)) pre.length = (es ++ (allF f (pre ++ (rowL es ++ t)) (pre.length + (rowL es).length)).1, (allF f (pre ++ (rowL es ++ t)) (pre.length + (rowL es).length)).2) := by
  induction es with
  | nil => intro pre f; simp [rowL]
  | cons d es ih =>
    intro pre f
    have hd := hes d (List.mem_cons_self ..)
    have ht : takeM ((pre ++ (rowL (d :: es) ++ t)).drop pre.length) = (d, d.data.length + 22, 0) := by
      rw [List.drop_left]
      have : rowL (d :: es) ++ t = layL d ++ (rowL es ++ t) := by simp [rowL]
      rw [this]; exact take_lay hd _
    rw [List.length_cons, show es.length + 1 + f = es.length + f + 1 by omega, allF_go ht]
    have h := ih (fun x hx => hes x (List.mem_cons_of_mem _ hx)) (pre ++ layL d) f
    have e1 : pre ++ layL d ++ (rowL es ++ t) = pre ++ (rowL (d :: es) ++ t) := by simp [rowL]
    have e2 : (pre ++ layL d).length = pre.length + (d.data.length + 22) := by rw [List.length_append, layL_len]
    have e3 : (rowL (d :: es)).length = d.data.length + 22 + (rowL es).length := by simp [rowL, layL_len]
    rw [e1, e2] at h
    rw [h, e3, show pre.length + (d.data.length + 22) + (rowL es).length = pre.length + (d.data.length + 22 + (rowL es).length) by omega]
    rfl
theorem rowL_min (es : List En) : es.length ≤ (rowL es).length := by
  induction es with
  | nil => simp [rowL]
  | cons e es ih => unfold rowL at *; rw [List.flatMap_cons, List.length_append, layL_len, List.length_cons]; omega
theorem all_rowT {es : List En} (hes : ∀ e ∈ es, e.right = true) {t : List UInt8} (h : (allA (rowL es ++ t)).2 = (rowL es).length) : allA (rowL es ++ t) = (es, (rowL es).length) := by
  have hm := rowL_min es
  have hl : (rowL es ++ t).length + 1 = es.length + ((rowL es ++ t).length + 1 - es.length) := by rw [List.length_append]; omega
  have h1 := all_more es hes t [] ((rowL es ++ t).length + 1 - es.length)
  rw [List.nil_append, List.length_nil, Nat.zero_add, ← hl] at h1
  unfold allA at h ⊢
  rw [h1] at h ⊢
  simp only at h
  rw [h, allF_still h, List.append_nil]
theorem all_rowA {es : List En} (hes : ∀ e ∈ es, e.right = true) : allA (rowL es) = (es, (rowL es).length) := by
  have h := all_row es hes none (fun x k h => by cases h) [] ((rowL es).length + 1) (by have := rowL_min es; omega)
  simpa [allA] using h
/-- Where rows of frames end: behind the first whose numbers are at most 'last'. -/
theorem end_row (a b : List En) (t : List UInt8) (last : Int) (ha : ∀ e ∈ a, e.right = true ∧ e.seq ≤ last) (hb : b ≠ [] → ∃ e, b.head? = some e ∧ e.right = true ∧ last < e.seq) (ht : b = [] → (takeM t).2.2 ≠ 0) : endA (rowL (a ++ b) ++ t) last = (rowL a).length := by
  have key : ∀ (a : List En) (pre : List UInt8), (∀ e ∈ a, e.right = true ∧ e.seq ≤ last) → ∀ f, a.length < f → endF f (pre ++ (rowL (a ++ b) ++ t)) pre.length last = pre.length + (rowL a).length := by
    intro a
    induction a with
    | nil =>
      intro pre _ f hf
      rw [endF_no]
      · simp [rowL]
      · rw [List.drop_left, List.nil_append]
        cases b with
        | nil => intro c; exact ht rfl (by simpa [rowL] using c.1)
        | cons e b =>
          obtain ⟨u, hu, h1, h2⟩ := hb (by simp)
          simp only [List.head?_cons, Option.some.injEq] at hu
          subst hu
          have : rowL (e :: b) ++ t = layL e ++ (rowL b ++ t) := by simp [rowL]
          rw [this, take_lay h1]
          simp only; omega
    | cons d a ih =>
      intro pre ha f hf
      obtain ⟨f, rfl⟩ : ∃ g, f = g + 1 := ⟨f - 1, by simp at hf; omega⟩
      obtain ⟨hd, hs⟩ := ha d (List.mem_cons_self ..)
      have h1 : takeM ((pre ++ (rowL (d :: a ++ b) ++ t)).drop pre.length) = (d, d.data.length + 22, 0) := by
        rw [List.drop_left]
        have : rowL (d :: a ++ b) ++ t = layL d ++ (rowL (a ++ b) ++ t) := by simp [rowL]
        rw [this]; exact take_lay hd _
      rw [endF_go h1 hs]
      have h := ih (pre ++ layL d) (fun x hx => ha x (List.mem_cons_of_mem _ hx)) f (by simp at hf; omega)
      have e1 : pre ++ layL d ++ (rowL (a ++ b) ++ t) = pre ++ (rowL (d :: a ++ b) ++ t) := by simp [rowL]
      have e2 : (pre ++ layL d).length = pre.length + (d.data.length + 22) := by rw [List.length_append, layL_len]
      rw [e1, e2] at h
      rw [h]
      simp [rowL, layL_len]; omega
  have hlen : a.length < (rowL (a ++ b) ++ t).length + 1 := by
    have := rowL_min (a ++ b)
    rw [List.length_append] at this
    rw [List.length_append]; omega
  have h := key a [] ha _ hlen
  simpa [endA] using h
end Go.Proofs.Ytabeleihpnnadaa
