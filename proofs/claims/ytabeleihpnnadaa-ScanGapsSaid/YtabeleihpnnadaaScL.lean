/- Scans: what the laws' own rows are merged to, where they end; no program in sight. -/
import Derived.Test.YtabeleihpnnadaaScR
import Derived.Test.YtabeleihpnnadaaScM
namespace Go.Proofs.Ytabeleihpnnadaa
open Go.RowKit Go.Proofs
set_option linter.unusedVariables false
set_option linter.unusedSimpArgs false
set_option linter.unnecessarySimpa false

def Rising (es : List En) : Prop := es.Pairwise fun a b => a.seq < b.seq
def leE (last : Int) (e : En) : Bool := decide (e.seq ≤ last)
theorem tw_filter : ∀ {es : List En} {last : Int}, Rising es → es.takeWhile (leE last) = es.filter (leE last) ∧ ∀ e, (es.dropWhile (leE last)).head? = some e → last < e.seq
  | [], _, _ => ⟨rfl, fun e h => by simp at h⟩
  | e :: es, last, h => by
    have h1 : Rising es := (List.pairwise_cons.1 h).2
    have h2 := (List.pairwise_cons.1 h).1
    by_cases c : e.seq ≤ last
    · have hc : leE last e = true := decide_eq_true c
      rw [List.takeWhile_cons, List.filter_cons, List.dropWhile_cons, hc]
      exact ⟨by simp [(tw_filter h1).1], (tw_filter h1).2⟩
    · have hc : leE last e = false := decide_eq_false c
      rw [List.takeWhile_cons, List.filter_cons, List.dropWhile_cons, hc]
      have hn : es.filter (leE last) = [] := by
        rw [List.filter_eq_nil_iff]
        intro u hu
        have := h2 u hu
        simp only [leE, decide_eq_true_eq]; omega
      refine ⟨by simp [hn], fun u hu => ?_⟩
      simp at hu; subst hu; omega
theorem end_rising {es : List En} (hr : Rising es) (hes : ∀ e ∈ es, e.right = true) {t : List UInt8} (ht : (takeM t).2.2 ≠ 0) (last : Int) : endA (rowL es ++ t) last = (rowL (es.filter (leE last))).length := by
  obtain ⟨h1, h2⟩ := tw_filter (last := last) hr
  have e1 : es = es.takeWhile (leE last) ++ es.dropWhile (leE last) := (List.takeWhile_append_dropWhile).symm
  have h3 := end_row (es.takeWhile (leE last)) (es.dropWhile (leE last)) t last (fun e he => by
    rw [h1] at he
    exact ⟨hes e (List.mem_filter.1 he).1, of_decide_eq_true (List.mem_filter.1 he).2⟩) (fun hb => by
    cases hd : es.dropWhile (leE last) with
    | nil => exact absurd hd hb
    | cons e b =>
      refine ⟨e, rfl, hes e ((List.dropWhile_sublist (leE last)).subset (by rw [hd]; exact List.mem_cons_self)), h2 e (by rw [hd]; rfl)⟩) (fun _ => ht)
  rw [← e1] at h3
  rw [h3, h1]
theorem take_nil_no : (takeM []).2.2 ≠ 0 := by rw [takeM_nil rfl]; decide
theorem end_rising0 {es : List En} (hr : Rising es) (hes : ∀ e ∈ es, e.right = true) (last : Int) : endA (rowL es) last = (rowL (es.filter (leE last))).length := by
  have := end_rising hr hes take_nil_no last
  rwa [List.append_nil] at this
theorem rowL_filter_lt {es : List En} {p : En → Bool} : (rowL (es.filter p)).length < (rowL es).length ↔ ∃ e ∈ es, p e = false := by
  have h0 : ∀ es : List En, (rowL (es.filter p)).length ≤ (rowL es).length := fun es => by
    induction es with
    | nil => simp [rowL]
    | cons e es ih =>
      rw [List.filter_cons]
      split <;> (unfold rowL at *; rw [List.flatMap_cons, List.length_append]; try rw [List.flatMap_cons, List.length_append]) <;> omega
  induction es with
  | nil => simp [rowL]
  | cons e es ih =>
    rw [List.filter_cons]
    cases hp : p e with
    | true =>
      simp only [if_true, List.mem_cons, exists_eq_or_imp, hp, Bool.true_eq_false, false_or]
      refine Iff.trans ?_ ih
      unfold rowL; rw [List.flatMap_cons, List.length_append, List.flatMap_cons, List.length_append]; omega
    | false =>
      have := h0 es
      have hl := layL_len e
      simp only [Bool.false_eq_true, if_false, List.mem_cons, exists_eq_or_imp, hp, true_or, iff_true]
      unfold rowL at *
      rw [List.flatMap_cons, List.length_append]; omega
theorem dealE_rising {sp k : Int} {es : List En} (h : Rising es) : Rising (dealE sp es k) := List.Pairwise.sublist List.filter_sublist h
theorem dealE_mem {sp k : Int} {es : List En} {e : En} (h : e ∈ dealE sp es k) : e ∈ es := (List.mem_filter.1 h).1
theorem torn_rows {sp : Nat} (hs : 1 ≤ sp) {es : List En} (hr : Rising es) (hes : ∀ e ∈ es, e.right = true) (last : Int) : tornS (rowsP sp es) last = true ↔ ∃ e ∈ es, last < e.seq := by
  unfold tornS rowsP dealt
  rw [List.any_eq_true]
  constructor
  · rintro ⟨l, hl, h2⟩
    obtain ⟨d, hd, rfl⟩ := List.mem_map.1 hl
    obtain ⟨k, hk, rfl⟩ := List.mem_map.1 hd
    rw [decide_eq_true_eq, end_rising0 (dealE_rising hr) (fun e he => hes e (dealE_mem he)), rowL_filter_lt] at h2
    obtain ⟨e, he, h3⟩ := h2
    exact ⟨e, dealE_mem he, by simpa [leE] using h3⟩
  · rintro ⟨e, he, h3⟩
    obtain ⟨K, hK, hKs⟩ : ∃ K : Nat, e.seq % (sp : Int) = K ∧ K < sp := by
      have h1 := Int.emod_nonneg e.seq (show (sp : Int) ≠ 0 by omega)
      have h2 := Int.emod_lt_of_pos e.seq (show 0 < (sp : Int) by omega)
      exact ⟨(e.seq % (sp : Int)).toNat, by omega, by omega⟩
    refine ⟨rowL (dealE (sp : Int) es (K : Int)), List.mem_map.2 ⟨_, List.mem_map.2 ⟨K, List.mem_range.2 hKs, rfl⟩, rfl⟩, ?_⟩
    rw [decide_eq_true_eq, end_rising0 (dealE_rising hr) (fun e he => hes e (dealE_mem he)), rowL_filter_lt]
    exact ⟨e, List.mem_filter.2 ⟨he, by simpa using hK⟩, by simp [leE]; omega⟩
theorem torn_rowsB {sp : Nat} (hs : 1 ≤ sp) {es : List En} (hr : Rising es) (hes : ∀ e ∈ es, e.right = true) (last : Int) {B : Bool} (h : B = true ↔ ∃ e ∈ es, last < e.seq) : tornS (rowsP sp es) last = B := by
  rw [Bool.eq_iff_iff, torn_rows hs hr hes, h]
theorem flatMap_same {α : Type} {f : List α → List α} : ∀ {L : List (List α)}, (∀ d ∈ L, f d = d) → L.flatMap f = L.flatten
  | [], _ => rfl
  | d :: L, h => by rw [List.flatMap_cons, h d List.mem_cons_self, flatMap_same fun x hx => h x (List.mem_cons_of_mem _ hx), List.flatten_cons]
theorem ents_rows {sp : Nat} {es : List En} (hes : ∀ e ∈ es, e.right = true) : entsS (rowsP sp es) = (dealt sp es).flatten := by
  unfold entsS rowsP
  rw [List.flatMap_map]
  have : ∀ d ∈ dealt sp es, (allA (rowL d)).1 = d := fun d hd => by
    obtain ⟨k, _, rfl⟩ := List.mem_map.1 hd
    rw [all_rowA fun e he => hes e (dealE_mem he)]
  exact flatMap_same this
/-- Entries numbered one behind the other from F on. -/
def Runs (F : Nat) (es : List En) : Prop := ∀ (i : Nat) e, es[i]? = some e → e.seq = (F : Int) + i
theorem Runs.ens (F : Nat) (ps : List (List UInt8)) : Runs F (ensF F ps) := fun i e h => by
  have hlt := (List.getElem?_eq_some_iff.1 h).1
  rw [ensF_len] at hlt
  rw [ensF_get (List.getElem?_eq_getElem hlt)] at h
  cases h
  show ((F + i : Nat) : Int) = _
  omega
theorem Runs.rising {F : Nat} {es : List En} (h : Runs F es) : Rising es := by
  rw [Rising, List.pairwise_iff_getElem]
  intro i j hi hj hij
  have h1 := h i _ (List.getElem?_eq_getElem hi)
  have h2 := h j _ (List.getElem?_eq_getElem hj)
  omega
theorem Runs.tail {F : Nat} {e : En} {es : List En} (h : Runs F (e :: es)) : Runs (F + 1) es := fun i u hu => by
  have := h (i + 1) u (by simpa using hu)
  omega
theorem Runs.pick : ∀ {es : List En} {F : Nat}, Runs F es → ∀ s : Int, pickE es s = if (F : Int) ≤ s then es[(s - F).toNat]? else none
  | [], F, h, s => by simp [pickE]
  | e :: es, F, h, s => by
    have h0 : e.seq = F := by have := h 0 e rfl; omega
    have ih := Runs.pick h.tail s
    by_cases c : e.seq = s
    · have : pickE (e :: es) s = some e := by simp [pickE, c]
      rw [this, if_pos (by omega), show (s - (F : Int)).toNat = 0 by omega]; rfl
    · have : pickE (e :: es) s = pickE es s := by simp [pickE, c]
      rw [this, ih]
      by_cases c2 : (F : Int) ≤ s
      · rw [if_pos c2, if_pos (by omega), show (s - (F : Int)).toNat = (s - ((F + 1 : Nat) : Int)).toNat + 1 by omega, List.getElem?_cons_succ]
      · rw [if_neg c2, if_neg (by omega)]
theorem Runs.merge {F : Nat} {es : List En} (h : Runs F es) {sp : Nat} (hs : 1 ≤ sp) (hes : ∀ e ∈ es, e.right = true) {k : Nat} (hk : k ≤ es.length) : mergeS (rowsP sp es) ((F : Int) + k) = es.drop k := by
  rw [mergeS_eq, ents_rows hes]
  apply mergeE_take
  · intro i e he
    rw [List.getElem?_drop] at he
    rw [pick_dealt (by omega), h.pick, if_pos (by omega), show ((F : Int) + k + i - F).toNat = k + i by omega]; exact he
  · rw [pick_dealt (by omega), h.pick, if_pos (by omega), List.length_drop, List.getElem?_eq_none (by omega)]
/-- The least number. -/
theorem minL_is {es : List En} (hes : ∀ e ∈ es, 1 ≤ e.seq) {m : Int} (h1 : ∀ e ∈ es, m ≤ e.seq) (h2 : ∃ e ∈ es, e.seq = m) : minL es = m := by
  cases es with
  | nil => obtain ⟨e, he, _⟩ := h2; cases he
  | cons e es =>
    have h0 := hes e List.mem_cons_self
    have hm : minL (e :: es) = es.foldl minE e.seq := by unfold minL minE; simp
    obtain ⟨a, b, c, d⟩ := foldl_minE (l := es) (m := e.seq) (fun u hu => hes u (List.mem_cons_of_mem _ hu)) h0
    rw [hm]
    obtain ⟨u, hu, h3⟩ := h2
    have hle : es.foldl minE e.seq ≤ m := by
      rcases List.mem_cons.1 hu with rfl | hu
      · omega
      · have := c u hu; omega
    have hge : m ≤ es.foldl minE e.seq := by
      rcases d with d | ⟨v, hv, d⟩
      · have := h1 e List.mem_cons_self; omega
      · have := h1 v (List.mem_cons_of_mem _ hv); omega
    omega
theorem dealt_mem {sp : Nat} (hs : 1 ≤ sp) {es : List En} {e : En} : e ∈ (dealt sp es).flatten ↔ e ∈ es := by
  rw [List.mem_flatten]
  constructor
  · rintro ⟨d, hd, he⟩
    obtain ⟨k, _, rfl⟩ := List.mem_map.1 hd
    exact dealE_mem he
  · intro he
    obtain ⟨K, hK, hKs⟩ : ∃ K : Nat, e.seq % (sp : Int) = K ∧ K < sp := by
      have h1 := Int.emod_nonneg e.seq (show (sp : Int) ≠ 0 by omega)
      have h2 := Int.emod_lt_of_pos e.seq (show 0 < (sp : Int) by omega)
      exact ⟨(e.seq % (sp : Int)).toNat, by omega, by omega⟩
    exact ⟨dealE (sp : Int) es (K : Int), List.mem_map.2 ⟨K, List.mem_range.2 hKs, rfl⟩, List.mem_filter.2 ⟨he, by simpa using hK⟩⟩
theorem Runs.first {F : Nat} {es : List En} (h : Runs F es) (hF : 1 ≤ F) {sp : Nat} (hs : 1 ≤ sp) (hes : ∀ e ∈ es, e.right = true) (h0 : es ≠ []) : firstS (rowsP sp es) = F := by
  show minL (entsS (rowsP sp es)) = F
  rw [ents_rows hes]
  have hq : ∀ e ∈ es, (F : Int) ≤ e.seq := fun e he => by
    obtain ⟨i, hi⟩ := List.mem_iff_getElem?.1 he
    have := h i e hi; omega
  apply minL_is
  · intro e he
    have := hq e ((dealt_mem hs).1 he); omega
  · intro e he
    exact hq e ((dealt_mem hs).1 he)
  · cases es with
    | nil => exact absurd rfl h0
    | cons e es => exact ⟨e, (dealt_mem hs).2 List.mem_cons_self, by have := h 0 e rfl; omega⟩
theorem rowsP_SB {sp : Nat} (hs : sp ≤ 4) {es : List En} (hl : es.length ≤ 100) (h : ∀ e ∈ es, e.data.length ≤ 40) : SB (rowsP sp es) := by
  refine ⟨by rw [rowsP_len]; omega, fun l hl2 => ?_⟩
  obtain ⟨d, hd, rfl⟩ := List.mem_map.1 hl2
  obtain ⟨k, _, rfl⟩ := List.mem_map.1 hd
  have := dealE_short (sp := (sp : Int)) (es := es) (k := (k : Int)) h
  omega
end Go.Proofs.Ytabeleihpnnadaa
