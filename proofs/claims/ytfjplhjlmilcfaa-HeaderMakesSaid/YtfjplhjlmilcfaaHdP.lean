/- Records of an image: records made of rows of numbers (no program). -/
import Derived.Test.YtfjplhjlmilcfaaHdC
namespace Go.Proofs.Ytfjplhjlmilcfaa
open Go.RowKit Go.Proofs
set_option linter.unusedVariables false
set_option linter.unusedSimpArgs false
set_option linter.unnecessarySimpa false

def nmS (i : Nat) : ByteArray := ⟨#[115, UInt8.ofNat (97 + i)]⟩
def tilN : ByteArray := ⟨#[126, 110]⟩
theorem nmS_list (i : Nat) : (nmS i).data.toList = [115, UInt8.ofNat (97 + i)] := rfl
theorem nmS_free (i : Nat) : heldL (nmS i).data.toList = false := by rw [nmS_list]; rfl
theorem nmS_ok {i : Nat} (h : i < 16) : markL (nmS i).data.toList = true := by
  rw [nmS_list]
  have : ∀ k : Fin 16, markL [115, UInt8.ofNat (97 + k.val)] = true := by decide
  exact this ⟨i, h⟩
theorem nmS_inj {i j : Nat} (hi : i < 16) (hj : j < 16) (h : nmS i = nmS j) : i = j := by
  have h1 : (nmS i).data.toList = (nmS j).data.toList := by rw [h]
  rw [nmS_list, nmS_list] at h1
  simp only [List.cons.injEq, and_true, true_and] at h1
  rw [← UInt8.toNat_inj, UInt8.toNat_ofNat', UInt8.toNat_ofNat'] at h1
  omega
theorem tilN_held : heldL tilN.data.toList = true := by decide
theorem tilN_ok : markL tilN.data.toList = true := by decide
theorem nmS_til {i : Nat} (h : nmS i = tilN) : False := by
  have h1 := nmS_free i
  rw [h, tilN_held] at h1
  cases h1
/-- A record under way: j marks, the next number, how many are seen, is there a hold. -/
structure MadeM (j : Nat) (nx : Int) (sn : Nat) (hd : Bool) (ms : List Mk) : Prop where
  len : ms.length = j
  nx1 : 1 ≤ nx
  nx2 : nx ≤ 1 + 2 * j
  ok : ∀ i, okM nx ms i
  names : ∀ (i : Nat) (t : Mk), ms[i]? = some t → t.name = nmS i ∨ t.name = tilN ∧ hd = true
  holds : holdsN ms = if hd then 1 else 0
  seen : (seenL ms).length = sn
  sn8 : sn ≤ 8
  fit : ∀ t ∈ ms, t.Fit
  apart : Apart ms
theorem MadeM.start : MadeM 0 1 0 false [] := ⟨rfl, by omega, by omega, fun i t h => by simp at h, fun i t h => by simp at h, rfl, rfl, by omega, fun t h => by simp at h, fun i h => by simp at h⟩
theorem apart_snoc {ms : List Mk} {t : Mk} (h : Apart ms) (hn : ∀ u ∈ ms, u.name ≠ t.name) : Apart (ms ++ [t]) := by
  intro i hi t' ht' j u hj hu
  rw [List.length_append, List.length_singleton] at hi
  have hju : ms[j]? = some u := by rw [List.getElem?_append_left (by omega)] at hu; exact hu
  by_cases e : i < ms.length
  · rw [List.getElem?_append_left e] at ht'
    exact h i e t' ht' j u hj hju
  · have : i = ms.length := by omega
    subst this
    rw [List.getElem?_append_right (by omega)] at ht'
    simp at ht'
    subst ht'
    exact hn u (List.mem_of_getElem? hju)
theorem lastM_app {ms : List Mk} {t : Mk} {i : Nat} (h : i ≤ ms.length) : lastM (ms ++ [t]) i = lastM ms i := by
  cases i with
  | zero => rfl
  | succ k =>
    show (match (ms ++ [t])[k]? with | some u => u.id | none => 0) = (match ms[k]? with | some u => u.id | none => 0)
    rw [List.getElem?_append_left (by omega)]
theorem lastM_less {nx : Int} {ms : List Mk} (h1 : 1 ≤ nx) (h : ∀ i, okM nx ms i) (i : Nat) (hi : i ≤ ms.length) : lastM ms i < nx := by
  cases i with
  | zero => rw [lastM_zero]; omega
  | succ k =>
    obtain ⟨u, hu⟩ : ∃ u, ms[k]? = some u := ⟨ms[k]'(by omega), List.getElem?_eq_getElem _⟩
    rw [lastM_succ hu]
    exact (h k u hu).2
theorem MadeM.snoc {j : Nat} {nx : Int} {sn : Nat} {hd : Bool} {ms : List Mk} (h : MadeM j nx sn hd ms) (hj : j < 16) {t : Mk} {b : Int} {sn' : Nat} {hd' : Bool} (hid : t.id = nx) (hb : 0 ≤ b ∧ b ≤ 1) (hz : 0 ≤ t.size ∧ t.size ≤ 512)
    (hn : (t.name = nmS j ∧ hd' = hd ∧ (t.gone = true ∧ sn' = sn ∨ t.gone = false ∧ sn' = sn + 1 ∧ sn < 8)) ∨ (t.name = tilN ∧ t.gone = false ∧ hd = false ∧ hd' = true ∧ sn' = sn)) : MadeM (j + 1) (nx + 1 + b) sn' hd' (ms ++ [t]) := by
  have hne : ∀ u ∈ ms, u.name ≠ t.name := by
    intro u hu e
    obtain ⟨i, hi⟩ := List.mem_iff_getElem?.1 hu
    have hij : i < j := by have := (List.getElem?_eq_some_iff.1 hi).1; rw [h.len] at this; exact this
    rcases h.names i u hi with h1 | ⟨h1, h2⟩
    · rcases hn with ⟨h3, _⟩ | ⟨h3, _⟩
      · rw [h1, h3] at e
        have := nmS_inj (by omega) hj e
        omega
      · rw [h1, h3] at e
        exact nmS_til e
    · rcases hn with ⟨h3, _⟩ | ⟨h3, _, h4, _⟩
      · rw [h1, h3] at e
        exact nmS_til e.symm
      · rw [h2] at h4; cases h4
  have hheld : t.held = (if t.name = tilN then true else false) := by
    rcases hn with ⟨h3, _⟩ | ⟨h3, _⟩
    · unfold Mk.held Mk.nm; rw [h3, nmS_free, if_neg (fun e => nmS_til e)]
    · unfold Mk.held Mk.nm; rw [h3, tilN_held, if_pos rfl]
  refine ⟨by rw [List.length_append, h.len]; rfl, by have := h.nx1; omega, by have := h.nx2; omega, ?_, ?_, ?_, ?_, ?_, ?_, apart_snoc h.apart hne⟩
  · intro i u hu
    by_cases e : i < ms.length
    · rw [List.getElem?_append_left e] at hu
      rw [lastM_app (by omega)]
      have := h.ok i u hu
      omega
    · have hi : i = ms.length := by
        have := (List.getElem?_eq_some_iff.1 hu).1
        rw [List.length_append, List.length_singleton] at this; omega
      subst hi
      rw [List.getElem?_append_right (by omega)] at hu
      simp at hu
      subst hu
      rw [lastM_app (by omega)]
      have := lastM_less h.nx1 h.ok ms.length (by omega)
      omega
  · intro i u hu
    by_cases e : i < ms.length
    · rw [List.getElem?_append_left e] at hu
      rcases h.names i u hu with h1 | ⟨h1, h2⟩
      · exact .inl h1
      · refine .inr ⟨h1, ?_⟩
        rcases hn with ⟨_, h3, _⟩ | ⟨_, _, _, h3, _⟩
        · rw [h3, h2]
        · exact h3
    · have hi : i = ms.length := by
        have := (List.getElem?_eq_some_iff.1 hu).1
        rw [List.length_append, List.length_singleton] at this; omega
      subst hi
      rw [List.getElem?_append_right (by omega)] at hu
      simp at hu
      subst hu
      rcases hn with ⟨h3, _⟩ | ⟨h3, _, _, h4, _⟩
      · exact .inl (by rw [h3, h.len])
      · exact .inr ⟨h3, h4⟩
  · unfold holdsN
    rw [List.filter_append, List.length_append]
    have h0 := h.holds
    unfold holdsN at h0
    rw [h0]
    rcases hn with ⟨h3, h4, _⟩ | ⟨h3, _, h4, h5, _⟩
    · rw [if_neg (fun e => nmS_til (by rw [← h3]; exact e))] at hheld
      simp [hheld, h4]
    · rw [if_pos h3] at hheld
      simp [hheld, h4, h5]
  · unfold seenL
    rw [List.filter_append, List.length_append]
    have h0 := h.seen
    unfold seenL at h0
    rw [h0]
    rcases hn with ⟨h3, h4, ⟨h5, h6⟩ | ⟨h5, h6, _⟩⟩ | ⟨h3, h5, _, _, h6⟩
    · have e : t.seen = false := by unfold Mk.seen; rw [h5]; rfl
      simp [e, h6]
    · rw [if_neg (fun e => nmS_til (by rw [← h3]; exact e))] at hheld
      have e : t.seen = true := by unfold Mk.seen; rw [h5, hheld]; rfl
      simp [e, h6]
    · rw [if_pos h3] at hheld
      have e : t.seen = false := by unfold Mk.seen; rw [hheld, h5]; rfl
      simp [e, h6]
  · have := h.sn8
    rcases hn with ⟨_, _, ⟨_, h6⟩ | ⟨_, h6, _⟩⟩ | ⟨_, _, _, _, h6⟩ <;> omega
  · intro u hu
    rw [List.mem_append, List.mem_singleton] at hu
    rcases hu with hu | rfl
    · exact h.fit u hu
    · refine ⟨?_, ?_, hz⟩
      · rcases hn with ⟨h3, _⟩ | ⟨h3, _⟩
        · unfold Mk.nm; rw [h3]; exact nmS_ok hj
        · unfold Mk.nm; rw [h3]; exact tilN_ok
      · rcases hn with ⟨h3, _⟩ | ⟨h3, h4, _⟩
        · rw [if_neg (fun e => nmS_til (by rw [← h3]; exact e))] at hheld
          rw [hheld]; simp
        · rw [h4]; simp
theorem apart_filter {ms : List Mk} (h : Apart ms) : Apart (seenL ms) := by
  have hp : ms.Pairwise (fun a b => a.name ≠ b.name) := by
    rw [List.pairwise_iff_getElem]
    intro i j hi hj hij
    exact h j hj _ (List.getElem?_eq_getElem hj) i _ hij (List.getElem?_eq_getElem hi)
  have hq : (seenL ms).Pairwise (fun a b => a.name ≠ b.name) := hp.filter _
  rw [List.pairwise_iff_getElem] at hq
  intro i hi t ht j u hj hu
  obtain ⟨h1, rfl⟩ := List.getElem?_eq_some_iff.1 ht
  obtain ⟨h2, rfl⟩ := List.getElem?_eq_some_iff.1 hu
  exact hq j i h2 h1 hj
theorem MadeM.marksOk {j : Nat} {nx : Int} {sn : Nat} {hd : Bool} {ms : List Mk} (h : MadeM j nx sn hd ms) (hj : j ≤ 16) : MarksOk nx ms :=
  ⟨by rw [h.len]; omega, fun i _ => h.ok i, by rw [h.holds]; split <;> omega, h.fit, by rw [h.seen]; exact h.sn8, apart_filter h.apart⟩
theorem MadeM.hdOk {j : Nat} {nx : Int} {sn : Nat} {hd : Bool} {ms : List Mk} (h : MadeM j nx sn hd ms) (hj : j ≤ 16) {z o u c q : Int} (hz : 0 ≤ z ∧ z ≤ 511) (hs : ShapeOk o u c) (hq : 0 ≤ q ∧ q ≤ 255) : HdOk ⟨z, o, u, c, nx, q, ms⟩ :=
  ⟨⟨hz.1, by simp only; omega, hs, h.nx1, by have := h.nx2; simp only; omega, hq.1, by simp only; omega⟩, h.marksOk hj⟩
end Go.Proofs.Ytfjplhjlmilcfaa
