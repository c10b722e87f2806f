/- Rings: where entries lie; no program in sight. -/
import Derived.Test.YtblipabemghdbaaPlain
namespace Go.Proofs.Ytblipabemghdbaa
set_option linter.unusedVariables false
set_option linter.unnecessarySimpa false
set_option linter.unusedSimpArgs false

structure Rg where
  sp : Int
  st : Int
  sz : Int
deriving DecidableEq
structure Fl where
  set : Int
  u0 : Int
  u1 : Int
  u2 : Int
  u3 : Int
deriving DecidableEq
structure Pc where
  set : Int
  obj : Int
deriving DecidableEq
def noFl : Fl := ⟨0, 0, 0, 0, 0⟩
def noPc : Pc := ⟨0, 0⟩
def Rg.Ok (c : Rg) : Prop := (1 ≤ c.sp ∧ c.sp ≤ 4) ∧ (4 ≤ c.st ∧ c.st ≤ 8) ∧ (512 ≤ c.sz ∧ c.sz ≤ 4096)
instance (c : Rg) : Decidable c.Ok := by unfold Rg.Ok; infer_instance
def Fl.at (f : Fl) (k : Int) : Int := if k = 0 then f.u0 else if k = 1 then f.u1 else if k = 2 then f.u2 else f.u3
def Fl.put (f : Fl) (k v : Int) : Fl := if k = 0 then ⟨f.set, v, f.u1, f.u2, f.u3⟩ else if k = 1 then ⟨f.set, f.u0, v, f.u2, f.u3⟩ else if k = 2 then ⟨f.set, f.u0, f.u1, v, f.u3⟩ else ⟨f.set, f.u0, f.u1, f.u2, v⟩
def Fl.In (f : Fl) (m : Int) : Prop := (0 ≤ f.u0 ∧ f.u0 ≤ m) ∧ (0 ≤ f.u1 ∧ f.u1 ≤ m) ∧ (0 ≤ f.u2 ∧ f.u2 ≤ m) ∧ (0 ≤ f.u3 ∧ f.u3 ≤ m)
instance (f : Fl) (m : Int) : Decidable (f.In m) := by unfold Fl.In; infer_instance
/-- What Put takes. -/
def PutOk (c : Rg) (f : Fl) (q n : Int) : Prop := c.Ok ∧ (0 ≤ f.set ∧ f.set < 1073741824) ∧ (1 ≤ q ∧ q ≤ 1099511627776) ∧ (1 ≤ n ∧ n ≤ 90) ∧ f.In c.sz
instance (c : Rg) (f : Fl) (q n : Int) : Decidable (PutOk c f q n) := by unfold PutOk; infer_instance
/-- Where an entry lies, and what is filled then; is it the next set; is it taken. -/
def putR (c : Rg) (f : Fl) (q n : Int) : Fl × Pc × Bool × Bool :=
  if PutOk c f q n then
    if f.at (q % c.sp) + (n + 22) ≤ c.sz then (f.put (q % c.sp) (f.at (q % c.sp) + (n + 22)), ⟨f.set, q % c.sp⟩, false, true)
    else ((⟨f.set + 1, 0, 0, 0, 0⟩ : Fl).put (q % c.sp) (n + 22), ⟨f.set + 1, q % c.sp⟩, true, true)
  else (noFl, noPc, false, false)
theorem putR_no {c : Rg} {f : Fl} {q n : Int} (h : ¬ PutOk c f q n) : putR c f q n = (noFl, noPc, false, false) := by unfold putR; rw [if_neg h]
theorem putR_in {c : Rg} {f : Fl} {q n : Int} (h : PutOk c f q n) (h2 : f.at (q % c.sp) + (n + 22) ≤ c.sz) : putR c f q n = (f.put (q % c.sp) (f.at (q % c.sp) + (n + 22)), ⟨f.set, q % c.sp⟩, false, true) := by unfold putR; rw [if_pos h, if_pos h2]
theorem putR_on {c : Rg} {f : Fl} {q n : Int} (h : PutOk c f q n) (h2 : ¬ f.at (q % c.sp) + (n + 22) ≤ c.sz) : putR c f q n = ((⟨f.set + 1, 0, 0, 0, 0⟩ : Fl).put (q % c.sp) (n + 22), ⟨f.set + 1, q % c.sp⟩, true, true) := by unfold putR; rw [if_pos h, if_neg h2]
theorem Rg.mod {c : Rg} (h : c.Ok) (q : Int) : 0 ≤ q % c.sp ∧ q % c.sp < c.sp ∧ q % c.sp < 4 := by
  have h1 := Int.emod_nonneg q (show c.sp ≠ 0 by have := h.1; omega)
  have h2 := Int.emod_lt_of_pos q (show 0 < c.sp by have := h.1; omega)
  have := h.1
  omega
theorem Fl.at_put {f : Fl} {k v : Int} (h0 : 0 ≤ k) (h4 : k < 4) (j : Int) (hj0 : 0 ≤ j) (hj : j < 4) : (f.put k v).at j = if j = k then v else f.at j := by
  rcases (show k = 0 ∨ k = 1 ∨ k = 2 ∨ k = 3 by omega) with rfl | rfl | rfl | rfl <;> rcases (show j = 0 ∨ j = 1 ∨ j = 2 ∨ j = 3 by omega) with rfl | rfl | rfl | rfl <;> rfl
theorem Fl.put_set {f : Fl} {k v : Int} : (f.put k v).set = f.set := by
  unfold Fl.put; split <;> (try split) <;> (try split) <;> rfl
theorem Fl.put_in {f : Fl} {k v m : Int} (h : f.In m) (h0 : 0 ≤ v) (h1 : v ≤ m) : (f.put k v).In m := by
  unfold Fl.In at *
  unfold Fl.put; split <;> (try split) <;> (try split) <;> simp only <;> omega
theorem Fl.at_in {f : Fl} {m : Int} (h : f.In m) (k : Int) : 0 ≤ f.at k ∧ f.at k ≤ m := by
  unfold Fl.In at h; unfold Fl.at; split <;> (try split) <;> (try split) <;> omega

/-! ### rows of entries -/
/-- What is filled behind k entries, numbered q and on; none, if one is refused. -/
def fillR (c : Rg) (f : Fl) (q : Int) : List Int → Option Fl
  | [] => some f
  | n :: l => if PutOk c f q n then fillR c (putR c f q n).1 (q + 1) l else none
/-- Their places, those that are taken. -/
def placesR (c : Rg) (f : Fl) (q : Int) : List Int → List Pc
  | [] => []
  | n :: l => if PutOk c f q n then (putR c f q n).2.1 :: placesR c (putR c f q n).1 (q + 1) l else []
/-- How many begin a set. -/
def moreR (c : Rg) (f : Fl) (q : Int) : List Int → Int
  | [] => 0
  | n :: l => if PutOk c f q n then (if (putR c f q n).2.2.1 then 1 else 0) + moreR c (putR c f q n).1 (q + 1) l else 0
def setsR (c : Rg) (at' : Int) (l : List Int) : List Pc := if 0 ≤ at' ∧ at' ≤ 1099511627776 then (if (fillR c noFl (at' + 1) l).isSome then placesR c noFl (at' + 1) l else []) else []
def needR (c : Rg) (f : Fl) (q : Int) (l : List Int) : Int := if 1 ≤ q ∧ q ≤ 1099511627776 then (if (fillR c f q l).isSome then moreR c f q l else 0) else 0
theorem fillR_cons (c : Rg) (f : Fl) (q n : Int) (l : List Int) : fillR c f q (n :: l) = if PutOk c f q n then fillR c (putR c f q n).1 (q + 1) l else none := rfl
theorem placesR_cons (c : Rg) (f : Fl) (q n : Int) (l : List Int) : placesR c f q (n :: l) = if PutOk c f q n then (putR c f q n).2.1 :: placesR c (putR c f q n).1 (q + 1) l else [] := rfl
theorem moreR_cons (c : Rg) (f : Fl) (q n : Int) (l : List Int) : moreR c f q (n :: l) = if PutOk c f q n then (if (putR c f q n).2.2.1 then 1 else 0) + moreR c (putR c f q n).1 (q + 1) l else 0 := rfl
theorem fillR_snoc {c : Rg} : ∀ {f : Fl} {q : Int} {l : List Int} {n : Int}, fillR c f q (l ++ [n]) = (fillR c f q l).bind fun g => if PutOk c g (q + l.length) n then some (putR c g (q + l.length) n).1 else none
  | f, q, [], n => by simp [fillR]
  | f, q, m :: l, n => by
    rw [List.cons_append]
    unfold fillR
    split
    · rw [fillR_snoc (l := l), List.length_cons]
      rw [show q + 1 + (l.length : Int) = q + ((l.length + 1 : Nat) : Int) by omega]
    · rfl
theorem placesR_snoc {c : Rg} : ∀ {f g : Fl} {q : Int} {l : List Int} {n : Int}, fillR c f q l = some g → PutOk c g (q + l.length) n → placesR c f q (l ++ [n]) = placesR c f q l ++ [(putR c g (q + l.length) n).2.1]
  | f, g, q, [], n, hf, h => by
    have : f = g := by simpa [fillR] using hf
    subst this
    simp only [List.length_nil, Int.natCast_zero, Int.add_zero] at h
    simp [placesR, h]
  | f, g, q, m :: l, n, hf, h => by
    rw [List.cons_append]
    unfold fillR at hf
    unfold placesR
    split at hf
    · rename_i hm
      rw [List.length_cons, show q + ((l.length + 1 : Nat) : Int) = q + 1 + (l.length : Int) by omega] at h ⊢
      rw [if_pos hm, if_pos hm, placesR_snoc hf h, List.cons_append]
    · cases hf
theorem moreR_snoc {c : Rg} : ∀ {f g : Fl} {q : Int} {l : List Int} {n : Int}, fillR c f q l = some g → PutOk c g (q + l.length) n → moreR c f q (l ++ [n]) = moreR c f q l + if (putR c g (q + l.length) n).2.2.1 then 1 else 0
  | f, g, q, [], n, hf, h => by
    have : f = g := by simpa [fillR] using hf
    subst this
    simp only [List.length_nil, Int.natCast_zero, Int.add_zero] at h
    simp [moreR, h]
  | f, g, q, m :: l, n, hf, h => by
    rw [List.cons_append]
    unfold fillR at hf
    unfold moreR
    split at hf
    · rename_i hm
      rw [List.length_cons, show q + ((l.length + 1 : Nat) : Int) = q + 1 + (l.length : Int) by omega] at h ⊢
      rw [if_pos hm, if_pos hm, moreR_snoc hf h]; omega
    · cases hf
theorem fillR_app {c : Rg} : ∀ {f : Fl} {q : Int} {l m : List Int}, fillR c f q (l ++ m) = (fillR c f q l).bind fun g => fillR c g (q + l.length) m
  | f, q, [], m => by simp [fillR]
  | f, q, n :: l, m => by
    rw [List.cons_append, fillR_cons, fillR_cons]
    split
    · rw [fillR_app (l := l), List.length_cons, show q + 1 + (l.length : Int) = q + ((l.length + 1 : Nat) : Int) by omega]
    · rfl
theorem moreR_app {c : Rg} : ∀ {f g : Fl} {q : Int} {l m : List Int}, fillR c f q l = some g → moreR c f q (l ++ m) = moreR c f q l + moreR c g (q + l.length) m
  | f, g, q, [], m, hf => by
    have : f = g := by simpa [fillR] using hf
    subst this
    simp [moreR]
  | f, g, q, n :: l, m, hf => by
    rw [List.cons_append]
    rw [fillR_cons] at hf
    rw [moreR_cons, moreR_cons]
    split at hf
    · rename_i hm
      rw [if_pos hm, if_pos hm, moreR_app hf, List.length_cons, show q + ((l.length + 1 : Nat) : Int) = q + 1 + (l.length : Int) by omega]
      omega
    · cases hf
theorem placesR_len {c : Rg} : ∀ {f g : Fl} {q : Int} {l : List Int}, fillR c f q l = some g → (placesR c f q l).length = l.length
  | f, g, q, [], h => rfl
  | f, g, q, n :: l, h => by
    unfold fillR at h
    unfold placesR
    split at h
    · rename_i hm
      rw [if_pos hm, List.length_cons, List.length_cons, placesR_len h]
    · cases h
/-- One that is taken leaves a fill that may be. -/
theorem putR_fit {c : Rg} {f : Fl} {q n : Int} (h : PutOk c f q n) : (putR c f q n).1.In c.sz ∧ (putR c f q n).1.set = f.set + (if (putR c f q n).2.2.1 then 1 else 0) ∧ (putR c f q n).2.1.set = (putR c f q n).1.set := by
  obtain ⟨hc, hs, hq, hn, hf⟩ := h
  have hm := Rg.mod hc q
  have ha := Fl.at_in hf (q % c.sp)
  have h3 := hc.2.2
  by_cases h2 : f.at (q % c.sp) + (n + 22) ≤ c.sz
  · rw [putR_in ⟨hc, hs, hq, hn, hf⟩ h2]
    exact ⟨Fl.put_in hf (by omega) h2, by simp [Fl.put_set], by simp [Fl.put_set]⟩
  · rw [putR_on ⟨hc, hs, hq, hn, hf⟩ h2]
    exact ⟨Fl.put_in (by unfold Fl.In; simp only; omega) (by omega) (by omega), by simp [Fl.put_set], by simp [Fl.put_set]⟩
/-- Rows of entries that may be are taken. -/
theorem fillR_some {c : Rg} (hc : c.Ok) : ∀ {f : Fl} {q : Int} {l : List Int}, f.In c.sz → 0 ≤ f.set → f.set + l.length ≤ 1073741824 → 1 ≤ q → q + l.length ≤ 1099511627776 → (∀ n ∈ l, 1 ≤ n ∧ n ≤ 90) → ∃ g, fillR c f q l = some g ∧ g.In c.sz ∧ f.set ≤ g.set ∧ g.set ≤ f.set + l.length ∧ g.set = f.set + moreR c f q l
  | f, q, [], hf, _, _, _, _, _ => ⟨f, rfl, hf, by omega, by simp, by simp [moreR]⟩
  | f, q, n :: l, hf, h0, h1, hq, hq2, hn => by
    rw [List.length_cons] at h1 hq2
    have hp : PutOk c f q n := ⟨hc, by omega, by omega, hn n List.mem_cons_self, hf⟩
    obtain ⟨i1, i2, i3⟩ := putR_fit hp
    have h5 : (putR c f q n).1.set ≤ f.set + 1 ∧ f.set ≤ (putR c f q n).1.set := by rw [i2]; split <;> omega
    obtain ⟨g, g1, g2, g3, g4, g5⟩ := fillR_some hc (f := (putR c f q n).1) (q := q + 1) (l := l) i1 (by omega) (by omega) (by omega) (by omega) fun m hm => hn m (List.mem_cons_of_mem _ hm)
    refine ⟨g, by unfold fillR; rw [if_pos hp]; exact g1, g2, by omega, by rw [List.length_cons]; omega, ?_⟩
    unfold moreR
    rw [if_pos hp, g5, i2]; omega
/-- The place of each, and what is filled ahead of it and behind it. -/
theorem placesR_at {c : Rg} : ∀ {f g : Fl} {q : Int} {l : List Int} {i : Nat} {n : Int}, fillR c f q l = some g → l[i]? = some n → ∃ h, fillR c f q (l.take i) = some h ∧ PutOk c h (q + i) n ∧ (placesR c f q l)[i]? = some (putR c h (q + i) n).2.1 ∧ fillR c f q (l.take (i + 1)) = some (putR c h (q + i) n).1
  | f, g, q, [], i, n, hf, hi => by simp at hi
  | f, g, q, m :: l, 0, n, hf, hi => by
    rw [List.getElem?_cons_zero, Option.some.injEq] at hi
    subst hi
    rw [fillR_cons] at hf
    split at hf
    · rename_i hm
      refine ⟨f, rfl, by simpa using hm, ?_, ?_⟩
      · rw [placesR_cons, if_pos hm]; simp
      · rw [List.take_succ_cons, List.take_zero, fillR_cons, if_pos hm]; simp [fillR]
    · cases hf
  | f, g, q, m :: l, i + 1, n, hf, hi => by
    rw [List.getElem?_cons_succ] at hi
    rw [fillR_cons] at hf
    split at hf
    · rename_i hm
      obtain ⟨h, h1, h2, h3, h4⟩ := placesR_at hf hi
      have e : q + 1 + (i : Int) = q + ((i + 1 : Nat) : Int) := by omega
      rw [e] at h2 h3 h4
      refine ⟨h, ?_, h2, ?_, ?_⟩
      · rw [List.take_succ_cons, fillR_cons, if_pos hm]; exact h1
      · rw [placesR_cons, if_pos hm, List.getElem?_cons_succ]; exact h3
      · rw [List.take_succ_cons, fillR_cons, if_pos hm]; exact h4
    · cases hf
/-! ### numbers of objects -/
def numR (c : Rg) (p : Pc) : Int := if c.Ok ∧ (0 ≤ p.set ∧ p.set ≤ 1073741824) ∧ 0 ≤ p.obj ∧ p.obj < c.sp then p.set % c.st * c.sp + p.obj else 0
theorem num_split {a b m k j : Int} (hk : 0 ≤ k ∧ k < m) (hj : 0 ≤ j ∧ j < m) (h : a * m + k = b * m + j) : a = b ∧ k = j := by
  have h1 : (a * m + k) / m = (b * m + j) / m := by rw [h]
  rw [Int.add_comm, Int.add_mul_ediv_right _ _ (by omega), Int.add_comm (b * m), Int.add_mul_ediv_right _ _ (by omega), Int.ediv_eq_zero_of_lt hk.1 hk.2, Int.ediv_eq_zero_of_lt hj.1 hj.2] at h1
  have : a = b := by omega
  subst this
  exact ⟨rfl, by omega⟩
theorem mod_apart {s i j m : Int} (hm : 0 < m) (hi : 0 ≤ i ∧ i < m) (hj : 0 ≤ j ∧ j < m) (h : (s + i) % m = (s + j) % m) : i = j := by
  have h1 := Int.emod_emod_of_dvd (s + i) (Int.dvd_refl m)
  have h2 : (s + i - (s + j)) % m = 0 := Int.emod_eq_emod_iff_emod_sub_eq_zero.1 h
  have h3 : (i - j) % m = 0 := by rw [← h2]; congr 1; omega
  obtain ⟨k, hk⟩ := Int.dvd_of_emod_eq_zero h3
  have : k = 0 := by
    by_cases c : k ≤ -1
    · have := Int.mul_le_mul_of_nonneg_left c (show 0 ≤ m by omega); omega
    · by_cases c2 : 1 ≤ k
      · have := Int.mul_le_mul_of_nonneg_left c2 (show 0 ≤ m by omega); omega
      · omega
  subst this
  omega
end Go.Proofs.Ytblipabemghdbaa
