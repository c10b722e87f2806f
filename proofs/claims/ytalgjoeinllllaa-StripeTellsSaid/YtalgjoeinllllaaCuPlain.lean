/- Clients: which lists may be, their bytes, what the calls make of them; no program in sight. -/
import Derived.Test.YtalgjoeinllllaaPlain
namespace Go.Proofs.Ytalgjoeinllllaa
set_option linter.unusedVariables false
set_option linter.unnecessarySimpa false
set_option linter.unusedSimpArgs false

structure Cu where
  id : Int
  pos : Int
  off : Bool
deriving DecidableEq

/-! ### which lists may be -/
def IdOk (n : Int) : Prop := 1 ≤ n ∧ n ≤ 1073741824
def PosOk (n : Int) : Prop := 0 ≤ n ∧ n ≤ 1099511627776
instance (n : Int) : Decidable (IdOk n) := by unfold IdOk; infer_instance
instance (n : Int) : Decidable (PosOk n) := by unfold PosOk; infer_instance
def Cu.Ok (t : Cu) : Prop := IdOk t.id ∧ PosOk t.pos
def okU (l : List Cu) (i : Nat) : Prop := ∀ t, l[i]? = some t → t.Ok ∧ ∀ u, 0 < i → l[i - 1]? = some u → u.id < t.id
def CuOk (l : List Cu) : Prop := l.length ≤ 4 ∧ ∀ i, i < l.length → okU l i
noncomputable def rightU (l : List Cu) : Bool := open Classical in if CuOk l then true else false
theorem rightU_iff {l : List Cu} : rightU l = true ↔ CuOk l := by unfold rightU; split <;> simp_all
theorem rightU_no {l : List Cu} (h : ¬ CuOk l) : rightU l = false := by unfold rightU; rw [if_neg h]
theorem CuOk.cu {l : List Cu} (h : CuOk l) {i : Nat} {t : Cu} (ht : l[i]? = some t) : t.Ok := (h.2 i (List.getElem?_eq_some_iff.1 ht).1 t ht).1
theorem CuOk.rise {l : List Cu} (h : CuOk l) {i : Nat} {t u : Cu} (hu : l[i]? = some u) (ht : l[i + 1]? = some t) : u.id < t.id :=
  (h.2 (i + 1) (List.getElem?_eq_some_iff.1 ht).1 t ht).2 u (by omega) (by simpa using hu)
theorem CuOk.rises {l : List Cu} (h : CuOk l) {i : Nat} {u : Cu} (hu : l[i]? = some u) : ∀ {j : Nat} {t : Cu}, i < j → l[j]? = some t → u.id < t.id
  | 0, t, hij, ht => by omega
  | j + 1, t, hij, ht => by
    by_cases e : i = j
    · subst e; exact h.rise hu ht
    · have hj := (List.getElem?_eq_some_iff.1 ht).1
      have hv : l[j]? = some l[j] := List.getElem?_eq_getElem (by omega)
      have h1 := h.rises hu (by omega : i < j) hv
      have h2 := h.rise hv ht
      omega
theorem CuOk.one {l : List Cu} (h : CuOk l) {i j : Nat} {t u : Cu} (ht : l[i]? = some t) (hu : l[j]? = some u) (he : t.id = u.id) : i = j := by
  rcases Nat.lt_trichotomy i j with h1 | h1 | h1
  · have := h.rises ht h1 hu; omega
  · exact h1
  · have := h.rises hu h1 ht; omega
theorem cuOk_nil : CuOk [] := ⟨by simp, fun i h => by simp at h⟩
theorem cuOk_of {l : List Cu} (h1 : l.length ≤ 4) (h2 : ∀ t ∈ l, t.Ok) (h3 : ∀ (i : Nat) t u, l[i]? = some u → l[i + 1]? = some t → u.id < t.id) : CuOk l := ⟨h1, fun i hi t ht => ⟨h2 t (List.mem_of_getElem? ht), fun u h0 hu => by
  obtain ⟨k, rfl⟩ : ∃ k, i = k + 1 := ⟨i - 1, by omega⟩
  exact h3 k t u (by simpa using hu) ht⟩⟩
theorem CuOk.mem {l : List Cu} (h : CuOk l) {t : Cu} (ht : t ∈ l) : t.Ok := by
  obtain ⟨i, hi⟩ := List.mem_iff_getElem?.1 ht
  exact h.cu hi

/-! ### their bytes -/
def bitN (b : Bool) : Nat := if b then 1 else 0
def cuL (t : Cu) : List UInt8 := varL t.id.toNat ++ (varL t.pos.toNat ++ varL (bitN t.off))
def rowU (l : List Cu) : List UInt8 := l.flatMap cuL
def putU (l : List Cu) : List UInt8 := varL l.length ++ rowU l
noncomputable def putCu (l : List Cu) : List UInt8 × Int := if rightU l then (putU l, 0) else ([], 1)
theorem putCu_yes {l : List Cu} (h : rightU l = true) : putCu l = (putU l, 0) := by unfold putCu; rw [if_pos h]
theorem putCu_no {l : List Cu} (h : rightU l = false) : putCu l = ([], 1) := by unfold putCu; rw [if_neg (by rw [h]; simp)]
theorem rowU_snoc {l : List Cu} {j : Nat} {t : Cu} (ht : l[j]? = some t) : rowU (l.take (j + 1)) = rowU (l.take j) ++ cuL t := by
  obtain ⟨h, rfl⟩ := List.getElem?_eq_some_iff.1 ht
  unfold rowU
  rw [List.take_succ_eq_append_getElem h, List.flatMap_append]
  simp
theorem rowU_drop {l : List Cu} {j : Nat} {t : Cu} (ht : l[j]? = some t) : rowU (l.drop j) = cuL t ++ rowU (l.drop (j + 1)) := by
  obtain ⟨h, rfl⟩ := List.getElem?_eq_some_iff.1 ht
  unfold rowU
  rw [List.drop_eq_getElem_cons h, List.flatMap_cons]
theorem rowU_split (l : List Cu) (j : Nat) : rowU l = rowU (l.take j) ++ rowU (l.drop j) := by
  unfold rowU
  rw [← List.flatMap_append, List.take_append_drop]
/-- What is laid when j clients are. -/
def headU (l : List Cu) (j : Nat) : List UInt8 := varL l.length ++ rowU (l.take j)
theorem headU_zero (l : List Cu) : headU l 0 = varL l.length := by unfold headU; simp [rowU]
theorem headU_all {l : List Cu} {n : Nat} (h : l.length = n) : headU l n = putU l := by unfold headU putU; rw [← h, List.take_length]
theorem headU_succ {l : List Cu} {j : Nat} {t : Cu} (ht : l[j]? = some t) : headU l (j + 1) = headU l j ++ cuL t := by
  unfold headU; rw [rowU_snoc ht, List.append_assoc]
/-- How far the first j clients reach. -/
def endU (l : List Cu) (j : Nat) : Nat := (headU l j).length
theorem endU_drop (l : List Cu) (j : Nat) : (putU l).drop (endU l j) = rowU (l.drop j) := by
  unfold putU endU headU
  rw [rowU_split l j, ← List.append_assoc, List.drop_append_of_le_length (by simp), List.drop_of_length_le (by simp), List.nil_append]
theorem endU_zero (l : List Cu) : endU l 0 = (varL l.length).length := by unfold endU; rw [headU_zero]
theorem endU_succ {l : List Cu} {j : Nat} {t : Cu} (ht : l[j]? = some t) : endU l (j + 1) = endU l j + (cuL t).length := by
  unfold endU; rw [headU_succ ht, List.length_append]
theorem endU_le (l : List Cu) (j : Nat) : endU l j ≤ (putU l).length := by
  unfold endU putU headU
  rw [rowU_split l j]
  simp only [List.length_append]; omega

/-! ### unlike lists have unlike bytes -/
theorem varL_apartU {a b : Nat} {x y : List UInt8} (ha : a < 9223372036854775808) (hb : b < 9223372036854775808) (h : varL a ++ x = varL b ++ y) : a = b ∧ x = y := by
  have h1 := getV_varL ha x
  have h2 := getV_varL hb y
  rw [h, h2] at h1
  simp only [Option.some.injEq, Prod.mk.injEq] at h1
  obtain ⟨rfl, _⟩ := h1
  exact ⟨rfl, List.append_cancel_left h⟩
/-- A client whose numbers are none below 0 and few enough. -/
def Cu.In (t : Cu) : Prop := 0 ≤ t.id ∧ t.id < 9223372036854775808 ∧ 0 ≤ t.pos ∧ t.pos < 9223372036854775808
theorem Cu.Ok.in {t : Cu} (h : t.Ok) : t.In := by unfold Cu.Ok IdOk PosOk at h; unfold Cu.In; omega
theorem bitN_inj {a b : Bool} (h : bitN a = bitN b) : a = b := by cases a <;> cases b <;> simp_all [bitN]
theorem bitN_lt (b : Bool) : bitN b < 9223372036854775808 := by cases b <;> simp [bitN]
theorem cuL_apart {t u : Cu} {x y : List UInt8} (ht : t.In) (hu : u.In) (h : cuL t ++ x = cuL u ++ y) : t = u ∧ x = y := by
  obtain ⟨a, b, c⟩ := t
  obtain ⟨a', b', c'⟩ := u
  unfold Cu.In at ht hu
  simp only at ht hu
  unfold cuL at h
  simp only [List.append_assoc] at h
  obtain ⟨e1, h⟩ := varL_apartU (by omega) (by omega) h
  obtain ⟨e2, h⟩ := varL_apartU (by omega) (by omega) h
  obtain ⟨e3, h⟩ := varL_apartU (bitN_lt _) (bitN_lt _) h
  refine ⟨?_, h⟩
  rw [show a = a' by omega, show b = b' by omega, bitN_inj e3]
theorem rowU_inj : ∀ {a b : List Cu} {x y : List UInt8}, a.length = b.length → (∀ t ∈ a, t.In) → (∀ t ∈ b, t.In) → rowU a ++ x = rowU b ++ y → a = b ∧ x = y
  | [], [], x, y, _, _, _, h => ⟨rfl, by simpa [rowU] using h⟩
  | t :: a, u :: b, x, y, hl, ha, hb, h => by
    unfold rowU at h
    rw [List.flatMap_cons, List.flatMap_cons, List.append_assoc, List.append_assoc] at h
    obtain ⟨rfl, h2⟩ := cuL_apart (ha t List.mem_cons_self) (hb u List.mem_cons_self) h
    obtain ⟨rfl, h3⟩ := rowU_inj (a := a) (b := b) (by simpa using hl) (fun t ht => ha t (List.mem_cons_of_mem _ ht)) (fun t ht => hb t (List.mem_cons_of_mem _ ht)) h2
    exact ⟨rfl, h3⟩
theorem CuOk.ins {l : List Cu} (h : CuOk l) : ∀ t ∈ l, t.In := fun t ht => (h.mem ht).in
theorem putU_inj {a b : List Cu} {x y : List UInt8} (ha : CuOk a) (hb : CuOk b) (h : putU a ++ x = putU b ++ y) : a = b ∧ x = y := by
  unfold putU at h
  rw [List.append_assoc, List.append_assoc] at h
  have h1 := ha.1
  have h2 := hb.1
  obtain ⟨e, h⟩ := varL_apartU (by omega) (by omega) h
  exact rowU_inj e ha.ins hb.ins h
theorem varL_bytesU {n k : Nat} (hk : 1 ≤ k) (h : n < 128 ^ k) : (varL n).length ≤ k := by
  induction k generalizing n with
  | zero => omega
  | succ k ih =>
    by_cases h1 : n < 128
    · rw [varL_lo h1]; simp
    · rw [varL_hi (by omega), List.length_cons]
      by_cases hk0 : k = 0
      · subst hk0; omega
      · have := ih (n := n / 128) (by omega) (by rw [Nat.pow_succ] at h; omega)
        omega
theorem cuL_len {t : Cu} (h : t.Ok) : (cuL t).length ≤ 12 := by
  unfold Cu.Ok IdOk PosOk at h
  have h1 := varL_bytesU (n := t.id.toNat) (k := 5) (by omega) (by omega)
  have h2 := varL_bytesU (n := t.pos.toNat) (k := 6) (by omega) (by omega)
  have h3 := varL_bytesU (n := bitN t.off) (k := 1) (by omega) (by cases t.off <;> simp [bitN])
  unfold cuL
  simp only [List.length_append]
  omega
theorem rowU_len : ∀ (l : List Cu), (∀ t ∈ l, t.Ok) → (rowU l).length ≤ 12 * l.length
  | [], _ => by simp [rowU]
  | t :: l, h => by
    have h1 := cuL_len (h t List.mem_cons_self)
    have h2 := rowU_len l fun u hu => h u (List.mem_cons_of_mem _ hu)
    unfold rowU at *
    rw [List.flatMap_cons, List.length_append, List.length_cons]
    omega
theorem putU_len {l : List Cu} (h : CuOk l) : 1 ≤ (putU l).length ∧ (putU l).length ≤ 49 := by
  have h1 := rowU_len l fun t ht => h.mem ht
  have h2 := varL_bytesU (n := l.length) (k := 1) (by omega) (by have := h.1; omega)
  have h3 := varL_pos l.length
  have h4 := h.1
  unfold putU
  rw [List.length_append]
  omega
theorem headU_len {l : List Cu} (h : CuOk l) (j : Nat) : (headU l j).length ≤ 49 := by
  have := endU_le l j
  have := (putU_len h).2
  unfold endU at *; omega

/-! ### what bytes are -/
noncomputable def getCu (b : List UInt8) : List Cu × Int := open Classical in if h : ∃ l : List Cu, CuOk l ∧ putU l = b then (Classical.choose h, 0) else ([], 2)
theorem getCu_some {l : List Cu} {b : List UInt8} (h : CuOk l) (hb : putU l = b) : getCu b = (l, 0) := by
  have hx : ∃ l : List Cu, CuOk l ∧ putU l = b := ⟨l, h, hb⟩
  unfold getCu
  rw [dif_pos hx]
  have := Classical.choose_spec hx
  have e : putU (Classical.choose hx) ++ [] = putU l ++ [] := by rw [this.2, hb]
  rw [(putU_inj this.1 h e).1]
theorem getCu_none {b : List UInt8} (h : ∀ l : List Cu, CuOk l → putU l ≠ b) : getCu b = ([], 2) := by
  unfold getCu
  rw [dif_neg (fun ⟨l, h1, h2⟩ => h l h1 h2)]
theorem getCu_two (b : List UInt8) : (∃ l, getCu b = (l, 0) ∧ CuOk l ∧ putU l = b) ∨ (getCu b = ([], 2) ∧ ∀ l, CuOk l → putU l ≠ b) := by
  by_cases h : ∃ l : List Cu, CuOk l ∧ putU l = b
  · obtain ⟨l, h1, h2⟩ := h
    exact .inl ⟨l, getCu_some h1 h2, h1, h2⟩
  · exact .inr ⟨getCu_none fun l h1 h2 => h ⟨l, h1, h2⟩, fun l h1 h2 => h ⟨l, h1, h2⟩⟩
/-- A byte more or less is none: no list's bytes begin another's. -/
theorem getCu_more {l : List Cu} (h : CuOk l) {x : List UInt8} (hx : x ≠ []) : getCu (putU l ++ x) = ([], 2) := getCu_none fun d hd he => by
  have e : putU d ++ [] = putU l ++ x := by rw [List.append_nil]; exact he
  exact hx (putU_inj hd h e).2.symm
theorem getCu_less {l : List Cu} (h : CuOk l) {x y : List UInt8} (hx : putU l = x ++ y) (hy : y ≠ []) : getCu x = ([], 2) := getCu_none fun d hd he => by
  have e : putU d ++ y = putU l ++ [] := by rw [List.append_nil, hx, he]
  exact hy (putU_inj hd h e).2
/-- What a guess must be. -/
def GuessU (b : List UInt8) (l : List Cu) : Prop := ∀ d : List Cu, CuOk d → putU d = b → l = d
theorem guessU_yes {b : List UInt8} {l : List Cu} (h2 : rightU l = true) (h3 : putU l = b) : getCu b = (l, 0) := getCu_some (rightU_iff.1 h2) h3
theorem guessU_not {b : List UInt8} {l : List Cu} (h : GuessU b l) (h2 : rightU l = false ∨ putU l ≠ b) : getCu b = ([], 2) := getCu_none fun d hd hb => by
  have := h d hd hb
  subst this
  rcases h2 with h2 | h2
  · rw [rightU_iff.2 hd] at h2; cases h2
  · exact h2 hb

/-! ### who is among them -/
def placeU (l : List Cu) (k : Int) : Option Nat := l.findIdx? fun t => decide (t.id = k)
theorem placeU_some {l : List Cu} {k : Int} {i : Nat} (h : placeU l k = some i) : ∃ t, l[i]? = some t ∧ t.id = k ∧ ∀ j u, j < i → l[j]? = some u → u.id ≠ k := by
  unfold placeU at h
  rw [List.findIdx?_eq_some_iff_getElem] at h
  obtain ⟨h1, h2, h3⟩ := h
  refine ⟨l[i], List.getElem?_eq_getElem h1, by simpa using h2, fun j u hj hu => ?_⟩
  have := h3 j hj
  obtain ⟨hlt, rfl⟩ := List.getElem?_eq_some_iff.1 hu
  simpa using this
theorem placeU_none {l : List Cu} {k : Int} : placeU l k = none ↔ ∀ t ∈ l, t.id ≠ k := by
  unfold placeU
  rw [List.findIdx?_eq_none_iff]
  simp
theorem placeU_is {l : List Cu} {k : Int} {i : Nat} {t : Cu} (h1 : l[i]? = some t) (h2 : t.id = k) (h3 : ∀ j u, j < i → l[j]? = some u → u.id ≠ k) : placeU l k = some i := by
  obtain ⟨hlt, rfl⟩ := List.getElem?_eq_some_iff.1 h1
  unfold placeU
  rw [List.findIdx?_eq_some_iff_getElem]
  exact ⟨hlt, by simpa using h2, fun j hj => by simpa using h3 j _ hj (List.getElem?_eq_getElem (by omega))⟩
theorem placeU_lt {l : List Cu} {k : Int} {i : Nat} (h : placeU l k = some i) : i < l.length := by
  obtain ⟨t, h1, _⟩ := placeU_some h
  exact (List.getElem?_eq_some_iff.1 h1).1
/-- How many IDs at the beginning are below k. -/
def belowU (l : List Cu) (k : Int) : Nat := (l.takeWhile fun t => decide (t.id < k)).length
theorem belowU_le (l : List Cu) (k : Int) : belowU l k ≤ l.length := (List.takeWhile_sublist _).length_le
theorem belowU_lt : ∀ {l : List Cu} {k : Int} {j : Nat} {t : Cu}, j < belowU l k → l[j]? = some t → t.id < k
  | [], k, j, t, h, ht => by simp at ht
  | u :: l, k, j, t, h, ht => by
    unfold belowU at h
    rw [List.takeWhile_cons] at h
    split at h
    · rename_i hu
      cases j with
      | zero => simp at ht; subst ht; simpa using hu
      | succ j => exact belowU_lt (l := l) (j := j) (by simpa [belowU] using h) (by simpa using ht)
    · simp at h
theorem belowU_at : ∀ {l : List Cu} {k : Int} {t : Cu}, l[belowU l k]? = some t → ¬ t.id < k
  | [], k, t, ht => by simp at ht
  | u :: l, k, t, ht => by
    unfold belowU at ht
    rw [List.takeWhile_cons] at ht
    by_cases hu : u.id < k
    · rw [if_pos (by simpa using hu), List.length_cons, List.getElem?_cons_succ] at ht
      exact belowU_at (l := l) ht
    · rw [if_neg (by simpa using hu)] at ht
      simp at ht; subst ht; exact hu
theorem belowU_is {l : List Cu} {k : Int} {j : Nat} (h1 : ∀ i t, i < j → l[i]? = some t → t.id < k) (h2 : j ≤ l.length) (h3 : j = l.length ∨ ∃ t, l[j]? = some t ∧ ¬ t.id < k) : belowU l k = j := by
  have hb := belowU_le l k
  rcases Nat.lt_trichotomy (belowU l k) j with h | h | h
  · have ht : l[belowU l k]? = some (l[belowU l k]'(by omega)) := List.getElem?_eq_getElem (by omega)
    exact absurd (h1 _ _ h ht) (belowU_at ht)
  · exact h
  · rcases h3 with h3 | ⟨t, ht, hn⟩
    · omega
    · exact absurd (belowU_lt h ht) hn

/-! ### the calls -/
def addU (l : List Cu) (k p : Int) : List Cu := l.take (belowU l k) ++ [⟨k, p, false⟩] ++ l.drop (belowU l k)
def Cu.moved (t : Cu) (p : Int) : Cu := ⟨t.id, max t.pos p, t.off⟩
def Cu.turned (t : Cu) (b : Bool) : Cu := ⟨t.id, t.pos, b⟩
/-- What a call makes of a list that may be: 0 Add, 1 Drop, 2 Commit, else Turn. -/
def actW (l : List Cu) (what : Nat) (k p : Int) (b : Bool) : List Cu × Int :=
  match what with
  | 0 => match placeU l k with
    | some _ => ([], 5)
    | none => if l.length = 4 then ([], 6) else (addU l k p, 0)
  | 1 => match placeU l k with
    | none => ([], 4)
    | some i => (l.take i ++ l.drop (i + 1), 0)
  | 2 => match placeU l k with
    | none => ([], 4)
    | some i => (match l[i]? with | some t => l.set i (t.moved p) | none => l, 0)
  | _ => match placeU l k with
    | none => ([], 4)
    | some i => (match l[i]? with | some t => l.set i (t.turned b) | none => l, 0)
def inU (what : Nat) (k p : Int) : Bool := decide (IdOk k) && (decide (what = 1 ∨ what = 3) || decide (PosOk p))
noncomputable def actU (l : List Cu) (what : Nat) (k p : Int) (b : Bool) : List Cu × Int := if rightU l && inU what k p then actW l what k p b else ([], 1)
def slowU (l : List Cu) : Int × Bool := l.foldl (fun m t => if !t.off && (!m.2 || decide (t.pos < m.1)) then (t.pos, true) else m) (0, false)
/-- The first of an ID, or nothing at all. -/
def findU (l : List Cu) (k : Int) : Cu × Bool := match placeU l k with
  | some i => (match l[i]? with | some t => t | none => ⟨0, 0, false⟩, true)
  | none => (⟨0, 0, false⟩, false)
end Go.Proofs.Ytalgjoeinllllaa
