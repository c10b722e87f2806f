/- Clients: which lists may be, their bytes, what the calls make of them; no program in sight. | Events: what an event may be, its bytes, what bytes are one; no program in sight. | Chains: what a chain may be, its bytes, how two lie to each other; no program in sight. | Chains: what the laws without the document's answer ask; no program in sight. -/
import Derived.Test.YtiahifpbofkimaaPlain
namespace Go.Proofs.Ytiahifpbofkimaa
set_option linter.unusedVariables false
set_option linter.unnecessarySimpa false
set_option linter.unusedSimpArgs false

structure Cu where
  id : Int
  pos : Int
  off : Bool
deriving DecidableEq

/-! ### which lists may be -/
def IdOk (n : Int) : Prop := 1 ≤ n ∧ n ≤ 1073741824
def PosOk (n : Int) : Prop := 0 ≤ n ∧ n ≤ 1099511627776
instance (n : Int) : Decidable (IdOk n) := by unfold IdOk; infer_instance
instance (n : Int) : Decidable (PosOk n) := by unfold PosOk; infer_instance
def Cu.Ok (t : Cu) : Prop := IdOk t.id ∧ PosOk t.pos
def okU (l : List Cu) (i : Nat) : Prop := ∀ t, l[i]? = some t → t.Ok ∧ ∀ u, 0 < i → l[i - 1]? = some u → u.id < t.id
def CuOk (l : List Cu) : Prop := l.length ≤ 4 ∧ ∀ i, i < l.length → okU l i
noncomputable def rightU (l : List Cu) : Bool := open Classical in if CuOk l then true else false
theorem rightU_iff {l : List Cu} : rightU l = true ↔ CuOk l := by unfold rightU; split <;> simp_all
theorem rightU_no {l : List Cu} (h : ¬ CuOk l) : rightU l = false := by unfold rightU; rw [if_neg h]
theorem CuOk.cu {l : List Cu} (h : CuOk l) {i : Nat} {t : Cu} (ht : l[i]? = some t) : t.Ok := (h.2 i (List.getElem?_eq_some_iff.1 ht).1 t ht).1
theorem CuOk.rise {l : List Cu} (h : CuOk l) {i : Nat} {t u : Cu} (hu : l[i]? = some u) (ht : l[i + 1]? = some t) : u.id < t.id :=
  (h.2 (i + 1) (List.getElem?_eq_some_iff.1 ht).1 t ht).2 u (by omega) (by simpa using hu)
theorem CuOk.rises {l : List Cu} (h : CuOk l) {i : Nat} {u : Cu} (hu : l[i]? = some u) : ∀ {j : Nat} {t : Cu}, i < j → l[j]? = some t → u.id < t.id
  | 0, t, hij, ht => by omega
  | j + 1, t, hij, ht => by
    by_cases e : i = j
    · subst e; exact h.rise hu ht
    · have hj := (List.getElem?_eq_some_iff.1 ht).1
      have hv : l[j]? = some l[j] := List.getElem?_eq_getElem (by omega)
      have h1 := h.rises hu (by omega : i < j) hv
      have h2 := h.rise hv ht
      omega
theorem CuOk.one {l : List Cu} (h : CuOk l) {i j : Nat} {t u : Cu} (ht : l[i]? = some t) (hu : l[j]? = some u) (he : t.id = u.id) : i = j := by
  rcases Nat.lt_trichotomy i j with h1 | h1 | h1
  · have := h.rises ht h1 hu; omega
  · exact h1
  · have := h.rises hu h1 ht; omega
theorem cuOk_nil : CuOk [] := ⟨by simp, fun i h => by simp at h⟩
theorem cuOk_of {l : List Cu} (h1 : l.length ≤ 4) (h2 : ∀ t ∈ l, t.Ok) (h3 : ∀ (i : Nat) t u, l[i]? = some u → l[i + 1]? = some t → u.id < t.id) : CuOk l := ⟨h1, fun i hi t ht => ⟨h2 t (List.mem_of_getElem? ht), fun u h0 hu => by
  obtain ⟨k, rfl⟩ : ∃ k, i = k + 1 := ⟨i - 1, by omega⟩
  exact h3 k t u (by simpa using hu) ht⟩⟩
theorem CuOk.mem {l : List Cu} (h : CuOk l) {t : Cu} (ht : t ∈ l) : t.Ok := by
  obtain ⟨i, hi⟩ := List.mem_iff_getElem?.1 ht
  exact h.cu hi

/-! ### their bytes -/
def bitN (b : Bool) : Nat := if b then 1 else 0
def cuL (t : Cu) : List UInt8 := varL t.id.toNat ++ (varL t.pos.toNat ++ varL (bitN t.off))
def rowU (l : List Cu) : List UInt8 := l.flatMap cuL
def putU (l : List Cu) : List UInt8 := varL l.length ++ rowU l
noncomputable def putCu (l : List Cu) : List UInt8 × Int := if rightU l then (putU l, 0) else ([], 1)
theorem putCu_yes {l : List Cu} (h : rightU l = true) : putCu l = (putU l, 0) := by unfold putCu; rw [if_pos h]
theorem putCu_no {l : List Cu} (h : rightU l = false) : putCu l = ([], 1) := by unfold putCu; rw [if_neg (by rw [h]; simp)]
theorem rowU_snoc {l : List Cu} {j : Nat} {t : Cu} (ht : l[j]? = some t) : rowU (l.take (j + 1)) = rowU (l.take j) ++ cuL t := by
  obtain ⟨h, rfl⟩ := List.getElem?_eq_some_iff.1 ht
  unfold rowU
  rw [List.take_succ_eq_append_getElem h, List.flatMap_append]
  simp
theorem rowU_drop {l : List Cu} {j : Nat} {t : Cu} (ht : l[j]? = some t) : rowU (l.drop j) = cuL t ++ rowU (l.drop (j + 1)) := by
  obtain ⟨h, rfl⟩ := List.getElem?_eq_some_iff.1 ht
  unfold rowU
  rw [List.drop_eq_getElem_cons h, List.flatMap_cons]
theorem rowU_split (l : List Cu) (j : Nat) : rowU l = rowU (l.take j) ++ rowU (l.drop j) := by
  unfold rowU
  rw [← List.flatMap_append, List.take_append_drop]
/-- What is laid when j clients are. -/
def headU (l : List Cu) (j : Nat) : List UInt8 := varL l.length ++ rowU (l.take j)
theorem headU_zero (l : List Cu) : headU l 0 = varL l.length := by unfold headU; simp [rowU]
theorem headU_all {l : List Cu} {n : Nat} (h : l.length = n) : headU l n = putU l := by unfold headU putU; rw [← h, List.take_length]
theorem headU_succ {l : List Cu} {j : Nat} {t : Cu} (ht : l[j]? = some t) : headU l (j + 1) = headU l j ++ cuL t := by
  unfold headU; rw [rowU_snoc ht, List.append_assoc]
/-- How far the first j clients reach. -/
def endU (l : List Cu) (j : Nat) : Nat := (headU l j).length
theorem endU_drop (l : List Cu) (j : Nat) : (putU l).drop (endU l j) = rowU (l.drop j) := by
  unfold putU endU headU
  rw [rowU_split l j, ← List.append_assoc, List.drop_append_of_le_length (by simp), List.drop_of_length_le (by simp), List.nil_append]
theorem endU_zero (l : List Cu) : endU l 0 = (varL l.length).length := by unfold endU; rw [headU_zero]
theorem endU_succ {l : List Cu} {j : Nat} {t : Cu} (ht : l[j]? = some t) : endU l (j + 1) = endU l j + (cuL t).length := by
  unfold endU; rw [headU_succ ht, List.length_append]
theorem endU_le (l : List Cu) (j : Nat) : endU l j ≤ (putU l).length := by
  unfold endU putU headU
  rw [rowU_split l j]
  simp only [List.length_append]; omega

/-! ### unlike lists have unlike bytes -/
theorem varL_apartU {a b : Nat} {x y : List UInt8} (ha : a < 9223372036854775808) (hb : b < 9223372036854775808) (h : varL a ++ x = varL b ++ y) : a = b ∧ x = y := by
  have h1 := getV_varL ha x
  have h2 := getV_varL hb y
  rw [h, h2] at h1
  simp only [Option.some.injEq, Prod.mk.injEq] at h1
  obtain ⟨rfl, _⟩ := h1
  exact ⟨rfl, List.append_cancel_left h⟩
/-- A client whose numbers are none below 0 and few enough. -/
def Cu.In (t : Cu) : Prop := 0 ≤ t.id ∧ t.id < 9223372036854775808 ∧ 0 ≤ t.pos ∧ t.pos < 9223372036854775808
theorem Cu.Ok.in {t : Cu} (h : t.Ok) : t.In := by unfold Cu.Ok IdOk PosOk at h; unfold Cu.In; omega
theorem bitN_inj {a b : Bool} (h : bitN a = bitN b) : a = b := by cases a <;> cases b <;> simp_all [bitN]
theorem bitN_lt (b : Bool) : bitN b < 9223372036854775808 := by cases b <;> simp [bitN]
theorem cuL_apart {t u : Cu} {x y : List UInt8} (ht : t.In) (hu : u.In) (h : cuL t ++ x = cuL u ++ y) : t = u ∧ x = y := by
  obtain ⟨a, b, c⟩ := t
  obtain ⟨a', b', c'⟩ := u
  unfold Cu.In at ht hu
  simp only at ht hu
  unfold cuL at h
  simp only [List.append_assoc] at h
  obtain ⟨e1, h⟩ := varL_apartU (by omega) (by omega) h
  obtain ⟨e2, h⟩ := varL_apartU (by omega) (by omega) h
  obtain ⟨e3, h⟩ := varL_apartU (bitN_lt _) (bitN_lt _) h
  refine ⟨?_, h⟩
  rw [show a = a' by omega, show b = b' by omega, bitN_inj e3]
theorem rowU_inj : ∀ {a b : List Cu} {x y : List UInt8}, a.length = b.length → (∀ t ∈ a, t.In) → (∀ t ∈ b, t.In) → rowU a ++ x = rowU b ++ y → a = b ∧ x = y
  | [], [], x, y, _, _, _, h => ⟨rfl, by simpa [rowU] using h⟩
  | t :: a, u :: b, x, y, hl, ha, hb, h => by
    unfold rowU at h
    rw [List.flatMap_cons, List.flatMap_cons, List.append_assoc, List.append_assoc] at h
    obtain ⟨rfl, h2⟩ := cuL_apart (ha t List.mem_cons_self) (hb u List.mem_cons_self) h
    obtain ⟨rfl, h3⟩ := rowU_inj (a := a) (b := b) (by simpa using hl) (fun t ht => ha t (List.mem_cons_of_mem _ ht)) (fun t ht => hb t (List.mem_cons_of_mem _ ht)) h2
    exact ⟨rfl, h3⟩
theorem CuOk.ins {l : List Cu} (h : CuOk l) : ∀ t ∈ l, t.In := fun t ht => (h.mem ht).in
theorem putU_inj {a b : List Cu} {x y : List UInt8} (ha : CuOk a) (hb : CuOk b) (h : putU a ++ x = putU b ++ y) : a = b ∧ x = y := by
  unfold putU at h
  rw [List.append_assoc, List.append_assoc] at h
  have h1 := ha.1
  have h2 := hb.1
  obtain ⟨e, h⟩ := varL_apartU (by omega) (by omega) h
  exact rowU_inj e ha.ins hb.ins h
theorem varL_bytesU {n k : Nat} (hk : 1 ≤ k) (h : n < 128 ^ k) : (varL n).length ≤ k := by
  induction k generalizing n with
  | zero => omega
  | succ k ih =>
    by_cases h1 : n < 128
    · rw [varL_lo h1]; simp
    · rw [varL_hi (by omega), List.length_cons]
      by_cases hk0 : k = 0
      · subst hk0; omega
      · have := ih (n := n / 128) (by omega) (by rw [Nat.pow_succ] at h; omega)
        omega
theorem cuL_len {t : Cu} (h : t.Ok) : (cuL t).length ≤ 12 := by
  unfold Cu.Ok IdOk PosOk at h
  have h1 := varL_bytesU (n := t.id.toNat) (k := 5) (by omega) (by omega)
  have h2 := varL_bytesU (n := t.pos.toNat) (k := 6) (by omega) (by omega)
  have h3 := varL_bytesU (n := bitN t.off) (k := 1) (by omega) (by cases t.off <;> simp [bitN])
  unfold cuL
  simp only [List.length_append]
  omega
theorem rowU_len : ∀ (l : List Cu), (∀ t ∈ l, t.Ok) → (rowU l).length ≤ 12 * l.length
  | [], _ => by simp [rowU]
  | t :: l, h => by
    have h1 := cuL_len (h t List.mem_cons_self)
    have h2 := rowU_len l fun u hu => h u (List.mem_cons_of_mem _ hu)
    unfold rowU at *
    rw [List.flatMap_cons, List.length_append, List.length_cons]
    omega
theorem putU_len {l : List Cu} (h : CuOk l) : 1 ≤ (putU l).length ∧ (putU l).length ≤ 49 := by
  have h1 := rowU_len l fun t ht => h.mem ht
  have h2 := varL_bytesU (n := l.length) (k := 1) (by omega) (by have := h.1; omega)
  have h3 := varL_pos l.length
  have h4 := h.1
  unfold putU
  rw [List.length_append]
  omega
theorem headU_len {l : List Cu} (h : CuOk l) (j : Nat) : (headU l j).length ≤ 49 := by
  have := endU_le l j
  have := (putU_len h).2
  unfold endU at *; omega

/-! ### what bytes are -/
noncomputable def getCu (b : List UInt8) : List Cu × Int := open Classical in if h : ∃ l : List Cu, CuOk l ∧ putU l = b then (Classical.choose h, 0) else ([], 2)
theorem getCu_some {l : List Cu} {b : List UInt8} (h : CuOk l) (hb : putU l = b) : getCu b = (l, 0) := by
  have hx : ∃ l : List Cu, CuOk l ∧ putU l = b := ⟨l, h, hb⟩
  unfold getCu
  rw [dif_pos hx]
  have := Classical.choose_spec hx
  have e : putU (Classical.choose hx) ++ [] = putU l ++ [] := by rw [this.2, hb]
  rw [(putU_inj this.1 h e).1]
theorem getCu_none {b : List UInt8} (h : ∀ l : List Cu, CuOk l → putU l ≠ b) : getCu b = ([], 2) := by
  unfold getCu
  rw [dif_neg (fun ⟨l, h1, h2⟩ => h l h1 h2)]
theorem getCu_two (b : List UInt8) : (∃ l, getCu b = (l, 0) ∧ CuOk l ∧ putU l = b) ∨ (getCu b = ([], 2) ∧ ∀ l, CuOk l → putU l ≠ b) := by
  by_cases h : ∃ l : List Cu, CuOk l ∧ putU l = b
  · obtain ⟨l, h1, h2⟩ := h
    exact .inl ⟨l, getCu_some h1 h2, h1, h2⟩
  · exact .inr ⟨getCu_none fun l h1 h2 => h ⟨l, h1, h2⟩, fun l h1 h2 => h ⟨l, h1, h2⟩⟩
/-- A byte more or less is none: no list's bytes begin another's. -/
theorem getCu_more {l : List Cu} (h : CuOk l) {x : List UInt8} (hx : x ≠ []) : getCu (putU l ++ x) = ([], 2) := getCu_none fun d hd he => by
  have e : putU d ++ [] = putU l ++ x := by rw [List.append_nil]; exact he
  exact hx (putU_inj hd h e).2.symm
theorem getCu_less {l : List Cu} (h : CuOk l) {x y : List UInt8} (hx : putU l = x ++ y) (hy : y ≠ []) : getCu x = ([], 2) := getCu_none fun d hd he => by
  have e : putU d ++ y = putU l ++ [] := by rw [List.append_nil, hx, he]
  exact hy (putU_inj hd h e).2
/-- What a guess must be. -/
def GuessU (b : List UInt8) (l : List Cu) : Prop := ∀ d : List Cu, CuOk d → putU d = b → l = d
theorem guessU_yes {b : List UInt8} {l : List Cu} (h2 : rightU l = true) (h3 : putU l = b) : getCu b = (l, 0) := getCu_some (rightU_iff.1 h2) h3
theorem guessU_not {b : List UInt8} {l : List Cu} (h : GuessU b l) (h2 : rightU l = false ∨ putU l ≠ b) : getCu b = ([], 2) := getCu_none fun d hd hb => by
  have := h d hd hb
  subst this
  rcases h2 with h2 | h2
  · rw [rightU_iff.2 hd] at h2; cases h2
  · exact h2 hb

/-! ### who is among them -/
def placeU (l : List Cu) (k : Int) : Option Nat := l.findIdx? fun t => decide (t.id = k)
theorem placeU_some {l : List Cu} {k : Int} {i : Nat} (h : placeU l k = some i) : ∃ t, l[i]? = some t ∧ t.id = k ∧ ∀ j u, j < i → l[j]? = some u → u.id ≠ k := by
  unfold placeU at h
  rw [List.findIdx?_eq_some_iff_getElem] at h
  obtain ⟨h1, h2, h3⟩ := h
  refine ⟨l[i], List.getElem?_eq_getElem h1, by simpa using h2, fun j u hj hu => ?_⟩
  have := h3 j hj
  obtain ⟨hlt, rfl⟩ := List.getElem?_eq_some_iff.1 hu
  simpa using this
theorem placeU_none {l : List Cu} {k : Int} : placeU l k = none ↔ ∀ t ∈ l, t.id ≠ k := by
  unfold placeU
  rw [List.findIdx?_eq_none_iff]
  simp
theorem placeU_is {l : List Cu} {k : Int} {i : Nat} {t : Cu} (h1 : l[i]? = some t) (h2 : t.id = k) (h3 : ∀ j u, j < i → l[j]? = some u → u.id ≠ k) : placeU l k = some i := by
  obtain ⟨hlt, rfl⟩ := List.getElem?_eq_some_iff.1 h1
  unfold placeU
  rw [List.findIdx?_eq_some_iff_getElem]
  exact ⟨hlt, by simpa using h2, fun j hj => by simpa using h3 j _ hj (List.getElem?_eq_getElem (by omega))⟩
theorem placeU_lt {l : List Cu} {k : Int} {i : Nat} (h : placeU l k = some i) : i < l.length := by
  obtain ⟨t, h1, _⟩ := placeU_some h
  exact (List.getElem?_eq_some_iff.1 h1).1
/-- How many IDs at the beginning are below k. -/
def belowU (l : List Cu) (k : Int) : Nat := (l.takeWhile fun t => decide (t.id < k)).length
theorem belowU_le (l : List Cu) (k : Int) : belowU l k ≤ l.length := (List.takeWhile_sublist _).length_le
theorem belowU_lt : ∀ {l : List Cu} {k : Int} {j : Nat} {t : Cu}, j < belowU l k → l[j]? = some t → t.id < k
  | [], k, j, t, h, ht => by simp at ht
  | u :: l, k, j, t, h, ht => by
    unfold belowU at h
    rw [List.takeWhile_cons] at h
    split at h
    · rename_i hu
      cases j with
      | zero => simp at ht; subst ht; simpa using hu
      | succ j => exact belowU_lt (l := l) (j := j) (by simpa [belowU] using h) (by simpa using ht)
    · simp at h
theorem belowU_at : ∀ {l : List Cu} {k : Int} {t : Cu}, l[belowU l k]? = some t → ¬ t.id < k
  | [], k, t, ht => by simp at ht
  | u :: l, k, t, ht => by
    unfold belowU at ht
    rw [List.takeWhile_cons] at ht
    by_cases hu : u.id < k
    · rw [if_pos (by simpa using hu), List.length_cons, List.getElem?_cons_succ] at ht
      exact belowU_at (l := l) ht
    · rw [if_neg (by simpa using hu)] at ht
      simp at ht; subst ht; exact hu
theorem belowU_is {l : List Cu} {k : Int} {j : Nat} (h1 : ∀ i t, i < j → l[i]? = some t → t.id < k) (h2 : j ≤ l.length) (h3 : j = l.length ∨ ∃ t, l[j]? = some t ∧ ¬ t.id < k) : belowU l k = j := by
  have hb := belowU_le l k
  rcases Nat.lt_trichotomy (belowU l k) j with h | h | h
  · have ht : l[belowU l k]? = some (l[belowU l k]'(by omega)) := List.getElem?_eq_getElem (by omega)
    exact absurd (h1 _ _ h ht) (belowU_at ht)
  · exact h
  · rcases h3 with h3 | ⟨t, ht, hn⟩
    · omega
    · exact absurd (belowU_lt h ht) hn

/-! ### the calls -/
def addU (l : List Cu) (k p : Int) : List Cu := l.take (belowU l k) ++ [⟨k, p, false⟩] ++ l.drop (belowU l k)
def Cu.moved (t : Cu) (p : Int) : Cu := ⟨t.id, max t.pos p, t.off⟩
def Cu.turned (t : Cu) (b : Bool) : Cu := ⟨t.id, t.pos, b⟩
/-- What a call makes of a list that may be: 0 Add, 1 Drop, 2 Commit, else Turn. -/
def actW (l : List Cu) (what : Nat) (k p : Int) (b : Bool) : List Cu × Int :=
  match what with
  | 0 => match placeU l k with
    | some _ => ([], 5)
    | none => if l.length = 4 then ([], 6) else (addU l k p, 0)
  | 1 => match placeU l k with
    | none => ([], 4)
    | some i => (l.take i ++ l.drop (i + 1), 0)
  | 2 => match placeU l k with
    | none => ([], 4)
    | some i => (match l[i]? with | some t => l.set i (t.moved p) | none => l, 0)
  | _ => match placeU l k with
    | none => ([], 4)
    | some i => (match l[i]? with | some t => l.set i (t.turned b) | none => l, 0)
def inU (what : Nat) (k p : Int) : Bool := decide (IdOk k) && (decide (what = 1 ∨ what = 3) || decide (PosOk p))
noncomputable def actU (l : List Cu) (what : Nat) (k p : Int) (b : Bool) : List Cu × Int := if rightU l && inU what k p then actW l what k p b else ([], 1)
def slowU (l : List Cu) : Int × Bool := l.foldl (fun m t => if !t.off && (!m.2 || decide (t.pos < m.1)) then (t.pos, true) else m) (0, false)
/-- The first of an ID, or nothing at all. -/
def findU (l : List Cu) (k : Int) : Cu × Bool := match placeU l k with
  | some i => (match l[i]? with | some t => t | none => ⟨0, 0, false⟩, true)
  | none => (⟨0, 0, false⟩, false)
end Go.Proofs.Ytiahifpbofkimaa
namespace Go.Proofs.Ytiahifpbofkimaa
set_option linter.unusedVariables false

structure Ev where
  kind : Int
  off : Int
  len : Int
  data : List UInt8
  name : List UInt8
def noEv : Ev := ⟨0, 0, 0, [], []⟩

def nameC (c : UInt8) : Bool := (97 ≤ c.toNat && c.toNat ≤ 122) || (48 ≤ c.toNat && c.toNat ≤ 57) || c.toNat == 45
def nameOk (s : List UInt8) : Bool := s.all nameC && (decide (1 ≤ s.length) && decide (s.length ≤ 12))
theorem nameOk_len {s : List UInt8} (h : nameOk s = true) : 1 ≤ s.length ∧ s.length ≤ 12 := by
  simp only [nameOk, Bool.and_eq_true, decide_eq_true_eq] at h; exact h.2
/-- from off on n bytes, at least one, at most MaxSize together -/
def within (o n : Int) : Bool := decide (0 ≤ o ∧ 1 ≤ n ∧ n ≤ 512 ∧ o ≤ 512 - n)
theorem within_iff {o n : Int} : within o n = true ↔ 0 ≤ o ∧ 1 ≤ n ∧ n ≤ 512 ∧ o ≤ 512 - n := by unfold within; exact decide_eq_true_iff
/-- The shape of each kind, as a proposition. -/
def Ev.Ok (e : Ev) : Prop :=
  (e.kind = 1 ∧ (e.data.length : Int) ≤ 64 ∧ within e.off e.data.length = true ∧ e.len = 0 ∧ e.name = []) ∨
  ((e.kind = 2 ∨ e.kind = 3) ∧ e.data = [] ∧ within e.off e.len = true ∧ e.name = []) ∨
  (e.kind = 4 ∧ e.data = [] ∧ e.off = 0 ∧ 0 ≤ e.len ∧ e.len ≤ 512 ∧ e.name = []) ∨
  ((e.kind = 5 ∨ e.kind = 6 ∨ e.kind = 7) ∧ e.data = [] ∧ e.off = 0 ∧ e.len = 0 ∧ nameOk e.name = true) ∨
  (e.kind = 8 ∧ e.data = [] ∧ e.off = 0 ∧ e.len = 0 ∧ e.name = [])
instance (e : Ev) : Decidable e.Ok := by unfold Ev.Ok; infer_instance
def Ev.right (e : Ev) : Bool := decide e.Ok
def Ev.plain (e : Ev) : Bool := e.right && decide (e.kind = 1 ∨ e.kind = 2 ∨ e.kind = 3)
def spanA (e : Ev) : Int × Int := if e.plain then (e.off, if e.kind = 1 then (e.data.length : Int) else e.len) else (0, 0)
theorem right_iff {e : Ev} : e.right = true ↔ e.Ok := by unfold Ev.right; exact decide_eq_true_iff
theorem right_kind {e : Ev} (h : e.right = true) : 1 ≤ e.kind ∧ e.kind ≤ 8 := by
  rcases right_iff.1 h with h | h | h | h | h <;> omega

/-- The bytes behind the kind. -/
def bodyE (e : Ev) : List UInt8 :=
  if e.kind = 1 then varL e.off.toNat ++ e.data
  else if e.kind = 2 ∨ e.kind = 3 then varL e.off.toNat ++ varL e.len.toNat
  else if e.kind = 4 then varL e.len.toNat
  else if e.kind = 5 ∨ e.kind = 6 ∨ e.kind = 7 then e.name
  else []
def putE (e : Ev) : List UInt8 := UInt8.ofNat e.kind.toNat :: bodyE e
def putEv (e : Ev) : List UInt8 × Int := if e.right then (putE e, 0) else ([], 1)
theorem putEv_yes {e : Ev} (h : e.right = true) : putEv e = (putE e, 0) := by unfold putEv; rw [if_pos h]
theorem putEv_no {e : Ev} (h : e.right = false) : putEv e = ([], 1) := by unfold putEv; rw [if_neg (by rw [h]; simp)]

theorem bodyE_w {e : Ev} (h : e.kind = 1) : bodyE e = varL e.off.toNat ++ e.data := by unfold bodyE; rw [if_pos h]
theorem bodyE_d {e : Ev} (h : e.kind = 2 ∨ e.kind = 3) : bodyE e = varL e.off.toNat ++ varL e.len.toNat := by unfold bodyE; rw [if_neg (by omega), if_pos h]
theorem bodyE_r {e : Ev} (h : e.kind = 4) : bodyE e = varL e.len.toNat := by unfold bodyE; rw [if_neg (by omega), if_neg (by omega), if_pos h]
theorem bodyE_n {e : Ev} (h : e.kind = 5 ∨ e.kind = 6 ∨ e.kind = 7) : bodyE e = e.name := by unfold bodyE; rw [if_neg (by omega), if_neg (by omega), if_neg (by omega), if_pos h]
theorem bodyE_f {e : Ev} (h : e.kind = 8) : bodyE e = [] := by unfold bodyE; rw [if_neg (by omega), if_neg (by omega), if_neg (by omega), if_neg (by omega)]

theorem varL_two {n : Nat} (h : n < 16384) : (varL n).length ≤ 2 := by
  by_cases h1 : n < 128
  · rw [varL_lo h1]; simp
  · rw [varL_hi (by omega), List.length_cons, varL_lo (by omega)]; simp
/-- At most 67 bytes. -/
theorem putE_len {e : Ev} (h : e.right = true) : 1 ≤ (putE e).length ∧ (putE e).length ≤ 67 := by
  unfold putE
  rw [List.length_cons]
  refine ⟨by omega, ?_⟩
  rcases right_iff.1 h with ⟨k, h1, h2, _⟩ | ⟨k, _, h2, _⟩ | ⟨k, _, _, h2, h3, _⟩ | ⟨k, _, _, _, h2⟩ | ⟨k, _⟩
  · have := within_iff.1 h2
    have h3 := varL_two (n := e.off.toNat) (by omega)
    rw [bodyE_w k, List.length_append]; omega
  · have := within_iff.1 h2
    have h3 := varL_two (n := e.off.toNat) (by omega)
    have h4 := varL_two (n := e.len.toNat) (by omega)
    rw [bodyE_d k, List.length_append]; omega
  · have h3 := varL_two (n := e.len.toNat) (by omega)
    rw [bodyE_r k]; omega
  · have := nameOk_len h2
    rw [bodyE_n k]; omega
  · rw [bodyE_f k]; simp

theorem varL_apart {a b : Nat} {x y : List UInt8} (ha : a < 9223372036854775808) (hb : b < 9223372036854775808) (h : varL a ++ x = varL b ++ y) : a = b ∧ x = y := by
  have h1 := getV_varL ha x
  have h2 := getV_varL hb y
  rw [h, h2] at h1
  simp only [Option.some.injEq, Prod.mk.injEq] at h1
  obtain ⟨rfl, _⟩ := h1
  exact ⟨rfl, List.append_cancel_left h⟩
/-- Unlike events have unlike bytes. -/
theorem putE_inj {e d : Ev} (he : e.right = true) (hd : d.right = true) (h : putE e = putE d) : e = d := by
  have hk1 := right_kind he
  have hk2 := right_kind hd
  unfold putE at h
  rw [List.cons.injEq] at h
  have hk : e.kind = d.kind := by
    have := congrArg UInt8.toNat h.1
    rw [UInt8.toNat_ofNat', UInt8.toNat_ofNat'] at this
    omega
  have hb := h.2
  obtain ⟨k, o, n, da, na⟩ := e
  obtain ⟨k', o', n', da', na'⟩ := d
  simp only at hk hk1 hk2
  subst hk
  rcases right_iff.1 he with h1 | h1 | h1 | h1 | h1 <;> rcases right_iff.1 hd with h2 | h2 | h2 | h2 | h2 <;> simp only at h1 h2 <;> (try omega)
  · obtain ⟨hk, a1, a2, a3, a4⟩ := h1
    obtain ⟨_, b1, b2, b3, b4⟩ := h2
    have a5 := within_iff.1 a2
    have b5 := within_iff.1 b2
    rw [bodyE_w hk, bodyE_w hk] at hb
    obtain ⟨e1, e2⟩ := varL_apart (by simp only; omega) (by simp only; omega) hb
    simp only at e1 e2
    subst e2 a3 b3 a4 b4
    rw [show o = o' by omega]
  · obtain ⟨hk, a1, a2, a3⟩ := h1
    obtain ⟨_, b1, b2, b3⟩ := h2
    have a5 := within_iff.1 a2
    have b5 := within_iff.1 b2
    rw [bodyE_d hk, bodyE_d hk] at hb
    obtain ⟨e1, e2⟩ := varL_apart (by simp only; omega) (by simp only; omega) hb
    have e3 : varL n.toNat ++ [] = varL n'.toNat ++ [] := by simpa using e2
    obtain ⟨e4, _⟩ := varL_apart (by omega) (by omega) e3
    simp only at e1
    subst a1 b1 a3 b3
    rw [show o = o' by omega, show n = n' by omega]
  · obtain ⟨hk, a1, a2, a3, a4, a5⟩ := h1
    obtain ⟨_, b1, b2, b3, b4, b5⟩ := h2
    rw [bodyE_r hk, bodyE_r hk] at hb
    have e3 : varL n.toNat ++ [] = varL n'.toNat ++ [] := by simpa using hb
    obtain ⟨e4, _⟩ := varL_apart (by omega) (by omega) e3
    subst a1 b1 a2 b2 a5 b5
    rw [show n = n' by omega]
  · obtain ⟨hk, a1, a2, a3, a4⟩ := h1
    obtain ⟨_, b1, b2, b3, b4⟩ := h2
    rw [bodyE_n hk, bodyE_n hk] at hb
    simp only at hb
    subst a1 b1 a2 b2 a3 b3 hb
    rfl
  · obtain ⟨hk, a1, a2, a3, a4⟩ := h1
    obtain ⟨_, b1, b2, b3, b4⟩ := h2
    subst a1 b1 a2 b2 a3 b3 a4 b4
    rfl

/-- What bytes are: the one event whose bytes they are, or none. -/
noncomputable def getEv (b : List UInt8) : Ev × Int := open Classical in if h : ∃ e : Ev, e.right = true ∧ putE e = b then (Classical.choose h, 0) else (noEv, 2)
theorem getEv_some {e : Ev} {b : List UInt8} (h : e.right = true) (hb : putE e = b) : getEv b = (e, 0) := by
  have hx : ∃ e : Ev, e.right = true ∧ putE e = b := ⟨e, h, hb⟩
  unfold getEv
  rw [dif_pos hx]
  have := Classical.choose_spec hx
  rw [putE_inj this.1 h (this.2.trans hb.symm)]
theorem getEv_none {b : List UInt8} (h : ∀ e : Ev, e.right = true → putE e ≠ b) : getEv b = (noEv, 2) := by
  unfold getEv
  rw [dif_neg (fun ⟨e, h1, h2⟩ => h e h1 h2)]
theorem getEv_put {e : Ev} (h : e.right = true) : getEv (putE e) = (e, 0) := getEv_some h rfl
theorem getEv_two (b : List UInt8) : (∃ e, getEv b = (e, 0) ∧ e.right = true ∧ putE e = b) ∨ (getEv b = (noEv, 2) ∧ ∀ e : Ev, e.right = true → putE e ≠ b) := by
  by_cases h : ∃ e : Ev, e.right = true ∧ putE e = b
  · obtain ⟨e, h1, h2⟩ := h
    exact .inl ⟨e, getEv_some h1 h2, h1, h2⟩
  · have h2 : ∀ e : Ev, e.right = true → putE e ≠ b := fun e h1 h3 => h ⟨e, h1, h3⟩
    exact .inr ⟨getEv_none h2, h2⟩

/-! ### the one candidate -/
/-- What bytes would be by their kind: the event, and whether its numbers are there. -/
def parseE (b : List UInt8) : Ev × Bool :=
  let k : Nat := (b.headD 0).toNat
  if k = 1 then match getV (b.drop 1) with
    | some (o, j) => (⟨1, (o : Nat), 0, b.drop (1 + j), []⟩, true)
    | none => (⟨1, 0, 0, [], []⟩, false)
  else if k = 2 ∨ k = 3 then match getV (b.drop 1) with
    | some (o, j) => (match getV (b.drop (1 + j)) with
      | some (n, _) => (⟨(k : Nat), (o : Nat), (n : Nat), [], []⟩, true)
      | none => (⟨(k : Nat), (o : Nat), 0, [], []⟩, false))
    | none => (⟨(k : Nat), 0, 0, [], []⟩, false)
  else if k = 4 then match getV (b.drop 1) with
    | some (n, _) => (⟨4, 0, (n : Nat), [], []⟩, true)
    | none => (⟨4, 0, 0, [], []⟩, false)
  else if k = 5 ∨ k = 6 ∨ k = 7 then (⟨(k : Nat), 0, 0, [], b.drop 1⟩, true)
  else (⟨(k : Nat), 0, 0, [], []⟩, true)
theorem parse_put {e : Ev} (h : e.right = true) : parseE (putE e) = (e, true) := by
  have hk := right_kind h
  obtain ⟨k, o, n, d, s⟩ := e
  simp only at hk
  have hh : ((putE ⟨k, o, n, d, s⟩).headD 0).toNat = k.toNat := by
    unfold putE; simp only [List.headD_cons]; rw [UInt8.toNat_ofNat']; omega
  have hdr : (putE ⟨k, o, n, d, s⟩).drop 1 = bodyE ⟨k, o, n, d, s⟩ := rfl
  have hdr2 : ∀ j, (putE ⟨k, o, n, d, s⟩).drop (1 + j) = (bodyE ⟨k, o, n, d, s⟩).drop j := fun j => by rw [Nat.add_comm]; rfl
  unfold parseE
  simp only [hh, hdr, hdr2]
  rcases right_iff.1 h with h1 | h1 | h1 | h1 | h1 <;> simp only at h1
  · obtain ⟨rfl, a1, a2, rfl, rfl⟩ := h1
    have a5 := within_iff.1 a2
    rw [bodyE_w rfl, if_pos (by decide), getV_varL (by simp only; omega)]
    simp only
    rw [List.drop_left, Int.toNat_of_nonneg a5.1]
  · obtain ⟨hk2, rfl, a2, rfl⟩ := h1
    have a5 := within_iff.1 a2
    rw [bodyE_d hk2, if_neg (by omega), if_pos (by omega), getV_varL (by simp only; omega)]
    simp only
    have h3 := getV_varL (k := n.toNat) (by omega) []
    rw [List.append_nil] at h3
    rw [List.drop_left, h3]
    simp only
    rw [Int.toNat_of_nonneg a5.1, Int.toNat_of_nonneg (show 0 ≤ n by omega), Int.toNat_of_nonneg (show 0 ≤ k by omega)]
  · obtain ⟨rfl, rfl, rfl, a1, a2, rfl⟩ := h1
    have h3 := getV_varL (k := n.toNat) (by omega) []
    rw [List.append_nil] at h3
    rw [bodyE_r rfl, if_neg (by decide), if_neg (by decide), if_pos (by decide), h3]
    simp only
    rw [Int.toNat_of_nonneg a1]
  · obtain ⟨hk2, rfl, rfl, rfl, a4⟩ := h1
    rw [bodyE_n hk2, if_neg (by omega), if_neg (by omega), if_neg (by omega), if_pos (by omega), Int.toNat_of_nonneg (by omega)]
  · obtain ⟨rfl, rfl, rfl, rfl, rfl⟩ := h1
    rw [if_neg (by decide), if_neg (by decide), if_neg (by decide), if_neg (by decide)]
    rfl
theorem getEv_yes {b : List UInt8} {e : Ev} (h1 : parseE b = (e, true)) (h2 : e.right = true) (h3 : putE e = b) : getEv b = (e, 0) := getEv_some h2 h3
theorem getEv_not {b : List UInt8} {e : Ev} {ok : Bool} (h1 : parseE b = (e, ok)) (h : ok = false ∨ e.right = false ∨ putE e ≠ b) : getEv b = (noEv, 2) := by
  refine getEv_none fun d hd hb => ?_
  subst hb
  rw [parse_put hd] at h1
  cases h1
  rcases h with h | h | h
  · cases h
  · rw [hd] at h; cases h
  · exact h rfl
theorem getEv_long {b : List UInt8} (h : 67 < b.length ∨ b.length = 0) : getEv b = (noEv, 2) := by
  refine getEv_none fun d hd hb => ?_
  have := putE_len hd
  subst hb; omega
end Go.Proofs.Ytiahifpbofkimaa
namespace Go.Proofs.Ytiahifpbofkimaa
set_option linter.unusedVariables false
set_option linter.unnecessarySimpa false
set_option linter.unusedSimpArgs false

structure Tg where
  id : Int
  owner : Int
  heir : Int
  at' : Int
deriving DecidableEq

/-! ### what a chain may be -/
def Tg.Ok (t : Tg) : Prop := 1 ≤ t.id ∧ t.id ≤ 1073741824 ∧ 0 ≤ t.owner ∧ t.owner ≤ 2 ∧ 0 ≤ t.heir ∧ t.heir ≤ 2 ∧ (t.owner = 0 ↔ 0 < t.heir) ∧ t.at' ≤ 1099511627776
instance instOkTg (t : Tg) : Decidable t.Ok := by unfold Tg.Ok; infer_instance
/-- The tag at i, against those ahead of it. -/
def chokAt (l : List Tg) (i : Nat) : Prop := ∀ t, l[i]? = some t → t.Ok ∧ (∀ u, 0 < i → l[i - 1]? = some u → u.at' ≤ t.at') ∧ ∀ (k : Nat) u, k < i → l[k]? = some u → u.id ≠ t.id
def ChOk (l : List Tg) : Prop := 1 ≤ l.length ∧ l.length ≤ 32 ∧ (∀ t, l[0]? = some t → t.at' = 0) ∧ ∀ i, i < l.length → chokAt l i
noncomputable def rightC (l : List Tg) : Bool := open Classical in if ChOk l then true else false
theorem rightC_iff {l : List Tg} : rightC l = true ↔ ChOk l := by unfold rightC; split <;> simp_all
theorem rightC_no {l : List Tg} (h : ¬ ChOk l) : rightC l = false := by unfold rightC; rw [if_neg h]
theorem ChOk.tag {l : List Tg} (h : ChOk l) {i : Nat} {t : Tg} (ht : l[i]? = some t) : t.Ok := (h.2.2.2 i (List.getElem?_eq_some_iff.1 ht).1 t ht).1
theorem ChOk.pos {l : List Tg} (h : ChOk l) : ∀ {i : Nat} {t : Tg}, l[i]? = some t → 0 ≤ t.at'
  | 0, t, ht => by have := h.2.2.1 t ht; omega
  | i + 1, t, ht => by
    have hi := (List.getElem?_eq_some_iff.1 ht).1
    have hu : l[i]? = some l[i] := List.getElem?_eq_getElem (by omega)
    have h1 := h.pos hu
    have h2 := (h.2.2.2 (i + 1) hi t ht).2.1 l[i] (by omega) (by simpa using hu)
    omega
theorem ChOk.rise {l : List Tg} (h : ChOk l) {i : Nat} {t u : Tg} (hu : l[i]? = some u) (ht : l[i + 1]? = some t) : u.at' ≤ t.at' :=
  (h.2.2.2 (i + 1) (List.getElem?_eq_some_iff.1 ht).1 t ht).2.1 u (by omega) (by simpa using hu)
theorem ChOk.rises {l : List Tg} (h : ChOk l) {i : Nat} {u : Tg} (hu : l[i]? = some u) : ∀ {j : Nat} {t : Tg}, i ≤ j → l[j]? = some t → u.at' ≤ t.at'
  | 0, t, hij, ht => by
    obtain rfl : i = 0 := by omega
    rw [hu] at ht; cases ht; exact Int.le_refl _
  | j + 1, t, hij, ht => by
    by_cases e : i = j + 1
    · subst e; rw [hu] at ht; cases ht; exact Int.le_refl _
    · have hj := (List.getElem?_eq_some_iff.1 ht).1
      have hv : l[j]? = some l[j] := List.getElem?_eq_getElem (by omega)
      have h1 := h.rises hu (by omega : i ≤ j) hv
      have h2 := h.rise hv ht
      omega
theorem ChOk.apart {l : List Tg} (h : ChOk l) {i k : Nat} {t u : Tg} (hk : k < i) (ht : l[i]? = some t) (hu : l[k]? = some u) : u.id ≠ t.id :=
  (h.2.2.2 i (List.getElem?_eq_some_iff.1 ht).1 t ht).2.2 k u hk hu

/-! ### its bytes -/
def tagL (t : Tg) : List UInt8 := varL t.id.toNat ++ (varL t.owner.toNat ++ (varL t.heir.toNat ++ varL t.at'.toNat))
def rowC (l : List Tg) : List UInt8 := l.flatMap tagL
def putC (l : List Tg) : List UInt8 := varL l.length ++ rowC l
noncomputable def putCh (l : List Tg) : List UInt8 × Int := if rightC l then (putC l, 0) else ([], 1)
theorem putCh_yes {l : List Tg} (h : rightC l = true) : putCh l = (putC l, 0) := by unfold putCh; rw [if_pos h]
theorem putCh_no {l : List Tg} (h : rightC l = false) : putCh l = ([], 1) := by unfold putCh; rw [if_neg (by rw [h]; simp)]
theorem rowC_snoc {l : List Tg} {j : Nat} {t : Tg} (ht : l[j]? = some t) : rowC (l.take (j + 1)) = rowC (l.take j) ++ tagL t := by
  obtain ⟨h, rfl⟩ := List.getElem?_eq_some_iff.1 ht
  unfold rowC
  rw [List.take_succ_eq_append_getElem h, List.flatMap_append]
  simp
theorem rowC_drop {l : List Tg} {j : Nat} {t : Tg} (ht : l[j]? = some t) : rowC (l.drop j) = tagL t ++ rowC (l.drop (j + 1)) := by
  obtain ⟨h, rfl⟩ := List.getElem?_eq_some_iff.1 ht
  unfold rowC
  rw [List.drop_eq_getElem_cons h, List.flatMap_cons]
theorem rowC_split (l : List Tg) (j : Nat) : rowC l = rowC (l.take j) ++ rowC (l.drop j) := by
  unfold rowC
  rw [← List.flatMap_append, List.take_append_drop]
/-- How far the first j tags reach. -/
def endC (l : List Tg) (j : Nat) : Nat := (varL l.length).length + (rowC (l.take j)).length
theorem endC_drop (l : List Tg) (j : Nat) : (putC l).drop (endC l j) = rowC (l.drop j) := by
  unfold putC endC
  rw [rowC_split l j, ← List.append_assoc, List.drop_append_of_le_length (by simp), List.drop_of_length_le (by simp), List.nil_append]
theorem endC_zero (l : List Tg) : endC l 0 = (varL l.length).length := by simp [endC, rowC]
theorem endC_succ {l : List Tg} {j : Nat} {t : Tg} (ht : l[j]? = some t) : endC l (j + 1) = endC l j + (tagL t).length := by
  unfold endC; rw [rowC_snoc ht, List.length_append]; omega
theorem endC_all (l : List Tg) : endC l l.length = (putC l).length := by
  unfold endC putC; rw [List.take_length, List.length_append]
theorem endC_le (l : List Tg) (j : Nat) : endC l j ≤ (putC l).length := by
  unfold endC putC
  rw [rowC_split l j, List.length_append, List.length_append]; omega

/-! ### unlike chains have unlike bytes -/
theorem varL_apart' {a b : Nat} {x y : List UInt8} (ha : a < 9223372036854775808) (hb : b < 9223372036854775808) (h : varL a ++ x = varL b ++ y) : a = b ∧ x = y := by
  have h1 := getV_varL ha x
  have h2 := getV_varL hb y
  rw [h, h2] at h1
  simp only [Option.some.injEq, Prod.mk.injEq] at h1
  obtain ⟨rfl, _⟩ := h1
  exact ⟨rfl, List.append_cancel_left h⟩
/-- A tag whose numbers are none below 0 and few enough. -/
def Tg.In (t : Tg) : Prop := 0 ≤ t.id ∧ t.id < 9223372036854775808 ∧ 0 ≤ t.owner ∧ t.owner < 9223372036854775808 ∧ 0 ≤ t.heir ∧ t.heir < 9223372036854775808 ∧ 0 ≤ t.at' ∧ t.at' < 9223372036854775808
theorem ChOk.in {l : List Tg} (h : ChOk l) {i : Nat} {t : Tg} (ht : l[i]? = some t) : t.In := by
  have h1 := h.tag ht
  have h2 := h.pos ht
  unfold Tg.Ok at h1
  unfold Tg.In; omega
theorem tagL_apart {t u : Tg} {x y : List UInt8} (ht : t.In) (hu : u.In) (h : tagL t ++ x = tagL u ++ y) : t = u ∧ x = y := by
  obtain ⟨a, b, c, d⟩ := t
  obtain ⟨a', b', c', d'⟩ := u
  unfold Tg.In at ht hu
  simp only at ht hu
  unfold tagL at h
  simp only [List.append_assoc] at h
  obtain ⟨e1, h⟩ := varL_apart' (by omega) (by omega) h
  obtain ⟨e2, h⟩ := varL_apart' (by omega) (by omega) h
  obtain ⟨e3, h⟩ := varL_apart' (by omega) (by omega) h
  obtain ⟨e4, h⟩ := varL_apart' (by omega) (by omega) h
  refine ⟨?_, h⟩
  rw [show a = a' by omega, show b = b' by omega, show c = c' by omega, show d = d' by omega]
theorem rowC_inj : ∀ {a b : List Tg} {x y : List UInt8}, a.length = b.length → (∀ t ∈ a, t.In) → (∀ t ∈ b, t.In) → rowC a ++ x = rowC b ++ y → a = b ∧ x = y
  | [], [], x, y, _, _, _, h => ⟨rfl, by simpa [rowC] using h⟩
  | t :: a, u :: b, x, y, hl, ha, hb, h => by
    unfold rowC at h
    rw [List.flatMap_cons, List.flatMap_cons, List.append_assoc, List.append_assoc] at h
    obtain ⟨rfl, h2⟩ := tagL_apart (ha t List.mem_cons_self) (hb u List.mem_cons_self) h
    obtain ⟨rfl, h3⟩ := rowC_inj (a := a) (b := b) (by simpa using hl) (fun t ht => ha t (List.mem_cons_of_mem _ ht)) (fun t ht => hb t (List.mem_cons_of_mem _ ht)) h2
    exact ⟨rfl, h3⟩
theorem ChOk.ins {l : List Tg} (h : ChOk l) : ∀ t ∈ l, t.In := fun t ht => by
  obtain ⟨i, hi⟩ := List.mem_iff_getElem?.1 ht
  exact h.in hi
theorem putC_inj {a b : List Tg} {x y : List UInt8} (ha : ChOk a) (hb : ChOk b) (h : putC a ++ x = putC b ++ y) : a = b ∧ x = y := by
  unfold putC at h
  rw [List.append_assoc, List.append_assoc] at h
  have h1 := ha.2.1
  have h2 := hb.2.1
  obtain ⟨e, h⟩ := varL_apart' (by omega) (by omega) h
  exact rowC_inj e ha.ins hb.ins h
theorem varL_bytes {n k : Nat} (hk : 1 ≤ k) (h : n < 128 ^ k) : (varL n).length ≤ k := by
  induction k generalizing n with
  | zero => omega
  | succ k ih =>
    by_cases h1 : n < 128
    · rw [varL_lo h1]; simp
    · rw [varL_hi (by omega), List.length_cons]
      by_cases hk0 : k = 0
      · subst hk0; omega
      · have := ih (n := n / 128) (by omega) (by rw [Nat.pow_succ] at h; omega)
        omega
theorem tagL_len {t : Tg} (h : t.Ok) : (tagL t).length ≤ 13 := by
  unfold Tg.Ok at h
  have h1 := varL_bytes (n := t.id.toNat) (k := 5) (by omega) (by omega)
  have h2 := varL_bytes (n := t.owner.toNat) (k := 1) (by omega) (by omega)
  have h3 := varL_bytes (n := t.heir.toNat) (k := 1) (by omega) (by omega)
  have h4 := varL_bytes (n := t.at'.toNat) (k := 6) (by omega) (by omega)
  unfold tagL
  simp only [List.length_append]
  omega
theorem rowC_len : ∀ (l : List Tg), (∀ t ∈ l, t.Ok) → (rowC l).length ≤ 13 * l.length
  | [], _ => by simp [rowC]
  | t :: l, h => by
    have h1 := tagL_len (h t List.mem_cons_self)
    have h2 := rowC_len l fun u hu => h u (List.mem_cons_of_mem _ hu)
    unfold rowC at *
    rw [List.flatMap_cons, List.length_append, List.length_cons]
    omega
theorem putC_len {l : List Tg} (h : ChOk l) : 1 ≤ (putC l).length ∧ (putC l).length ≤ 417 := by
  have h1 := rowC_len l fun t ht => by
    obtain ⟨i, hi⟩ := List.mem_iff_getElem?.1 ht
    exact h.tag hi
  have h2 := varL_bytes (n := l.length) (k := 1) (by omega) (by have := h.2.1; omega)
  have h3 := varL_pos l.length
  have h4 := h.2.1
  unfold putC
  rw [List.length_append]
  omega

/-! ### what bytes are -/
noncomputable def getCh (b : List UInt8) : List Tg × Int := open Classical in if h : ∃ l : List Tg, ChOk l ∧ putC l = b then (Classical.choose h, 0) else ([], 2)
theorem getCh_some {l : List Tg} {b : List UInt8} (h : ChOk l) (hb : putC l = b) : getCh b = (l, 0) := by
  have hx : ∃ l : List Tg, ChOk l ∧ putC l = b := ⟨l, h, hb⟩
  unfold getCh
  rw [dif_pos hx]
  have := Classical.choose_spec hx
  have e : putC (Classical.choose hx) ++ [] = putC l ++ [] := by rw [this.2, hb]
  rw [(putC_inj this.1 h e).1]
theorem getCh_none {b : List UInt8} (h : ∀ l : List Tg, ChOk l → putC l ≠ b) : getCh b = ([], 2) := by
  unfold getCh
  rw [dif_neg (fun ⟨l, h1, h2⟩ => h l h1 h2)]
theorem getCh_two (b : List UInt8) : (∃ l, getCh b = (l, 0) ∧ ChOk l ∧ putC l = b) ∨ (getCh b = ([], 2) ∧ ∀ l, ChOk l → putC l ≠ b) := by
  by_cases h : ∃ l : List Tg, ChOk l ∧ putC l = b
  · obtain ⟨l, h1, h2⟩ := h
    exact .inl ⟨l, getCh_some h1 h2, h1, h2⟩
  · exact .inr ⟨getCh_none fun l h1 h2 => h ⟨l, h1, h2⟩, fun l h1 h2 => h ⟨l, h1, h2⟩⟩
/-- A byte more or less is none: no chain's bytes begin another's. -/
theorem getCh_more {l : List Tg} (h : ChOk l) {x : List UInt8} (hx : x ≠ []) : getCh (putC l ++ x) = ([], 2) := getCh_none fun d hd he => by
  have e : putC d ++ [] = putC l ++ x := by rw [List.append_nil]; exact he
  exact hx (putC_inj hd h e).2.symm
theorem getCh_less {l : List Tg} (h : ChOk l) {x y : List UInt8} (hx : putC l = x ++ y) (hy : y ≠ []) : getCh x = ([], 2) := getCh_none fun d hd he => by
  have e : putC d ++ y = putC l ++ [] := by rw [List.append_nil, hx, he]
  exact hy (putC_inj hd h e).2
/-- What a guess must be. -/
def GuessC (b : List UInt8) (l : List Tg) : Prop := ∀ d : List Tg, ChOk d → putC d = b → l = d
theorem guessC_yes {b : List UInt8} {l : List Tg} (h2 : rightC l = true) (h3 : putC l = b) : getCh b = (l, 0) := getCh_some (rightC_iff.1 h2) h3
theorem guessC_not {b : List UInt8} {l : List Tg} (h : GuessC b l) (h2 : rightC l = false ∨ putC l ≠ b) : getCh b = ([], 2) := getCh_none fun d hd hb => by
  have := h d hd hb
  subst this
  rcases h2 with h2 | h2
  · rw [rightC_iff.2 hd] at h2; cases h2
  · exact h2 hb

/-! ### how two lie to each other -/
def nextMost (l : List Tg) : Int := l.foldl (fun m t => max m t.id) 0
/-- The least number above all of them, odd for site 1, even for others; 0 where an ID is too great. -/
def nextC (l : List Tg) (site : Int) : Int :=
  if l.any (fun t => decide (1073741824 < t.id)) then 0
  else let n := nextMost l + 1
    if decide (n % 2 = 1) = decide (site = 1) then n else n + 1
def ofC (l : List Tg) (seq : Int) : Int := l.foldl (fun m t => if t.at' < seq then t.id else m) 0
def cutC (l : List Tg) (e : Int) : List Tg := l.takeWhile fun t => decide (t.at' ≤ e)
/-- a is the first part of b. -/
def headOf (a b : List Tg) : Bool := decide (b.take a.length = a)
/-- Where the tag behind the first c begins; the end where there is none. -/
def atOr (l : List Tg) (c : Nat) (e : Int) : Int := match l[c]? with | some t => t.at' | none => e
def beginsC (a : List Tg) (ae : Int) (b : List Tg) (be : Int) : Bool := headOf a b && decide (ae ≤ atOr b a.length be)
def compareC (a : List Tg) (ae : Int) (b : List Tg) (be : Int) : Int :=
  if beginsC a ae b be then (if beginsC b be a ae then 0 else -1) else (if beginsC b be a ae then 1 else 2)
/-- How many tags at the beginnings are alike. -/
def alike : List Tg → List Tg → Nat
  | t :: a, u :: b => if t = u then alike a b + 1 else 0
  | _, _ => 0
def minAt (l : List Tg) (c : Nat) (n : Int) : Int := match l[c]? with | some t => min n t.at' | none => n
def forkC (a : List Tg) (ae : Int) (b : List Tg) (be : Int) : Int := max (minAt b (alike a b) (minAt a (alike a b) (min ae be))) 0

theorem headOf_iff {a b : List Tg} : headOf a b = true ↔ b.take a.length = a := by unfold headOf; exact decide_eq_true_iff
theorem headOf_self (a : List Tg) : headOf a a = true := headOf_iff.2 (List.take_length)
theorem headOf_len {a b : List Tg} (h : headOf a b = true) : a.length ≤ b.length := by
  have := congrArg List.length (headOf_iff.1 h)
  rw [List.length_take] at this; omega
theorem headOf_both {a b : List Tg} (h1 : headOf a b = true) (h2 : headOf b a = true) : a = b := by
  have l1 := headOf_len h1
  have l2 := headOf_len h2
  have := headOf_iff.1 h1
  rw [List.take_of_length_le (by omega)] at this
  exact this.symm
theorem headOf_get {a b : List Tg} (h : headOf a b = true) {i : Nat} (hi : i < a.length) : b[i]? = a[i]? := by
  have := headOf_iff.1 h
  rw [← this, List.getElem?_take, if_pos hi]
theorem headOf_trans {a b c : List Tg} (h1 : headOf a b = true) (h2 : headOf b c = true) : headOf a c = true := by
  have l1 := headOf_len h1
  rw [headOf_iff] at *
  rw [← h2, List.take_take, Nat.min_eq_left l1] at h1
  exact h1
theorem begins_iff {a b : List Tg} {ae be : Int} : beginsC a ae b be = true ↔ headOf a b = true ∧ ae ≤ atOr b a.length be := by
  unfold beginsC; rw [Bool.and_eq_true, decide_eq_true_iff]
theorem begins_same {a : List Tg} {ae be : Int} : beginsC a ae a be = true ↔ ae ≤ be := by
  rw [begins_iff]
  have : atOr a a.length be = be := by unfold atOr; rw [List.getElem?_eq_none (Nat.le_refl _)]
  rw [this]
  exact ⟨fun h => h.2, fun h => ⟨headOf_self a, h⟩⟩
theorem compare_self (a : List Tg) (ae : Int) : compareC a ae a ae = 0 := by
  unfold compareC; rw [begins_same.2 (Int.le_refl _)]; rfl
/-- Compare turned about. -/
theorem compare_turn (a b : List Tg) (ae be : Int) : (compareC a ae b be = 2 ∧ compareC b be a ae = 2) ∨ (compareC a ae b be ≠ 2 ∧ compareC b be a ae = -compareC a ae b be) := by
  unfold compareC
  cases beginsC a ae b be <;> cases beginsC b be a ae <;> simp
theorem alike_comm : ∀ a b : List Tg, alike a b = alike b a
  | [], [] => rfl
  | [], _ :: _ => rfl
  | _ :: _, [] => rfl
  | t :: a, u :: b => by
    unfold alike
    by_cases h : t = u
    · rw [if_pos h, if_pos h.symm, alike_comm a b]
    · rw [if_neg h, if_neg (fun e => h e.symm)]
theorem alike_le : ∀ a b : List Tg, alike a b ≤ a.length
  | [], b => by simp [alike]
  | t :: a, [] => by simp [alike]
  | t :: a, u :: b => by
    unfold alike
    have := alike_le a b
    split <;> simp; omega
theorem alike_le' (a b : List Tg) : alike a b ≤ b.length := by rw [alike_comm]; exact alike_le b a
theorem alike_get : ∀ (a b : List Tg) {i : Nat}, i < alike a b → a[i]? = b[i]?
  | [], b, i, h => by simp [alike] at h
  | t :: a, [], i, h => by simp [alike] at h
  | t :: a, u :: b, i, h => by
    unfold alike at h
    split at h
    · rename_i e
      subst e
      cases i with
      | zero => rfl
      | succ i => simpa using alike_get a b (by omega : i < alike a b)
    · omega
/-- Behind them they part, or one is over. -/
theorem alike_stop : ∀ (a b : List Tg), alike a b < a.length → alike a b < b.length → a[alike a b]? ≠ b[alike a b]?
  | [], b, h, _ => by simp at h
  | t :: a, [], _, h => by simp [alike] at h
  | t :: a, u :: b, h1, h2 => by
    unfold alike at h1 h2 ⊢
    split at h1
    · rename_i e
      rw [if_pos e] at h2 ⊢
      simp only [List.length_cons] at h1 h2
      simpa using alike_stop a b (by omega) (by omega)
    · rename_i e
      rw [if_neg e]
      simp only [List.getElem?_cons_zero, ne_eq, Option.some.injEq]
      exact e
theorem alike_head {a b : List Tg} (h : headOf a b = true) : alike a b = a.length := by
  have hl := headOf_len h
  rcases Nat.lt_or_ge (alike a b) a.length with h1 | h1
  · exact absurd (headOf_get h h1).symm (alike_stop a b h1 (by omega))
  · have := alike_le a b; omega
theorem fork_comm (a b : List Tg) (ae be : Int) : forkC a ae b be = forkC b be a ae := by
  unfold forkC minAt
  rw [alike_comm a b]
  cases a[alike b a]? <;> cases b[alike b a]? <;> simp only <;> omega
end Go.Proofs.Ytiahifpbofkimaa
namespace Go.Proofs.Ytiahifpbofkimaa
set_option linter.unusedVariables false
set_option linter.unnecessarySimpa false
set_option linter.unusedSimpArgs false

theorem begins_trans {a b c : List Tg} {x y z : Int} (h1 : beginsC c x a y = true) (h2 : beginsC a y b z = true) : beginsC c x b z = true := by
  rw [begins_iff] at *
  obtain ⟨p1, p2⟩ := h1
  obtain ⟨q1, q2⟩ := h2
  refine ⟨headOf_trans p1 q1, ?_⟩
  have hl := headOf_len p1
  by_cases e : c.length < a.length
  · have hg := headOf_get q1 e
    unfold atOr at p2 ⊢
    rw [hg]
    rw [List.getElem?_eq_getElem e] at p2 ⊢
    exact p2
  · have e2 : c.length = a.length := by omega
    rw [e2] at p2 ⊢
    unfold atOr at p2
    rw [List.getElem?_eq_none (Nat.le_refl _)] at p2
    simp only at p2
    omega
/-! ### a history cut off -/
theorem takeWhile_take {α : Type} (p : α → Bool) : ∀ l : List α, l.take (l.takeWhile p).length = l.takeWhile p
  | [] => rfl
  | x :: l => by
    rw [List.takeWhile_cons]
    cases h : p x with
    | true => simp [takeWhile_take p l]
    | false => simp
theorem takeWhile_next {α : Type} (p : α → Bool) : ∀ (l : List α) (x : α), l[(l.takeWhile p).length]? = some x → p x = false
  | [], x, h => by simp at h
  | y :: l, x, h => by
    rw [List.takeWhile_cons] at h
    cases hp : p y with
    | true => rw [hp] at h; exact takeWhile_next p l x (by simpa using h)
    | false => rw [hp] at h; simp at h; rw [← h]; exact hp
theorem takeWhile_all {α : Type} (p : α → Bool) : ∀ (l : List α) (x : α), x ∈ l.takeWhile p → p x = true
  | [], x, h => by simp at h
  | y :: l, x, h => by
    rw [List.takeWhile_cons] at h
    cases hp : p y with
    | true =>
      rw [hp] at h
      simp only [if_true, List.mem_cons] at h
      rcases h with rfl | h
      · exact hp
      · exact takeWhile_all p l x h
    | false => rw [hp] at h; simp at h
theorem cut_head (a : List Tg) (e : Int) : headOf (cutC a e) a = true := headOf_iff.2 (takeWhile_take _ _)
theorem cut_begins {a : List Tg} {e m : Int} (h : e ≤ m) : beginsC (cutC a e) e a m = true := by
  rw [begins_iff]
  refine ⟨cut_head a e, ?_⟩
  unfold atOr
  cases hg : a[(cutC a e).length]? with
  | none => exact h
  | some t =>
    have := takeWhile_next _ a t hg
    simp only [decide_eq_false_iff_not] at this
    simp only; omega
theorem cut_some {a : List Tg} {e : Int} (h : ChOk a) (he : 0 ≤ e) : 1 ≤ (cutC a e).length := by
  match a, h with
  | [], h => exact absurd h.1 (by simp)
  | t :: a, h =>
    have := h.2.2.1 t rfl
    unfold cutC
    rw [List.takeWhile_cons, if_pos (by rw [decide_eq_true_iff]; omega)]
    simp
theorem take_head (c : List Tg) (r : Nat) (hr : r ≤ c.length) : headOf (c.take r) c = true := by
  rw [headOf_iff, List.length_take, Nat.min_eq_left hr]
/-- A beginning's beginning, as far as it may reach. -/
theorem take_begins {c : List Tg} {e : Int} {r : Nat} (hr : r ≤ c.length) : beginsC (c.take r) (minAt c r e) c e = true := by
  rw [begins_iff]
  refine ⟨take_head c r hr, ?_⟩
  rw [List.length_take, Nat.min_eq_left hr]
  unfold atOr minAt
  cases c[r]? with
  | none => exact Int.le_refl _
  | some t => simp only; omega
/-! ### the next number -/
theorem foldl_max : ∀ (l : List Tg) (m : Int), m ≤ l.foldl (fun m t => max m t.id) m ∧ ∀ t ∈ l, t.id ≤ l.foldl (fun m t => max m t.id) m
  | [], m => ⟨Int.le_refl _, fun t h => by cases h⟩
  | u :: l, m => by
    have h := foldl_max l (max m u.id)
    simp only [List.foldl_cons]
    refine ⟨by have := h.1; omega, fun t ht => ?_⟩
    rcases List.mem_cons.1 ht with rfl | ht
    · have := h.1; omega
    · exact h.2 t ht
theorem foldl_top : ∀ (l : List Tg) (m b : Int), m ≤ b → (∀ t ∈ l, t.id ≤ b) → l.foldl (fun m t => max m t.id) m ≤ b
  | [], m, b, h, _ => h
  | u :: l, m, b, h, hl => by
    simp only [List.foldl_cons]
    exact foldl_top l _ b (by have := hl u List.mem_cons_self; omega) fun t ht => hl t (List.mem_cons_of_mem _ ht)
theorem next_few {l : List Tg} (h : ∀ t ∈ l, t.id ≤ 1073741824) (site : Int) : nextC l site = if decide ((nextMost l + 1) % 2 = 1) = decide (site = 1) then nextMost l + 1 else nextMost l + 1 + 1 := by
  unfold nextC
  rw [if_neg]
  rw [Bool.not_eq_true, List.any_eq_false]
  intro t ht
  have := h t ht
  simp only [decide_eq_true_eq]; omega
theorem next_above {l : List Tg} (h : ∀ t ∈ l, t.id ≤ 1073741824) (site : Int) : 1 ≤ nextC l site ∧ (∀ t ∈ l, t.id < nextC l site) ∧ nextC l site ≤ nextMost l + 2 := by
  have h1 := foldl_max l 0
  rw [next_few h]
  have h2 : nextMost l = l.foldl (fun m t => max m t.id) 0 := rfl
  refine ⟨?_, fun t ht => ?_, ?_⟩
  · have := h1.1; split <;> omega
  · have := h1.2 t ht; split <;> omega
  · split <;> omega
theorem next_odd {l : List Tg} (h : ∀ t ∈ l, t.id ≤ 1073741824) : nextC l 1 % 2 = 1 := by
  rw [next_few h]
  by_cases hp : (nextMost l + 1) % 2 = 1
  · rw [if_pos (by simp [hp])]; exact hp
  · rw [if_neg (by simp [hp])]; omega
theorem next_even {l : List Tg} (h : ∀ t ∈ l, t.id ≤ 1073741824) {site : Int} (hs : site ≠ 1) : nextC l site % 2 = 0 := by
  rw [next_few h]
  by_cases hp : (nextMost l + 1) % 2 = 1
  · rw [if_neg (by simp [hp, hs])]; omega
  · rw [if_pos (by simp [hp, hs])]; omega
theorem next_one (l : List Tg) (site : Int) (h : site ≠ 1) : nextC l site = nextC l 2 := by
  unfold nextC; simp [h]
/-! ### one tag more -/
theorem ok_snoc {l : List Tg} {t : Tg} (h : ChOk l) (hl : l.length < 32) (ht : t.Ok) (hat : ∀ u, l[l.length - 1]? = some u → u.at' ≤ t.at') (hid : ∀ u ∈ l, u.id ≠ t.id) : ChOk (l ++ [t]) := by
  have h1 := h.1
  refine ⟨by simp, by simp; omega, fun u hu => ?_, fun i hi => ?_⟩
  · rw [List.getElem?_append_left (by omega)] at hu
    exact h.2.2.1 u hu
  · rw [List.length_append, List.length_singleton] at hi
    intro u hu
    by_cases hlt : i < l.length
    · rw [List.getElem?_append_left hlt] at hu
      obtain ⟨p1, p2, p3⟩ := h.2.2.2 i hlt u hu
      refine ⟨p1, fun v h0 hv => p2 v h0 ?_, fun k v hk hv => p3 k v hk ?_⟩
      · rwa [List.getElem?_append_left (by omega)] at hv
      · rwa [List.getElem?_append_left (by omega)] at hv
    · obtain rfl : i = l.length := by omega
      rw [List.getElem?_append_right (Nat.le_refl _), Nat.sub_self] at hu
      simp at hu
      subst hu
      refine ⟨ht, fun v h0 hv => hat v ?_, fun k v hk hv => hid v ?_⟩
      · rwa [List.getElem?_append_left (by omega)] at hv
      · rw [List.getElem?_append_left (by omega)] at hv
        exact List.mem_of_getElem? hv
/-- A history that grew: a chain that may be, with few numbers, and an end not ahead of its last tag. -/
def Grown (l : List Tg) (e : Int) (n : Nat) : Prop := ChOk l ∧ l.length ≤ 20 ∧ (∀ t ∈ l, t.id ≤ 2 * l.length) ∧ (∀ t ∈ l, t.at' ≤ e) ∧ 0 ≤ e ∧ e ≤ 3 * n
theorem grown_one : Grown [⟨1, 1, 0, 0⟩] 0 0 := by
  refine ⟨⟨by simp, by simp, fun t h => by simp at h; rw [← h], fun i hi t ht => ?_⟩, by simp, by simp, by simp, by omega, by omega⟩
  simp only [List.length_singleton] at hi
  obtain rfl : i = 0 := by omega
  simp at ht
  subst ht
  exact ⟨by decide, fun u h => absurd h (by omega), fun k u h => absurd h (by omega)⟩
theorem Grown.on {l : List Tg} {e : Int} {n : Nat} (h : Grown l e n) {d : Int} (h0 : 0 ≤ d) (h3 : d ≤ 3) : Grown l (e + d) (n + 1) :=
  ⟨h.1, h.2.1, h.2.2.1, fun t ht => by have := h.2.2.2.1 t ht; omega, by have := h.2.2.2.2.1; omega, by have := h.2.2.2.2.2; omega⟩
theorem Grown.ids {l : List Tg} {e : Int} {n : Nat} (h : Grown l e n) : ∀ t ∈ l, t.id ≤ 1073741824 := fun t ht => by
  have := h.2.2.1 t ht; have := h.2.1; omega
theorem Grown.tag {l : List Tg} {e : Int} {n : Nat} (h : Grown l e n) (hl : l.length < 20) (hn : n ≤ 1000) {site o hr : Int} (ho : 0 ≤ o ∧ o ≤ 2) (hh : 0 ≤ hr ∧ hr ≤ 2) (hoh : o = 0 ↔ 0 < hr) : Grown (l ++ [⟨nextC l site, o, hr, e⟩]) e n := by
  obtain ⟨p1, p2, p3, p4, p5, p6⟩ := h
  have hi := next_above (Grown.ids ⟨p1, p2, p3, p4, p5, p6⟩) site
  have hm : nextMost l ≤ 2 * l.length := foldl_top l 0 _ (by omega) p3
  refine ⟨ok_snoc p1 (by omega) ⟨hi.1, by simp only; omega, ho.1, ho.2, hh.1, hh.2, hoh, by simp only; omega⟩ (fun u hu => p4 u (List.mem_of_getElem? hu)) (fun u hu => by have := hi.2.1 u hu; simp only; omega), by simp; omega, fun t ht => ?_, fun t ht => ?_, p5, p6⟩
  · rw [List.length_append, List.length_singleton]
    rcases List.mem_append.1 ht with ht | ht
    · have := p3 t ht; omega
    · simp at ht; subst ht; simp only; omega
  · rcases List.mem_append.1 ht with ht | ht
    · exact p4 t ht
    · simp at ht; subst ht; exact Int.le_refl _
/-! ### the law of numbers to come -/
theorem nexts_law {l : List Tg} {m : Int} {n : Nat} (h : Grown l m n) (hn : n ≤ 1000) : rightC (l ++ [⟨nextC l 1, 1, 0, m⟩]) = true ∧ beginsC l m (l ++ [⟨nextC l 1, 1, 0, m⟩]) m = true ∧ compareC l m (l ++ [⟨nextC l 1, 1, 0, m⟩]) (m + 1) = -1 := by
  have hi := next_above h.ids 1
  have hm : nextMost l ≤ 2 * l.length := foldl_top l 0 _ (by omega) h.2.2.1
  have h20 := h.2.1
  have hok : ChOk (l ++ [⟨nextC l 1, 1, 0, m⟩]) := ok_snoc h.1 (by omega) ⟨hi.1, by simp only; omega, by simp, by simp, by simp, by simp, by simp, by have := h.2.2.2.2.2; simp only; omega⟩ (fun u hu => h.2.2.2.1 u (List.mem_of_getElem? hu)) (fun u hu => by have := hi.2.1 u hu; simp only; omega)
  have hb : ∀ e, beginsC l m (l ++ [⟨nextC l 1, 1, 0, m⟩]) e = true := fun e => by
    rw [begins_iff]
    refine ⟨headOf_iff.2 (by simp), ?_⟩
    unfold atOr
    rw [List.getElem?_append_right (Nat.le_refl _), Nat.sub_self]
    exact Int.le_refl _
  refine ⟨rightC_iff.2 hok, hb m, ?_⟩
  unfold compareC
  rw [hb (m + 1), if_pos rfl, if_neg]
  intro hx
  have := headOf_len (begins_iff.1 hx).1
  simp at this; omega
/-! ### the law of forks -/
theorem minAt_le (l : List Tg) (c : Nat) (n : Int) : minAt l c n ≤ n := by
  unfold minAt; cases l[c]? <;> simp only <;> omega
theorem fork_range {a b : List Tg} {m n : Int} (hm : 0 ≤ m) (hn : 0 ≤ n) : 0 ≤ forkC a m b n ∧ forkC a m b n ≤ m ∧ forkC a m b n ≤ n := by
  unfold forkC
  have h1 := minAt_le b (alike a b) (minAt a (alike a b) (min m n))
  have h2 := minAt_le a (alike a b) (min m n)
  omega
theorem fork_begins {a b : List Tg} {m n : Int} (hm : 0 ≤ m) (h : beginsC a m b n = true) (hn : m ≤ n ∨ a.length < b.length) (hbn : ∀ t ∈ b, t.at' ≤ n) : forkC a m b n = m := by
  obtain ⟨h1, h2⟩ := begins_iff.1 h
  have he := alike_head h1
  unfold forkC minAt
  rw [he, List.getElem?_eq_none (Nat.le_refl _)]
  unfold atOr at h2
  cases hg : b[a.length]? with
  | none => rw [hg] at h2; simp only at h2 ⊢; omega
  | some t =>
    rw [hg] at h2
    have := hbn t (List.mem_of_getElem? hg)
    simp only at h2 ⊢; omega
theorem foldl_skip : ∀ (l : List Tg) (seq m : Int), (∀ t ∈ l, seq ≤ t.at') → l.foldl (fun m t => if t.at' < seq then t.id else m) m = m
  | [], _, _, _ => rfl
  | t :: l, seq, m, h => by
    have := h t List.mem_cons_self
    rw [List.foldl_cons, if_neg (by omega)]
    exact foldl_skip l seq m fun u hu => h u (List.mem_cons_of_mem _ hu)
theorem of_take {l : List Tg} {seq : Int} {c : Nat} (h : ChOk l) (hc : ∀ t, l[c]? = some t → seq ≤ t.at') : ofC l seq = ofC (l.take c) seq := by
  unfold ofC
  conv => lhs; rw [← List.take_append_drop c l, List.foldl_append]
  refine foldl_skip _ _ _ fun t ht => ?_
  obtain ⟨i, hi⟩ := List.mem_iff_getElem?.1 ht
  rw [List.getElem?_drop] at hi
  have hlt := (List.getElem?_eq_some_iff.1 hi).1
  have hu : l[c]? = some l[c] := List.getElem?_eq_getElem (by omega)
  have h1 := hc _ hu
  have h2 := h.rises hu (by omega : c ≤ c + i) hi
  omega
theorem foldl_pos : ∀ (l : List Tg) (seq m : Int), (∀ t ∈ l, 1 ≤ t.id) → 1 ≤ m → 1 ≤ l.foldl (fun m t => if t.at' < seq then t.id else m) m
  | [], _, _, _, h => h
  | t :: l, seq, m, h, hm => by
    rw [List.foldl_cons]
    refine foldl_pos l seq _ (fun u hu => h u (List.mem_cons_of_mem _ hu)) ?_
    have := h t List.mem_cons_self
    split <;> omega
theorem of_some {l : List Tg} {seq : Int} (h : ChOk l) (hs : 1 ≤ seq) : ofC l seq ≠ 0 := by
  match l, h with
  | [], h => exact absurd h.1 (by simp)
  | t :: l, h =>
    have h0 := h.2.2.1 t rfl
    have h1 : ∀ u ∈ t :: l, 1 ≤ u.id := fun u hu => by
      obtain ⟨i, hi⟩ := List.mem_iff_getElem?.1 hu
      exact (h.tag hi).1
    unfold ofC
    rw [List.foldl_cons, if_pos (by omega)]
    have := foldl_pos l seq t.id (fun u hu => h1 u (List.mem_cons_of_mem _ hu)) (h1 t List.mem_cons_self)
    omega
theorem of_none {l : List Tg} (h : ChOk l) : ofC l 0 = 0 := foldl_skip l 0 0 fun t ht => by
  obtain ⟨i, hi⟩ := List.mem_iff_getElem?.1 ht
  exact h.pos hi
/-- Up to the fork two are one. -/
theorem fork_of {a b : List Tg} {m n seq : Int} (ha : ChOk a) (hb : ChOk b) (h1 : 1 ≤ seq) (h2 : seq ≤ forkC a m b n) : ofC a seq = ofC b seq := by
  have hx : ∀ t, a[alike a b]? = some t → seq ≤ t.at' := fun t ht => by
    have h3 := minAt_le b (alike a b) (minAt a (alike a b) (min m n))
    unfold forkC at h2
    have h4 : minAt a (alike a b) (min m n) ≤ t.at' := by unfold minAt; rw [ht]; simp only; omega
    omega
  have hy : ∀ t, b[alike a b]? = some t → seq ≤ t.at' := fun t ht => by
    unfold forkC at h2
    have h4 : minAt b (alike a b) (minAt a (alike a b) (min m n)) ≤ t.at' := by unfold minAt; rw [ht]; simp only; omega
    omega
  rw [of_take ha hx, of_take hb hy]
  congr 1
  refine List.ext_getElem? fun i => ?_
  rw [List.getElem?_take, List.getElem?_take]
  by_cases hi : i < alike a b
  · rw [if_pos hi, if_pos hi]; exact alike_get a b hi
  · rw [if_neg hi, if_neg hi]
/-! ### the law of orders -/
theorem orders_law {a b : List Tg} {m n e : Int} (he : e ≤ m) {r : Nat} (hr : r ≤ (cutC a e).length) :
    beginsC ((cutC a e).take r) (minAt (cutC a e) r e) (cutC a e) e = true ∧ beginsC ((cutC a e).take r) (minAt (cutC a e) r e) a m = true ∧ (compareC a m b n ≠ -1 ∨ beginsC (cutC a e) e b n = true) := by
  have h1 := take_begins (c := cutC a e) (e := e) hr
  have h2 := cut_begins (a := a) he
  refine ⟨h1, begins_trans h1 h2, ?_⟩
  cases hb : beginsC a m b n with
  | true => exact .inr (begins_trans h2 hb)
  | false =>
    left
    unfold compareC
    rw [hb, if_neg (by simp)]
    split <;> decide
def kTg : Tg := ⟨1, 1, 0, 0⟩
end Go.Proofs.Ytiahifpbofkimaa
