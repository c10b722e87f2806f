/- Chains: what a chain may be, its bytes, how two lie to each other; no program in sight. -/
import Derived.Test.YtpeamfndanbhiaaPlain
namespace Go.Proofs.Ytpeamfndanbhiaa
set_option linter.unusedVariables false
set_option linter.unnecessarySimpa false
set_option linter.unusedSimpArgs false

structure Tg where
  id : Int
  owner : Int
  heir : Int
  at' : Int
deriving DecidableEq

/-! ### what a chain may be -/
def Tg.Ok (t : Tg) : Prop := 1 ≤ t.id ∧ t.id ≤ 1073741824 ∧ 0 ≤ t.owner ∧ t.owner ≤ 2 ∧ 0 ≤ t.heir ∧ t.heir ≤ 2 ∧ (t.owner = 0 ↔ 0 < t.heir) ∧ t.at' ≤ 1099511627776
instance (t : Tg) : Decidable t.Ok := by unfold Tg.Ok; infer_instance
/-- The tag at i, against those ahead of it. -/
def okAt (l : List Tg) (i : Nat) : Prop := ∀ t, l[i]? = some t → t.Ok ∧ (∀ u, 0 < i → l[i - 1]? = some u → u.at' ≤ t.at') ∧ ∀ (k : Nat) u, k < i → l[k]? = some u → u.id ≠ t.id
def ChOk (l : List Tg) : Prop := 1 ≤ l.length ∧ l.length ≤ 32 ∧ (∀ t, l[0]? = some t → t.at' = 0) ∧ ∀ i, i < l.length → okAt l i
noncomputable def rightC (l : List Tg) : Bool := open Classical in if ChOk l then true else false
theorem rightC_iff {l : List Tg} : rightC l = true ↔ ChOk l := by unfold rightC; split <;> simp_all
theorem rightC_no {l : List Tg} (h : ¬ ChOk l) : rightC l = false := by unfold rightC; rw [if_neg h]
theorem ChOk.tag {l : List Tg} (h : ChOk l) {i : Nat} {t : Tg} (ht : l[i]? = some t) : t.Ok := (h.2.2.2 i (List.getElem?_eq_some_iff.1 ht).1 t ht).1
theorem ChOk.pos {l : List Tg} (h : ChOk l) : ∀ {i : Nat} {t : Tg}, l[i]? = some t → 0 ≤ t.at'
  | 0, t, ht => by have := h.2.2.1 t ht; omega
  | i + 1, t, ht => by
    have hi := (List.getElem?_eq_some_iff.1 ht).1
    have hu : l[i]? = some l[i] := List.getElem?_eq_getElem (by omega)
    have h1 := h.pos hu
    have h2 := (h.2.2.2 (i + 1) hi t ht).2.1 l[i] (by omega) (by simpa using hu)
    omega
theorem ChOk.rise {l : List Tg} (h : ChOk l) {i : Nat} {t u : Tg} (hu : l[i]? = some u) (ht : l[i + 1]? = some t) : u.at' ≤ t.at' :=
  (h.2.2.2 (i + 1) (List.getElem?_eq_some_iff.1 ht).1 t ht).2.1 u (by omega) (by simpa using hu)
theorem ChOk.rises {l : List Tg} (h : ChOk l) {i : Nat} {u : Tg} (hu : l[i]? = some u) : ∀ {j : Nat} {t : Tg}, i ≤ j → l[j]? = some t → u.at' ≤ t.at'
  | 0, t, hij, ht => by
    obtain rfl : i = 0 := by omega
    rw [hu] at ht; cases ht; exact Int.le_refl _
  | j + 1, t, hij, ht => by
    by_cases e : i = j + 1
    · subst e; rw [hu] at ht; cases ht; exact Int.le_refl _
    · have hj := (List.getElem?_eq_some_iff.1 ht).1
      have hv : l[j]? = some l[j] := List.getElem?_eq_getElem (by omega)
      have h1 := h.rises hu (by omega : i ≤ j) hv
      have h2 := h.rise hv ht
      omega
theorem ChOk.apart {l : List Tg} (h : ChOk l) {i k : Nat} {t u : Tg} (hk : k < i) (ht : l[i]? = some t) (hu : l[k]? = some u) : u.id ≠ t.id :=
  (h.2.2.2 i (List.getElem?_eq_some_iff.1 ht).1 t ht).2.2 k u hk hu

/-! ### its bytes -/
def tagL (t : Tg) : List UInt8 := varL t.id.toNat ++ (varL t.owner.toNat ++ (varL t.heir.toNat ++ varL t.at'.toNat))
def rowC (l : List Tg) : List UInt8 := l.flatMap tagL
def putC (l : List Tg) : List UInt8 := varL l.length ++ rowC l
noncomputable def putCh (l : List Tg) : List UInt8 × Int := if rightC l then (putC l, 0) else ([], 1)
theorem putCh_yes {l : List Tg} (h : rightC l = true) : putCh l = (putC l, 0) := by unfold putCh; rw [if_pos h]
theorem putCh_no {l : List Tg} (h : rightC l = false) : putCh l = ([], 1) := by unfold putCh; rw [if_neg (by rw [h]; simp)]
theorem rowC_snoc {l : List Tg} {j : Nat} {t : Tg} (ht : l[j]? = some t) : rowC (l.take (j + 1)) = rowC (l.take j) ++ tagL t := by
  obtain ⟨h, rfl⟩ := List.getElem?_eq_some_iff.1 ht
  unfold rowC
  rw [List.take_succ_eq_append_getElem h, List.flatMap_append]
  simp
theorem rowC_drop {l : List Tg} {j : Nat} {t : Tg} (ht : l[j]? = some t) : rowC (l.drop j) = tagL t ++ rowC (l.drop (j + 1)) := by
  obtain ⟨h, rfl⟩ := List.getElem?_eq_some_iff.1 ht
  unfold rowC
  rw [List.drop_eq_getElem_cons h, List.flatMap_cons]
theorem rowC_split (l : List Tg) (j : Nat) : rowC l = rowC (l.take j) ++ rowC (l.drop j) := by
  unfold rowC
  rw [← List.flatMap_append, List.take_append_drop]
/-- How far the first j tags reach. -/
def endC (l : List Tg) (j : Nat) : Nat := (varL l.length).length + (rowC (l.take j)).length
theorem endC_drop (l : List Tg) (j : Nat) : (putC l).drop (endC l j) = rowC (l.drop j) := by
  unfold putC endC
  rw [rowC_split l j, ← List.append_assoc, List.drop_append_of_le_length (by simp), List.drop_of_length_le (by simp), List.nil_append]
theorem endC_zero (l : List Tg) : endC l 0 = (varL l.length).length := by simp [endC, rowC]
theorem endC_succ {l : List Tg} {j : Nat} {t : Tg} (ht : l[j]? = some t) : endC l (j + 1) = endC l j + (tagL t).length := by
  unfold endC; rw [rowC_snoc ht, List.length_append]; omega
theorem endC_all (l : List Tg) : endC l l.length = (putC l).length := by
  unfold endC putC; rw [List.take_length, List.length_append]
theorem endC_le (l : List Tg) (j : Nat) : endC l j ≤ (putC l).length := by
  unfold endC putC
  rw [rowC_split l j, List.length_append, List.length_append]; omega

/-! ### unlike chains have unlike bytes -/
theorem varL_apart' {a b : Nat} {x y : List UInt8} (ha : a < 9223372036854775808) (hb : b < 9223372036854775808) (h : varL a ++ x = varL b ++ y) : a = b ∧ x = y := by
  have h1 := getV_varL ha x
  have h2 := getV_varL hb y
  rw [h, h2] at h1
  simp only [Option.some.injEq, Prod.mk.injEq] at h1
  obtain ⟨rfl, _⟩ := h1
  exact ⟨rfl, List.append_cancel_left h⟩
/-- A tag whose numbers are none below 0 and few enough. -/
def Tg.In (t : Tg) : Prop := 0 ≤ t.id ∧ t.id < 9223372036854775808 ∧ 0 ≤ t.owner ∧ t.owner < 9223372036854775808 ∧ 0 ≤ t.heir ∧ t.heir < 9223372036854775808 ∧ 0 ≤ t.at' ∧ t.at' < 9223372036854775808
theorem ChOk.in {l : List Tg} (h : ChOk l) {i : Nat} {t : Tg} (ht : l[i]? = some t) : t.In := by
  have h1 := h.tag ht
  have h2 := h.pos ht
  unfold Tg.Ok at h1
  unfold Tg.In; omega
theorem tagL_apart {t u : Tg} {x y : List UInt8} (ht : t.In) (hu : u.In) (h : tagL t ++ x = tagL u ++ y) : t = u ∧ x = y := by
  obtain ⟨a, b, c, d⟩ := t
  obtain ⟨a', b', c', d'⟩ := u
  unfold Tg.In at ht hu
  simp only at ht hu
  unfold tagL at h
  simp only [List.append_assoc] at h
  obtain ⟨e1, h⟩ := varL_apart' (by omega) (by omega) h
  obtain ⟨e2, h⟩ := varL_apart' (by omega) (by omega) h
  obtain ⟨e3, h⟩ := varL_apart' (by omega) (by omega) h
  obtain ⟨e4, h⟩ := varL_apart' (by omega) (by omega) h
  refine ⟨?_, h⟩
  rw [show a = a' by omega, show b = b' by omega, show c = c' by omega, show d = d' by omega]
theorem rowC_inj : ∀ {a b : List Tg} {x y : List UInt8}, a.length = b.length → (∀ t ∈ a, t.In) → (∀ t ∈ b, t.In) → rowC a ++ x = rowC b ++ y → a = b ∧ x = y
  | [], [], x, y, _, _, _, h => ⟨rfl, by simpa [rowC] using h⟩
  | t :: a, u :: b, x, y, hl, ha, hb, h => by
    unfold rowC at h
    rw [List.flatMap_cons, List.flatMap_cons, List.append_assoc, List.append_assoc] at h
    obtain ⟨rfl, h2⟩ := tagL_apart (ha t List.mem_cons_self) (hb u List.mem_cons_self) h
    obtain ⟨rfl, h3⟩ := rowC_inj (a := a) (b := b) (by simpa using hl) (fun t ht => ha t (List.mem_cons_of_mem _ ht)) (fun t ht => hb t (List.mem_cons_of_mem _ ht)) h2
    exact ⟨rfl, h3⟩
theorem ChOk.ins {l : List Tg} (h : ChOk l) : ∀ t ∈ l, t.In := fun t ht => by
  obtain ⟨i, hi⟩ := List.mem_iff_getElem?.1 ht
  exact h.in hi
theorem putC_inj {a b : List Tg} {x y : List UInt8} (ha : ChOk a) (hb : ChOk b) (h : putC a ++ x = putC b ++ y) : a = b ∧ x = y := by
  unfold putC at h
  rw [List.append_assoc, List.append_assoc] at h
  have h1 := ha.2.1
  have h2 := hb.2.1
  obtain ⟨e, h⟩ := varL_apart' (by omega) (by omega) h
  exact rowC_inj e ha.ins hb.ins h
theorem varL_bytes {n k : Nat} (hk : 1 ≤ k) (h : n < 128 ^ k) : (varL n).length ≤ k := by
  induction k generalizing n with
  | zero => omega
  | succ k ih =>
    by_cases h1 : n < 128
    · rw [varL_lo h1]; simp
    · rw [varL_hi (by omega), List.length_cons]
      by_cases hk0 : k = 0
      · subst hk0; omega
      · have := ih (n := n / 128) (by omega) (by rw [Nat.pow_succ] at h; omega)
        omega
theorem tagL_len {t : Tg} (h : t.Ok) : (tagL t).length ≤ 13 := by
  unfold Tg.Ok at h
  have h1 := varL_bytes (n := t.id.toNat) (k := 5) (by omega) (by omega)
  have h2 := varL_bytes (n := t.owner.toNat) (k := 1) (by omega) (by omega)
  have h3 := varL_bytes (n := t.heir.toNat) (k := 1) (by omega) (by omega)
  have h4 := varL_bytes (n := t.at'.toNat) (k := 6) (by omega) (by omega)
  unfold tagL
  simp only [List.length_append]
  omega
theorem rowC_len : ∀ (l : List Tg), (∀ t ∈ l, t.Ok) → (rowC l).length ≤ 13 * l.length
  | [], _ => by simp [rowC]
  | t :: l, h => by
    have h1 := tagL_len (h t List.mem_cons_self)
    have h2 := rowC_len l fun u hu => h u (List.mem_cons_of_mem _ hu)
    unfold rowC at *
    rw [List.flatMap_cons, List.length_append, List.length_cons]
    omega
theorem putC_len {l : List Tg} (h : ChOk l) : 1 ≤ (putC l).length ∧ (putC l).length ≤ 417 := by
  have h1 := rowC_len l fun t ht => by
    obtain ⟨i, hi⟩ := List.mem_iff_getElem?.1 ht
    exact h.tag hi
  have h2 := varL_bytes (n := l.length) (k := 1) (by omega) (by have := h.2.1; omega)
  have h3 := varL_pos l.length
  have h4 := h.2.1
  unfold putC
  rw [List.length_append]
  omega

/-! ### what bytes are -/
noncomputable def getCh (b : List UInt8) : List Tg × Int := open Classical in if h : ∃ l : List Tg, ChOk l ∧ putC l = b then (Classical.choose h, 0) else ([], 2)
theorem getCh_some {l : List Tg} {b : List UInt8} (h : ChOk l) (hb : putC l = b) : getCh b = (l, 0) := by
  have hx : ∃ l : List Tg, ChOk l ∧ putC l = b := ⟨l, h, hb⟩
  unfold getCh
  rw [dif_pos hx]
  have := Classical.choose_spec hx
  have e : putC (Classical.choose hx) ++ [] = putC l ++ [] := by rw [this.2, hb]
  rw [(putC_inj this.1 h e).1]
theorem getCh_none {b : List UInt8} (h : ∀ l : List Tg, ChOk l → putC l ≠ b) : getCh b = ([], 2) := by
  unfold getCh
  rw [dif_neg (fun ⟨l, h1, h2⟩ => h l h1 h2)]
theorem getCh_two (b : List UInt8) : (∃ l, getCh b = (l, 0) ∧ ChOk l ∧ putC l = b) ∨ (getCh b = ([], 2) ∧ ∀ l, ChOk l → putC l ≠ b) := by
  by_cases h : ∃ l : List Tg, ChOk l ∧ putC l = b
  · obtain ⟨l, h1, h2⟩ := h
    exact .inl ⟨l, getCh_some h1 h2, h1, h2⟩
  · exact .inr ⟨getCh_none fun l h1 h2 => h ⟨l, h1, h2⟩, fun l h1 h2 => h ⟨l, h1, h2⟩⟩
/-- A byte more or less is none: no chain's bytes begin another's. -/
theorem getCh_more {l : List Tg} (h : ChOk l) {x : List UInt8} (hx : x ≠ []) : getCh (putC l ++ x) = ([], 2) := getCh_none fun d hd he => by
  have e : putC d ++ [] = putC l ++ x := by rw [List.append_nil]; exact he
  exact hx (putC_inj hd h e).2.symm
theorem getCh_less {l : List Tg} (h : ChOk l) {x y : List UInt8} (hx : putC l = x ++ y) (hy : y ≠ []) : getCh x = ([], 2) := getCh_none fun d hd he => by
  have e : putC d ++ y = putC l ++ [] := by rw [List.append_nil, hx, he]
  exact hy (putC_inj hd h e).2
/-- What a guess must be. -/
def GuessC (b : List UInt8) (l : List Tg) : Prop := ∀ d : List Tg, ChOk d → putC d = b → l = d
theorem guessC_yes {b : List UInt8} {l : List Tg} (h2 : rightC l = true) (h3 : putC l = b) : getCh b = (l, 0) := getCh_some (rightC_iff.1 h2) h3
theorem guessC_not {b : List UInt8} {l : List Tg} (h : GuessC b l) (h2 : rightC l = false ∨ putC l ≠ b) : getCh b = ([], 2) := getCh_none fun d hd hb => by
  have := h d hd hb
  subst this
  rcases h2 with h2 | h2
  · rw [rightC_iff.2 hd] at h2; cases h2
  · exact h2 hb

/-! ### how two lie to each other -/
def nextMost (l : List Tg) : Int := l.foldl (fun m t => max m t.id) 0
/-- The least number above all of them, odd for site 1, even for others; 0 where an ID is too great. -/
def nextC (l : List Tg) (site : Int) : Int :=
  if l.any (fun t => decide (1073741824 < t.id)) then 0
  else let n := nextMost l + 1
    if decide (n % 2 = 1) = decide (site = 1) then n else n + 1
def ofC (l : List Tg) (seq : Int) : Int := l.foldl (fun m t => if t.at' < seq then t.id else m) 0
def cutC (l : List Tg) (e : Int) : List Tg := l.takeWhile fun t => decide (t.at' ≤ e)
/-- a is the first part of b. -/
def headOf (a b : List Tg) : Bool := decide (b.take a.length = a)
/-- Where the tag behind the first c begins; the end where there is none. -/
def atOr (l : List Tg) (c : Nat) (e : Int) : Int := match l[c]? with | some t => t.at' | none => e
def beginsC (a : List Tg) (ae : Int) (b : List Tg) (be : Int) : Bool := headOf a b && decide (ae ≤ atOr b a.length be)
def compareC (a : List Tg) (ae : Int) (b : List Tg) (be : Int) : Int :=
  if beginsC a ae b be then (if beginsC b be a ae then 0 else -1) else (if beginsC b be a ae then 1 else 2)
/-- How many tags at the beginnings are alike. -/
def alike : List Tg → List Tg → Nat
  | t :: a, u :: b => if t = u then alike a b + 1 else 0
  | _, _ => 0
def minAt (l : List Tg) (c : Nat) (n : Int) : Int := match l[c]? with | some t => min n t.at' | none => n
def forkC (a : List Tg) (ae : Int) (b : List Tg) (be : Int) : Int := max (minAt b (alike a b) (minAt a (alike a b) (min ae be))) 0

theorem headOf_iff {a b : List Tg} : headOf a b = true ↔ b.take a.length = a := by unfold headOf; exact decide_eq_true_iff
theorem headOf_self (a : List Tg) : headOf a a = true := headOf_iff.2 (List.take_length)
theorem headOf_len {a b : List Tg} (h : headOf a b = true) : a.length ≤ b.length := by
  have := congrArg List.length (headOf_iff.1 h)
  rw [List.length_take] at this; omega
theorem headOf_both {a b : List Tg} (h1 : headOf a b = true) (h2 : headOf b a = true) : a = b := by
  have l1 := headOf_len h1
  have l2 := headOf_len h2
  have := headOf_iff.1 h1
  rw [List.take_of_length_le (by omega)] at this
  exact this.symm
theorem headOf_get {a b : List Tg} (h : headOf a b = true) {i : Nat} (hi : i < a.length) : b[i]? = a[i]? := by
  have := headOf_iff.1 h
  rw [← this, List.getElem?_take, if_pos hi]
theorem headOf_trans {a b c : List Tg} (h1 : headOf a b = true) (h2 : headOf b c = true) : headOf a c = true := by
  have l1 := headOf_len h1
  rw [headOf_iff] at *
  rw [← h2, List.take_take, Nat.min_eq_left l1] at h1
  exact h1
theorem begins_iff {a b : List Tg} {ae be : Int} : beginsC a ae b be = true ↔ headOf a b = true ∧ ae ≤ atOr b a.length be := by
  unfold beginsC; rw [Bool.and_eq_true, decide_eq_true_iff]
theorem begins_same {a : List Tg} {ae be : Int} : beginsC a ae a be = true ↔ ae ≤ be := by
  rw [begins_iff]
  have : atOr a a.length be = be := by unfold atOr; rw [List.getElem?_eq_none (Nat.le_refl _)]
  rw [this]
  exact ⟨fun h => h.2, fun h => ⟨headOf_self a, h⟩⟩
theorem compare_self (a : List Tg) (ae : Int) : compareC a ae a ae = 0 := by
  unfold compareC; rw [begins_same.2 (Int.le_refl _)]; rfl
/-- Compare turned about. -/
theorem compare_turn (a b : List Tg) (ae be : Int) : (compareC a ae b be = 2 ∧ compareC b be a ae = 2) ∨ (compareC a ae b be ≠ 2 ∧ compareC b be a ae = -compareC a ae b be) := by
  unfold compareC
  cases beginsC a ae b be <;> cases beginsC b be a ae <;> simp
theorem alike_comm : ∀ a b : List Tg, alike a b = alike b a
  | [], [] => rfl
  | [], _ :: _ => rfl
  | _ :: _, [] => rfl
  | t :: a, u :: b => by
    unfold alike
    by_cases h : t = u
    · rw [if_pos h, if_pos h.symm, alike_comm a b]
    · rw [if_neg h, if_neg (fun e => h e.symm)]
theorem alike_le : ∀ a b : List Tg, alike a b ≤ a.length
  | [], b => by simp [alike]
  | t :: a, [] => by simp [alike]
  | t :: a, u :: b => by
    unfold alike
    have := alike_le a b
    split <;> simp; omega
theorem alike_le' (a b : List Tg) : alike a b ≤ b.length := by rw [alike_comm]; exact alike_le b a
theorem alike_get : ∀ (a b : List Tg) {i : Nat}, i < alike a b → a[i]? = b[i]?
  | [], b, i, h => by simp [alike] at h
  | t :: a, [], i, h => by simp [alike] at h
  | t :: a, u :: b, i, h => by
    unfold alike at h
    split at h
    · rename_i e
      subst e
      cases i with
      | zero => rfl
      | succ i => simpa using alike_get a b (by omega : i < alike a b)
    · omega
/-- Behind them they part, or one is over. -/
theorem alike_stop : ∀ (a b : List Tg), alike a b < a.length → alike a b < b.length → a[alike a b]? ≠ b[alike a b]?
  | [], b, h, _ => by simp at h
  | t :: a, [], _, h => by simp [alike] at h
  | t :: a, u :: b, h1, h2 => by
    unfold alike at h1 h2 ⊢
    split at h1
    · rename_i e
      rw [if_pos e] at h2 ⊢
      simp only [List.length_cons] at h1 h2
      simpa using alike_stop a b (by omega) (by omega)
    · rename_i e
      rw [if_neg e]
      simp only [List.getElem?_cons_zero, ne_eq, Option.some.injEq]
      exact e
theorem alike_head {a b : List Tg} (h : headOf a b = true) : alike a b = a.length := by
  have hl := headOf_len h
  rcases Nat.lt_or_ge (alike a b) a.length with h1 | h1
  · exact absurd (headOf_get h h1).symm (alike_stop a b h1 (by omega))
  · have := alike_le a b; omega
theorem fork_comm (a b : List Tg) (ae be : Int) : forkC a ae b be = forkC b be a ae := by
  unfold forkC minAt
  rw [alike_comm a b]
  cases a[alike b a]? <;> cases b[alike b a]? <;> simp only <;> omega
end Go.Proofs.Ytpeamfndanbhiaa
