/- Object maps: states in bytes; no program in sight. -/
import Derived.Test.YtikbhekcpddoeaaPlain
namespace Go.Proofs.Ytikbhekcpddoeaa
set_option linter.unusedVariables false
set_option linter.unnecessarySimpa false
set_option linter.unusedSimpArgs false

def stOk (x : Int) : Prop := 0 ≤ x ∧ x ≤ 2
instance (x : Int) : Decidable (stOk x) := by unfold stOk; infer_instance
def MapOk (l : List Int) : Prop := l.length ≤ 512 ∧ ∀ x ∈ l, stOk x
def rightO (l : List Int) : Bool := decide (l.length ≤ 512) && l.all fun x => decide (stOk x)
theorem rightO_iff {l : List Int} : rightO l = true ↔ MapOk l := by
  unfold rightO MapOk; simp
/-- A state, 0 behind the end. -/
def stN (l : List Int) (i : Nat) : Nat := (l[i]?.getD 0).toNat
theorem stN_le {l : List Int} (h : ∀ x ∈ l, stOk x) (i : Nat) : stN l i ≤ 2 := by
  unfold stN
  cases hi : l[i]? with
  | none => simp
  | some x => have := h x (List.mem_of_getElem? hi); unfold stOk at this; simp; omega
theorem stN_end {l : List Int} {i : Nat} (h : l.length ≤ i) : stN l i = 0 := by unfold stN; rw [List.getElem?_eq_none h]; rfl
/-- The byte of four states, their first k. -/
def byteK (l : List Int) (j : Nat) : Nat → Nat
  | 0 => 0
  | k + 1 => byteK l j k + stN l (4 * j + k) * 4 ^ k
def byteO (l : List Int) (j : Nat) : Nat := byteK l j 4
def putO (l : List Int) : List UInt8 := (List.range ((l.length + 3) / 4)).map fun j => UInt8.ofNat (byteO l j)
theorem putO_len (l : List Int) : (putO l).length = (l.length + 3) / 4 := by unfold putO; simp
theorem putO_at {l : List Int} {j : Nat} (h : j < (l.length + 3) / 4) : (putO l)[j]? = some (UInt8.ofNat (byteO l j)) := by
  unfold putO
  rw [List.getElem?_map, List.getElem?_range h]; rfl
theorem byteO_eq (l : List Int) (j : Nat) : byteO l j = stN l (4 * j) + stN l (4 * j + 1) * 4 + stN l (4 * j + 2) * 16 + stN l (4 * j + 3) * 64 := by
  unfold byteO; simp [byteK]
theorem byteO_lt {l : List Int} (h : ∀ x ∈ l, stOk x) (j : Nat) : byteO l j < 256 := by
  have h0 := stN_le h (4 * j)
  have h1 := stN_le h (4 * j + 1)
  have h2 := stN_le h (4 * j + 2)
  have h3 := stN_le h (4 * j + 3)
  rw [byteO_eq]; omega
/-- State i as bytes have it. -/
def digO (b : List UInt8) (i : Nat) : Nat := ((b[i / 4]?.getD 0).toNat / 4 ^ (i % 4)) % 4
theorem digO_put {l : List Int} (h : ∀ x ∈ l, stOk x) (i : Nat) (hi : i < 4 * ((l.length + 3) / 4)) : digO (putO l) i = stN l i := by
  unfold digO
  rw [putO_at (by omega)]
  have h0 := stN_le h (4 * (i / 4))
  have h1 := stN_le h (4 * (i / 4) + 1)
  have h2 := stN_le h (4 * (i / 4) + 2)
  have h3 := stN_le h (4 * (i / 4) + 3)
  have hl := byteO_lt h (i / 4)
  rw [Option.getD_some, UInt8.toNat_ofNat', Nat.mod_eq_of_lt hl, byteO_eq]
  rcases (show i % 4 = 0 ∨ i % 4 = 1 ∨ i % 4 = 2 ∨ i % 4 = 3 by omega) with h | h | h | h
  · rw [h, show i = 4 * (i / 4) by omega, Nat.mul_div_cancel_left _ (by decide)]; omega
  · rw [h]; have e : stN l i = stN l (4 * (i / 4) + 1) := by congr 1; omega
    rw [e]; omega
  · rw [h]; have e : stN l i = stN l (4 * (i / 4) + 2) := by congr 1; omega
    rw [e]; omega
  · rw [h]; have e : stN l i = stN l (4 * (i / 4) + 3) := by congr 1; omega
    rw [e]; omega
/-- The states that bytes have, n of them. -/
def readO (b : List UInt8) (n : Nat) : List Int := (List.range n).map fun i => ((digO b i : Nat) : Int)
theorem readO_len (b : List UInt8) (n : Nat) : (readO b n).length = n := by unfold readO; simp
theorem readO_at {b : List UInt8} {n i : Nat} (h : i < n) : (readO b n)[i]? = some ((digO b i : Nat) : Int) := by
  unfold readO; rw [List.getElem?_map, List.getElem?_range h]; rfl
/-- Are they n states' bytes? -/
def FormO (b : List UInt8) (n : Nat) : Prop := b.length = (n + 3) / 4 ∧ ∀ i, i < 4 * b.length → digO b i ≤ 2 ∧ (n ≤ i → digO b i = 0)
theorem FormO.put {l : List Int} (h : MapOk l) : FormO (putO l) l.length := ⟨putO_len l, fun i hi => by
  rw [putO_len] at hi
  rw [digO_put h.2 i hi]
  exact ⟨stN_le h.2 i, fun hl => stN_end hl⟩⟩
theorem readO_put {l : List Int} (h : MapOk l) : readO (putO l) l.length = l := by
  apply List.ext_getElem?
  intro i
  by_cases hi : i < l.length
  · rw [readO_at hi, digO_put h.2 i (by omega)]
    unfold stN
    rw [List.getElem?_eq_getElem hi]
    have := h.2 l[i] (List.getElem_mem hi)
    unfold stOk at this
    simp; omega
  · rw [List.getElem?_eq_none (by rw [readO_len]; omega), List.getElem?_eq_none (by omega)]
theorem dig_byte (u : UInt8) : u.toNat = u.toNat / 4 ^ 0 % 4 + u.toNat / 4 ^ 1 % 4 * 4 + u.toNat / 4 ^ 2 % 4 * 16 + u.toNat / 4 ^ 3 % 4 * 64 := by
  have := u.toNat_lt
  omega
theorem readO_ok {b : List UInt8} {n : Nat} (h : FormO b n) (hn : n ≤ 512) : MapOk (readO b n) := by
  refine ⟨by rw [readO_len]; exact hn, fun x hx => ?_⟩
  obtain ⟨i, hi⟩ := List.mem_iff_getElem?.1 hx
  have hl := (List.getElem?_eq_some_iff.1 hi).1
  rw [readO_len] at hl
  rw [readO_at hl] at hi
  cases hi
  have := h.1
  have := (h.2 i (by omega)).1
  unfold stOk; omega
theorem putO_read {b : List UInt8} {n : Nat} (h : FormO b n) : putO (readO b n) = b := by
  have hs : ∀ i, i < 4 * b.length → stN (readO b n) i = digO b i := fun i hi => by
    by_cases c : i < n
    · unfold stN; rw [readO_at c]; simp
    · rw [stN_end (by rw [readO_len]; omega), (h.2 i hi).2 (by omega)]
  apply List.ext_getElem?
  intro j
  have hl := h.1
  by_cases hj : j < b.length
  · rw [putO_at (by rw [readO_len]; omega), List.getElem?_eq_getElem hj, byteO_eq, hs _ (by omega), hs _ (by omega), hs _ (by omega), hs _ (by omega)]
    have e0 : ∀ k, k < 4 → digO b (4 * j + k) = b[j].toNat / 4 ^ k % 4 := fun k hk => by
      unfold digO
      rw [show (4 * j + k) / 4 = j by omega, show (4 * j + k) % 4 = k by omega, List.getElem?_eq_getElem hj]; rfl
    have e1 := e0 0 (by omega)
    rw [Nat.add_zero] at e1
    rw [e1, e0 1 (by omega), e0 2 (by omega), e0 3 (by omega), ← dig_byte]
    simp
  · rw [List.getElem?_eq_none (by rw [putO_len, readO_len]; omega), List.getElem?_eq_none (by omega)]
/-- One form: of so many states. -/
theorem form_len {b c : List UInt8} {n : Nat} (h : FormO b n) (h2 : FormO c n) : b.length = c.length := by rw [h.1, h2.1]

/-! ### states -/
def atO (l : List Int) (i : Int) : Int := if i < 0 then 0 else l[i.toNat]?.getD 0
def heldO (n : Int) : Nat := (min (max n 0) 512).toNat
def sizeO (l : List Int) (n : Int) : List Int := (List.range (heldO n)).map fun i => l[i]?.getD 0
def turnO (l : List Int) (i to : Int) : List Int := if 0 ≤ i ∧ i < 512 ∧ stOk to then (l ++ List.replicate (i.toNat + 1 - l.length) 0).set i.toNat to else l
def freezeO (l : List Int) : List Int := l.map fun x => if x = 1 then 2 else x
def mayO (a b : Int) : Bool := decide (b = 1) || decide ((a = 0) ≠ (b = 0))
def diffN (a b : List Int) : List Nat := (List.range (max a.length b.length)).filter fun i => mayO (a[i]?.getD 0) (b[i]?.getD 0)
def diffO (a b : List Int) : List Int := (diffN a b).map fun (i : Nat) => (i : Int)
theorem sizeO_len (l : List Int) (n : Int) : (sizeO l n).length = heldO n := by unfold sizeO; simp
theorem sizeO_at (l : List Int) {n : Int} {i : Nat} (h : i < heldO n) : (sizeO l n)[i]? = some (l[i]?.getD 0) := by
  unfold sizeO; rw [List.getElem?_map, List.getElem?_range h]; rfl
theorem sizeO_all {l : List Int} {n : Int} (h : heldO n = l.length) : sizeO l n = l := by
  apply List.ext_getElem?
  intro i
  by_cases hi : i < l.length
  · rw [sizeO_at l (by omega), List.getElem?_eq_getElem hi]; rfl
  · rw [List.getElem?_eq_none (by rw [sizeO_len]; omega), List.getElem?_eq_none (by omega)]
theorem sizeO_back {l : List Int} {n k : Int} (h : heldO k = l.length) (h2 : l.length ≤ heldO n) : sizeO (sizeO l n) k = l := by
  apply List.ext_getElem?
  intro i
  by_cases hi : i < l.length
  · rw [sizeO_at _ (by omega), sizeO_at l (by omega), List.getElem?_eq_getElem hi]; rfl
  · rw [List.getElem?_eq_none (by rw [sizeO_len]; omega), List.getElem?_eq_none (by omega)]
theorem freezeO_twice (l : List Int) : freezeO (freezeO l) = freezeO l := by
  unfold freezeO
  rw [List.map_map]
  apply List.map_congr_left
  intro x _
  simp only [Function.comp]
  split <;> (try split) <;> omega
end Go.Proofs.Ytikbhekcpddoeaa
