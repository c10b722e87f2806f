/- Plain mathematics of numbers in bytes: no program in sight. -/
namespace Go.Proofs.Ytbpddcmehjgleaa

/-! ### held, masks, cuts -/
def heldN (k : Int) : Nat := (min (max k 0) 64).toNat
def maskN (k : Int) : Nat := 2 ^ heldN k - 1
def cutN (n : Nat) (at' width : Int) : Nat := n / 2 ^ heldN at' % 2 ^ heldN width

theorem heldN_le (k : Int) : heldN k ≤ 64 := by unfold heldN; omega
theorem heldN_int (k : Int) : ((heldN k : Nat) : Int) = min (max k 0) 64 := by unfold heldN; omega
theorem two64 : (2 : Nat) ^ 64 = 18446744073709551616 := by decide
theorem pow_le64 {h : Nat} (hh : h ≤ 64) : 2 ^ h ≤ 18446744073709551616 := by
  rw [← two64]; exact Nat.pow_le_pow_right (by decide) hh
theorem pow_lt64 {h : Nat} (hh : h < 64) : 2 ^ h < 18446744073709551616 := by
  rw [← two64]; exact Nat.pow_lt_pow_right (by decide) hh
theorem maskN_lt (k : Int) : maskN k < 18446744073709551616 := by
  have := pow_le64 (heldN_le k); have := Nat.two_pow_pos (heldN k); unfold maskN; omega
theorem heldN_64 : heldN 64 = 64 := by decide
theorem heldN_0 : heldN 0 = 0 := by decide
theorem heldN_neg1 : heldN (-1) = 0 := by decide
theorem cutN_lt (n : Nat) (h : n < 18446744073709551616) (p w : Int) : cutN n p w < 18446744073709551616 := by
  unfold cutN
  exact Nat.lt_of_le_of_lt (Nat.mod_le _ _) (Nat.lt_of_le_of_lt (Nat.div_le_self _ _) h)

/-! ### signs -/
def zigN (n : Int) : Nat := if n < 0 then (2 * (-(n + 1)) + 1).toNat else (2 * n).toNat
def zagI (u : Nat) : Int := if u % 2 = 0 then (u / 2 : Nat) else -((u / 2 : Nat) : Int) - 1
theorem zag_zig (n : Int) : zagI (zigN n) = n := by unfold zigN zagI; split <;> split <;> omega
theorem zig_zag (u : Nat) : zigN (zagI u) = u := by unfold zigN zagI; split <;> split <;> omega
theorem zig_neg {n : Int} (h : n < 0) : (zigN n : Int) = 2 * (-(n + 1)) + 1 := by unfold zigN; rw [if_pos h]; omega
theorem zig_pos {n : Int} (h : 0 ≤ n) : (zigN n : Int) = 2 * n := by unfold zigN; rw [if_neg (by omega)]; omega
theorem zigN_lt {n : Int} (h : -9223372036854775808 ≤ n) (h2 : n ≤ 9223372036854775807) : zigN n < 18446744073709551616 := by
  unfold zigN; split <;> omega

/-! ### the highest bit -/
def logI (n : Int) : Int := if n < 1 then -1 else (Nat.log2 n.toNat : Nat)
theorem log2_of {n k : Nat} (h : n / 2 ^ k = 1) : Nat.log2 n = k := by
  have hp := Nat.two_pow_pos k
  have h1 : n ≠ 0 := by intro e; subst e; simp at h
  have a : 2 ^ k ≤ n := by
    rcases Nat.lt_or_ge n (2 ^ k) with c | c
    · rw [Nat.div_eq_of_lt c] at h; omega
    · exact c
  have b : n < 2 ^ (k + 1) := by
    have := Nat.div_add_mod n (2 ^ k); have := Nat.mod_lt n hp; rw [h] at *; rw [Nat.pow_succ]; omega
  have := (Nat.le_log2 h1).2 a
  have := (Nat.log2_lt h1).2 b
  omega

/-! ### bytes of a number of fixed width -/
def putL (n : Nat) (k : Nat) : List UInt8 := (List.range k).map fun i => UInt8.ofNat (n / 256 ^ i)
theorem putL_len (n k : Nat) : (putL n k).length = k := by simp [putL]
theorem putL_succ (n k : Nat) : putL n (k + 1) = putL n k ++ [UInt8.ofNat (n / 256 ^ k)] := by simp [putL, List.range_succ]
/-- What such bytes make, the lowest first. -/
def getL : List UInt8 → Nat
  | [] => 0
  | c :: l => c.toNat + 256 * getL l
theorem getL_lt (l : List UInt8) : getL l < 256 ^ l.length := by
  induction l with
  | nil => simp [getL]
  | cons c l ih =>
    have := c.toNat_lt
    simp only [getL, List.length_cons, Nat.pow_succ]; omega
theorem getL_snoc (l : List UInt8) (c : UInt8) : getL (l ++ [c]) = getL l + 256 ^ l.length * c.toNat := by
  induction l with
  | nil => simp [getL]
  | cons d l ih =>
    simp only [getL, List.cons_append, ih, List.length_cons, Nat.pow_succ, Nat.mul_add]
    rw [show 256 * (256 ^ l.length * c.toNat) = 256 ^ l.length * 256 * c.toNat by rw [Nat.mul_comm (256 ^ l.length) 256, Nat.mul_assoc]]
    omega
theorem getL_putL (n k : Nat) : getL (putL n k) = n % 256 ^ k := by
  induction k with
  | zero => simp [putL, getL, Nat.mod_one]
  | succ k ih =>
    rw [putL_succ, getL_snoc, ih, putL_len, Nat.pow_succ, Nat.mod_mul]
    simp [UInt8.toNat_ofNat']

/-! ### bytes of a number, seven bits a byte -/
def varL (n : Nat) : List UInt8 := if h : n < 128 then [UInt8.ofNat n] else UInt8.ofNat (n % 128 + 128) :: varL (n / 128)
  termination_by n
  decreasing_by omega
theorem varL_lo {n : Nat} (h : n < 128) : varL n = [UInt8.ofNat n] := by rw [varL, dif_pos h]
theorem varL_hi {n : Nat} (h : 128 ≤ n) : varL n = UInt8.ofNat (n % 128 + 128) :: varL (n / 128) := by rw [varL, dif_neg (by omega)]
theorem varL_len (n : Nat) : (varL n).length = Nat.log2 n / 7 + 1 := by
  induction n using Nat.strongRecOn with
  | _ n ih =>
    by_cases h : n < 128
    · rw [varL_lo h]
      have : Nat.log2 n < 7 := by
        by_cases h0 : n = 0
        · subst h0; decide
        · exact (Nat.log2_lt h0).2 h
      simp; omega
    · rw [varL_hi (by omega)]
      have hn : n ≠ 0 := by omega
      have e := ih (n / 128) (by omega)
      have d : Nat.log2 (n / 128) + 7 = Nat.log2 n := by
        have h0 : n / 128 ≠ 0 := by omega
        have l1 := Nat.log2_self_le hn
        have l2 := Nat.lt_log2_self (n := n)
        have m1 := Nat.log2_self_le h0
        have m2 := Nat.lt_log2_self (n := n / 128)
        have p1 : 2 ^ (Nat.log2 (n / 128) + 7) ≤ n := by
          have : 2 ^ Nat.log2 (n / 128) * 2 ^ 7 = 2 ^ (Nat.log2 (n / 128) + 7) := (Nat.pow_add _ _ _).symm
          omega
        have p2 : n < 2 ^ (Nat.log2 (n / 128) + 7 + 1) := by
          have : 2 ^ (Nat.log2 (n / 128) + 1) * 2 ^ 7 = 2 ^ (Nat.log2 (n / 128) + 7 + 1) := by rw [← Nat.pow_add]
          omega
        have := (Nat.le_log2 hn).2 p1
        have := (Nat.log2_lt hn).2 p2
        omega
      simp only [List.length_cons, e]; omega
theorem varL_pos (n : Nat) : 1 ≤ (varL n).length := by rw [varL_len]; omega
theorem varL_nine {n : Nat} (h : n < 9223372036854775808) : (varL n).length ≤ 9 := by
  rw [varL_len]
  have : Nat.log2 n < 63 := by
    by_cases h0 : n = 0
    · subst h0; decide
    · exact (Nat.log2_lt h0).2 h
  omega

/-- What is read: up to f bytes, the i-th first, n so far: the number, and how many bytes. -/
def gv : Nat → Nat → Nat → List UInt8 → Option (Nat × Nat)
  | 0, _, _, _ => none
  | _ + 1, _, _, [] => none
  | f + 1, i, n, c :: l =>
    if c.toNat < 128 then (if c.toNat = 0 ∧ 0 < i then none else some (n + c.toNat * 128 ^ i, i + 1))
    else gv f (i + 1) (n + c.toNat % 128 * 128 ^ i) l
def getV (l : List UInt8) : Option (Nat × Nat) := gv 9 0 0 l

theorem gv_varL (k : Nat) : ∀ (f i n : Nat) (x : List UInt8), (varL k).length ≤ f → (0 < i → 0 < k) → gv f i n (varL k ++ x) = some (n + k * 128 ^ i, i + (varL k).length) := by
  induction k using Nat.strongRecOn with
  | _ k ih =>
    intro f i n x hf hi
    by_cases h : k < 128
    · rw [varL_lo h] at hf ⊢
      match f, hf with
      | f + 1, _ =>
        have e : (UInt8.ofNat k).toNat = k := by simp [UInt8.toNat_ofNat']; omega
        simp only [List.cons_append, List.nil_append, gv, e, if_pos h, List.length_singleton]
        rw [if_neg]
        intro ⟨a, b⟩; have := hi b; omega
    · rw [varL_hi (by omega)] at hf ⊢
      match f, hf with
      | f + 1, hf =>
        have e : (UInt8.ofNat (k % 128 + 128)).toNat = k % 128 + 128 := by simp [UInt8.toNat_ofNat']; omega
        simp only [List.cons_append, gv, e, if_neg (show ¬ (k % 128 + 128 < 128) by omega), List.length_cons]
        rw [ih (k / 128) (by omega) f (i + 1) _ x (by simpa using hf) (by omega)]
        have a : n + (k % 128 + 128) % 128 * 128 ^ i + k / 128 * 128 ^ (i + 1) = n + k * 128 ^ i := by
          have : (k % 128 + 128) % 128 = k % 128 := by omega
          rw [this, Nat.pow_succ, show k / 128 * (128 ^ i * 128) = k / 128 * 128 * 128 ^ i by rw [Nat.mul_comm (128 ^ i) 128, Nat.mul_assoc], Nat.add_assoc, ← Nat.add_mul]
          congr 2; omega
        rw [a]; congr 2; omega
theorem getV_varL {k : Nat} (h : k < 9223372036854775808) (x : List UInt8) : getV (varL k ++ x) = some (k, (varL k).length) := by
  have := gv_varL k 9 0 0 x (varL_nine h) (by omega)
  simpa [getV] using this

theorem varL_dropLast (k : Nat) : ∀ (f i n : Nat), gv f i n (varL k).dropLast = none := by
  induction k using Nat.strongRecOn with
  | _ k ih =>
    intro f i n
    by_cases h : k < 128
    · rw [varL_lo h]; cases f <;> simp [gv]
    · rw [varL_hi (by omega)]
      have hne : varL (k / 128) ≠ [] := by intro e; have := varL_pos (k / 128); rw [e] at this; simp at this
      rw [List.dropLast_cons_of_ne_nil hne]
      cases f with
      | zero => simp [gv]
      | succ f =>
        have e : (UInt8.ofNat (k % 128 + 128)).toNat = k % 128 + 128 := by simp [UInt8.toNat_ofNat']; omega
        simp only [gv, e, if_neg (show ¬ (k % 128 + 128 < 128) by omega)]
        exact ih (k / 128) (by omega) f (i + 1) _

theorem gv_bound : ∀ (l : List UInt8) (f i n m j : Nat), gv f i n l = some (m, j) → n < 128 ^ i → m < 128 ^ (i + f) ∧ i < j ∧ j ≤ i + l.length ∧ j ≤ i + f := by
  intro l
  induction l with
  | nil => intro f i n m j h; cases f <;> simp [gv] at h
  | cons c l ih =>
    intro f i n m j h hn
    cases f with
    | zero => simp [gv] at h
    | succ f =>
      simp only [gv] at h
      by_cases hc : c.toNat < 128
      · rw [if_pos hc] at h
        split at h
        · cases h
        · simp at h
          obtain ⟨rfl, rfl⟩ := h
          refine ⟨?_, by omega, by simp, by omega⟩
          have h1 : n + c.toNat * 128 ^ i < 128 ^ (i + 1) := by
            have : c.toNat * 128 ^ i ≤ 127 * 128 ^ i := Nat.mul_le_mul_right _ (by omega)
            rw [Nat.pow_succ]; omega
          exact Nat.lt_of_lt_of_le h1 (Nat.pow_le_pow_right (by decide) (by omega))
      · rw [if_neg hc] at h
        have h1 : n + c.toNat % 128 * 128 ^ i < 128 ^ (i + 1) := by
          have : c.toNat % 128 * 128 ^ i ≤ 127 * 128 ^ i := Nat.mul_le_mul_right _ (by omega)
          rw [Nat.pow_succ]; omega
        have := ih f (i + 1) _ m j h h1
        refine ⟨by rw [show i + (f + 1) = i + 1 + f by omega]; exact this.1, by omega, by simp; omega, by omega⟩
theorem getV_bound {l : List UInt8} {m j : Nat} (h : getV l = some (m, j)) : m < 9223372036854775808 ∧ 1 ≤ j ∧ j ≤ l.length ∧ j ≤ 9 := by
  have := gv_bound l 9 0 0 m j h (by decide)
  refine ⟨by simpa using this.1, by omega, by omega, by omega⟩

theorem varL_prefix {n m : Nat} (hn : n < 9223372036854775808) (hm : m < 9223372036854775808) (x : List UInt8) (h : varL m = varL n ++ x) : n = m := by
  have a := getV_varL hn x
  have b := getV_varL hm []
  rw [List.append_nil, h, a] at b
  simp at b
  exact b.1

/-! ### texts -/
def textL (s : List UInt8) : List UInt8 := varL s.length ++ s
def getT (l : List UInt8) (most : Int) : Option (List UInt8 × Nat) :=
  match getV l with
  | none => none
  | some (n, j) => if (n : Int) ≤ most ∧ j + n ≤ l.length then some ((l.drop j).take n, j + n) else none

end Go.Proofs.Ytbpddcmehjgleaa
