/- Plain mathematics of sums of 32 bits: no program in sight. -/
namespace Go.Proofs.Ytalgjoeinllllaa

abbrev W32 := BitVec 32
def poly : W32 := 0x82F63B78#32
/-- One bit goes out. -/
def stepB (c : W32) : W32 := if c.getLsbD 0 then (c >>> 1) ^^^ poly else c >>> 1
def stepN : Nat → W32 → W32
  | 0, c => c
  | n + 1, c => stepN n (stepB c)
/-- One byte goes in: Next. -/
def nextB (c : W32) (b : BitVec 8) : W32 := stepN 8 (c ^^^ b.setWidth 32)
def runB (c : W32) (l : List (BitVec 8)) : W32 := l.foldl nextB c

theorem stepB_xor (a b : W32) : stepB (a ^^^ b) = stepB a ^^^ stepB b := by
  unfold stepB
  rw [BitVec.getLsbD_xor, BitVec.ushiftRight_xor_distrib]
  cases a.getLsbD 0 <;> cases b.getLsbD 0 <;> simp
  · exact (BitVec.xor_assoc _ _ _)
  · rw [BitVec.xor_assoc, BitVec.xor_assoc, BitVec.xor_comm (b >>> 1)]
  · rw [BitVec.xor_assoc, BitVec.xor_comm (b >>> 1) poly, ← BitVec.xor_assoc poly poly, BitVec.xor_self, BitVec.zero_xor]
theorem stepB_zero : stepB 0#32 = 0#32 := by decide
theorem stepN_xor (n : Nat) : ∀ a b : W32, stepN n (a ^^^ b) = stepN n a ^^^ stepN n b := by
  induction n with
  | zero => intro a b; rfl
  | succ n ih => intro a b; simp only [stepN, stepB_xor, ih]
theorem stepN_zero (n : Nat) : stepN n 0#32 = 0#32 := by
  induction n with
  | zero => rfl
  | succ n ih => simp only [stepN, stepB_zero, ih]
theorem stepN_add (m n : Nat) : ∀ c, stepN (m + n) c = stepN n (stepN m c) := by
  induction m with
  | zero => intro c; simp [stepN]
  | succ m ih => intro c; rw [Nat.succ_add]; simp only [stepN, ih]
theorem stepB_eq_zero {c : W32} (h : stepB c = 0#32) : c = 0#32 := by
  unfold stepB at h
  cases hl : c.getLsbD 0 with
  | true =>
    rw [if_pos hl] at h
    have h31 := congrArg (fun x : W32 => x.getLsbD 31) h
    simp only [BitVec.getLsbD_xor, BitVec.getLsbD_ushiftRight, BitVec.getLsbD_zero] at h31
    have hp : poly.getLsbD 31 = true := by decide
    have hc : c.getLsbD (1 + 31) = false := BitVec.getLsbD_of_ge c _ (by decide)
    rw [hp, hc] at h31
    simp at h31
  | false =>
    rw [hl, if_neg (by simp)] at h
    apply BitVec.eq_of_getLsbD_eq
    intro i hi
    rw [BitVec.getLsbD_zero]
    cases i with
    | zero => exact hl
    | succ i =>
      have := congrArg (fun x : W32 => x.getLsbD i) h
      simp only [BitVec.getLsbD_ushiftRight, BitVec.getLsbD_zero] at this
      rw [Nat.add_comm] at this; exact this
theorem stepN_eq_zero (n : Nat) : ∀ {c : W32}, stepN n c = 0#32 → c = 0#32 := by
  induction n with
  | zero => intro c h; exact h
  | succ n ih => intro c h; exact stepB_eq_zero (ih h)
theorem xor_eq_zero {a b : W32} (h : a ^^^ b = 0#32) : a = b := by
  have := congrArg (· ^^^ b) h
  simpa [BitVec.xor_assoc] using this
theorem stepN_inj (n : Nat) {a b : W32} (h : stepN n a = stepN n b) : a = b := by
  apply xor_eq_zero
  apply stepN_eq_zero n
  rw [stepN_xor, h, BitVec.xor_self]

theorem nextB_xor (a b : W32) (x y : BitVec 8) : nextB (a ^^^ b) (x ^^^ y) = nextB a x ^^^ nextB b y := by
  unfold nextB
  rw [← stepN_xor]
  congr 1
  rw [BitVec.setWidth_xor, BitVec.xor_assoc, BitVec.xor_assoc, ← BitVec.xor_assoc b, BitVec.xor_comm b (x.setWidth 32), BitVec.xor_assoc]
theorem nextB_inj {a b : W32} {x : BitVec 8} (h : nextB a x = nextB b x) : a = b := by
  have := stepN_inj 8 h
  have := congrArg (· ^^^ x.setWidth 32) this
  simpa [BitVec.xor_assoc] using this
theorem runB_append (c : W32) (l m : List (BitVec 8)) : runB c (l ++ m) = runB (runB c l) m := by simp [runB]
/-- Rows of one length, turned into one another. -/
def xorL (l m : List (BitVec 8)) : List (BitVec 8) := List.zipWith (· ^^^ ·) l m
theorem runB_xor : ∀ (l m : List (BitVec 8)) (a b : W32), l.length = m.length → runB (a ^^^ b) (xorL l m) = runB a l ^^^ runB b m := by
  intro l
  induction l with
  | nil => intro m a b h; cases m with
    | nil => rfl
    | cons _ _ => simp at h
  | cons x l ih =>
    intro m a b h
    cases m with
    | nil => simp at h
    | cons y m =>
      show runB (nextB (a ^^^ b) (x ^^^ y)) (xorL l m) = _
      rw [nextB_xor, ih m _ _ (by simpa using h)]
      rfl
/-- n noughts. -/
def zeros (n : Nat) : List (BitVec 8) := List.replicate n 0#8
theorem runB_zeros (n : Nat) : ∀ c, runB c (zeros n) = stepN (8 * n) c := by
  induction n with
  | zero => intro c; rfl
  | succ n ih =>
    intro c
    rw [zeros, List.replicate_succ]
    show runB (nextB c 0#8) (zeros n) = _
    rw [ih, show 8 * (n + 1) = 8 + 8 * n by omega, stepN_add]
    unfold nextB
    simp
theorem xorL_zeros : ∀ l : List (BitVec 8), xorL l (zeros l.length) = l := by
  intro l
  induction l with
  | nil => rfl
  | cons x l ih =>
    rw [zeros, List.length_cons, List.replicate_succ]
    show (x ^^^ 0#8) :: xorL l (zeros l.length) = _
    rw [ih]; simp
/-- A row's sum from a start is the start gone through noughts, turned into the row's own. -/
theorem runB_split (c : W32) (l : List (BitVec 8)) : runB c l = stepN (8 * l.length) c ^^^ runB 0#32 l := by
  have := runB_xor (zeros l.length) l c 0#32 (by simp [zeros])
  rw [BitVec.xor_zero, runB_zeros] at this
  rw [← this]
  congr 1
  have h : ∀ m : List (BitVec 8), xorL (zeros m.length) m = m := by
    intro m
    induction m with
    | nil => rfl
    | cons x m ih =>
      rw [zeros, List.length_cons, List.replicate_succ]
      show (0#8 ^^^ x) :: xorL (zeros m.length) m = _
      rw [ih]; simp
  exact (h l).symm
def ones : W32 := 0xFFFFFFFF#32
def ofB (l : List (BitVec 8)) : W32 := runB ones l ^^^ ones
/-- Join of sums is the sum of the joined. -/
theorem join_eq (l m : List (BitVec 8)) : ofB (l ++ m) = stepN (8 * m.length) (ofB l) ^^^ ofB m := by
  unfold ofB
  rw [runB_append, runB_split (runB ones l) m, runB_split ones m, stepN_xor]
  generalize stepN (8 * m.length) (runB ones l) = x
  generalize stepN (8 * m.length) ones = y
  generalize runB 0#32 m = z
  rw [BitVec.xor_assoc x y, ← BitVec.xor_assoc y, ← BitVec.xor_assoc y y, BitVec.xor_self, BitVec.zero_xor, BitVec.xor_assoc]
theorem ofB_nil : ofB [] = 0#32 := by decide

/-! ### bits turned side by side -/
/-- Bits that stand higher than the steps that are done only move down. -/
theorem stepN_high (m : Nat) : ∀ e : W32, (∀ i, i < m → e.getLsbD i = false) → stepN m e = e >>> m := by
  induction m with
  | zero => intro e _; simp [stepN]
  | succ m ih =>
    intro e h
    have h0 := h 0 (by omega)
    have h1 : stepB e = e >>> 1 := by unfold stepB; rw [h0]; rfl
    simp only [stepN, h1]
    rw [ih (e >>> 1) (fun i hi => by
      rw [BitVec.getLsbD_ushiftRight]
      exact h (1 + i) (by omega))]
    rw [← BitVec.shiftRight_add]
    congr 1; omega
/-- The bits of a number below m. -/
def lowB (m : Nat) (e : W32) : W32 := e &&& (BitVec.ofNat 32 (2 ^ m - 1))
/-- What m bits come to when they go in one by one, from nothing. -/
def feed : Nat → W32 → W32 → W32
  | 0, c, _ => c
  | m + 1, c, e => feed m (stepB (c ^^^ (if e.getLsbD 0 then 1#32 else 0#32))) (e >>> 1)
theorem feed_eq (m : Nat) : ∀ c e : W32, feed m c e = stepN m (c ^^^ e) ^^^ (e >>> m) := by
  induction m with
  | zero => intro c e; simp [feed, stepN, BitVec.xor_assoc]
  | succ m ih =>
    intro c e
    simp only [feed, ih, stepN]
    have key : stepB (c ^^^ (if e.getLsbD 0 then 1#32 else 0#32)) ^^^ (e >>> 1) = stepB (c ^^^ e) := by
      have h1 : e >>> 1 = stepB (e ^^^ (if e.getLsbD 0 then 1#32 else 0#32)) := by
        have hz : (e ^^^ (if e.getLsbD 0 then 1#32 else 0#32)).getLsbD 0 = false := by
          rw [BitVec.getLsbD_xor]
          cases e.getLsbD 0 <;> decide
        have := stepN_high 1 (e ^^^ (if e.getLsbD 0 then 1#32 else 0#32)) (fun i hi => by
          obtain rfl : i = 0 := by omega
          exact hz)
        simp only [stepN] at this
        rw [this, BitVec.ushiftRight_xor_distrib]
        cases e.getLsbD 0 <;> simp
      rw [h1, ← stepB_xor]
      congr 1
      rw [BitVec.xor_assoc, BitVec.xor_comm e, ← BitVec.xor_assoc (if e.getLsbD 0 then 1#32 else 0#32), BitVec.xor_self, BitVec.zero_xor]
    rw [← BitVec.shiftRight_add, show 1 + m = m + 1 by omega, key]
/-- Up to 32 bits that go in tell themselves: what they leave is what of them has not gone in yet only if there are none. -/
theorem feed_tells {m : Nat} {e : W32} (h : feed m 0#32 e = e >>> m) : e = 0#32 := by
  rw [feed_eq, BitVec.zero_xor] at h
  apply stepN_eq_zero m
  have := congrArg (· ^^^ (e >>> m)) h
  simpa [BitVec.xor_assoc] using this
end Go.Proofs.Ytalgjoeinllllaa
