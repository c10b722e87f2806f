/- Bits turned side by side: no program in sight. -/
import Derived.Test.YtalgjoeinllllaaCrc
namespace Go.Proofs.Ytalgjoeinllllaa
set_option linter.unusedVariables false

/-! ### a run bit by bit -/
/-- The state, from nothing, when the first p bits have gone in. -/
def fb (f : Nat → Bool) : Nat → W32
  | 0 => 0#32
  | p + 1 => stepB (fb f p ^^^ (if f p then 1#32 else 0#32))
theorem feed_fb (f : Nat → Bool) (n : Nat) : ∀ (p : Nat) (e : W32), (∀ i, i < n → e.getLsbD i = f (p + i)) → feed n (fb f p) e = fb f (p + n) := by
  induction n with
  | zero => intro p e _; rfl
  | succ n ih =>
    intro p e h
    have h0 := h 0 (by omega)
    show feed n (stepB (fb f p ^^^ (if e.getLsbD 0 then 1#32 else 0#32))) (e >>> 1) = _
    rw [h0]
    show feed n (fb f (p + 1)) (e >>> 1) = _
    rw [ih (p + 1) (e >>> 1) (fun i hi => by
      rw [BitVec.getLsbD_ushiftRight, h (1 + i) (by omega)]
      congr 1; omega)]
    congr 1; omega
theorem fb_none (f : Nat → Bool) (k : Nat) (h : ∀ p, p < k → f p = false) : fb f k = 0#32 := by
  induction k with
  | zero => rfl
  | succ k ih =>
    show stepB (fb f k ^^^ (if f k then 1#32 else 0#32)) = 0#32
    rw [ih (fun p hp => h p (by omega)), h k (by omega)]
    decide
theorem fb_past (f : Nat → Bool) (q : Nat) (n : Nat) : (∀ i, i < n → f (q + i) = false) → fb f (q + n) = stepN n (fb f q) := by
  induction n with
  | zero => intro _; rfl
  | succ n ih =>
    intro h
    show stepB (fb f (q + n) ^^^ (if f (q + n) then 1#32 else 0#32)) = _
    rw [h n (by omega), ih (fun i hi => h i (by omega)), stepN_add n 1]
    simp [stepN]
/-- Bit p of a row, each byte's lowest first. -/
def bitAt (l : List (BitVec 8)) (p : Nat) : Bool := ((l[p / 8]?).getD 0#8).getLsbD (p % 8)
theorem next_feed (c : W32) (b : BitVec 8) : nextB c b = feed 8 c (b.setWidth 32) := by
  rw [feed_eq]
  have : b.setWidth 32 >>> 8 = 0#32 := by
    apply BitVec.eq_of_getLsbD_eq
    intro i hi
    rw [BitVec.getLsbD_ushiftRight, BitVec.getLsbD_setWidth, BitVec.getLsbD_zero]
    rw [BitVec.getLsbD_of_ge b (8 + i) (by omega)]; simp
  rw [this, BitVec.xor_zero]; rfl
theorem run_fb (E : List (BitVec 8)) : ∀ j, j ≤ E.length → runB 0#32 (E.take j) = fb (bitAt E) (8 * j) := by
  intro j
  induction j with
  | zero => intro _; rfl
  | succ j ih =>
    intro h
    rw [List.take_succ_eq_append_getElem (by omega), runB_append, ih (by omega)]
    show nextB (fb (bitAt E) (8 * j)) E[j] = _
    rw [next_feed, feed_fb (bitAt E) 8 (8 * j) _ (fun i hi => by
      unfold bitAt
      rw [show (8 * j + i) / 8 = j by omega, show (8 * j + i) % 8 = i by omega, List.getElem?_eq_getElem (by omega), Option.getD_some, BitVec.getLsbD_setWidth]
      simp; omega)]
    congr 1
theorem lowB_bit (n : Nat) (t : W32) (i : Nat) (hi : i < 32) : (lowB n t).getLsbD i = (decide (i < n) && t.getLsbD i) := by
  unfold lowB
  rw [BitVec.getLsbD_and, BitVec.getLsbD_ofNat, Nat.testBit_two_pow_sub_one]
  simp [hi, Bool.and_comm]
/-- A row from which nothing is left, all of whose bits lie within 32 side by side, has none. -/
theorem burst_none (E : List (BitVec 8)) (k : Nat) (t : W32) (hk : k < 8 * E.length)
    (hb : ∀ p, p < 8 * E.length → bitAt E p = (decide (k ≤ p ∧ p < k + 32) && t.getLsbD (p - k))) (h0 : runB 0#32 E = 0#32) :
    ∀ i, i < 32 → k + i < 8 * E.length → t.getLsbD i = false := by
  have h1 := run_fb E E.length (Nat.le_refl _)
  rw [List.take_length, h0] at h1
  obtain ⟨n, hn⟩ : ∃ n, n = min 32 (8 * E.length - k) := ⟨_, rfl⟩
  have h2 := fb_past (bitAt E) (k + n) (8 * E.length - (k + n)) (fun i hi => by
    rw [hb _ (by omega)]
    have : ¬ (k ≤ k + n + i ∧ k + n + i < k + 32) := by omega
    simp [this])
  rw [show k + n + (8 * E.length - (k + n)) = 8 * E.length by omega, ← h1] at h2
  have h3 := stepN_eq_zero _ h2.symm
  have h4 := fb_none (bitAt E) k (fun p hp => by
    rw [hb p (by omega)]
    have : ¬ (k ≤ p ∧ p < k + 32) := by omega
    simp [this])
  have h5 := feed_fb (bitAt E) n k (lowB n t) (fun i hi => by
    rw [lowB_bit n t i (by omega), hb _ (by omega), show k + i - k = i by omega]
    have a : (i < n) := hi
    have b : k ≤ k + i ∧ k + i < k + 32 := by omega
    simp [a]; omega)
  rw [h4, h3] at h5
  have h6 : lowB n t >>> n = 0#32 := by
    apply BitVec.eq_of_getLsbD_eq
    intro i hi
    rw [BitVec.getLsbD_ushiftRight, BitVec.getLsbD_zero]
    by_cases c : n + i < 32
    · rw [lowB_bit n t _ c]; simp; intro h; omega
    · exact BitVec.getLsbD_of_ge _ _ (by omega)
  have h7 : lowB n t = 0#32 := feed_tells (m := n) (by rw [h5, h6])
  intro i hi hki
  have h8 := congrArg (fun x : W32 => x.getLsbD i) h7
  simp only [BitVec.getLsbD_zero] at h8
  rw [lowB_bit n t i hi] at h8
  have : i < n := by omega
  simpa [this] using h8

/-! ### two rows of which one is the other's, bits turned -/
theorem bitAt_xor {l m : List (BitVec 8)} (h : l.length = m.length) {p : Nat} (hp : p < 8 * l.length) : bitAt (xorL l m) p = Bool.xor (bitAt l p) (bitAt m p) := by
  unfold bitAt xorL
  have h1 : p / 8 < l.length := by omega
  have h2 : p / 8 < m.length := by omega
  rw [List.getElem?_zipWith, List.getElem?_eq_getElem h1, List.getElem?_eq_getElem h2]
  simp
theorem burst {S F : List (BitVec 8)} {k : Nat} {t : W32} (hl : F.length = S.length) (hk : k < 8 * S.length)
    (hb : ∀ p, p < 8 * S.length → bitAt F p = Bool.xor (bitAt S p) (decide (k ≤ p ∧ p < k + 32) && t.getLsbD (p - k))) (hr : runB ones F = runB ones S) :
    ∀ i, i < 32 → k + i < 8 * S.length → t.getLsbD i = false := by
  have hx : (xorL F S).length = S.length := by simp [xorL, hl]
  have h := burst_none (xorL F S) k t (by rw [hx]; exact hk) (fun p hp => by
    rw [hx] at hp
    rw [bitAt_xor hl (by rw [hl]; exact hp), hb p hp]
    cases bitAt S p <;> cases (decide (k ≤ p ∧ p < k + 32) && t.getLsbD (p - k)) <;> rfl) (by
    have := runB_xor F S ones ones hl
    rw [BitVec.xor_self] at this
    rw [this, hr, BitVec.xor_self])
  rw [hx] at h
  exact h

/-! ### what a sealed row leaves -/
theorem ofNat_join (x g : Nat) (hx : x < 256) (hg : g < 16777216) : BitVec.ofNat 32 (x + 256 * g) = BitVec.ofNat 32 x ^^^ (BitVec.ofNat 32 g <<< 8) := by
  apply BitVec.eq_of_getLsbD_eq
  intro i hi
  rw [BitVec.getLsbD_xor, BitVec.getLsbD_shiftLeft, BitVec.getLsbD_ofNat, BitVec.getLsbD_ofNat, BitVec.getLsbD_ofNat]
  have := Nat.testBit_two_pow_mul_add g (b := x) (i := 8) (by omega) i
  rw [show 2 ^ 8 * g + x = x + 256 * g by omega] at this
  rw [this]
  by_cases c : i < 8
  · simp [c, hi]
  · have hx0 : x.testBit i = false := Nat.testBit_lt_two_pow (Nat.lt_of_lt_of_le hx (by
      have : 2 ^ 8 ≤ 2 ^ i := Nat.pow_le_pow_right (by decide) (by omega)
      simpa using this))
    simp [c, hi, hx0]; omega
theorem step_shift (g : Nat) (hg : g < 16777216) : stepN 8 (BitVec.ofNat 32 g <<< 8) = BitVec.ofNat 32 g := by
  rw [stepN_high 8 _ (fun i hi => by rw [BitVec.getLsbD_shiftLeft]; simp [hi])]
  apply BitVec.eq_of_toNat_eq
  rw [BitVec.toNat_ushiftRight, BitVec.toNat_shiftLeft, BitVec.toNat_ofNat, Nat.shiftLeft_eq, Nat.shiftRight_eq_div_pow]
  omega
theorem run_num : ∀ (l : List UInt8) (c : W32), l.length ≤ 4 → runB c (bv l) = stepN (8 * l.length) (c ^^^ BitVec.ofNat 32 (getL l)) := by
  intro l
  induction l with
  | nil => intro c _; simp [bv, runB, getL, stepN]
  | cons x l ih =>
    intro c h
    have hl : l.length ≤ 3 := by simpa using h
    have hg : getL l < 16777216 := by
      have := getL_lt l
      have h3 : 256 ^ l.length ≤ 256 ^ 3 := Nat.pow_le_pow_right (by decide) hl
      have : (256 : Nat) ^ 3 = 16777216 := by decide
      omega
    show runB (nextB c x.toBitVec) (bv l) = _
    rw [ih _ (by omega), List.length_cons, show 8 * (l.length + 1) = 8 + 8 * l.length by omega, stepN_add]
    congr 1
    rw [getL, ofNat_join _ _ x.toNat_lt hg, ← BitVec.xor_assoc, stepN_xor, step_shift _ hg]
    congr 1
    unfold nextB
    congr 2
    apply BitVec.eq_of_toNat_eq
    rw [BitVec.toNat_setWidth, BitVec.toNat_ofNat]; rfl
/-- A row whose last four bytes are the sum of what is ahead leaves one state, whatever it is. -/
theorem open_run {F : List UInt8} {m : Nat} (hF : F.length = m + 4) (h : getL (F.drop m) = (crcL (F.take m)).toNat) : runB ones (bv F) = stepN 32 ones := by
  have e : F = F.take m ++ F.drop m := (List.take_append_drop m F).symm
  have h4 : (F.drop m).length = 4 := by simp; omega
  rw [e, bv_append, runB_append, run_num (F.drop m) _ (by omega), h4, h]
  congr 1
  have : BitVec.ofNat 32 (crcL (F.take m)).toNat = crcL (F.take m) := by simp
  rw [this]
  show runB ones (bv (F.take m)) ^^^ (runB ones (bv (F.take m)) ^^^ ones) = ones
  rw [← BitVec.xor_assoc, BitVec.xor_self, BitVec.zero_xor]
theorem seal_sum (l : List UInt8) : getL ((sealL l).drop l.length) = (crcL ((sealL l).take l.length)).toNat := by
  unfold sealL
  rw [List.drop_left, List.take_left, getL_putL]
  have := (crcL l).isLt
  exact Nat.mod_eq_of_lt (by omega)
theorem open_seal (l : List UInt8) : openL (sealL l) = some l := by
  rw [open_yes (k := l.length) (sealL_len l) (seal_sum l)]
  unfold sealL; rw [List.take_left]
/-- What is opened of a sealed row with bits turned, all within 32 side by side: nothing, if one is turned. -/
theorem turned_none {l F : List UInt8} {k : Nat} {t : W32} (hF : F.length = l.length + 4) (hk : k < 8 * (l.length + 4))
    (hb : ∀ p, p < 8 * (l.length + 4) → bitAt (bv F) p = Bool.xor (bitAt (bv (sealL l)) p) (decide (k ≤ p ∧ p < k + 32) && t.getLsbD (p - k)))
    {i : Nat} (hi : i < 32) (hki : k + i < 8 * (l.length + 4)) (ht : t.getLsbD i = true) : openL F = none := by
  apply open_not hF
  intro h
  have h1 := open_run hF h
  have h2 := open_run (sealL_len l) (seal_sum l)
  have hlen : (bv (sealL l)).length = l.length + 4 := by rw [bv_len, sealL_len]
  have := burst (S := bv (sealL l)) (F := bv F) (k := k) (t := t) (by rw [bv_len, hlen]; exact hF) (by rw [hlen]; exact hk) (by rw [hlen]; exact hb) (h1.trans h2.symm) i hi (by rw [hlen]; exact hki)
  rw [this] at ht; cases ht
end Go.Proofs.Ytalgjoeinllllaa
