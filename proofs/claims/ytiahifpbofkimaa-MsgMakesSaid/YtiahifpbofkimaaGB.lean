/- Bits turned side by side: no program in sight. | Frames: what a frame is, what is taken of bytes; no program in sight. | Records of an image: which may be, their bytes, what is seen of them; no program in sight. | Messages: which may be, their bytes, what bytes are; no program in sight. -/
import Derived.Test.YtiahifpbofkimaaCrc
import Derived.Test.YtiahifpbofkimaaGA
namespace Go.Proofs.Ytiahifpbofkimaa
set_option linter.unusedVariables false

/-! ### a run bit by bit -/
/-- The state, from nothing, when the first p bits have gone in. -/
def fb (f : Nat → Bool) : Nat → W32
  | 0 => 0#32
  | p + 1 => stepB (fb f p ^^^ (if f p then 1#32 else 0#32))
theorem feed_fb (f : Nat → Bool) (n : Nat) : ∀ (p : Nat) (e : W32), (∀ i, i < n → e.getLsbD i = f (p + i)) → feed n (fb f p) e = fb f (p + n) := by
  induction n with
  | zero => intro p e _; rfl
  | succ n ih =>
    intro p e h
    have h0 := h 0 (by omega)
    show feed n (stepB (fb f p ^^^ (if e.getLsbD 0 then 1#32 else 0#32))) (e >>> 1) = _
    rw [h0]
    show feed n (fb f (p + 1)) (e >>> 1) = _
    rw [ih (p + 1) (e >>> 1) (fun i hi => by
      rw [BitVec.getLsbD_ushiftRight, h (1 + i) (by omega)]
      congr 1; omega)]
    congr 1; omega
theorem fb_none (f : Nat → Bool) (k : Nat) (h : ∀ p, p < k → f p = false) : fb f k = 0#32 := by
  induction k with
  | zero => rfl
  | succ k ih =>
    show stepB (fb f k ^^^ (if f k then 1#32 else 0#32)) = 0#32
    rw [ih (fun p hp => h p (by omega)), h k (by omega)]
    decide
theorem fb_past (f : Nat → Bool) (q : Nat) (n : Nat) : (∀ i, i < n → f (q + i) = false) → fb f (q + n) = stepN n (fb f q) := by
  induction n with
  | zero => intro _; rfl
  | succ n ih =>
    intro h
    show stepB (fb f (q + n) ^^^ (if f (q + n) then 1#32 else 0#32)) = _
    rw [h n (by omega), ih (fun i hi => h i (by omega)), stepN_add n 1]
    simp [stepN]
/-- Bit p of a row, each byte's lowest first. -/
def bitAt (l : List (BitVec 8)) (p : Nat) : Bool := ((l[p / 8]?).getD 0#8).getLsbD (p % 8)
theorem next_feed (c : W32) (b : BitVec 8) : nextB c b = feed 8 c (b.setWidth 32) := by
  rw [feed_eq]
  have : b.setWidth 32 >>> 8 = 0#32 := by
    apply BitVec.eq_of_getLsbD_eq
    intro i hi
    rw [BitVec.getLsbD_ushiftRight, BitVec.getLsbD_setWidth, BitVec.getLsbD_zero]
    rw [BitVec.getLsbD_of_ge b (8 + i) (by omega)]; simp
  rw [this, BitVec.xor_zero]; rfl
theorem run_fb (E : List (BitVec 8)) : ∀ j, j ≤ E.length → runB 0#32 (E.take j) = fb (bitAt E) (8 * j) := by
  intro j
  induction j with
  | zero => intro _; rfl
  | succ j ih =>
    intro h
    rw [List.take_succ_eq_append_getElem (by omega), runB_append, ih (by omega)]
    show nextB (fb (bitAt E) (8 * j)) E[j] = _
    rw [next_feed, feed_fb (bitAt E) 8 (8 * j) _ (fun i hi => by
      unfold bitAt
      rw [show (8 * j + i) / 8 = j by omega, show (8 * j + i) % 8 = i by omega, List.getElem?_eq_getElem (by omega), Option.getD_some, BitVec.getLsbD_setWidth]
      simp; omega)]
    congr 1
theorem lowB_bit (n : Nat) (t : W32) (i : Nat) (hi : i < 32) : (lowB n t).getLsbD i = (decide (i < n) && t.getLsbD i) := by
  unfold lowB
  rw [BitVec.getLsbD_and, BitVec.getLsbD_ofNat, Nat.testBit_two_pow_sub_one]
  simp [hi, Bool.and_comm]
/-- A row from which nothing is left, all of whose bits lie within 32 side by side, has none. -/
theorem burst_none (E : List (BitVec 8)) (k : Nat) (t : W32) (hk : k < 8 * E.length)
    (hb : ∀ p, p < 8 * E.length → bitAt E p = (decide (k ≤ p ∧ p < k + 32) && t.getLsbD (p - k))) (h0 : runB 0#32 E = 0#32) :
    ∀ i, i < 32 → k + i < 8 * E.length → t.getLsbD i = false := by
  have h1 := run_fb E E.length (Nat.le_refl _)
  rw [List.take_length, h0] at h1
  obtain ⟨n, hn⟩ : ∃ n, n = min 32 (8 * E.length - k) := ⟨_, rfl⟩
  have h2 := fb_past (bitAt E) (k + n) (8 * E.length - (k + n)) (fun i hi => by
    rw [hb _ (by omega)]
    have : ¬ (k ≤ k + n + i ∧ k + n + i < k + 32) := by omega
    simp [this])
  rw [show k + n + (8 * E.length - (k + n)) = 8 * E.length by omega, ← h1] at h2
  have h3 := stepN_eq_zero _ h2.symm
  have h4 := fb_none (bitAt E) k (fun p hp => by
    rw [hb p (by omega)]
    have : ¬ (k ≤ p ∧ p < k + 32) := by omega
    simp [this])
  have h5 := feed_fb (bitAt E) n k (lowB n t) (fun i hi => by
    rw [lowB_bit n t i (by omega), hb _ (by omega), show k + i - k = i by omega]
    have a : (i < n) := hi
    have b : k ≤ k + i ∧ k + i < k + 32 := by omega
    simp [a]; omega)
  rw [h4, h3] at h5
  have h6 : lowB n t >>> n = 0#32 := by
    apply BitVec.eq_of_getLsbD_eq
    intro i hi
    rw [BitVec.getLsbD_ushiftRight, BitVec.getLsbD_zero]
    by_cases c : n + i < 32
    · rw [lowB_bit n t _ c]; simp; intro h; omega
    · exact BitVec.getLsbD_of_ge _ _ (by omega)
  have h7 : lowB n t = 0#32 := feed_tells (m := n) (by rw [h5, h6])
  intro i hi hki
  have h8 := congrArg (fun x : W32 => x.getLsbD i) h7
  simp only [BitVec.getLsbD_zero] at h8
  rw [lowB_bit n t i hi] at h8
  have : i < n := by omega
  simpa [this] using h8

/-! ### two rows of which one is the other's, bits turned -/
theorem bitAt_xor {l m : List (BitVec 8)} (h : l.length = m.length) {p : Nat} (hp : p < 8 * l.length) : bitAt (xorL l m) p = Bool.xor (bitAt l p) (bitAt m p) := by
  unfold bitAt xorL
  have h1 : p / 8 < l.length := by omega
  have h2 : p / 8 < m.length := by omega
  rw [List.getElem?_zipWith, List.getElem?_eq_getElem h1, List.getElem?_eq_getElem h2]
  simp
theorem burst {S F : List (BitVec 8)} {k : Nat} {t : W32} (hl : F.length = S.length) (hk : k < 8 * S.length)
    (hb : ∀ p, p < 8 * S.length → bitAt F p = Bool.xor (bitAt S p) (decide (k ≤ p ∧ p < k + 32) && t.getLsbD (p - k))) (hr : runB ones F = runB ones S) :
    ∀ i, i < 32 → k + i < 8 * S.length → t.getLsbD i = false := by
  have hx : (xorL F S).length = S.length := by simp [xorL, hl]
  have h := burst_none (xorL F S) k t (by rw [hx]; exact hk) (fun p hp => by
    rw [hx] at hp
    rw [bitAt_xor hl (by rw [hl]; exact hp), hb p hp]
    cases bitAt S p <;> cases (decide (k ≤ p ∧ p < k + 32) && t.getLsbD (p - k)) <;> rfl) (by
    have := runB_xor F S ones ones hl
    rw [BitVec.xor_self] at this
    rw [this, hr, BitVec.xor_self])
  rw [hx] at h
  exact h

/-! ### what a sealed row leaves -/
theorem ofNat_join (x g : Nat) (hx : x < 256) (hg : g < 16777216) : BitVec.ofNat 32 (x + 256 * g) = BitVec.ofNat 32 x ^^^ (BitVec.ofNat 32 g <<< 8) := by
  apply BitVec.eq_of_getLsbD_eq
  intro i hi
  rw [BitVec.getLsbD_xor, BitVec.getLsbD_shiftLeft, BitVec.getLsbD_ofNat, BitVec.getLsbD_ofNat, BitVec.getLsbD_ofNat]
  have := Nat.testBit_two_pow_mul_add g (b := x) (i := 8) (by omega) i
  rw [show 2 ^ 8 * g + x = x + 256 * g by omega] at this
  rw [this]
  by_cases c : i < 8
  · simp [c, hi]
  · have hx0 : x.testBit i = false := Nat.testBit_lt_two_pow (Nat.lt_of_lt_of_le hx (by
      have : 2 ^ 8 ≤ 2 ^ i := Nat.pow_le_pow_right (by decide) (by omega)
      simpa using this))
    simp [c, hi, hx0]; omega
theorem step_shift (g : Nat) (hg : g < 16777216) : stepN 8 (BitVec.ofNat 32 g <<< 8) = BitVec.ofNat 32 g := by
  rw [stepN_high 8 _ (fun i hi => by rw [BitVec.getLsbD_shiftLeft]; simp [hi])]
  apply BitVec.eq_of_toNat_eq
  rw [BitVec.toNat_ushiftRight, BitVec.toNat_shiftLeft, BitVec.toNat_ofNat, Nat.shiftLeft_eq, Nat.shiftRight_eq_div_pow]
  omega
theorem run_num : ∀ (l : List UInt8) (c : W32), l.length ≤ 4 → runB c (bv l) = stepN (8 * l.length) (c ^^^ BitVec.ofNat 32 (getL l)) := by
  intro l
  induction l with
  | nil => intro c _; simp [bv, runB, getL, stepN]
  | cons x l ih =>
    intro c h
    have hl : l.length ≤ 3 := by simpa using h
    have hg : getL l < 16777216 := by
      have := getL_lt l
      have h3 : 256 ^ l.length ≤ 256 ^ 3 := Nat.pow_le_pow_right (by decide) hl
      have : (256 : Nat) ^ 3 = 16777216 := by decide
      omega
    show runB (nextB c x.toBitVec) (bv l) = _
    rw [ih _ (by omega), List.length_cons, show 8 * (l.length + 1) = 8 + 8 * l.length by omega, stepN_add]
    congr 1
    rw [getL, ofNat_join _ _ x.toNat_lt hg, ← BitVec.xor_assoc, stepN_xor, step_shift _ hg]
    congr 1
    unfold nextB
    congr 2
    apply BitVec.eq_of_toNat_eq
    rw [BitVec.toNat_setWidth, BitVec.toNat_ofNat]; rfl
/-- A row whose last four bytes are the sum of what is ahead leaves one state, whatever it is. -/
theorem open_run {F : List UInt8} {m : Nat} (hF : F.length = m + 4) (h : getL (F.drop m) = (crcL (F.take m)).toNat) : runB ones (bv F) = stepN 32 ones := by
  have e : F = F.take m ++ F.drop m := (List.take_append_drop m F).symm
  have h4 : (F.drop m).length = 4 := by simp; omega
  rw [e, bv_append, runB_append, run_num (F.drop m) _ (by omega), h4, h]
  congr 1
  have : BitVec.ofNat 32 (crcL (F.take m)).toNat = crcL (F.take m) := by simp
  rw [this]
  show runB ones (bv (F.take m)) ^^^ (runB ones (bv (F.take m)) ^^^ ones) = ones
  rw [← BitVec.xor_assoc, BitVec.xor_self, BitVec.zero_xor]
theorem seal_sum (l : List UInt8) : getL ((sealL l).drop l.length) = (crcL ((sealL l).take l.length)).toNat := by
  unfold sealL
  rw [List.drop_left, List.take_left, getL_putL]
  have := (crcL l).isLt
  exact Nat.mod_eq_of_lt (by omega)
theorem open_seal (l : List UInt8) : openL (sealL l) = some l := by
  rw [open_yes (k := l.length) (sealL_len l) (seal_sum l)]
  unfold sealL; rw [List.take_left]
/-- What is opened of a sealed row with bits turned, all within 32 side by side: nothing, if one is turned. -/
theorem turned_none {l F : List UInt8} {k : Nat} {t : W32} (hF : F.length = l.length + 4) (hk : k < 8 * (l.length + 4))
    (hb : ∀ p, p < 8 * (l.length + 4) → bitAt (bv F) p = Bool.xor (bitAt (bv (sealL l)) p) (decide (k ≤ p ∧ p < k + 32) && t.getLsbD (p - k)))
    {i : Nat} (hi : i < 32) (hki : k + i < 8 * (l.length + 4)) (ht : t.getLsbD i = true) : openL F = none := by
  apply open_not hF
  intro h
  have h1 := open_run hF h
  have h2 := open_run (sealL_len l) (seal_sum l)
  have hlen : (bv (sealL l)).length = l.length + 4 := by rw [bv_len, sealL_len]
  have := burst (S := bv (sealL l)) (F := bv F) (k := k) (t := t) (by rw [bv_len, hlen]; exact hF) (by rw [hlen]; exact hk) (by rw [hlen]; exact hb) (h1.trans h2.symm) i hi (by rw [hlen]; exact hki)
  rw [this] at ht; cases ht
end Go.Proofs.Ytiahifpbofkimaa
namespace Go.Proofs.Ytiahifpbofkimaa
set_option linter.unusedVariables false

structure En where
  tag : Int
  seq : Int
  data : List UInt8
def noE : En := ⟨0, 0, []⟩

def rightE (t s : Int) (n : Nat) : Bool := decide (1 ≤ t ∧ t ≤ 1073741824 ∧ 1 ≤ s ∧ s ≤ 1099511627776 ∧ 1 ≤ n ∧ n ≤ 90)
def En.right (e : En) : Bool := rightE e.tag e.seq e.data.length
theorem rightE_iff {t s : Int} {n : Nat} : rightE t s n = true ↔ 1 ≤ t ∧ t ≤ 1073741824 ∧ 1 ≤ s ∧ s ≤ 1099511627776 ∧ 1 ≤ n ∧ n ≤ 90 := by unfold rightE; exact decide_eq_true_iff
theorem rightE_not {t s : Int} {n : Nat} (h : rightE t s n = false) : ¬ (1 ≤ t ∧ t ≤ 1073741824 ∧ 1 ≤ s ∧ s ≤ 1099511627776 ∧ 1 ≤ n ∧ n ≤ 90) := by
  intro c; rw [rightE_iff.2 c] at h; cases h

def hgje : List UInt8 := [72, 71, 74, 69]
/-- A frame's bytes ahead of Data. -/
def headL (t s n : Nat) : List UInt8 := ((hgje ++ putL t 4) ++ putL s 8) ++ putL n 2
theorem headL_len (t s n : Nat) : (headL t s n).length = 18 := by simp [headL, hgje, putL_len]
def En.head (e : En) : List UInt8 := headL e.tag.toNat e.seq.toNat e.data.length
def layL (e : En) : List UInt8 := sealL (e.head ++ e.data)
theorem layL_len (e : En) : (layL e).length = e.data.length + 22 := by
  unfold layL En.head; rw [sealL_len, List.length_append, headL_len]; omega
def layA (e : En) : List UInt8 × Int := if e.right then (layL e, 0) else ([], 1)
theorem layA_yes {e : En} (h : e.right = true) : layA e = (layL e, 0) := by unfold layA; rw [if_pos h]
theorem layA_no {e : En} (h : e.right = false) : layA e = ([], 1) := by unfold layA; rw [if_neg (by rw [h]; simp)]

/-- The number of k bytes at o. -/
def fieldL (m : List UInt8) (o k : Nat) : Nat := getL ((m.drop o).take k)
theorem fieldL_lt (m : List UInt8) (o k : Nat) : fieldL m o k < 256 ^ k := by
  unfold fieldL
  have h := getL_lt ((m.drop o).take k)
  have h2 : ((m.drop o).take k).length ≤ k := by simp; omega
  exact Nat.lt_of_lt_of_le h (Nat.pow_le_pow_right (by decide) h2)
theorem fieldL_mid (a b c : List UInt8) (o k : Nat) (ha : a.length = o) (hb : b.length = k) : fieldL (a ++ (b ++ c)) o k = getL b := by
  unfold fieldL; subst ha hb; rw [List.drop_left, List.take_left]
def begunA (m : List UInt8) : Option (Nat × Nat × Nat) :=
  if 22 ≤ m.length ∧ fieldL m 0 4 = 1162495816 ∧ rightE (fieldL m 4 4) (fieldL m 8 8) (fieldL m 16 2) = true ∧ fieldL m 16 2 + 22 ≤ m.length then some (fieldL m 4 4, fieldL m 8 8, fieldL m 16 2) else none
theorem begunA_none {m : List UInt8} (h : ¬ (22 ≤ m.length ∧ fieldL m 0 4 = 1162495816 ∧ rightE (fieldL m 4 4) (fieldL m 8 8) (fieldL m 16 2) = true ∧ fieldL m 16 2 + 22 ≤ m.length)) : begunA m = none := by unfold begunA; rw [if_neg h]
theorem begunA_some {m : List UInt8} {t s n : Nat} (h : begunA m = some (t, s, n)) : 22 ≤ m.length ∧ fieldL m 0 4 = 1162495816 ∧ rightE t s n = true ∧ n + 22 ≤ m.length ∧ fieldL m 4 4 = t ∧ fieldL m 8 8 = s ∧ fieldL m 16 2 = n := by
  unfold begunA at h
  split at h
  · rename_i c
    simp only [Option.some.injEq, Prod.mk.injEq] at h
    obtain ⟨rfl, rfl, rfl⟩ := h
    exact ⟨c.1, c.2.1, c.2.2.1, c.2.2.2, rfl, rfl, rfl⟩
  · cases h
/-- What is taken at the beginning of m: the entry, how many bytes, why not. -/
def takeM (m : List UInt8) : En × Nat × Int :=
  if m.length = 0 then (noE, 0, 4) else match begunA m with
    | none => (noE, 0, 2)
    | some (t, s, n) => match openL (m.take (n + 22)) with
      | none => (noE, 0, 13)
      | some b => (⟨t, s, b.drop 18⟩, n + 22, 0)
def takeA (l : List UInt8) (p : Int) : En × Int × Int :=
  if p < 0 ∨ (l.length : Int) < p then (noE, 0, 3) else ((takeM (l.drop p.toNat)).1, if (takeM (l.drop p.toNat)).2.2 = 0 then p + (takeM (l.drop p.toNat)).2.1 else 0, (takeM (l.drop p.toNat)).2.2)
theorem takeA_out {l : List UInt8} {p : Int} (h : p < 0 ∨ (l.length : Int) < p) : takeA l p = (noE, 0, 3) := by unfold takeA; rw [if_pos h]
theorem takeA_in {l : List UInt8} {p : Nat} (h : p ≤ l.length) : takeA l p = ((takeM (l.drop p)).1, if (takeM (l.drop p)).2.2 = 0 then (p : Int) + (takeM (l.drop p)).2.1 else 0, (takeM (l.drop p)).2.2) := by
  unfold takeA; rw [if_neg (by omega)]; rfl
theorem takeM_nil {m : List UInt8} (h : m.length = 0) : takeM m = (noE, 0, 4) := by unfold takeM; rw [if_pos h]
theorem takeM_form {m : List UInt8} (h0 : 0 < m.length) (h : begunA m = none) : takeM m = (noE, 0, 2) := by unfold takeM; rw [if_neg (by omega), h]
theorem takeM_sum {m : List UInt8} {t s n : Nat} (h : begunA m = some (t, s, n)) (h2 : openL (m.take (n + 22)) = none) : takeM m = (noE, 0, 13) := by
  have := (begunA_some h).1
  unfold takeM; rw [if_neg (by omega), h]; simp only; rw [h2]
theorem takeM_ok {m b : List UInt8} {t s n : Nat} (h : begunA m = some (t, s, n)) (h2 : openL (m.take (n + 22)) = some b) : takeM m = (⟨t, s, b.drop 18⟩, n + 22, 0) := by
  have := (begunA_some h).1
  unfold takeM; rw [if_neg (by omega), h]; simp only; rw [h2]
theorem openL_some {l b : List UInt8} (h : openL l = some b) : b = l.take (l.length - 4) ∧ 4 ≤ l.length := by
  unfold openL at h
  split at h
  · rename_i c; exact ⟨(Option.some.inj h).symm, c.1⟩
  · cases h
/-- What is taken: all of its ways. -/
theorem takeM_cases (m : List UInt8) : (takeM m = (noE, 0, 4) ∧ m.length = 0) ∨ takeM m = (noE, 0, 2) ∨ takeM m = (noE, 0, 13) ∨
    ∃ e, takeM m = (e, e.data.length + 22, 0) ∧ e.right = true ∧ e.data.length + 22 ≤ m.length := by
  by_cases h0 : m.length = 0
  · exact .inl ⟨takeM_nil h0, h0⟩
  · cases hb : begunA m with
    | none => exact .inr (.inl (takeM_form (by omega) hb))
    | some x =>
      obtain ⟨t, s, n⟩ := x
      have hs := begunA_some hb
      cases ho : openL (m.take (n + 22)) with
      | none => exact .inr (.inr (.inl (takeM_sum hb ho)))
      | some b =>
        refine .inr (.inr (.inr ⟨⟨t, s, b.drop 18⟩, ?_, ?_, ?_⟩))
        all_goals
          have h1 : (m.take (n + 22)).length = n + 22 := by simp; omega
          have h2 : (b.drop 18).length = n := by rw [(openL_some ho).1, List.length_drop, List.length_take, h1]; omega
        · rw [takeM_ok hb ho]; simp only; rw [h2]
        · unfold En.right; simp only; rw [h2]; exact hs.2.2.1
        · simp only; rw [h2]; exact hs.2.2.2.1

/-! ### what is laid is taken -/
theorem toNat_pos {t : Int} (h : 0 ≤ t) : ((t.toNat : Nat) : Int) = t := Int.toNat_of_nonneg h
theorem head_fields (t s n : Nat) (r : List UInt8) (ht : t < 4294967296) (hs : s < 18446744073709551616) (hn : n < 65536) :
    fieldL (headL t s n ++ r) 0 4 = 1162495816 ∧ fieldL (headL t s n ++ r) 4 4 = t ∧ fieldL (headL t s n ++ r) 8 8 = s ∧ fieldL (headL t s n ++ r) 16 2 = n := by
  unfold headL
  refine ⟨?_, ?_, ?_, ?_⟩
  · have e : ((hgje ++ putL t 4) ++ putL s 8) ++ putL n 2 ++ r = [] ++ (hgje ++ (putL t 4 ++ (putL s 8 ++ (putL n 2 ++ r)))) := by simp
    rw [e, fieldL_mid [] hgje _ 0 4 rfl rfl]; decide
  · have e : ((hgje ++ putL t 4) ++ putL s 8) ++ putL n 2 ++ r = hgje ++ (putL t 4 ++ (putL s 8 ++ (putL n 2 ++ r))) := by simp
    rw [e, fieldL_mid hgje _ _ 4 4 rfl (putL_len _ _), getL_putL]; exact Nat.mod_eq_of_lt ht
  · have e : ((hgje ++ putL t 4) ++ putL s 8) ++ putL n 2 ++ r = (hgje ++ putL t 4) ++ (putL s 8 ++ (putL n 2 ++ r)) := by simp
    rw [e, fieldL_mid _ _ _ 8 8 (by simp [hgje, putL_len]) (putL_len _ _), getL_putL]; exact Nat.mod_eq_of_lt hs
  · have e : ((hgje ++ putL t 4) ++ putL s 8) ++ putL n 2 ++ r = ((hgje ++ putL t 4) ++ putL s 8) ++ (putL n 2 ++ r) := by simp
    rw [e, fieldL_mid _ _ _ 16 2 (by simp [hgje, putL_len]) (putL_len _ _), getL_putL]; exact Nat.mod_eq_of_lt hn
theorem lay_fields {e : En} (h : e.right = true) (r : List UInt8) :
    fieldL (layL e ++ r) 0 4 = 1162495816 ∧ fieldL (layL e ++ r) 4 4 = e.tag.toNat ∧ fieldL (layL e ++ r) 8 8 = e.seq.toNat ∧ fieldL (layL e ++ r) 16 2 = e.data.length := by
  have hr := rightE_iff.1 h
  have e1 : layL e ++ r = headL e.tag.toNat e.seq.toNat e.data.length ++ (e.data ++ (putL (crcL (e.head ++ e.data)).toNat 4 ++ r)) := by
    unfold layL sealL En.head; simp
  rw [e1]
  exact head_fields _ _ _ _ (by omega) (by omega) (by omega)
theorem begun_lay {e : En} (h : e.right = true) (r : List UInt8) : begunA (layL e ++ r) = some (e.tag.toNat, e.seq.toNat, e.data.length) := by
  have hr := rightE_iff.1 h
  obtain ⟨h1, h2, h3, h4⟩ := lay_fields h r
  have hl : (layL e ++ r).length = e.data.length + 22 + r.length := by rw [List.length_append, layL_len]
  unfold begunA
  rw [h1, h2, h3, h4, if_pos]
  refine ⟨by omega, rfl, ?_, by omega⟩
  rw [toNat_pos (by omega), toNat_pos (by omega)]; exact h
theorem take_lay {e : En} (h : e.right = true) (r : List UInt8) : takeM (layL e ++ r) = (e, e.data.length + 22, 0) := by
  have hr := rightE_iff.1 h
  have ho : openL ((layL e ++ r).take (e.data.length + 22)) = some (e.head ++ e.data) := by
    rw [← layL_len e, List.take_left]; exact open_seal _
  rw [takeM_ok (begun_lay h r) ho]
  have hd : (e.head ++ e.data).drop 18 = e.data := by
    rw [← headL_len e.tag.toNat e.seq.toNat e.data.length]; exact List.drop_left
  rw [hd, toNat_pos (by omega), toNat_pos (by omega)]
/-- A frame that is cut off is none. -/
theorem take_cut {e : En} (h : e.right = true) {k : Nat} (hk : k < e.data.length + 22) : (takeM ((layL e).take k)).2.2 ≠ 0 := by
  rcases takeM_cases ((layL e).take k) with h1 | h1 | h1 | ⟨x, h1, h2, h3⟩
  · rw [h1.1]; decide
  · rw [h1]; decide
  · rw [h1]; decide
  · exfalso
    have hlen : ((layL e).take k).length = k := by rw [List.length_take, layL_len]; omega
    cases hb : begunA ((layL e).take k) with
    | none => rw [takeM_form (by omega) hb] at h1; simp at h1
    | some y =>
      obtain ⟨t, s, n⟩ := y
      obtain ⟨c1, c2, c3, c4, c5, c6, c7⟩ := begunA_some hb
      have e1 : fieldL ((layL e).take k) 16 2 = e.data.length := by
        have := (lay_fields h []).2.2.2
        rw [List.append_nil] at this
        rw [← this]
        unfold fieldL
        rw [List.drop_take, List.take_take, Nat.min_eq_left (by omega)]
      omega

/-! ### rows of frames -/
def rowL (es : List En) : List UInt8 := es.flatMap layL
/-- What is taken from p on, f frames at most. -/
def allF : Nat → List UInt8 → Nat → List En × Nat
  | 0, _, p => ([], p)
  | f + 1, l, p => if (takeM (l.drop p)).2.2 = 0 then ((takeM (l.drop p)).1 :: (allF f l (p + (takeM (l.drop p)).2.1)).1, (allF f l (p + (takeM (l.drop p)).2.1)).2) else ([], p)
def allA (l : List UInt8) : List En × Nat := allF (l.length + 1) l 0
theorem allF_end {l : List UInt8} {p f : Nat} (h : (takeM (l.drop p)).2.2 ≠ 0) : allF f l p = ([], p) := by
  cases f with
  | zero => rfl
  | succ f => rw [allF, if_neg h]
theorem allF_go {l : List UInt8} {p f n : Nat} {e : En} (h : takeM (l.drop p) = (e, n, 0)) : allF (f + 1) l p = (e :: (allF f l (p + n)).1, (allF f l (p + n)).2) := by
  rw [allF, h, if_pos rfl]
theorem rowL_len (es : List En) : (rowL es).length = (es.map fun e => e.data.length + 22).sum := by
  induction es with
  | nil => rfl
  | cons e es ih => unfold rowL at ih ⊢; rw [List.flatMap_cons, List.length_append, layL_len, ih]; rfl
/-- Of frames that lie one behind the other, and of the last one cut off, those that are whole are taken. -/
theorem all_row (es : List En) (hes : ∀ e ∈ es, e.right = true) (e : Option (En × Nat)) (he : ∀ x k, e = some (x, k) → x.right = true ∧ k < x.data.length + 22) :
    ∀ (pre : List UInt8) (f : Nat), es.length < f → allF f (pre ++ (rowL es ++ (e.map fun x => (layL x.1).take x.2).getD [])) pre.length = (es, pre.length + (rowL es).length) := by
  induction es with
  | nil =>
    intro pre f hf
    rw [allF_end]
    · simp [rowL]
    · rw [List.drop_left]
      show (takeM ((e.map fun x => (layL x.1).take x.2).getD [])).2.2 ≠ 0
      cases e with
      | none => decide
      | some x => exact take_cut (he x.1 x.2 rfl).1 (he x.1 x.2 rfl).2
  | cons d es ih =>
    intro pre f hf
    obtain ⟨f, rfl⟩ : ∃ g, f = g + 1 := ⟨f - 1, by simp at hf; omega⟩
    have hd := hes d (List.mem_cons_self ..)
    have ht : takeM ((pre ++ (rowL (d :: es) ++ (e.map fun x => (layL x.1).take x.2).getD [])).drop pre.length) = (d, d.data.length + 22, 0) := by
      rw [List.drop_left]
      have : rowL (d :: es) ++ (e.map fun x => (layL x.1).take x.2).getD [] = layL d ++ (rowL es ++ (e.map fun x => (layL x.1).take x.2).getD []) := by
        simp [rowL]
      rw [this]; exact take_lay hd _
    rw [allF_go ht]
    have h := ih (fun x hx => hes x (List.mem_cons_of_mem _ hx)) (pre ++ layL d) f (by simp at hf; omega)
    have e1 : pre ++ layL d ++ (rowL es ++ (e.map fun x => (layL x.1).take x.2).getD []) = pre ++ (rowL (d :: es) ++ (e.map fun x => (layL x.1).take x.2).getD []) := by simp [rowL]
    have e2 : (pre ++ layL d).length = pre.length + (d.data.length + 22) := by rw [List.length_append, layL_len]
    rw [e1, e2] at h
    rw [h]
    simp [rowL, layL_len]; omega

/-! ### a frame with bits turned -/
theorem take_turned {e : En} (h : e.right = true) {F : List UInt8} (hl : F.length = (layL e).length) (h16 : fieldL F 16 2 = fieldL (layL e) 16 2) (ho : openL F = none) : (takeM F).2.2 ≠ 0 := by
  have hn := (lay_fields h []).2.2.2
  rw [List.append_nil] at hn
  rw [layL_len] at hl
  cases hb : begunA F with
  | none => rw [takeM_form (by omega) hb]; decide
  | some y =>
    obtain ⟨t, s, n⟩ := y
    obtain ⟨c1, c2, c3, c4, c5, c6, c7⟩ := begunA_some hb
    have : F.take (n + 22) = F := List.take_of_length_le (by omega)
    rw [takeM_sum hb (by rw [this]; exact ho)]; decide
theorem field_eq {F S : List UInt8} (h : F[16]? = S[16]?) (h2 : F[17]? = S[17]?) : fieldL F 16 2 = fieldL S 16 2 := by
  unfold fieldL
  congr 1
  apply List.ext_getElem?
  intro i
  rw [List.getElem?_take, List.getElem?_take, List.getElem?_drop, List.getElem?_drop]
  match i with
  | 0 => simp [h]
  | 1 => simp [h2]
  | i + 2 => rw [if_neg (by omega), if_neg (by omega)]

/-! ### the first place from p on -/
def frokAt (l : List UInt8) (p : Nat) : Bool := decide ((takeM (l.drop p)).2.2 = 0)
/-- The first place from p on, f places at most. -/
def seekF : Nat → List UInt8 → Nat → Int
  | 0, _, _ => -1
  | f + 1, l, p => if frokAt l p then p else seekF f l (p + 1)
def seekA (l : List UInt8) (p : Int) : Int := seekF (l.length - p.toNat) l p.toNat
theorem seekF_le {l : List UInt8} {q : Nat} (hq : frokAt l q = true) : ∀ f p, p ≤ q → q < p + f → 0 ≤ seekF f l p ∧ seekF f l p ≤ q
  | 0, p, h1, h2 => by omega
  | f + 1, p, h1, h2 => by
    rw [seekF]
    split
    · omega
    · rename_i c
      have : p ≠ q := fun e => c (by rw [e]; exact hq)
      exact seekF_le hq f (p + 1) (by omega) (by omega)
theorem take_end {l : List UInt8} {p : Nat} (h : l.length ≤ p) : (takeM (l.drop p)).2.2 ≠ 0 := by
  rw [takeM_nil (by simp; omega)]; decide
end Go.Proofs.Ytiahifpbofkimaa
namespace Go.Proofs.Ytiahifpbofkimaa
set_option linter.unusedVariables false
set_option linter.unnecessarySimpa false
set_option linter.unusedSimpArgs false

structure Mk where
  id : Int
  name : ByteArray
  size : Int
  gone : Bool
deriving DecidableEq
structure Hd where
  size : Int
  order : Int
  unit : Int
  count : Int
  next : Int
  seq : Int
  marks : List Mk
deriving DecidableEq
def noMk : Mk := ⟨0, ⟨#[]⟩, 0, false⟩
def noHd : Hd := ⟨0, 0, 0, 0, 0, 0, []⟩

/-! ### names -/
/-- A hold's name. -/
def heldL (s : List UInt8) : Bool := match s with | c :: _ => decide (c = 126) | [] => false
def markL (s : List UInt8) : Bool := nameOk (if heldL s then s.tail else s)
theorem heldL_nil : heldL [] = false := rfl
theorem nameOk_nil : nameOk [] = false := by decide
theorem markL_nil : markL [] = false := by decide
theorem markL_held {s : List UInt8} (h : heldL s = true) : markL s = nameOk s.tail := by unfold markL; rw [if_pos h]
theorem markL_free {s : List UInt8} (h : heldL s = false) : markL s = nameOk s := by unfold markL; rw [if_neg (by rw [h]; simp)]
theorem markL_len {s : List UInt8} (h : markL s = true) : 1 ≤ s.length ∧ s.length ≤ 13 := by
  unfold markL at h
  split at h
  · have := nameOk_len h
    rw [List.length_tail] at this; omega
  · have := nameOk_len h; omega

/-! ### marks -/
def Mk.nm (t : Mk) : List UInt8 := t.name.data.toList
def Mk.held (t : Mk) : Bool := heldL t.nm
def Mk.seen (t : Mk) : Bool := !t.gone && !t.held
def Mk.Fit (t : Mk) : Prop := markL t.nm = true ∧ ¬ (t.held = true ∧ t.gone = true) ∧ 0 ≤ t.size ∧ t.size ≤ 512
instance (t : Mk) : Decidable t.Fit := by unfold Mk.Fit; infer_instance
/-- The ID ahead of place j. -/
def lastM (l : List Mk) : Nat → Int
  | 0 => 0
  | j + 1 => match l[j]? with | some u => u.id | none => 0
theorem lastM_succ {l : List Mk} {j : Nat} {t : Mk} (h : l[j]? = some t) : lastM l (j + 1) = t.id := by show (match l[j]? with | some u => u.id | none => 0) = t.id; rw [h]
theorem lastM_zero (l : List Mk) : lastM l 0 = 0 := rfl
def okM (next : Int) (l : List Mk) (i : Nat) : Prop := ∀ t, l[i]? = some t → lastM l i < t.id ∧ t.id < next
def seenL (l : List Mk) : List Mk := l.filter Mk.seen
def holdsN (l : List Mk) : Nat := (l.filter Mk.held).length
/-- No two of one name. -/
def apartAt (l : List Mk) (i : Nat) : Prop := ∀ t, l[i]? = some t → ∀ j u, j < i → l[j]? = some u → u.name ≠ t.name
def Apart (l : List Mk) : Prop := ∀ i, i < l.length → apartAt l i
def ShapeOk (o u c : Int) : Prop := 3 ≤ o ∧ o ≤ 6 ∧ 2 ≤ u ∧ u ≤ o ∧ 1 ≤ c ∧ c ≤ 4
instance (o u c : Int) : Decidable (ShapeOk o u c) := by unfold ShapeOk; infer_instance
/-- The numbers of a record. -/
def NumsOk (h : Hd) : Prop := 0 ≤ h.size ∧ h.size ≤ 512 ∧ ShapeOk h.order h.unit h.count ∧ 1 ≤ h.next ∧ h.next ≤ 1073741824 ∧ 0 ≤ h.seq ∧ h.seq ≤ 1099511627776
instance (h : Hd) : Decidable (NumsOk h) := by unfold NumsOk; infer_instance
def MarksOk (next : Int) (l : List Mk) : Prop := l.length ≤ 17 ∧ (∀ i, i < l.length → okM next l i) ∧ holdsN l ≤ 1 ∧ (∀ t ∈ l, t.Fit) ∧ (seenL l).length ≤ 8 ∧ Apart (seenL l)
def HdOk (h : Hd) : Prop := NumsOk h ∧ MarksOk h.next h.marks
noncomputable def rightH (h : Hd) : Bool := open Classical in if HdOk h then true else false
theorem rightH_iff {h : Hd} : rightH h = true ↔ HdOk h := by unfold rightH; split <;> simp_all
theorem rightH_no {h : Hd} (k : ¬ HdOk h) : rightH h = false := by unfold rightH; rw [if_neg k]
theorem holdsN_snoc {l : List Mk} {j : Nat} {t : Mk} (ht : l[j]? = some t) : holdsN (l.take (j + 1)) = holdsN (l.take j) + (if t.held then 1 else 0) := by
  obtain ⟨h, rfl⟩ := List.getElem?_eq_some_iff.1 ht
  unfold holdsN
  rw [List.take_succ_eq_append_getElem h, List.filter_append, List.length_append]
  cases hh : (l[j]).held <;> simp [hh]
theorem holdsN_le (l : List Mk) : holdsN l ≤ l.length := List.length_filter_le _ _
theorem seenL_snoc {l : List Mk} {j : Nat} {t : Mk} (ht : l[j]? = some t) : seenL (l.take (j + 1)) = seenL (l.take j) ++ (if t.seen then [t] else []) := by
  obtain ⟨h, rfl⟩ := List.getElem?_eq_some_iff.1 ht
  unfold seenL
  rw [List.take_succ_eq_append_getElem h, List.filter_append]
  cases hh : (l[j]).seen <;> simp [hh]
theorem seenL_le (l : List Mk) : (seenL l).length ≤ l.length := List.length_filter_le _ _
theorem seenL_mem {l : List Mk} {t : Mk} (h : t ∈ seenL l) : t ∈ l ∧ t.seen = true := List.mem_filter.1 h
theorem lastM_ge {next : Int} {l : List Mk} {j : Nat} (hj : j ≤ l.length) (h : ∀ m, m < j → okM next l m) : 0 ≤ lastM l j := by
  induction j with
  | zero => simp [lastM_zero]
  | succ j ih =>
    have ht : l[j]? = some l[j] := List.getElem?_eq_getElem (by omega)
    rw [lastM_succ ht]
    have := (h j (by omega) _ ht).1
    have := ih (by omega) fun m hm => h m (by omega)
    omega

/-! ### their bytes -/
def mkL (t : Mk) : List UInt8 := varL t.id.toNat ++ (varL t.size.toNat ++ (varL (bitN t.gone) ++ textL t.nm))
def rowM (l : List Mk) : List UInt8 := l.flatMap mkL
def numsH (h : Hd) : List UInt8 := varL h.size.toNat ++ (varL h.order.toNat ++ (varL h.unit.toNat ++ (varL h.count.toNat ++ (varL h.next.toNat ++ varL h.seq.toNat))))
def marksL (l : List Mk) : List UInt8 := varL l.length ++ rowM l
def bodyH (h : Hd) : List UInt8 := numsH h ++ marksL h.marks
noncomputable def putHd (h : Hd) : List UInt8 × Int := if rightH h then (sealL (bodyH h), 0) else ([], 1)
theorem putHd_yes {h : Hd} (k : rightH h = true) : putHd h = (sealL (bodyH h), 0) := by unfold putHd; rw [if_pos k]
theorem putHd_no {h : Hd} (k : rightH h = false) : putHd h = ([], 1) := by unfold putHd; rw [if_neg (by rw [k]; simp)]
theorem rowM_snoc {l : List Mk} {j : Nat} {t : Mk} (ht : l[j]? = some t) : rowM (l.take (j + 1)) = rowM (l.take j) ++ mkL t := by
  obtain ⟨h, rfl⟩ := List.getElem?_eq_some_iff.1 ht
  unfold rowM
  rw [List.take_succ_eq_append_getElem h, List.flatMap_append]
  simp
theorem rowM_drop {l : List Mk} {j : Nat} {t : Mk} (ht : l[j]? = some t) : rowM (l.drop j) = mkL t ++ rowM (l.drop (j + 1)) := by
  obtain ⟨h, rfl⟩ := List.getElem?_eq_some_iff.1 ht
  unfold rowM
  rw [List.drop_eq_getElem_cons h, List.flatMap_cons]
theorem rowM_split (l : List Mk) (j : Nat) : rowM l = rowM (l.take j) ++ rowM (l.drop j) := by
  unfold rowM
  rw [← List.flatMap_append, List.take_append_drop]
/-- What is laid when j marks are, ahead of it B. -/
def headM (B : List UInt8) (l : List Mk) (j : Nat) : List UInt8 := (B ++ varL l.length) ++ rowM (l.take j)
theorem headM_zero (B : List UInt8) (l : List Mk) : headM B l 0 = B ++ varL l.length := by unfold headM; simp [rowM]
theorem headM_all {B : List UInt8} {l : List Mk} {n : Nat} (h : l.length = n) : headM B l n = B ++ marksL l := by unfold headM marksL; rw [← h, List.take_length, List.append_assoc]
theorem headM_succ {B : List UInt8} {l : List Mk} {j : Nat} {t : Mk} (ht : l[j]? = some t) : headM B l (j + 1) = headM B l j ++ mkL t := by
  unfold headM; rw [rowM_snoc ht]; simp only [List.append_assoc]
def endM (B : List UInt8) (l : List Mk) (j : Nat) : Nat := (headM B l j).length
theorem endM_drop (B : List UInt8) (l : List Mk) (j : Nat) : (B ++ marksL l).drop (endM B l j) = rowM (l.drop j) := by
  have e : B ++ marksL l = headM B l j ++ rowM (l.drop j) := by unfold headM marksL; rw [rowM_split l j]; simp only [List.append_assoc]
  unfold endM
  rw [e, List.drop_left]
theorem endM_zero (B : List UInt8) (l : List Mk) : endM B l 0 = B.length + (varL l.length).length := by unfold endM; rw [headM_zero, List.length_append]
theorem endM_succ {B : List UInt8} {l : List Mk} {j : Nat} {t : Mk} (ht : l[j]? = some t) : endM B l (j + 1) = endM B l j + (mkL t).length := by
  unfold endM; rw [headM_succ ht, List.length_append]
theorem endM_le (B : List UInt8) (l : List Mk) (j : Nat) : endM B l j ≤ (B ++ marksL l).length := by
  unfold endM headM marksL
  rw [rowM_split l j]
  simp only [List.length_append]; omega

/-! ### unlike records have unlike bytes -/
/-- A mark whose numbers are none below 0 and few enough. -/
def Mk.In (t : Mk) : Prop := 0 ≤ t.id ∧ t.id < 9223372036854775808 ∧ 0 ≤ t.size ∧ t.size < 9223372036854775808 ∧ t.nm.length < 9223372036854775808
theorem textL_apart {s u x y : List UInt8} (hs : s.length < 9223372036854775808) (hu : u.length < 9223372036854775808) (h : textL s ++ x = textL u ++ y) : s = u ∧ x = y := by
  unfold textL at h
  rw [List.append_assoc, List.append_assoc] at h
  obtain ⟨e, h⟩ := varL_apartU hs hu h
  exact List.append_inj h e
theorem bytes_ext {a b : ByteArray} (h : a.data.toList = b.data.toList) : a = b := by
  obtain ⟨⟨a⟩⟩ := a
  obtain ⟨⟨b⟩⟩ := b
  simp only at h
  rw [h]
theorem mkL_apart {t u : Mk} {x y : List UInt8} (ht : t.In) (hu : u.In) (h : mkL t ++ x = mkL u ++ y) : t = u ∧ x = y := by
  obtain ⟨a, b, c, d⟩ := t
  obtain ⟨a', b', c', d'⟩ := u
  unfold Mk.In Mk.nm at ht hu
  simp only at ht hu
  unfold mkL Mk.nm at h
  simp only [List.append_assoc] at h
  obtain ⟨e1, h⟩ := varL_apartU (by omega) (by omega) h
  obtain ⟨e2, h⟩ := varL_apartU (by omega) (by omega) h
  obtain ⟨e3, h⟩ := varL_apartU (bitN_lt _) (bitN_lt _) h
  obtain ⟨e4, h⟩ := textL_apart ht.2.2.2.2 hu.2.2.2.2 h
  refine ⟨?_, h⟩
  rw [show a = a' by omega, show c = c' by omega, bitN_inj e3, bytes_ext e4]
theorem rowM_inj : ∀ {a b : List Mk} {x y : List UInt8}, a.length = b.length → (∀ t ∈ a, t.In) → (∀ t ∈ b, t.In) → rowM a ++ x = rowM b ++ y → a = b ∧ x = y
  | [], [], x, y, _, _, _, h => ⟨rfl, by simpa [rowM] using h⟩
  | t :: a, u :: b, x, y, hl, ha, hb, h => by
    unfold rowM at h
    rw [List.flatMap_cons, List.flatMap_cons, List.append_assoc, List.append_assoc] at h
    obtain ⟨rfl, h2⟩ := mkL_apart (ha t List.mem_cons_self) (hb u List.mem_cons_self) h
    obtain ⟨rfl, h3⟩ := rowM_inj (a := a) (b := b) (by simpa using hl) (fun t ht => ha t (List.mem_cons_of_mem _ ht)) (fun t ht => hb t (List.mem_cons_of_mem _ ht)) h2
    exact ⟨rfl, h3⟩
theorem marksL_inj {a b : List Mk} {x y : List UInt8} (hla : a.length < 9223372036854775808) (hlb : b.length < 9223372036854775808) (ha : ∀ t ∈ a, t.In) (hb : ∀ t ∈ b, t.In) (h : marksL a ++ x = marksL b ++ y) : a = b ∧ x = y := by
  unfold marksL at h
  rw [List.append_assoc, List.append_assoc] at h
  obtain ⟨e, h⟩ := varL_apartU hla hlb h
  exact rowM_inj e ha hb h
theorem MarksOk.in {n : Int} {l : List Mk} (h : MarksOk n l) (hn : n ≤ 1073741824) : ∀ t ∈ l, t.In := fun t ht => by
  obtain ⟨i, hi⟩ := List.mem_iff_getElem?.1 ht
  have hil := (List.getElem?_eq_some_iff.1 hi).1
  have h1 := h.2.1 i hil t hi
  have h2 := lastM_ge (next := n) (l := l) (j := i) (by omega) fun m hm => h.2.1 m (by omega)
  have h3 := h.2.2.2.1 t ht
  unfold Mk.Fit at h3
  have h4 := markL_len h3.1
  unfold Mk.In
  omega
theorem MarksOk.id {n : Int} {l : List Mk} (h : MarksOk n l) {i : Nat} {t : Mk} (hi : l[i]? = some t) : 1 ≤ t.id ∧ t.id < n := by
  have hil := (List.getElem?_eq_some_iff.1 hi).1
  have h1 := h.2.1 i hil t hi
  have h2 := lastM_ge (next := n) (l := l) (j := i) (by omega) fun m hm => h.2.1 m (by omega)
  omega
theorem bodyH_inj {a b : Hd} {x y : List UInt8} (ha : HdOk a) (hb : HdOk b) (h : bodyH a ++ x = bodyH b ++ y) : a = b ∧ x = y := by
  obtain ⟨ha1, ha2⟩ := ha
  obtain ⟨hb1, hb2⟩ := hb
  obtain ⟨s, o, u, c, n, q, l⟩ := a
  obtain ⟨s', o', u', c', n', q', l'⟩ := b
  unfold NumsOk ShapeOk at ha1 hb1
  simp only at ha1 hb1 ha2 hb2
  unfold bodyH numsH at h
  simp only [List.append_assoc] at h
  obtain ⟨e1, h⟩ := varL_apartU (by omega) (by omega) h
  obtain ⟨e2, h⟩ := varL_apartU (by omega) (by omega) h
  obtain ⟨e3, h⟩ := varL_apartU (by omega) (by omega) h
  obtain ⟨e4, h⟩ := varL_apartU (by omega) (by omega) h
  obtain ⟨e5, h⟩ := varL_apartU (by omega) (by omega) h
  obtain ⟨e6, h⟩ := varL_apartU (by omega) (by omega) h
  obtain ⟨e7, h⟩ := marksL_inj (by have := ha2.1; omega) (by have := hb2.1; omega) (ha2.in (by omega)) (hb2.in (by omega)) h
  refine ⟨?_, h⟩
  rw [show s = s' by omega, show o = o' by omega, show u = u' by omega, show c = c' by omega, show n = n' by omega, show q = q' by omega, e7]
theorem mkL_len {t : Mk} (h1 : t.id < 1073741824) (h2 : t.Fit) : (mkL t).length ≤ 22 := by
  unfold Mk.Fit at h2
  have a1 := varL_bytesU (n := t.id.toNat) (k := 5) (by omega) (by omega)
  have a2 := varL_bytesU (n := t.size.toNat) (k := 2) (by omega) (by omega)
  have a3 := varL_bytesU (n := bitN t.gone) (k := 1) (by omega) (by cases t.gone <;> simp [bitN])
  have a4 := markL_len h2.1
  have a5 := varL_bytesU (n := t.nm.length) (k := 1) (by omega) (by omega)
  unfold mkL textL
  simp only [List.length_append]
  omega
theorem rowM_len : ∀ (l : List Mk), (∀ t ∈ l, t.id < 1073741824 ∧ t.Fit) → (rowM l).length ≤ 22 * l.length
  | [], _ => by simp [rowM]
  | t :: l, h => by
    have h0 := h t List.mem_cons_self
    have h1 := mkL_len h0.1 h0.2
    have h2 := rowM_len l fun u hu => h u (List.mem_cons_of_mem _ hu)
    unfold rowM at *
    rw [List.flatMap_cons, List.length_append, List.length_cons]
    omega
theorem marksL_len {n : Int} {l : List Mk} (h : MarksOk n l) (hn : n ≤ 1073741824) : (marksL l).length ≤ 375 := by
  have h1 := rowM_len l fun t ht => by
    obtain ⟨i, hi⟩ := List.mem_iff_getElem?.1 ht
    exact ⟨by have := h.id hi; omega, h.2.2.2.1 t ht⟩
  have h2 := varL_bytesU (n := l.length) (k := 1) (by omega) (by have := h.1; omega)
  have h3 := h.1
  unfold marksL
  rw [List.length_append]; omega
theorem numsH_len {h : Hd} (k : NumsOk h) : (numsH h).length ≤ 16 := by
  unfold NumsOk ShapeOk at k
  have h1 := varL_bytesU (n := h.size.toNat) (k := 2) (by omega) (by omega)
  have h2 := varL_bytesU (n := h.order.toNat) (k := 1) (by omega) (by omega)
  have h3 := varL_bytesU (n := h.unit.toNat) (k := 1) (by omega) (by omega)
  have h4 := varL_bytesU (n := h.count.toNat) (k := 1) (by omega) (by omega)
  have h5 := varL_bytesU (n := h.next.toNat) (k := 5) (by omega) (by omega)
  have h6 := varL_bytesU (n := h.seq.toNat) (k := 6) (by omega) (by omega)
  unfold numsH
  simp only [List.length_append]; omega
theorem bodyH_len {h : Hd} (k : HdOk h) : (bodyH h).length ≤ 391 := by
  have h1 := numsH_len k.1
  have h2 := marksL_len k.2 (by have := k.1; unfold NumsOk at this; omega)
  unfold bodyH
  rw [List.length_append]; omega
theorem headM_len {B : List UInt8} {n : Int} {l : List Mk} (h : MarksOk n l) (hn : n ≤ 1073741824) (hB : B.length ≤ 16) (j : Nat) : (headM B l j).length ≤ 391 := by
  have h1 := endM_le B l j
  have h2 := marksL_len h hn
  unfold endM at h1
  rw [List.length_append] at h1; omega

/-! ### what is sealed -/
theorem putL_cons (n k : Nat) : putL n (k + 1) = UInt8.ofNat n :: putL (n / 256) k := by
  unfold putL
  rw [List.range_succ_eq_map, List.map_cons, List.map_map]
  congr 1
  · simp
  · refine List.map_congr_left fun i _ => ?_
    simp only [Function.comp]
    rw [Nat.pow_succ, Nat.mul_comm, Nat.div_div_eq_div_mul]
theorem putL_getL : ∀ l : List UInt8, putL (getL l) l.length = l
  | [] => rfl
  | c :: l => by
    have hc := c.toNat_lt
    rw [List.length_cons, putL_cons]
    have e : getL (c :: l) = c.toNat + 256 * getL l := rfl
    rw [e]
    congr 1
    · rw [← UInt8.toNat_inj, UInt8.toNat_ofNat']; omega
    · rw [show (c.toNat + 256 * getL l) / 256 = getL l by omega]; exact putL_getL l
theorem open_is {b p : List UInt8} (h : openL b = some p) : b = sealL p := by
  unfold openL at h
  split at h
  · rename_i hh
    simp only [Option.some.injEq] at h
    subst h
    unfold sealL
    rw [← hh.2]
    have e := putL_getL (b.drop (b.length - 4))
    rw [List.length_drop, show b.length - (b.length - 4) = 4 by omega] at e
    rw [e, List.take_append_drop]
  · cases h
theorem seal_inj {a b : List UInt8} (h : sealL a = sealL b) : a = b := by
  have h1 := open_seal a
  rw [h, open_seal b] at h1
  exact (Option.some.inj h1).symm

/-! ### what bytes are -/
noncomputable def getHd (b : List UInt8) : Hd × Int := open Classical in match openL b with
  | none => (noHd, 13)
  | some p => if h : ∃ d : Hd, HdOk d ∧ bodyH d = p then (Classical.choose h, 0) else (noHd, 2)
theorem getHd_sum {b : List UInt8} (h : openL b = none) : getHd b = (noHd, 13) := by unfold getHd; rw [h]
theorem getHd_some {d : Hd} {b p : List UInt8} (ho : openL b = some p) (h : HdOk d) (hb : bodyH d = p) : getHd b = (d, 0) := by
  have hx : ∃ d : Hd, HdOk d ∧ bodyH d = p := ⟨d, h, hb⟩
  unfold getHd
  rw [ho]
  simp only
  rw [dif_pos hx]
  have := Classical.choose_spec hx
  have e : bodyH (Classical.choose hx) ++ [] = bodyH d ++ [] := by rw [this.2, hb]
  rw [(bodyH_inj this.1 h e).1]
theorem getHd_none {b p : List UInt8} (ho : openL b = some p) (h : ∀ d : Hd, HdOk d → bodyH d ≠ p) : getHd b = (noHd, 2) := by
  unfold getHd
  rw [ho]
  simp only
  rw [dif_neg (fun ⟨l, h1, h2⟩ => h l h1 h2)]
/-- What a guess must be. -/
def GuessH (p : List UInt8) (g : Hd) : Prop := ∀ d : Hd, HdOk d → bodyH d = p → g = d
theorem guessH_yes {b p : List UInt8} {g : Hd} (ho : openL b = some p) (h2 : rightH g = true) (h3 : sealL (bodyH g) = b) : getHd b = (g, 0) := by
  refine getHd_some ho (rightH_iff.1 h2) ?_
  rw [open_is ho] at h3
  exact seal_inj h3
theorem guessH_not {b p : List UInt8} {g : Hd} (ho : openL b = some p) (h : GuessH p g) (h2 : rightH g = false ∨ sealL (bodyH g) ≠ b) : getHd b = (noHd, 2) := getHd_none ho fun d hd hb => by
  have := h d hd hb
  subst this
  rcases h2 with h2 | h2
  · rw [rightH_iff.2 hd] at h2; cases h2
  · exact h2 (by rw [hb, open_is ho])

/-! ### what a guest sees -/
def findM (l : List Mk) (s : ByteArray) : Option Mk := l.find? fun t => t.seen && decide (t.name = s)
def foundM (l : List Mk) (s : ByteArray) : Mk × Bool := match findM l s with | some t => (t, true) | none => (noMk, false)
def newestM (l : List Mk) : Int := match l with | [] => 0 | t :: r => (t :: r).foldl (fun m u => max m u.id) t.id
end Go.Proofs.Ytiahifpbofkimaa
namespace Go.Proofs.Ytiahifpbofkimaa
set_option linter.unusedVariables false
set_option linter.unnecessarySimpa false
set_option linter.unusedSimpArgs false

instance : DecidableEq En := fun a b => decidable_of_iff (a.tag = b.tag ∧ a.seq = b.seq ∧ a.data = b.data) (by cases a; cases b; simp)
structure Ms where
  kind : Int
  nonce : Int
  pos : Int
  fin : Int
  stage : Int
  num : Int
  chain : List Tg
  ents : List En
  marks : List Mk
  data : List UInt8
deriving DecidableEq
def noMs : Ms := ⟨0, 0, 0, 0, 0, 0, [], [], [], []⟩

/-! ### which may be -/
def entStep (pos : Int) (l : List En) (i : Nat) : Prop := ∀ e, l[i]? = some e → e.right = true ∧ e.seq = pos + 1 + i
def EntsOk (pos : Int) (l : List En) : Prop := l.length ≤ 4 ∧ ∀ i, i < l.length → entStep pos l i
def Mk.Sent (t : Mk) : Prop := 1 ≤ t.id ∧ t.id ≤ 1073741824 ∧ 0 ≤ t.size ∧ t.size ≤ 512 ∧ markL t.nm = true
instance (t : Mk) : Decidable t.Sent := by unfold Mk.Sent; infer_instance
def markStep (l : List Mk) (i : Nat) : Prop := ∀ t, l[i]? = some t → t.Sent
def MarksSent (l : List Mk) : Prop := 1 ≤ l.length ∧ l.length ≤ 17 ∧ ∀ i, i < l.length → markStep l i
def NumsM (m : Ms) : Prop := (1 ≤ m.kind ∧ m.kind ≤ 9) ∧ (1 ≤ m.nonce ∧ m.nonce ≤ 1099511627776) ∧ (0 ≤ m.pos ∧ m.pos ≤ 1099511627776) ∧ (0 ≤ m.fin ∧ m.fin ≤ 1099511627776) ∧ (0 ≤ m.stage ∧ m.stage ≤ 16) ∧ (0 ≤ m.num ∧ m.num ≤ 512)
/-- What a kind doesn't name is nought. -/
def NamedM (m : Ms) : Prop := (m.pos ≠ 0 → m.kind = 1 ∨ m.kind = 2 ∨ m.kind = 4) ∧ (m.fin ≠ 0 → m.kind = 1 ∨ m.kind = 2) ∧ (m.stage ≠ 0 → m.kind = 5 ∨ m.kind = 6) ∧ (m.num ≠ 0 → m.kind = 5 ∨ m.kind = 6 ∨ m.kind = 9) ∧
  (m.chain ≠ [] → m.kind = 2 ∨ m.kind = 4) ∧ (m.ents ≠ [] → m.kind = 2) ∧ (m.marks ≠ [] → m.kind = 4) ∧ (m.data ≠ [] → m.kind = 6)
def MsOk (m : Ms) : Prop := NumsM m ∧ NamedM m ∧ (m.kind = 2 → ChOk m.chain ∧ EntsOk m.pos m.ents) ∧ (m.kind = 4 → ChOk m.chain ∧ MarksSent m.marks) ∧ (m.kind = 6 → m.data.length ≤ 64) ∧ (m.kind = 9 → 1 ≤ m.num ∧ m.num ≤ 13)
noncomputable def rightMs (m : Ms) : Bool := open Classical in if MsOk m then true else false
theorem rightMs_iff {m : Ms} : rightMs m = true ↔ MsOk m := by unfold rightMs; split <;> simp_all
theorem rightMs_no {m : Ms} (k : ¬ MsOk m) : rightMs m = false := by unfold rightMs; rw [if_neg k]
noncomputable def entsB (pos : Int) (l : List En) : Bool := open Classical in if EntsOk pos l then true else false
theorem entsB_iff {p : Int} {l : List En} : entsB p l = true ↔ EntsOk p l := by unfold entsB; split <;> simp_all
noncomputable def marksB (l : List Mk) : Bool := open Classical in if MarksSent l then true else false
theorem marksB_iff {l : List Mk} : marksB l = true ↔ MarksSent l := by unfold marksB; split <;> simp_all
theorem entsB_yes {p : Int} {l : List En} (h : EntsOk p l) : entsB p l = true := entsB_iff.2 h
theorem entsB_no {p : Int} {l : List En} (h : ¬ EntsOk p l) : entsB p l = false := by unfold entsB; rw [if_neg h]
theorem marksB_yes {l : List Mk} (h : MarksSent l) : marksB l = true := marksB_iff.2 h
theorem marksB_no {l : List Mk} (h : ¬ MarksSent l) : marksB l = false := by unfold marksB; rw [if_neg h]
/-- A message without what its kind doesn't name. -/
def namedM (m : Ms) : Ms :=
  if m.kind = 1 then ⟨m.kind, m.nonce, m.pos, m.fin, 0, 0, [], [], [], []⟩
  else if m.kind = 2 then ⟨m.kind, m.nonce, m.pos, m.fin, 0, 0, m.chain, m.ents, [], []⟩
  else if m.kind = 4 then ⟨m.kind, m.nonce, m.pos, 0, 0, 0, m.chain, [], m.marks, []⟩
  else if m.kind = 5 then ⟨m.kind, m.nonce, 0, 0, m.stage, m.num, [], [], [], []⟩
  else if m.kind = 6 then ⟨m.kind, m.nonce, 0, 0, m.stage, m.num, [], [], [], m.data⟩
  else if m.kind = 9 then ⟨m.kind, m.nonce, 0, 0, 0, m.num, [], [], [], []⟩
  else ⟨m.kind, m.nonce, 0, 0, 0, 0, [], [], [], []⟩
theorem named_iff (m : Ms) : m = namedM m ↔ NamedM m := by
  obtain ⟨k, n, p, f, s, u, c, e, t, d⟩ := m
  unfold namedM NamedM
  simp only
  split
  · simp only [Ms.mk.injEq, true_and, and_true]; subst k; simp
  split
  · simp only [Ms.mk.injEq, true_and, and_true]; subst k; simp
  split
  · simp only [Ms.mk.injEq, true_and, and_true]; subst k; simp
  split
  · simp only [Ms.mk.injEq, true_and, and_true]; subst k; simp
  split
  · simp only [Ms.mk.injEq, true_and, and_true]; subst k; simp
  split
  · simp only [Ms.mk.injEq, true_and, and_true]; subst k; simp
  · simp_all

/-! ### their bytes -/
def numsM (m : Ms) : List UInt8 := varL m.nonce.toNat ++ (varL m.pos.toNat ++ (varL m.fin.toNat ++ (varL m.stage.toNat ++ varL m.num.toNat)))
def frontM (m : Ms) : List UInt8 := UInt8.ofNat m.kind.toNat :: numsM m
def entsL (l : List En) : List UInt8 := varL l.length ++ rowL l
def tailM (m : Ms) : List UInt8 := if m.kind = 2 then textL (putC m.chain) ++ entsL m.ents else if m.kind = 4 then textL (putC m.chain) ++ marksL m.marks else if m.kind = 6 then m.data else []
def bodyMs (m : Ms) : List UInt8 := frontM m ++ tailM m
theorem tailM_2 {m : Ms} (h : m.kind = 2) : tailM m = textL (putC m.chain) ++ entsL m.ents := by unfold tailM; rw [if_pos h]
theorem tailM_4 {m : Ms} (h : m.kind = 4) : tailM m = textL (putC m.chain) ++ marksL m.marks := by unfold tailM; rw [if_neg (by omega), if_pos h]
theorem tailM_6 {m : Ms} (h : m.kind = 6) : tailM m = m.data := by unfold tailM; rw [if_neg (by omega), if_neg (by omega), if_pos h]
theorem tailM_x {m : Ms} (h2 : m.kind ≠ 2) (h4 : m.kind ≠ 4) (h6 : m.kind ≠ 6) : tailM m = [] := by unfold tailM; rw [if_neg h2, if_neg h4, if_neg h6]
noncomputable def putMs (m : Ms) : List UInt8 × Int := if rightMs m then (sealL (bodyMs m), 0) else ([], 1)
theorem putMs_yes {m : Ms} (k : rightMs m = true) : putMs m = (sealL (bodyMs m), 0) := by unfold putMs; rw [if_pos k]
theorem putMs_no {m : Ms} (k : rightMs m = false) : putMs m = ([], 1) := by unfold putMs; rw [if_neg (by rw [k]; simp)]

/-! ### unlike messages have unlike bytes -/
theorem layL_apart {e u : En} {x y : List UInt8} (he : e.right = true) (hu : u.right = true) (h : layL e ++ x = layL u ++ y) : e = u ∧ x = y := by
  have h1 := take_lay he x
  rw [h, take_lay hu y] at h1
  have e1 : e = u := (congrArg (·.1) h1).symm
  subst e1
  exact ⟨rfl, List.append_cancel_left h⟩
theorem rowL_inj : ∀ {a b : List En} {x y : List UInt8}, a.length = b.length → (∀ e ∈ a, e.right = true) → (∀ e ∈ b, e.right = true) → rowL a ++ x = rowL b ++ y → a = b ∧ x = y
  | [], [], x, y, _, _, _, h => ⟨rfl, by simpa [rowL] using h⟩
  | t :: a, u :: b, x, y, hl, ha, hb, h => by
    unfold rowL at h
    rw [List.flatMap_cons, List.flatMap_cons, List.append_assoc, List.append_assoc] at h
    obtain ⟨rfl, h2⟩ := layL_apart (ha t List.mem_cons_self) (hb u List.mem_cons_self) h
    obtain ⟨rfl, h3⟩ := rowL_inj (a := a) (b := b) (by simpa using hl) (fun t ht => ha t (List.mem_cons_of_mem _ ht)) (fun t ht => hb t (List.mem_cons_of_mem _ ht)) h2
    exact ⟨rfl, h3⟩
theorem EntsOk.rights {p : Int} {l : List En} (h : EntsOk p l) : ∀ e ∈ l, e.right = true := fun e he => by
  obtain ⟨i, hi⟩ := List.mem_iff_getElem?.1 he
  exact (h.2 i (List.getElem?_eq_some_iff.1 hi).1 e hi).1
theorem entsL_inj {a b : List En} {p q : Int} {x y : List UInt8} (ha : EntsOk p a) (hb : EntsOk q b) (h : entsL a ++ x = entsL b ++ y) : a = b ∧ x = y := by
  unfold entsL at h
  rw [List.append_assoc, List.append_assoc] at h
  obtain ⟨e, h⟩ := varL_apartU (by have := ha.1; omega) (by have := hb.1; omega) h
  exact rowL_inj e ha.rights hb.rights h
theorem MarksSent.mem {l : List Mk} (h : MarksSent l) : ∀ t ∈ l, t.Sent := fun t ht => by
  obtain ⟨i, hi⟩ := List.mem_iff_getElem?.1 ht
  exact h.2.2 i (List.getElem?_eq_some_iff.1 hi).1 t hi
theorem Mk.Sent.in {t : Mk} (h : t.Sent) : t.In := by
  unfold Mk.Sent at h
  have := markL_len h.2.2.2.2
  unfold Mk.In; omega
theorem MarksSent.ins {l : List Mk} (h : MarksSent l) : ∀ t ∈ l, t.In := fun t ht => (h.mem t ht).in
theorem numsM_inj {a b : Ms} {x y : List UInt8} (ha : NumsM a) (hb : NumsM b) (h : numsM a ++ x = numsM b ++ y) : (a.nonce = b.nonce ∧ a.pos = b.pos ∧ a.fin = b.fin ∧ a.stage = b.stage ∧ a.num = b.num) ∧ x = y := by
  unfold NumsM at ha hb
  unfold numsM at h
  simp only [List.append_assoc] at h
  obtain ⟨e1, h⟩ := varL_apartU (by omega) (by omega) h
  obtain ⟨e2, h⟩ := varL_apartU (by omega) (by omega) h
  obtain ⟨e3, h⟩ := varL_apartU (by omega) (by omega) h
  obtain ⟨e4, h⟩ := varL_apartU (by omega) (by omega) h
  obtain ⟨e5, h⟩ := varL_apartU (by omega) (by omega) h
  exact ⟨by omega, h⟩
theorem kind_inj {a b : Int} (ha : 1 ≤ a ∧ a ≤ 9) (hb : 1 ≤ b ∧ b ≤ 9) (h : UInt8.ofNat a.toNat = UInt8.ofNat b.toNat) : a = b := by
  have := congrArg UInt8.toNat h
  simp only [UInt8.toNat_ofNat'] at this
  omega
theorem textL_inj' {s u x y : List UInt8} (hs : s.length < 9223372036854775808) (hu : u.length < 9223372036854775808) (h : textL s ++ x = textL u ++ y) : s = u ∧ x = y := textL_apart hs hu h
theorem bodyMs_inj {a b : Ms} (ha : MsOk a) (hb : MsOk b) (h : bodyMs a = bodyMs b) : a = b := by
  obtain ⟨ha1, ha2, ha3, ha4, ha5, ha6⟩ := ha
  obtain ⟨hb1, hb2, hb3, hb4, hb5, hb6⟩ := hb
  unfold bodyMs frontM at h
  rw [List.cons_append, List.cons_append, List.cons.injEq] at h
  obtain ⟨hk, h⟩ := h
  have ek := kind_inj ha1.1 hb1.1 hk
  obtain ⟨⟨e1, e2, e3, e4, e5⟩, h⟩ := numsM_inj ha1 hb1 h
  unfold NamedM at ha2 hb2
  obtain ⟨k, n, p, f, s, u, c, e, t, d⟩ := a
  obtain ⟨k', n', p', f', s', u', c', e', t', d'⟩ := b
  simp only at *
  subst ek e1 e2 e3 e4 e5
  rcases (show k = 2 ∨ k = 4 ∨ k = 6 ∨ (k ≠ 2 ∧ k ≠ 4 ∧ k ≠ 6) by omega) with hk | hk | hk | hk
  · rw [tailM_2 hk, tailM_2 hk] at h
    simp only at h
    obtain ⟨hc, he⟩ := ha3 hk
    obtain ⟨hc', he'⟩ := hb3 hk
    obtain ⟨h1, hz⟩ := textL_apart (by have := putC_len hc; omega) (by have := putC_len hc'; omega) h
    clear h
    obtain ⟨rfl, _⟩ := putC_inj (x := []) (y := []) hc hc' (by rw [h1])
    obtain ⟨rfl, _⟩ := entsL_inj (x := []) (y := []) he he' (by rw [hz])
    have hn : ∀ {α : Type} {l : List α} {j : Int}, k ≠ j → (l ≠ [] → k = j) → l = [] := fun hj h2 => Classical.byContradiction fun h3 => hj (h2 h3)
    rw [hn (by omega) ha2.2.2.2.2.2.2.1, hn (by omega) hb2.2.2.2.2.2.2.1, hn (by omega) ha2.2.2.2.2.2.2.2, hn (by omega) hb2.2.2.2.2.2.2.2]
  · rw [tailM_4 hk, tailM_4 hk] at h
    simp only at h
    obtain ⟨hc, he⟩ := ha4 hk
    obtain ⟨hc', he'⟩ := hb4 hk
    obtain ⟨h1, hz⟩ := textL_apart (by have := putC_len hc; omega) (by have := putC_len hc'; omega) h
    clear h
    obtain ⟨rfl, _⟩ := putC_inj (x := []) (y := []) hc hc' (by rw [h1])
    obtain ⟨rfl, _⟩ := marksL_inj (x := []) (y := []) (by have := he.2.1; omega) (by have := he'.2.1; omega) he.ins he'.ins (by rw [hz])
    have hn : ∀ {α : Type} {l : List α} {j : Int}, k ≠ j → (l ≠ [] → k = j) → l = [] := fun hj h2 => Classical.byContradiction fun h3 => hj (h2 h3)
    rw [hn (by omega) ha2.2.2.2.2.2.1, hn (by omega) hb2.2.2.2.2.2.1, hn (by omega) ha2.2.2.2.2.2.2.2, hn (by omega) hb2.2.2.2.2.2.2.2]
  · rw [tailM_6 hk, tailM_6 hk] at h
    simp only at h
    subst h
    have hn : ∀ {α : Type} {l : List α} {j : Int}, k ≠ j → (l ≠ [] → k = j) → l = [] := fun hj h2 => Classical.byContradiction fun h3 => hj (h2 h3)
    have hn2 : ∀ {l : List Tg}, (l ≠ [] → k = 2 ∨ k = 4) → l = [] := fun h2 => Classical.byContradiction fun h3 => by have := h2 h3; omega
    rw [hn2 ha2.2.2.2.2.1, hn2 hb2.2.2.2.2.1, hn (by omega) ha2.2.2.2.2.2.1, hn (by omega) hb2.2.2.2.2.2.1, hn (by omega) ha2.2.2.2.2.2.2.1, hn (by omega) hb2.2.2.2.2.2.2.1]
  · have hn : ∀ {α : Type} {l : List α} {j : Int}, k ≠ j → (l ≠ [] → k = j) → l = [] := fun hj h2 => Classical.byContradiction fun h3 => hj (h2 h3)
    have hn2 : ∀ {l : List Tg}, (l ≠ [] → k = 2 ∨ k = 4) → l = [] := fun h2 => Classical.byContradiction fun h3 => by have := h2 h3; omega
    rw [hn2 ha2.2.2.2.2.1, hn2 hb2.2.2.2.2.1, hn (by omega) ha2.2.2.2.2.2.1, hn (by omega) hb2.2.2.2.2.2.1, hn (by omega) ha2.2.2.2.2.2.2.1, hn (by omega) hb2.2.2.2.2.2.2.1, hn (by omega) ha2.2.2.2.2.2.2.2, hn (by omega) hb2.2.2.2.2.2.2.2]

/-! ### how many bytes -/
theorem Mk.Sent.len {t : Mk} (h2 : t.Sent) : (mkL t).length ≤ 22 := by
  unfold Mk.Sent at h2
  have a1 := varL_bytesU (n := t.id.toNat) (k := 5) (by omega) (by omega)
  have a2 := varL_bytesU (n := t.size.toNat) (k := 2) (by omega) (by omega)
  have a3 := varL_bytesU (n := bitN t.gone) (k := 1) (by omega) (by cases t.gone <;> simp [bitN])
  have a4 := markL_len h2.2.2.2.2
  have a5 := varL_bytesU (n := t.nm.length) (k := 1) (by omega) (by omega)
  unfold mkL textL
  simp only [List.length_append]
  omega
theorem rowM_lenS : ∀ (l : List Mk), (∀ t ∈ l, t.Sent) → (rowM l).length ≤ 22 * l.length
  | [], _ => by simp [rowM]
  | t :: l, h => by
    have h1 := (h t List.mem_cons_self).len
    have h2 := rowM_lenS l fun u hu => h u (List.mem_cons_of_mem _ hu)
    unfold rowM at *
    rw [List.flatMap_cons, List.length_append, List.length_cons]
    omega
theorem MarksSent.len {l : List Mk} (h : MarksSent l) : (marksL l).length ≤ 375 := by
  have h1 := rowM_lenS l h.mem
  have h2 := varL_bytesU (n := l.length) (k := 1) (by omega) (by have := h.2.1; omega)
  have h3 := h.2.1
  unfold marksL
  rw [List.length_append]; omega
theorem rowL_len112 : ∀ (l : List En), (∀ t ∈ l, t.right = true) → (rowL l).length ≤ 112 * l.length
  | [], _ => by simp [rowL]
  | t :: l, h => by
    have h1 := rightE_iff.1 (h t List.mem_cons_self)
    have h2 := rowL_len112 l fun u hu => h u (List.mem_cons_of_mem _ hu)
    unfold rowL at *
    rw [List.flatMap_cons, List.length_append, List.length_cons, layL_len]
    omega
theorem EntsOk.len {p : Int} {l : List En} (h : EntsOk p l) : (entsL l).length ≤ 449 := by
  have h1 := rowL_len112 l h.rights
  have h2 := varL_bytesU (n := l.length) (k := 1) (by omega) (by have := h.1; omega)
  have h3 := h.1
  unfold entsL
  rw [List.length_append]; omega
theorem numsM_len {m : Ms} (h : NumsM m) : 5 ≤ (numsM m).length ∧ (numsM m).length ≤ 21 := by
  unfold NumsM at h
  have h1 := varL_bytesU (n := m.nonce.toNat) (k := 6) (by omega) (by omega)
  have h2 := varL_bytesU (n := m.pos.toNat) (k := 6) (by omega) (by omega)
  have h3 := varL_bytesU (n := m.fin.toNat) (k := 6) (by omega) (by omega)
  have h4 := varL_bytesU (n := m.stage.toNat) (k := 1) (by omega) (by omega)
  have h5 := varL_bytesU (n := m.num.toNat) (k := 2) (by omega) (by omega)
  have k1 := varL_pos m.nonce.toNat
  have k2 := varL_pos m.pos.toNat
  have k3 := varL_pos m.fin.toNat
  have k4 := varL_pos m.stage.toNat
  have k5 := varL_pos m.num.toNat
  unfold numsM
  simp only [List.length_append]; omega
theorem textC_len {c : List Tg} (h : ChOk c) : (textL (putC c)).length ≤ 419 := by
  have h1 := putC_len h
  have h2 := varL_bytesU (n := (putC c).length) (k := 2) (by omega) (by omega)
  unfold textL
  rw [List.length_append]; omega
theorem tailM_len {m : Ms} (h : MsOk m) : (tailM m).length ≤ 868 := by
  obtain ⟨h1, h2, h3, h4, h5, h6⟩ := h
  rcases (show m.kind = 2 ∨ m.kind = 4 ∨ m.kind = 6 ∨ (m.kind ≠ 2 ∧ m.kind ≠ 4 ∧ m.kind ≠ 6) by omega) with hk | hk | hk | hk
  · rw [tailM_2 hk, List.length_append]
    have := textC_len (h3 hk).1
    have := (h3 hk).2.len
    omega
  · rw [tailM_4 hk, List.length_append]
    have := textC_len (h4 hk).1
    have := (h4 hk).2.len
    omega
  · rw [tailM_6 hk]; have := h5 hk; omega
  · rw [tailM_x hk.1 hk.2.1 hk.2.2]; simp
theorem bodyMs_len {m : Ms} (h : MsOk m) : 6 ≤ (bodyMs m).length ∧ (bodyMs m).length ≤ 890 := by
  have h1 := tailM_len h
  have h2 := numsM_len h.1
  unfold bodyMs frontM
  rw [List.cons_append, List.length_cons, List.length_append]; omega

/-! ### what bytes are -/
noncomputable def getMs (b : List UInt8) : Ms × Int := open Classical in match openL b with
  | none => (noMs, 13)
  | some p => if h : ∃ d : Ms, MsOk d ∧ bodyMs d = p then (Classical.choose h, 0) else (noMs, 2)
theorem getMs_sum {b : List UInt8} (h : openL b = none) : getMs b = (noMs, 13) := by unfold getMs; rw [h]
theorem getMs_some {d : Ms} {b p : List UInt8} (ho : openL b = some p) (h : MsOk d) (hb : bodyMs d = p) : getMs b = (d, 0) := by
  have hx : ∃ d : Ms, MsOk d ∧ bodyMs d = p := ⟨d, h, hb⟩
  unfold getMs
  rw [ho]
  simp only
  rw [dif_pos hx]
  have := Classical.choose_spec hx
  rw [bodyMs_inj this.1 h (by rw [this.2, hb])]
theorem getMs_none {b p : List UInt8} (ho : openL b = some p) (h : ∀ d : Ms, MsOk d → bodyMs d ≠ p) : getMs b = (noMs, 2) := by
  unfold getMs
  rw [ho]
  simp only
  rw [dif_neg (fun ⟨l, h1, h2⟩ => h l h1 h2)]
theorem getMs_vain {b p : List UInt8} (ho : openL b = some p) (h : ∀ d : Ms, MsOk d → bodyMs d = p → False) : getMs b = (noMs, 2) := getMs_none ho fun d h1 h2 => h d h1 h2
def GuessMs (p : List UInt8) (g : Ms) : Prop := ∀ d : Ms, MsOk d → bodyMs d = p → g = d
theorem guessMs_yes {b p : List UInt8} {g : Ms} (ho : openL b = some p) (h2 : rightMs g = true) (h3 : sealL (bodyMs g) = b) : getMs b = (g, 0) := by
  refine getMs_some ho (rightMs_iff.1 h2) ?_
  rw [open_is ho] at h3
  exact seal_inj h3
theorem guessMs_not {b p : List UInt8} {g : Ms} (ho : openL b = some p) (h : GuessMs p g) (h2 : rightMs g = false ∨ sealL (bodyMs g) ≠ b) : getMs b = (noMs, 2) := getMs_none ho fun d hd hb => by
  have := h d hd hb
  subst this
  rcases h2 with h2 | h2
  · rw [rightMs_iff.2 hd] at h2; cases h2
  · exact h2 (by rw [hb, open_is ho])
theorem getMs_two (b : List UInt8) : (∃ d p, getMs b = (d, 0) ∧ MsOk d ∧ openL b = some p ∧ bodyMs d = p) ∨ ∃ k, getMs b = (noMs, k) ∧ k ≠ 0 := by
  cases ho : openL b with
  | none => exact .inr ⟨13, getMs_sum ho, by decide⟩
  | some p =>
    by_cases h : ∃ d : Ms, MsOk d ∧ bodyMs d = p
    · obtain ⟨d, h1, h2⟩ := h
      exact .inl ⟨d, p, getMs_some ho h1 h2, h1, rfl, h2⟩
    · exact .inr ⟨2, getMs_none ho fun d h1 h2 => h ⟨d, h1, h2⟩, by decide⟩
end Go.Proofs.Ytiahifpbofkimaa
