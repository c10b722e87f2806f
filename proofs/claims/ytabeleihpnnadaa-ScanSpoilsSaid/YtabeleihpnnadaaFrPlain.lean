/- Frames: what a frame is, what is taken of bytes; no program in sight. -/
import Derived.Test.YtabeleihpnnadaaCrcBurst
namespace Go.Proofs.Ytabeleihpnnadaa
set_option linter.unusedVariables false

structure En where
  tag : Int
  seq : Int
  data : List UInt8
instance : DecidableEq En := fun a b => decidable_of_iff (a.tag = b.tag ∧ a.seq = b.seq ∧ a.data = b.data) (by cases a; cases b; simp)
def noE : En := ⟨0, 0, []⟩

def rightE (t s : Int) (n : Nat) : Bool := decide (1 ≤ t ∧ t ≤ 1073741824 ∧ 1 ≤ s ∧ s ≤ 1099511627776 ∧ 1 ≤ n ∧ n ≤ 90)
def En.right (e : En) : Bool := rightE e.tag e.seq e.data.length
theorem rightE_iff {t s : Int} {n : Nat} : rightE t s n = true ↔ 1 ≤ t ∧ t ≤ 1073741824 ∧ 1 ≤ s ∧ s ≤ 1099511627776 ∧ 1 ≤ n ∧ n ≤ 90 := by unfold rightE; exact decide_eq_true_iff
theorem rightE_not {t s : Int} {n : Nat} (h : rightE t s n = false) : ¬ (1 ≤ t ∧ t ≤ 1073741824 ∧ 1 ≤ s ∧ s ≤ 1099511627776 ∧ 1 ≤ n ∧ n ≤ 90) := by
  intro c; rw [rightE_iff.2 c] at h; cases h

def hgje : List UInt8 := [72, 71, 74, 69]
/-- A frame's bytes ahead of Data. -/
def headL (t s n : Nat) : List UInt8 := ((hgje ++ putL t 4) ++ putL s 8) ++ putL n 2
theorem headL_len (t s n : Nat) : (headL t s n).length = 18 := by simp [headL, hgje, putL_len]
def En.head (e : En) : List UInt8 := headL e.tag.toNat e.seq.toNat e.data.length
def layL (e : En) : List UInt8 := sealL (e.head ++ e.data)
theorem layL_len (e : En) : (layL e).length = e.data.length + 22 := by
  unfold layL En.head; rw [sealL_len, List.length_append, headL_len]; omega
def layA (e : En) : List UInt8 × Int := if e.right then (layL e, 0) else ([], 1)
theorem layA_yes {e : En} (h : e.right = true) : layA e = (layL e, 0) := by unfold layA; rw [if_pos h]
theorem layA_no {e : En} (h : e.right = false) : layA e = ([], 1) := by unfold layA; rw [if_neg (by rw [h]; simp)]

/-- The number of k bytes at o. -/
def fieldL (m : List UInt8) (o k : Nat) : Nat := getL ((m.drop o).take k)
theorem fieldL_lt (m : List UInt8) (o k : Nat) : fieldL m o k < 256 ^ k := by
  unfold fieldL
  have h := getL_lt ((m.drop o).take k)
  have h2 : ((m.drop o).take k).length ≤ k := by simp; omega
  exact Nat.lt_of_lt_of_le h (Nat.pow_le_pow_right (by decide) h2)
theorem fieldL_mid (a b c : List UInt8) (o k : Nat) (ha : a.length = o) (hb : b.length = k) : fieldL (a ++ (b ++ c)) o k = getL b := by
  unfold fieldL; subst ha hb; rw [List.drop_left, List.take_left]
def begunA (m : List UInt8) : Option (Nat × Nat × Nat) :=
  if 22 ≤ m.length ∧ fieldL m 0 4 = 1162495816 ∧ rightE (fieldL m 4 4) (fieldL m 8 8) (fieldL m 16 2) = true ∧ fieldL m 16 2 + 22 ≤ m.length then some (fieldL m 4 4, fieldL m 8 8, fieldL m 16 2) else none
theorem begunA_none {m : List UInt8} (h : ¬ (22 ≤ m.length ∧ fieldL m 0 4 = 1162495816 ∧ rightE (fieldL m 4 4) (fieldL m 8 8) (fieldL m 16 2) = true ∧ fieldL m 16 2 + 22 ≤ m.length)) : begunA m = none := by unfold begunA; rw [if_neg h]
theorem begunA_some {m : List UInt8} {t s n : Nat} (h : begunA m = some (t, s, n)) : 22 ≤ m.length ∧ fieldL m 0 4 = 1162495816 ∧ rightE t s n = true ∧ n + 22 ≤ m.length ∧ fieldL m 4 4 = t ∧ fieldL m 8 8 = s ∧ fieldL m 16 2 = n := by
  unfold begunA at h
  split at h
  · rename_i c
    simp only [Option.some.injEq, Prod.mk.injEq] at h
    obtain ⟨rfl, rfl, rfl⟩ := h
    exact ⟨c.1, c.2.1, c.2.2.1, c.2.2.2, rfl, rfl, rfl⟩
  · cases h
/-- What is taken at the beginning of m: the entry, how many bytes, why not. -/
def takeM (m : List UInt8) : En × Nat × Int :=
  if m.length = 0 then (noE, 0, 4) else match begunA m with
    | none => (noE, 0, 2)
    | some (t, s, n) => match openL (m.take (n + 22)) with
      | none => (noE, 0, 13)
      | some b => (⟨t, s, b.drop 18⟩, n + 22, 0)
def takeA (l : List UInt8) (p : Int) : En × Int × Int :=
  if p < 0 ∨ (l.length : Int) < p then (noE, 0, 3) else ((takeM (l.drop p.toNat)).1, if (takeM (l.drop p.toNat)).2.2 = 0 then p + (takeM (l.drop p.toNat)).2.1 else 0, (takeM (l.drop p.toNat)).2.2)
theorem takeA_out {l : List UInt8} {p : Int} (h : p < 0 ∨ (l.length : Int) < p) : takeA l p = (noE, 0, 3) := by unfold takeA; rw [if_pos h]
theorem takeA_in {l : List UInt8} {p : Nat} (h : p ≤ l.length) : takeA l p = ((takeM (l.drop p)).1, if (takeM (l.drop p)).2.2 = 0 then (p : Int) + (takeM (l.drop p)).2.1 else 0, (takeM (l.drop p)).2.2) := by
  unfold takeA; rw [if_neg (by omega)]; rfl
theorem takeM_nil {m : List UInt8} (h : m.length = 0) : takeM m = (noE, 0, 4) := by unfold takeM; rw [if_pos h]
theorem takeM_form {m : List UInt8} (h0 : 0 < m.length) (h : begunA m = none) : takeM m = (noE, 0, 2) := by unfold takeM; rw [if_neg (by omega), h]
theorem takeM_sum {m : List UInt8} {t s n : Nat} (h : begunA m = some (t, s, n)) (h2 : openL (m.take (n + 22)) = none) : takeM m = (noE, 0, 13) := by
  have := (begunA_some h).1
  unfold takeM; rw [if_neg (by omega), h]; simp only; rw [h2]
theorem takeM_ok {m b : List UInt8} {t s n : Nat} (h : begunA m = some (t, s, n)) (h2 : openL (m.take (n + 22)) = some b) : takeM m = (⟨t, s, b.drop 18⟩, n + 22, 0) := by
  have := (begunA_some h).1
  unfold takeM; rw [if_neg (by omega), h]; simp only; rw [h2]
theorem openL_some {l b : List UInt8} (h : openL l = some b) : b = l.take (l.length - 4) ∧ 4 ≤ l.length := by
  unfold openL at h
  split at h
  · rename_i c; exact ⟨(Option.some.inj h).symm, c.1⟩
  · cases h
/-- What is taken: all of its ways. -/
theorem takeM_cases (m : List UInt8) : (takeM m = (noE, 0, 4) ∧ m.length = 0) ∨ takeM m = (noE, 0, 2) ∨ takeM m = (noE, 0, 13) ∨
    ∃ e, takeM m = (e, e.data.length + 22, 0) ∧ e.right = true ∧ e.data.length + 22 ≤ m.length := by
  by_cases h0 : m.length = 0
  · exact .inl ⟨takeM_nil h0, h0⟩
  · cases hb : begunA m with
    | none => exact .inr (.inl (takeM_form (by omega) hb))
    | some x =>
      obtain ⟨t, s, n⟩ := x
      have hs := begunA_some hb
      cases ho : openL (m.take (n + 22)) with
      | none => exact .inr (.inr (.inl (takeM_sum hb ho)))
      | some b =>
        refine .inr (.inr (.inr ⟨⟨t, s, b.drop 18⟩, ?_, ?_, ?_⟩))
        all_goals
          have h1 : (m.take (n + 22)).length = n + 22 := by simp; omega
          have h2 : (b.drop 18).length = n := by rw [(openL_some ho).1, List.length_drop, List.length_take, h1]; omega
        · rw [takeM_ok hb ho]; simp only; rw [h2]
        · unfold En.right; simp only; rw [h2]; exact hs.2.2.1
        · simp only; rw [h2]; exact hs.2.2.2.1

/-! ### what is laid is taken -/
theorem toNat_pos {t : Int} (h : 0 ≤ t) : ((t.toNat : Nat) : Int) = t := Int.toNat_of_nonneg h
theorem head_fields (t s n : Nat) (r : List UInt8) (ht : t < 4294967296) (hs : s < 18446744073709551616) (hn : n < 65536) :
    fieldL (headL t s n ++ r) 0 4 = 1162495816 ∧ fieldL (headL t s n ++ r) 4 4 = t ∧ fieldL (headL t s n ++ r) 8 8 = s ∧ fieldL (headL t s n ++ r) 16 2 = n := by
  unfold headL
  refine ⟨?_, ?_, ?_, ?_⟩
  · have e : ((hgje ++ putL t 4) ++ putL s 8) ++ putL n 2 ++ r = [] ++ (hgje ++ (putL t 4 ++ (putL s 8 ++ (putL n 2 ++ r)))) := by simp
    rw [e, fieldL_mid [] hgje _ 0 4 rfl rfl]; decide
  · have e : ((hgje ++ putL t 4) ++ putL s 8) ++ putL n 2 ++ r = hgje ++ (putL t 4 ++ (putL s 8 ++ (putL n 2 ++ r))) := by simp
    rw [e, fieldL_mid hgje _ _ 4 4 rfl (putL_len _ _), getL_putL]; exact Nat.mod_eq_of_lt ht
  · have e : ((hgje ++ putL t 4) ++ putL s 8) ++ putL n 2 ++ r = (hgje ++ putL t 4) ++ (putL s 8 ++ (putL n 2 ++ r)) := by simp
    rw [e, fieldL_mid _ _ _ 8 8 (by simp [hgje, putL_len]) (putL_len _ _), getL_putL]; exact Nat.mod_eq_of_lt hs
  · have e : ((hgje ++ putL t 4) ++ putL s 8) ++ putL n 2 ++ r = ((hgje ++ putL t 4) ++ putL s 8) ++ (putL n 2 ++ r) := by simp
    rw [e, fieldL_mid _ _ _ 16 2 (by simp [hgje, putL_len]) (putL_len _ _), getL_putL]; exact Nat.mod_eq_of_lt hn
theorem lay_fields {e : En} (h : e.right = true) (r : List UInt8) :
    fieldL (layL e ++ r) 0 4 = 1162495816 ∧ fieldL (layL e ++ r) 4 4 = e.tag.toNat ∧ fieldL (layL e ++ r) 8 8 = e.seq.toNat ∧ fieldL (layL e ++ r) 16 2 = e.data.length := by
  have hr := rightE_iff.1 h
  have e1 : layL e ++ r = headL e.tag.toNat e.seq.toNat e.data.length ++ (e.data ++ (putL (crcL (e.head ++ e.data)).toNat 4 ++ r)) := by
    unfold layL sealL En.head; simp
  rw [e1]
  exact head_fields _ _ _ _ (by omega) (by omega) (by omega)
theorem begun_lay {e : En} (h : e.right = true) (r : List UInt8) : begunA (layL e ++ r) = some (e.tag.toNat, e.seq.toNat, e.data.length) := by
  have hr := rightE_iff.1 h
  obtain ⟨h1, h2, h3, h4⟩ := lay_fields h r
  have hl : (layL e ++ r).length = e.data.length + 22 + r.length := by rw [List.length_append, layL_len]
  unfold begunA
  rw [h1, h2, h3, h4, if_pos]
  refine ⟨by omega, rfl, ?_, by omega⟩
  rw [toNat_pos (by omega), toNat_pos (by omega)]; exact h
theorem take_lay {e : En} (h : e.right = true) (r : List UInt8) : takeM (layL e ++ r) = (e, e.data.length + 22, 0) := by
  have hr := rightE_iff.1 h
  have ho : openL ((layL e ++ r).take (e.data.length + 22)) = some (e.head ++ e.data) := by
    rw [← layL_len e, List.take_left]; exact open_seal _
  rw [takeM_ok (begun_lay h r) ho]
  have hd : (e.head ++ e.data).drop 18 = e.data := by
    rw [← headL_len e.tag.toNat e.seq.toNat e.data.length]; exact List.drop_left
  rw [hd, toNat_pos (by omega), toNat_pos (by omega)]
/-- A frame that is cut off is none. -/
theorem take_cut {e : En} (h : e.right = true) {k : Nat} (hk : k < e.data.length + 22) : (takeM ((layL e).take k)).2.2 ≠ 0 := by
  rcases takeM_cases ((layL e).take k) with h1 | h1 | h1 | ⟨x, h1, h2, h3⟩
  · rw [h1.1]; decide
  · rw [h1]; decide
  · rw [h1]; decide
  · exfalso
    have hlen : ((layL e).take k).length = k := by rw [List.length_take, layL_len]; omega
    cases hb : begunA ((layL e).take k) with
    | none => rw [takeM_form (by omega) hb] at h1; simp at h1
    | some y =>
      obtain ⟨t, s, n⟩ := y
      obtain ⟨c1, c2, c3, c4, c5, c6, c7⟩ := begunA_some hb
      have e1 : fieldL ((layL e).take k) 16 2 = e.data.length := by
        have := (lay_fields h []).2.2.2
        rw [List.append_nil] at this
        rw [← this]
        unfold fieldL
        rw [List.drop_take, List.take_take, Nat.min_eq_left (by omega)]
      omega

/-! ### rows of frames -/
def rowL (es : List En) : List UInt8 := es.flatMap layL
/-- What is taken from p on, f frames at most. -/
def allF : Nat → List UInt8 → Nat → List En × Nat
  | 0, _, p => ([], p)
  | f + 1, l, p => if (takeM (l.drop p)).2.2 = 0 then ((takeM (l.drop p)).1 :: (allF f l (p + (takeM (l.drop p)).2.1)).1, (allF f l (p + (takeM (l.drop p)).2.1)).2) else ([], p)
def allA (l : List UInt8) : List En × Nat := allF (l.length + 1) l 0
theorem allF_end {l : List UInt8} {p f : Nat} (h : (takeM (l.drop p)).2.2 ≠ 0) : allF f l p = ([], p) := by
  cases f with
  | zero => rfl
  | succ f => rw [allF, if_neg h]
theorem allF_go {l : List UInt8} {p f n : Nat} {e : En} (h : takeM (l.drop p) = (e, n, 0)) : allF (f + 1) l p = (e :: (allF f l (p + n)).1, (allF f l (p + n)).2) := by
  rw [allF, h, if_pos rfl]
theorem rowL_len (es : List En) : (rowL es).length = (es.map fun e => e.data.length + 22).sum := by
  induction es with
  | nil => rfl
  | cons e es ih => unfold rowL at ih ⊢; rw [List.flatMap_cons, List.length_append, layL_len, ih]; rfl
/-- Of frames that lie one behind the other, and of the last one cut off, those that are whole are taken. -/
theorem all_row (es : List En) (hes : ∀ e ∈ es, e.right = true) (e : Option (En × Nat)) (he : ∀ x k, e = some (x, k) → x.right = true ∧ k < x.data.length + 22) :
    ∀ (pre : List UInt8) (f : Nat), es.length < f → allF f (pre ++ (rowL es ++ (e.map fun x => (layL x.1).take x.2).getD [])) pre.length = (es, pre.length + (rowL es).length) := by
  induction es with
  | nil =>
    intro pre f hf
    rw [allF_end]
    · simp [rowL]
    · rw [List.drop_left]
      show (takeM ((e.map fun x => (layL x.1).take x.2).getD [])).2.2 ≠ 0
      cases e with
      | none => decide
      | some x => exact take_cut (he x.1 x.2 rfl).1 (he x.1 x.2 rfl).2
  | cons d es ih =>
    intro pre f hf
    obtain ⟨f, rfl⟩ : ∃ g, f = g + 1 := ⟨f - 1, by simp at hf; omega⟩
    have hd := hes d (List.mem_cons_self ..)
    have ht : takeM ((pre ++ (rowL (d :: es) ++ (e.map fun x => (layL x.1).take x.2).getD [])).drop pre.length) = (d, d.data.length + 22, 0) := by
      rw [List.drop_left]
      have : rowL (d :: es) ++ (e.map fun x => (layL x.1).take x.2).getD [] = layL d ++ (rowL es ++ (e.map fun x => (layL x.1).take x.2).getD []) := by
        simp [rowL]
      rw [this]; exact take_lay hd _
    rw [allF_go ht]
    have h := ih (fun x hx => hes x (List.mem_cons_of_mem _ hx)) (pre ++ layL d) f (by simp at hf; omega)
    have e1 : pre ++ layL d ++ (rowL es ++ (e.map fun x => (layL x.1).take x.2).getD []) = pre ++ (rowL (d :: es) ++ (e.map fun x => (layL x.1).take x.2).getD []) := by simp [rowL]
    have e2 : (pre ++ layL d).length = pre.length + (d.data.length + 22) := by rw [List.length_append, layL_len]
    rw [e1, e2] at h
    rw [h]
    simp [rowL, layL_len]; omega

/-! ### a frame with bits turned -/
theorem take_turned {e : En} (h : e.right = true) {F : List UInt8} (hl : F.length = (layL e).length) (h16 : fieldL F 16 2 = fieldL (layL e) 16 2) (ho : openL F = none) : (takeM F).2.2 ≠ 0 := by
  have hn := (lay_fields h []).2.2.2
  rw [List.append_nil] at hn
  rw [layL_len] at hl
  cases hb : begunA F with
  | none => rw [takeM_form (by omega) hb]; decide
  | some y =>
    obtain ⟨t, s, n⟩ := y
    obtain ⟨c1, c2, c3, c4, c5, c6, c7⟩ := begunA_some hb
    have : F.take (n + 22) = F := List.take_of_length_le (by omega)
    rw [takeM_sum hb (by rw [this]; exact ho)]; decide
theorem field_eq {F S : List UInt8} (h : F[16]? = S[16]?) (h2 : F[17]? = S[17]?) : fieldL F 16 2 = fieldL S 16 2 := by
  unfold fieldL
  congr 1
  apply List.ext_getElem?
  intro i
  rw [List.getElem?_take, List.getElem?_take, List.getElem?_drop, List.getElem?_drop]
  match i with
  | 0 => simp [h]
  | 1 => simp [h2]
  | i + 2 => rw [if_neg (by omega), if_neg (by omega)]

/-! ### the first place from p on -/
def frokAt (l : List UInt8) (p : Nat) : Bool := decide ((takeM (l.drop p)).2.2 = 0)
/-- The first place from p on, f places at most. -/
def seekF : Nat → List UInt8 → Nat → Int
  | 0, _, _ => -1
  | f + 1, l, p => if frokAt l p then p else seekF f l (p + 1)
def seekA (l : List UInt8) (p : Int) : Int := seekF (l.length - p.toNat) l p.toNat
theorem seekF_le {l : List UInt8} {q : Nat} (hq : frokAt l q = true) : ∀ f p, p ≤ q → q < p + f → 0 ≤ seekF f l p ∧ seekF f l p ≤ q
  | 0, p, h1, h2 => by omega
  | f + 1, p, h1, h2 => by
    rw [seekF]
    split
    · omega
    · rename_i c
      have : p ≠ q := fun e => c (by rw [e]; exact hq)
      exact seekF_le hq f (p + 1) (by omega) (by omega)
theorem take_end {l : List UInt8} {p : Nat} (h : l.length ≤ p) : (takeM (l.drop p)).2.2 ≠ 0 := by
  rw [takeM_nil (by simp; omega)]; decide
end Go.Proofs.Ytabeleihpnnadaa
