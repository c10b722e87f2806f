/- Events: what an event may be, its bytes, what bytes are one; no program in sight. -/
import Derived.Test.YtbpddcmehjgleaaPlain
namespace Go.Proofs.Ytbpddcmehjgleaa
set_option linter.unusedVariables false

structure Ev where
  kind : Int
  off : Int
  len : Int
  data : List UInt8
  name : List UInt8
def noEv : Ev := ⟨0, 0, 0, [], []⟩

def nameC (c : UInt8) : Bool := (97 ≤ c.toNat && c.toNat ≤ 122) || (48 ≤ c.toNat && c.toNat ≤ 57) || c.toNat == 45
def nameOk (s : List UInt8) : Bool := s.all nameC && (decide (1 ≤ s.length) && decide (s.length ≤ 12))
theorem nameOk_len {s : List UInt8} (h : nameOk s = true) : 1 ≤ s.length ∧ s.length ≤ 12 := by
  simp only [nameOk, Bool.and_eq_true, decide_eq_true_eq] at h; exact h.2
/-- from off on n bytes, at least one, at most MaxSize together -/
def within (o n : Int) : Bool := decide (0 ≤ o ∧ 1 ≤ n ∧ n ≤ 512 ∧ o ≤ 512 - n)
theorem within_iff {o n : Int} : within o n = true ↔ 0 ≤ o ∧ 1 ≤ n ∧ n ≤ 512 ∧ o ≤ 512 - n := by unfold within; exact decide_eq_true_iff
/-- The shape of each kind, as a proposition. -/
def Ev.Ok (e : Ev) : Prop :=
  (e.kind = 1 ∧ (e.data.length : Int) ≤ 64 ∧ within e.off e.data.length = true ∧ e.len = 0 ∧ e.name = []) ∨
  ((e.kind = 2 ∨ e.kind = 3) ∧ e.data = [] ∧ within e.off e.len = true ∧ e.name = []) ∨
  (e.kind = 4 ∧ e.data = [] ∧ e.off = 0 ∧ 0 ≤ e.len ∧ e.len ≤ 512 ∧ e.name = []) ∨
  ((e.kind = 5 ∨ e.kind = 6 ∨ e.kind = 7) ∧ e.data = [] ∧ e.off = 0 ∧ e.len = 0 ∧ nameOk e.name = true) ∨
  (e.kind = 8 ∧ e.data = [] ∧ e.off = 0 ∧ e.len = 0 ∧ e.name = [])
instance (e : Ev) : Decidable e.Ok := by unfold Ev.Ok; infer_instance
def Ev.right (e : Ev) : Bool := decide e.Ok
def Ev.plain (e : Ev) : Bool := e.right && decide (e.kind = 1 ∨ e.kind = 2 ∨ e.kind = 3)
def spanA (e : Ev) : Int × Int := if e.plain then (e.off, if e.kind = 1 then (e.data.length : Int) else e.len) else (0, 0)
theorem right_iff {e : Ev} : e.right = true ↔ e.Ok := by unfold Ev.right; exact decide_eq_true_iff
theorem right_kind {e : Ev} (h : e.right = true) : 1 ≤ e.kind ∧ e.kind ≤ 8 := by
  rcases right_iff.1 h with h | h | h | h | h <;> omega

/-- The bytes behind the kind. -/
def bodyE (e : Ev) : List UInt8 :=
  if e.kind = 1 then varL e.off.toNat ++ e.data
  else if e.kind = 2 ∨ e.kind = 3 then varL e.off.toNat ++ varL e.len.toNat
  else if e.kind = 4 then varL e.len.toNat
  else if e.kind = 5 ∨ e.kind = 6 ∨ e.kind = 7 then e.name
  else []
def putE (e : Ev) : List UInt8 := UInt8.ofNat e.kind.toNat :: bodyE e
def putEv (e : Ev) : List UInt8 × Int := if e.right then (putE e, 0) else ([], 1)
theorem putEv_yes {e : Ev} (h : e.right = true) : putEv e = (putE e, 0) := by unfold putEv; rw [if_pos h]
theorem putEv_no {e : Ev} (h : e.right = false) : putEv e = ([], 1) := by unfold putEv; rw [if_neg (by rw [h]; simp)]

theorem bodyE_w {e : Ev} (h : e.kind = 1) : bodyE e = varL e.off.toNat ++ e.data := by unfold bodyE; rw [if_pos h]
theorem bodyE_d {e : Ev} (h : e.kind = 2 ∨ e.kind = 3) : bodyE e = varL e.off.toNat ++ varL e.len.toNat := by unfold bodyE; rw [if_neg (by omega), if_pos h]
theorem bodyE_r {e : Ev} (h : e.kind = 4) : bodyE e = varL e.len.toNat := by unfold bodyE; rw [if_neg (by omega), if_neg (by omega), if_pos h]
theorem bodyE_n {e : Ev} (h : e.kind = 5 ∨ e.kind = 6 ∨ e.kind = 7) : bodyE e = e.name := by unfold bodyE; rw [if_neg (by omega), if_neg (by omega), if_neg (by omega), if_pos h]
theorem bodyE_f {e : Ev} (h : e.kind = 8) : bodyE e = [] := by unfold bodyE; rw [if_neg (by omega), if_neg (by omega), if_neg (by omega), if_neg (by omega)]

theorem varL_two {n : Nat} (h : n < 16384) : (varL n).length ≤ 2 := by
  by_cases h1 : n < 128
  · rw [varL_lo h1]; simp
  · rw [varL_hi (by omega), List.length_cons, varL_lo (by omega)]; simp
/-- At most 67 bytes. -/
theorem putE_len {e : Ev} (h : e.right = true) : 1 ≤ (putE e).length ∧ (putE e).length ≤ 67 := by
  unfold putE
  rw [List.length_cons]
  refine ⟨by omega, ?_⟩
  rcases right_iff.1 h with ⟨k, h1, h2, _⟩ | ⟨k, _, h2, _⟩ | ⟨k, _, _, h2, h3, _⟩ | ⟨k, _, _, _, h2⟩ | ⟨k, _⟩
  · have := within_iff.1 h2
    have h3 := varL_two (n := e.off.toNat) (by omega)
    rw [bodyE_w k, List.length_append]; omega
  · have := within_iff.1 h2
    have h3 := varL_two (n := e.off.toNat) (by omega)
    have h4 := varL_two (n := e.len.toNat) (by omega)
    rw [bodyE_d k, List.length_append]; omega
  · have h3 := varL_two (n := e.len.toNat) (by omega)
    rw [bodyE_r k]; omega
  · have := nameOk_len h2
    rw [bodyE_n k]; omega
  · rw [bodyE_f k]; simp

theorem varL_apart {a b : Nat} {x y : List UInt8} (ha : a < 9223372036854775808) (hb : b < 9223372036854775808) (h : varL a ++ x = varL b ++ y) : a = b ∧ x = y := by
  have h1 := getV_varL ha x
  have h2 := getV_varL hb y
  rw [h, h2] at h1
  simp only [Option.some.injEq, Prod.mk.injEq] at h1
  obtain ⟨rfl, _⟩ := h1
  exact ⟨rfl, List.append_cancel_left h⟩
/-- Unlike events have unlike bytes. -/
theorem putE_inj {e d : Ev} (he : e.right = true) (hd : d.right = true) (h : putE e = putE d) : e = d := by
  have hk1 := right_kind he
  have hk2 := right_kind hd
  unfold putE at h
  rw [List.cons.injEq] at h
  have hk : e.kind = d.kind := by
    have := congrArg UInt8.toNat h.1
    rw [UInt8.toNat_ofNat', UInt8.toNat_ofNat'] at this
    omega
  have hb := h.2
  obtain ⟨k, o, n, da, na⟩ := e
  obtain ⟨k', o', n', da', na'⟩ := d
  simp only at hk hk1 hk2
  subst hk
  rcases right_iff.1 he with h1 | h1 | h1 | h1 | h1 <;> rcases right_iff.1 hd with h2 | h2 | h2 | h2 | h2 <;> simp only at h1 h2 <;> (try omega)
  · obtain ⟨hk, a1, a2, a3, a4⟩ := h1
    obtain ⟨_, b1, b2, b3, b4⟩ := h2
    have a5 := within_iff.1 a2
    have b5 := within_iff.1 b2
    rw [bodyE_w hk, bodyE_w hk] at hb
    obtain ⟨e1, e2⟩ := varL_apart (by simp only; omega) (by simp only; omega) hb
    simp only at e1 e2
    subst e2 a3 b3 a4 b4
    rw [show o = o' by omega]
  · obtain ⟨hk, a1, a2, a3⟩ := h1
    obtain ⟨_, b1, b2, b3⟩ := h2
    have a5 := within_iff.1 a2
    have b5 := within_iff.1 b2
    rw [bodyE_d hk, bodyE_d hk] at hb
    obtain ⟨e1, e2⟩ := varL_apart (by simp only; omega) (by simp only; omega) hb
    have e3 : varL n.toNat ++ [] = varL n'.toNat ++ [] := by simpa using e2
    obtain ⟨e4, _⟩ := varL_apart (by omega) (by omega) e3
    simp only at e1
    subst a1 b1 a3 b3
    rw [show o = o' by omega, show n = n' by omega]
  · obtain ⟨hk, a1, a2, a3, a4, a5⟩ := h1
    obtain ⟨_, b1, b2, b3, b4, b5⟩ := h2
    rw [bodyE_r hk, bodyE_r hk] at hb
    have e3 : varL n.toNat ++ [] = varL n'.toNat ++ [] := by simpa using hb
    obtain ⟨e4, _⟩ := varL_apart (by omega) (by omega) e3
    subst a1 b1 a2 b2 a5 b5
    rw [show n = n' by omega]
  · obtain ⟨hk, a1, a2, a3, a4⟩ := h1
    obtain ⟨_, b1, b2, b3, b4⟩ := h2
    rw [bodyE_n hk, bodyE_n hk] at hb
    simp only at hb
    subst a1 b1 a2 b2 a3 b3 hb
    rfl
  · obtain ⟨hk, a1, a2, a3, a4⟩ := h1
    obtain ⟨_, b1, b2, b3, b4⟩ := h2
    subst a1 b1 a2 b2 a3 b3 a4 b4
    rfl

/-- What bytes are: the one event whose bytes they are, or none. -/
noncomputable def getEv (b : List UInt8) : Ev × Int := open Classical in if h : ∃ e : Ev, e.right = true ∧ putE e = b then (Classical.choose h, 0) else (noEv, 2)
theorem getEv_some {e : Ev} {b : List UInt8} (h : e.right = true) (hb : putE e = b) : getEv b = (e, 0) := by
  have hx : ∃ e : Ev, e.right = true ∧ putE e = b := ⟨e, h, hb⟩
  unfold getEv
  rw [dif_pos hx]
  have := Classical.choose_spec hx
  rw [putE_inj this.1 h (this.2.trans hb.symm)]
theorem getEv_none {b : List UInt8} (h : ∀ e : Ev, e.right = true → putE e ≠ b) : getEv b = (noEv, 2) := by
  unfold getEv
  rw [dif_neg (fun ⟨e, h1, h2⟩ => h e h1 h2)]
theorem getEv_put {e : Ev} (h : e.right = true) : getEv (putE e) = (e, 0) := getEv_some h rfl
theorem getEv_two (b : List UInt8) : (∃ e, getEv b = (e, 0) ∧ e.right = true ∧ putE e = b) ∨ (getEv b = (noEv, 2) ∧ ∀ e : Ev, e.right = true → putE e ≠ b) := by
  by_cases h : ∃ e : Ev, e.right = true ∧ putE e = b
  · obtain ⟨e, h1, h2⟩ := h
    exact .inl ⟨e, getEv_some h1 h2, h1, h2⟩
  · have h2 : ∀ e : Ev, e.right = true → putE e ≠ b := fun e h1 h3 => h ⟨e, h1, h3⟩
    exact .inr ⟨getEv_none h2, h2⟩

/-! ### the one candidate -/
/-- What bytes would be by their kind: the event, and whether its numbers are there. -/
def parseE (b : List UInt8) : Ev × Bool :=
  let k : Nat := (b.headD 0).toNat
  if k = 1 then match getV (b.drop 1) with
    | some (o, j) => (⟨1, (o : Nat), 0, b.drop (1 + j), []⟩, true)
    | none => (⟨1, 0, 0, [], []⟩, false)
  else if k = 2 ∨ k = 3 then match getV (b.drop 1) with
    | some (o, j) => (match getV (b.drop (1 + j)) with
      | some (n, _) => (⟨(k : Nat), (o : Nat), (n : Nat), [], []⟩, true)
      | none => (⟨(k : Nat), (o : Nat), 0, [], []⟩, false))
    | none => (⟨(k : Nat), 0, 0, [], []⟩, false)
  else if k = 4 then match getV (b.drop 1) with
    | some (n, _) => (⟨4, 0, (n : Nat), [], []⟩, true)
    | none => (⟨4, 0, 0, [], []⟩, false)
  else if k = 5 ∨ k = 6 ∨ k = 7 then (⟨(k : Nat), 0, 0, [], b.drop 1⟩, true)
  else (⟨(k : Nat), 0, 0, [], []⟩, true)
theorem parse_put {e : Ev} (h : e.right = true) : parseE (putE e) = (e, true) := by
  have hk := right_kind h
  obtain ⟨k, o, n, d, s⟩ := e
  simp only at hk
  have hh : ((putE ⟨k, o, n, d, s⟩).headD 0).toNat = k.toNat := by
    unfold putE; simp only [List.headD_cons]; rw [UInt8.toNat_ofNat']; omega
  have hdr : (putE ⟨k, o, n, d, s⟩).drop 1 = bodyE ⟨k, o, n, d, s⟩ := rfl
  have hdr2 : ∀ j, (putE ⟨k, o, n, d, s⟩).drop (1 + j) = (bodyE ⟨k, o, n, d, s⟩).drop j := fun j => by rw [Nat.add_comm]; rfl
  unfold parseE
  simp only [hh, hdr, hdr2]
  rcases right_iff.1 h with h1 | h1 | h1 | h1 | h1 <;> simp only at h1
  · obtain ⟨rfl, a1, a2, rfl, rfl⟩ := h1
    have a5 := within_iff.1 a2
    rw [bodyE_w rfl, if_pos (by decide), getV_varL (by simp only; omega)]
    simp only
    rw [List.drop_left, Int.toNat_of_nonneg a5.1]
  · obtain ⟨hk2, rfl, a2, rfl⟩ := h1
    have a5 := within_iff.1 a2
    rw [bodyE_d hk2, if_neg (by omega), if_pos (by omega), getV_varL (by simp only; omega)]
    simp only
    have h3 := getV_varL (k := n.toNat) (by omega) []
    rw [List.append_nil] at h3
    rw [List.drop_left, h3]
    simp only
    rw [Int.toNat_of_nonneg a5.1, Int.toNat_of_nonneg (show 0 ≤ n by omega), Int.toNat_of_nonneg (show 0 ≤ k by omega)]
  · obtain ⟨rfl, rfl, rfl, a1, a2, rfl⟩ := h1
    have h3 := getV_varL (k := n.toNat) (by omega) []
    rw [List.append_nil] at h3
    rw [bodyE_r rfl, if_neg (by decide), if_neg (by decide), if_pos (by decide), h3]
    simp only
    rw [Int.toNat_of_nonneg a1]
  · obtain ⟨hk2, rfl, rfl, rfl, a4⟩ := h1
    rw [bodyE_n hk2, if_neg (by omega), if_neg (by omega), if_neg (by omega), if_pos (by omega), Int.toNat_of_nonneg (by omega)]
  · obtain ⟨rfl, rfl, rfl, rfl, rfl⟩ := h1
    rw [if_neg (by decide), if_neg (by decide), if_neg (by decide), if_neg (by decide)]
    rfl
theorem getEv_yes {b : List UInt8} {e : Ev} (h1 : parseE b = (e, true)) (h2 : e.right = true) (h3 : putE e = b) : getEv b = (e, 0) := getEv_some h2 h3
theorem getEv_not {b : List UInt8} {e : Ev} {ok : Bool} (h1 : parseE b = (e, ok)) (h : ok = false ∨ e.right = false ∨ putE e ≠ b) : getEv b = (noEv, 2) := by
  refine getEv_none fun d hd hb => ?_
  subst hb
  rw [parse_put hd] at h1
  cases h1
  rcases h with h | h | h
  · cases h
  · rw [hd] at h; cases h
  · exact h rfl
theorem getEv_long {b : List UInt8} (h : 67 < b.length ∨ b.length = 0) : getEv b = (noEv, 2) := by
  refine getEv_none fun d hd hb => ?_
  have := putE_len hd
  subst hb; omega
end Go.Proofs.Ytbpddcmehjgleaa
