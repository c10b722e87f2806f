/- Images as they should be: what an event makes of one; no program in sight. -/
import Derived.Test.YtbpddcmehjgleaaEvPlain
namespace Go.Proofs.Ytbpddcmehjgleaa
set_option linter.unusedVariables false
set_option linter.unnecessarySimpa false
set_option linter.unusedSimpArgs false

structure Od where
  name : List UInt8
  data : List UInt8
deriving DecidableEq
structure Sx where
  data : List UInt8
  snaps : List Od
deriving DecidableEq
def noSx : Sx := ⟨[], []⟩
def heldM (n : Int) : Nat := (min (max n 0) 512).toNat
def newM (n : Int) : Sx := ⟨List.replicate (heldM n) 0, []⟩
/-- A snapshot's place, a snapshot, by its name. -/
def placeO (l : List Od) (n : List UInt8) : Option Nat := l.findIdx? fun o => decide (o.name = n)
def lookO (l : List Od) (n : List UInt8) : Option Od := l.find? fun o => decide (o.name = n)
theorem placeO_look {l : List Od} {n : List UInt8} {k : Nat} (h : placeO l n = some k) : ∃ o, l[k]? = some o ∧ lookO l n = some o ∧ o.name = n := by
  unfold placeO at h
  rw [List.findIdx?_eq_some_iff_getElem] at h
  obtain ⟨hk, h1, h2⟩ := h
  refine ⟨l[k], List.getElem?_eq_getElem hk, ?_, by simpa using h1⟩
  unfold lookO
  rw [List.find?_eq_some_iff_getElem]
  exact ⟨h1, k, hk, rfl, fun j hj => by have := h2 j hj; simpa using this⟩
theorem placeO_none {l : List Od} {n : List UInt8} : placeO l n = none ↔ lookO l n = none := by
  unfold placeO lookO
  rw [List.findIdx?_eq_none_iff, List.find?_eq_none]
  simp
def checkM (s : Sx) (e : Ev) : Int :=
  if e.right = false then 1
  else if e.kind = 1 ∨ e.kind = 2 ∨ e.kind = 3 then (if (s.data.length : Int) < (spanA e).1 + (spanA e).2 then 3 else 0)
  else if e.kind = 5 then (if (placeO s.snaps e.name).isSome then 5 else if 8 ≤ s.snaps.length then 6 else 0)
  else if e.kind = 6 ∨ e.kind = 7 then (if (placeO s.snaps e.name).isSome then 0 else 4)
  else 0
def sizedL (b : List UInt8) (n : Nat) : List UInt8 := b.take n ++ List.replicate (n - b.length) 0
theorem sizedL_len (b : List UInt8) (n : Nat) : (sizedL b n).length = n := by unfold sizedL; simp; omega
/-- Bytes with p from off on. -/
def layB (b : List UInt8) (off : Nat) (p : List UInt8) : List UInt8 := b.take off ++ (p ++ b.drop (off + p.length))
theorem layB_len {b p : List UInt8} {off : Nat} (h : off + p.length ≤ b.length) : (layB b off p).length = b.length := by unfold layB; simp; omega
def doneM (s : Sx) (e : Ev) : Sx :=
  if e.kind = 1 then ⟨layB s.data e.off.toNat e.data, s.snaps⟩
  else if e.kind = 2 ∨ e.kind = 3 then ⟨layB s.data e.off.toNat (List.replicate e.len.toNat 0), s.snaps⟩
  else if e.kind = 4 then ⟨sizedL s.data e.len.toNat, s.snaps⟩
  else if e.kind = 5 then ⟨s.data, s.snaps ++ [⟨e.name, s.data⟩]⟩
  else if e.kind = 6 then ⟨s.data, s.snaps.eraseIdx ((placeO s.snaps e.name).getD 0)⟩
  else if e.kind = 7 then ⟨((lookO s.snaps e.name).getD ⟨[], []⟩).data, s.snaps⟩
  else s
def applyM (s : Sx) (e : Ev) : Sx × Int := if checkM s e = 0 then (doneM s e, 0) else (noSx, checkM s e)
def stepM (s : Sx) (e : Ev) : Sx := if checkM s e = 0 then doneM s e else s
def foldM (s : Sx) (l : List Ev) : Sx := l.foldl stepM s
theorem applyM_yes {s : Sx} {e : Ev} (h : checkM s e = 0) : applyM s e = (doneM s e, 0) := by unfold applyM; rw [if_pos h]
theorem applyM_no {s : Sx} {e : Ev} (h : checkM s e ≠ 0) : applyM s e = (noSx, checkM s e) := by unfold applyM; rw [if_neg h]
theorem stepM_yes {s : Sx} {e : Ev} (h : checkM s e = 0) : stepM s e = doneM s e := by unfold stepM; rw [if_pos h]
theorem stepM_no {s : Sx} {e : Ev} (h : checkM s e ≠ 0) : stepM s e = s := by unfold stepM; rw [if_neg h]
theorem foldM_nil (s : Sx) : foldM s [] = s := rfl
theorem foldM_cons (s : Sx) (e : Ev) (l : List Ev) : foldM s (e :: l) = foldM (stepM s e) l := rfl
theorem foldM_app (s : Sx) (a b : List Ev) : foldM s (a ++ b) = foldM (foldM s a) b := by unfold foldM; rw [List.foldl_append]
theorem foldM_snoc (s : Sx) (a : List Ev) (e : Ev) : foldM s (a ++ [e]) = stepM (foldM s a) e := by rw [foldM_app]; rfl
/-- Which may be. -/
def ApartO (l : List Od) : Prop := ∀ (i j : Nat) a b, i < j → l[i]? = some a → l[j]? = some b → a.name ≠ b.name
structure StOk (s : Sx) : Prop where
  size : s.data.length ≤ 512
  many : s.snaps.length ≤ 8
  names : ∀ o ∈ s.snaps, nameOk o.name = true
  sizes : ∀ o ∈ s.snaps, o.data.length ≤ 512
  apart : ApartO s.snaps
theorem newM_ok (n : Int) : StOk (newM n) := ⟨by unfold newM heldM; simp; omega, by simp [newM], fun o h => by simp [newM] at h, fun o h => by simp [newM] at h, fun i j a b _ h => by simp [newM] at h⟩
theorem span_1 {e : Ev} (h : e.right = true) (hk : e.kind = 1) : spanA e = (e.off, (e.data.length : Int)) := by unfold spanA Ev.plain; rw [h]; simp [hk]
theorem span_2 {e : Ev} (h : e.right = true) (hk : e.kind = 2 ∨ e.kind = 3) : spanA e = (e.off, e.len) := by unfold spanA Ev.plain; rw [h]; rcases hk with hk | hk <;> simp [hk]
theorem check_right {s : Sx} {e : Ev} (h : checkM s e = 0) : e.right = true := by
  cases hr : e.right with
  | true => rfl
  | false => unfold checkM at h; rw [if_pos hr] at h; cases h
theorem apartO_sub {l m : List Od} (h : ApartO l) (hs : m.Sublist l) : ApartO m := by
  unfold ApartO at *
  have h1 : l.Pairwise fun a b => a.name ≠ b.name := by
    rw [List.pairwise_iff_getElem]
    intro i j hi hj hij
    exact h i j _ _ hij (List.getElem?_eq_getElem hi) (List.getElem?_eq_getElem hj)
  have h2 := h1.sublist hs
  rw [List.pairwise_iff_getElem] at h2
  intro i j a b hij ha hb
  obtain ⟨hi, rfl⟩ := List.getElem?_eq_some_iff.1 ha
  obtain ⟨hj, rfl⟩ := List.getElem?_eq_some_iff.1 hb
  exact h2 i j hi hj hij
theorem apartO_snoc {l : List Od} {o : Od} (h : ApartO l) (hn : lookO l o.name = none) : ApartO (l ++ [o]) := by
  intro i j a b hij ha hb
  unfold lookO at hn
  rw [List.find?_eq_none] at hn
  have hj := (List.getElem?_eq_some_iff.1 hb).1
  rw [List.length_append, List.length_singleton] at hj
  rw [List.getElem?_append_left (by omega)] at ha
  by_cases c : j < l.length
  · rw [List.getElem?_append_left c] at hb
    exact h i j a b hij ha hb
  · have e : j = l.length := by omega
    rw [List.getElem?_append_right (by omega), e, Nat.sub_self] at hb
    simp at hb; subst hb
    have := hn a (List.mem_of_getElem? ha)
    simpa using this
theorem doneM_ok {s : Sx} {e : Ev} (h : StOk s) (hc : checkM s e = 0) : StOk (doneM s e) := by
  have hr := check_right hc
  have hk := right_kind hr
  have hR := right_iff.1 hr
  unfold checkM at hc
  rw [if_neg (by rw [hr]; simp)] at hc
  unfold doneM
  rcases (show e.kind = 1 ∨ (e.kind = 2 ∨ e.kind = 3) ∨ e.kind = 4 ∨ e.kind = 5 ∨ e.kind = 6 ∨ e.kind = 7 ∨ e.kind = 8 by omega) with k | k | k | k | k | k | k
  · rw [if_pos k]
    rw [if_pos (by omega), span_1 hr k] at hc
    have ho : 0 ≤ e.off := by rcases hR with h | h | h | h | h <;> first | omega | exact (within_iff.1 h.2.2.1).1
    simp only at hc
    split at hc
    · cases hc
    · refine ⟨?_, h.many, h.names, h.sizes, h.apart⟩
      simp only
      rw [layB_len (by omega)]; exact h.size
  · rw [if_neg (by omega), if_pos k]
    rw [if_pos (by omega), span_2 hr k] at hc
    have ho : 0 ≤ e.off ∧ 1 ≤ e.len := by
      rcases hR with h | h | h | h | h
      · omega
      · have := within_iff.1 h.2.2.1; omega
      · omega
      · omega
      · omega
    simp only at hc
    split at hc
    · cases hc
    · refine ⟨?_, h.many, h.names, h.sizes, h.apart⟩
      simp only
      rw [layB_len (by rw [List.length_replicate]; omega)]; exact h.size
  · rw [if_neg (by omega), if_neg (by omega), if_pos k]
    have hl : e.len ≤ 512 := by rcases hR with h | h | h | h | h <;> omega
    exact ⟨by simp only; rw [sizedL_len]; omega, h.many, h.names, h.sizes, h.apart⟩
  · rw [if_neg (by omega), if_neg (by omega), if_neg (by omega), if_pos k]
    rw [if_neg (by omega), if_pos k] at hc
    have hn : nameOk e.name = true := by
      rcases hR with h | h | h | h | h
      · omega
      · omega
      · omega
      · exact h.2.2.2.2
      · omega
    split at hc
    · cases hc
    · rename_i c
      split at hc
      · cases hc
      · have hl : lookO s.snaps e.name = none := placeO_none.1 (by cases hp : placeO s.snaps e.name with | none => rfl | some x => rw [hp] at c; simp at c)
        refine ⟨h.size, by simp only [List.length_append, List.length_singleton]; omega, fun o ho => ?_, fun o ho => ?_, apartO_snoc h.apart hl⟩
        · rcases List.mem_append.1 ho with ho | ho
          · exact h.names o ho
          · simp at ho; subst ho; exact hn
        · rcases List.mem_append.1 ho with ho | ho
          · exact h.sizes o ho
          · simp at ho; subst ho; exact h.size
  · rw [if_neg (by omega), if_neg (by omega), if_neg (by omega), if_neg (by omega), if_pos k]
    have hs := List.eraseIdx_sublist s.snaps ((placeO s.snaps e.name).getD 0)
    exact ⟨h.size, Nat.le_trans hs.length_le h.many, fun o ho => h.names o (hs.subset ho), fun o ho => h.sizes o (hs.subset ho), apartO_sub h.apart hs⟩
  · rw [if_neg (by omega), if_neg (by omega), if_neg (by omega), if_neg (by omega), if_neg (by omega), if_pos k]
    refine ⟨?_, h.many, h.names, h.sizes, h.apart⟩
    simp only
    cases hl : lookO s.snaps e.name with
    | none => simp
    | some o => exact h.sizes o (List.mem_of_find?_eq_some hl)
  · rw [if_neg (by omega), if_neg (by omega), if_neg (by omega), if_neg (by omega), if_neg (by omega), if_neg (by omega)]
    exact h
theorem stepM_ok {s : Sx} (h : StOk s) (e : Ev) : StOk (stepM s e) := by
  by_cases c : checkM s e = 0
  · rw [stepM_yes c]; exact doneM_ok h c
  · rw [stepM_no c]; exact h
theorem foldM_ok {s : Sx} (h : StOk s) : ∀ l, StOk (foldM s l)
  | [] => h
  | e :: l => by rw [foldM_cons]; exact foldM_ok (stepM_ok h e) l
/-- Those that are taken. -/
def takenM : Sx → List Ev → List Ev
  | _, [] => []
  | s, e :: l => if checkM s e = 0 then e :: takenM (doneM s e) l else takenM s l
theorem foldM_taken : ∀ {s : Sx} {l : List Ev}, foldM s (takenM s l) = foldM s l
  | s, [] => rfl
  | s, e :: l => by
    rw [foldM_cons]
    unfold takenM
    split
    · rename_i c
      rw [foldM_cons, stepM_yes c]; exact foldM_taken
    · rename_i c
      rw [stepM_no c]; exact foldM_taken
/-! ### what a snapshot holds it keeps -/
theorem look_app {l : List Od} {o p : Od} {n : List UInt8} (h : lookO l n = some o) : lookO (l ++ [p]) n = some o := by
  unfold lookO at *; rw [List.find?_append, h]; rfl
theorem look_erase : ∀ {l : List Od} {j : Nat} {a : Od} {n : List UInt8}, l[j]? = some a → a.name ≠ n → lookO (l.eraseIdx j) n = lookO l n
  | [], j, a, n, h, _ => by simp at h
  | b :: l, 0, a, n, h, hn => by
    simp at h; subst h
    unfold lookO
    rw [List.eraseIdx_cons_zero, List.find?_cons]
    simp [hn]
  | b :: l, j + 1, a, n, h, hn => by
    rw [List.getElem?_cons_succ] at h
    have ih := look_erase h hn
    unfold lookO at *
    rw [List.eraseIdx_cons_succ, List.find?_cons, List.find?_cons]
    split
    · rfl
    · exact ih
theorem look_step {s : Sx} {e : Ev} {n : List UInt8} {o : Od} (h : lookO s.snaps n = some o) (hne : ¬ (e.kind = 6 ∧ e.name = n)) : lookO (stepM s e).snaps n = some o := by
  by_cases c : checkM s e = 0
  · rw [stepM_yes c]
    have hr := check_right c
    have hk := right_kind hr
    unfold doneM
    rcases (show e.kind = 1 ∨ (e.kind = 2 ∨ e.kind = 3) ∨ e.kind = 4 ∨ e.kind = 5 ∨ e.kind = 6 ∨ e.kind = 7 ∨ e.kind = 8 by omega) with k | k | k | k | k | k | k
    · rw [if_pos k]; exact h
    · rw [if_neg (by omega), if_pos k]; exact h
    · rw [if_neg (by omega), if_neg (by omega), if_pos k]; exact h
    · rw [if_neg (by omega), if_neg (by omega), if_neg (by omega), if_pos k]; exact look_app h
    · rw [if_neg (by omega), if_neg (by omega), if_neg (by omega), if_neg (by omega), if_pos k]
      unfold checkM at c
      rw [if_neg (by rw [hr]; simp), if_neg (by omega), if_neg (by omega), if_pos (by omega)] at c
      cases hp : placeO s.snaps e.name with
      | none => rw [hp] at c; simp at c
      | some j =>
        obtain ⟨a, ha, _, han⟩ := placeO_look hp
        simp only [Option.getD_some]
        rw [look_erase ha (fun e2 => hne ⟨k, by rw [← han, e2]⟩)]
        exact h
    · rw [if_neg (by omega), if_neg (by omega), if_neg (by omega), if_neg (by omega), if_neg (by omega), if_pos k]; exact h
    · rw [if_neg (by omega), if_neg (by omega), if_neg (by omega), if_neg (by omega), if_neg (by omega), if_neg (by omega)]; exact h
  · rw [stepM_no c]; exact h
/-! ### what is read -/
def readM (s : Sx) (name : List UInt8) (off n : Int) : List UInt8 × Int :=
  match (if name = [] then some s.data else (lookO s.snaps name).map (·.data)) with
  | none => ([], 4)
  | some b => if n < 0 then ([], 1) else if off < 0 ∨ (b.length : Int) < off ∨ (b.length : Int) - off < n then ([], 3) else ((b.drop off.toNat).take n.toNat, 0)
end Go.Proofs.Ytbpddcmehjgleaa
