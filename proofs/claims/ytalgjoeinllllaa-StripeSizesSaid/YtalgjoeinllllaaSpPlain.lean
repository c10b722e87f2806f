/- Stripes: bytes over objects; no program in sight. -/
import Derived.Test.YtalgjoeinllllaaHdPlain
namespace Go.Proofs.Ytalgjoeinllllaa
set_option linter.unusedVariables false
set_option linter.unnecessarySimpa false
set_option linter.unusedSimpArgs false

/-- The object and the place of byte 'off': units of U bytes, P units an object, C objects side by side. -/
def objP (U P C off : Nat) : Nat := off / U / C / P * C + off / U % C
def atP (U P C off : Nat) : Nat := off / U / C % P * U + off % U
def backP (U P C obj at' : Nat) : Nat := ((obj / C * P + at' / U) * C + obj % C) * U + at' % U
theorem atP_lt {U P C off : Nat} (hU : 0 < U) (hP : 0 < P) : atP U P C off < P * U := by
  unfold atP
  have h1 := Nat.mod_lt (off / U / C) hP
  have h2 := Nat.mod_lt off hU
  have h3 : (off / U / C % P + 1) * U ≤ P * U := Nat.mul_le_mul_right _ h1
  rw [Nat.add_mul] at h3; omega
theorem back_place {U P C off : Nat} (hU : 0 < U) (hP : 0 < P) (hC : 0 < C) : backP U P C (objP U P C off) (atP U P C off) = off := by
  unfold backP objP atP
  have h1 : (off / U / C / P * C + off / U % C) / C = off / U / C / P := by
    rw [Nat.mul_comm, Nat.mul_add_div hC, Nat.div_eq_of_lt (Nat.mod_lt _ hC), Nat.add_zero]
  have h2 : (off / U / C / P * C + off / U % C) % C = off / U % C := by
    rw [Nat.mul_comm, Nat.mul_add_mod, Nat.mod_mod]
  have h3 : (off / U / C % P * U + off % U) / U = off / U / C % P := by
    rw [Nat.mul_comm, Nat.mul_add_div hU, Nat.div_eq_of_lt (Nat.mod_lt _ hU), Nat.add_zero]
  have h4 : (off / U / C % P * U + off % U) % U = off % U := by
    rw [Nat.mul_comm, Nat.mul_add_mod, Nat.mod_mod]
  rw [h1, h2, h3, h4]
  rw [Nat.mul_comm (off / U / C / P) P, Nat.div_add_mod, Nat.mul_comm (off / U / C) C, Nat.div_add_mod, Nat.mul_comm (off / U) U, Nat.div_add_mod]
theorem place_back {U P C obj at' : Nat} (hU : 0 < U) (hP : 0 < P) (hC : 0 < C) (h : at' < P * U) : objP U P C (backP U P C obj at') = obj ∧ atP U P C (backP U P C obj at') = at' := by
  have hu : at' / U < P := Nat.div_lt_of_lt_mul (by rw [Nat.mul_comm]; exact h)
  have e1 : backP U P C obj at' / U = (obj / C * P + at' / U) * C + obj % C := by
    unfold backP
    rw [Nat.mul_comm _ U, Nat.mul_add_div hU, Nat.div_eq_of_lt (Nat.mod_lt _ hU), Nat.add_zero]
  have e2 : backP U P C obj at' % U = at' % U := by
    unfold backP
    rw [Nat.mul_comm _ U, Nat.mul_add_mod, Nat.mod_mod]
  have e3 : ((obj / C * P + at' / U) * C + obj % C) / C = obj / C * P + at' / U := by
    rw [Nat.mul_comm _ C, Nat.mul_add_div hC, Nat.div_eq_of_lt (Nat.mod_lt _ hC), Nat.add_zero]
  have e4 : ((obj / C * P + at' / U) * C + obj % C) % C = obj % C := by
    rw [Nat.mul_comm _ C, Nat.mul_add_mod, Nat.mod_mod]
  have e5 : (obj / C * P + at' / U) / P = obj / C := by
    rw [Nat.mul_comm _ P, Nat.mul_add_div hP, Nat.div_eq_of_lt hu, Nat.add_zero]
  have e6 : (obj / C * P + at' / U) % P = at' / U := by
    rw [Nat.mul_comm _ P, Nat.mul_add_mod, Nat.mod_eq_of_lt hu]
  unfold objP atP
  rw [e1, e2, e3, e4, e5, e6]
  exact ⟨by rw [Nat.mul_comm, Nat.div_add_mod], by rw [Nat.mul_comm, Nat.div_add_mod]⟩

/-! ### pieces -/
structure Xt where
  obj : Nat
  off : Nat
  len : Nat
  at' : Nat
deriving DecidableEq
/-- One byte more: it lies at 'at' of 'obj', i behind the beginning. -/
def addX (l : List Xt) (obj at' i : Nat) : List Xt := match l.getLast? with
  | some x => if x.obj = obj ∧ x.off + x.len = at' then l.dropLast ++ [⟨x.obj, x.off, x.len + 1, x.at'⟩] else l ++ [⟨obj, at', 1, i⟩]
  | none => l ++ [⟨obj, at', 1, i⟩]
/-- The pieces of n bytes from off on. -/
def mapX (U P C off : Nat) : Nat → List Xt
  | 0 => []
  | n + 1 => addX (mapX U P C off n) (objP U P C (off + n)) (atP U P C (off + n)) n
/-- A piece more, put together with the last one where it goes on there. -/
def joinX (l : List Xt) (obj at' i k : Nat) : List Xt := match l.getLast? with
  | some x => if x.obj = obj ∧ x.off + x.len = at' then l.dropLast ++ [⟨x.obj, x.off, x.len + k, x.at'⟩] else l ++ [⟨obj, at', k, i⟩]
  | none => l ++ [⟨obj, at', k, i⟩]
theorem addX_join (l : List Xt) (obj at' i : Nat) : addX l obj at' i = joinX l obj at' i 1 := rfl
theorem join_more (l : List Xt) (obj at' i k : Nat) (hk : 0 < k) : addX (joinX l obj at' i k) obj (at' + k) (i + k) = joinX l obj at' i (k + 1) := by
  unfold joinX
  split
  · rename_i x hx
    split
    · rename_i h
      unfold addX
      rw [List.getLast?_append]
      simp only [List.getLast?_singleton, Option.some_or]
      rw [if_pos ⟨h.1, by omega⟩, List.dropLast_concat]
      rw [Nat.add_assoc]
    · unfold addX
      rw [List.getLast?_append]
      simp only [List.getLast?_singleton, Option.some_or]
      rw [if_pos (by simp), List.dropLast_concat]
  · unfold addX
    rw [List.getLast?_append]
    simp only [List.getLast?_singleton, Option.some_or]
    rw [if_pos (by simp), List.dropLast_concat]
/-- Bytes of one unit lie side by side. -/
theorem unit_place {U P C off k : Nat} (hU : 0 < U) (h : off % U + k < U) : objP U P C (off + k) = objP U P C off ∧ atP U P C (off + k) = atP U P C off + k := by
  have e1 : (off + k) / U = off / U := by
    conv => lhs; rw [← Nat.div_add_mod off U, Nat.add_assoc]
    rw [Nat.mul_add_div hU, Nat.div_eq_of_lt h, Nat.add_zero]
  have e2 : (off + k) % U = off % U + k := by
    conv => lhs; rw [← Nat.div_add_mod off U, Nat.add_assoc]
    rw [Nat.mul_add_mod, Nat.mod_eq_of_lt h]
  unfold objP atP
  rw [e1, e2]
  exact ⟨rfl, by omega⟩
/-- A piece of a unit at once. -/
theorem mapX_unit {U P C off n : Nat} (hU : 0 < U) : ∀ k, 0 < k → (off + n) % U + k ≤ U → mapX U P C off (n + k) = joinX (mapX U P C off n) (objP U P C (off + n)) (atP U P C (off + n)) n k
  | 0, h, _ => by omega
  | 1, _, _ => rfl
  | k + 2, _, h => by
    have ih := mapX_unit (P := P) (C := C) (off := off) (n := n) hU (k + 1) (by omega) (by omega)
    obtain ⟨p1, p2⟩ := unit_place (P := P) (C := C) (off := off + n) (k := k + 1) hU (by omega)
    show addX (mapX U P C off (n + (k + 1))) (objP U P C (off + (n + (k + 1)))) (atP U P C (off + (n + (k + 1)))) (n + (k + 1)) = _
    rw [show off + (n + (k + 1)) = off + n + (k + 1) by omega, p1, p2, ih, join_more _ _ _ _ _ (by omega)]
/-- What is known of pieces: they are the bytes, one behind the other. -/
structure PiecesX (U P C off n : Nat) (l : List Xt) : Prop where
  none : n = 0 → l = []
  last : n ≠ 0 → ∃ x, l.getLast? = some x ∧ x.at' + x.len = n
  lens : ∀ x ∈ l, 1 ≤ x.len
  byte : ∀ x ∈ l, ∀ k, k < x.len → objP U P C (off + x.at' + k) = x.obj ∧ atP U P C (off + x.at' + k) = x.off + k
  first : ∀ x, l[0]? = some x → x.at' = 0
  next : ∀ (i : Nat) x y, l[i]? = some x → l[i + 1]? = some y → y.at' = x.at' + x.len ∧ ¬ (x.obj = y.obj ∧ x.off + x.len = y.off)
theorem getLast_split {α : Type} {l : List α} {x : α} (h : l.getLast? = some x) : l = l.dropLast ++ [x] := by
  have hne : l ≠ [] := fun e => by subst e; simp at h
  rw [List.getLast?_eq_some_getLast hne, Option.some.injEq] at h
  rw [← h]
  exact (List.dropLast_concat_getLast hne).symm
theorem mapX_pieces (U P C off : Nat) : ∀ n, PiecesX U P C off n (mapX U P C off n)
  | 0 => ⟨fun _ => rfl, fun h => absurd rfl h, (fun x h => by cases h), (fun x h => by cases h), (fun x h => by simp [mapX] at h), (fun i x y h => by simp [mapX] at h)⟩
  | n + 1 => by
    have ih := mapX_pieces U P C off n
    show PiecesX U P C off (n + 1) (addX (mapX U P C off n) _ _ n)
    generalize mapX U P C off n = l at *
    unfold addX
    cases hl : l.getLast? with
    | none =>
      have h0 : n = 0 := Classical.byContradiction fun c => by obtain ⟨x, hx, _⟩ := ih.last c; rw [hl] at hx; cases hx
      have hl2 := ih.none h0
      subst hl2 h0
      refine ⟨fun h => by omega, fun _ => ⟨_, rfl, rfl⟩, fun x hx => ?_, fun x hx k hk => ?_, fun x hx => ?_, fun i x y hx hy => ?_⟩
      · simp at hx; subst hx; simp
      · simp at hx; subst hx; simp only at hk ⊢; obtain rfl : k = 0 := by omega
        exact ⟨rfl, rfl⟩
      · simp at hx; subst hx; rfl
      · have := (List.getElem?_eq_some_iff.1 hy).1; simp at this
    | some x =>
      have hn : n ≠ 0 := fun c => by rw [ih.none c] at hl; simp at hl
      obtain ⟨x', hx', hxl⟩ := ih.last hn
      rw [hl, Option.some.injEq] at hx'
      subst hx'
      have hs := getLast_split hl
      have hxm : x ∈ l := List.mem_of_getLast? hl
      simp only
      generalize hd : l.dropLast = d at *
      subst hs
      split
      · rename_i c
        refine ⟨fun h => by omega, fun _ => ⟨⟨x.obj, x.off, x.len + 1, x.at'⟩, by simp, by simp only; omega⟩, fun y hy => ?_, fun y hy k hk => ?_, fun y hy => ?_, fun i y z hy hz => ?_⟩
        · rcases List.mem_append.1 hy with hy | hy
          · exact ih.lens y (List.mem_append_left _ hy)
          · simp at hy; subst hy; simp only; omega
        · rcases List.mem_append.1 hy with hy | hy
          · exact ih.byte y (List.mem_append_left _ hy) k hk
          · simp at hy; subst hy
            simp only at hk ⊢
            by_cases e : k < x.len
            · exact ih.byte x hxm k e
            · obtain rfl : k = x.len := by omega
              rw [show off + x.at' + x.len = off + n by omega]
              exact ⟨c.1.symm, c.2.symm⟩
        · cases d with
          | nil => simp at hy; subst hy; exact ih.first x (by simp)
          | cons a d => simp at hy; subst hy; exact ih.first a (by simp)
        · have hi := (List.getElem?_eq_some_iff.1 hz).1
          rw [List.length_append, List.length_singleton] at hi
          rw [List.getElem?_append_left (by omega)] at hy
          by_cases e : i + 1 < d.length
          · rw [List.getElem?_append_left e] at hz
            exact ih.next i y z (by rw [List.getElem?_append_left (by omega)]; exact hy) (by rw [List.getElem?_append_left e]; exact hz)
          · have e2 : i + 1 = d.length := by omega
            rw [List.getElem?_append_right (by omega), e2, Nat.sub_self] at hz
            simp at hz; subst hz
            simp only
            exact ih.next i y x (by rw [List.getElem?_append_left (by omega)]; exact hy) (by rw [List.getElem?_append_right (by omega), e2, Nat.sub_self]; rfl)
      · rename_i c
        refine ⟨fun h => by omega, fun _ => ⟨⟨_, _, 1, n⟩, by rw [List.getLast?_append]; rfl, rfl⟩, fun y hy => ?_, fun y hy k hk => ?_, fun y hy => ?_, fun i y z hy hz => ?_⟩
        · rcases List.mem_append.1 hy with hy | hy
          · exact ih.lens y hy
          · simp at hy; subst hy; simp
        · rcases List.mem_append.1 hy with hy | hy
          · exact ih.byte y hy k hk
          · simp at hy; subst hy; simp only at hk ⊢
            obtain rfl : k = 0 := by omega
            exact ⟨rfl, rfl⟩
        · rw [List.getElem?_append_left (by simp)] at hy
          exact ih.first y hy
        · have hi := (List.getElem?_eq_some_iff.1 hz).1
          rw [List.length_append, List.length_singleton] at hi
          rw [List.getElem?_append_left (by omega)] at hy
          by_cases e : i + 1 < (d ++ [x]).length
          · rw [List.getElem?_append_left e] at hz
            exact ih.next i y z hy hz
          · have e2 : i + 1 = (d ++ [x]).length := by omega
            rw [List.getElem?_append_right (by omega), e2, Nat.sub_self] at hz
            simp at hz; subst hz
            rw [List.length_append, List.length_singleton] at e2
            rw [List.getElem?_append_right (by omega), show i - d.length = 0 by omega] at hy
            simp at hy; subst hy
            exact ⟨by simp only; omega, c⟩
end Go.Proofs.Ytalgjoeinllllaa
