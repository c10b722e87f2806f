/- Stripes: counting bytes; no program in sight. -/
import Derived.Test.YtalgjoeinllllaaSpB
namespace Go.Proofs.Ytalgjoeinllllaa
set_option linter.unusedVariables false
set_option linter.unnecessarySimpa false
set_option linter.unusedSimpArgs false

def cntB (U P C j : Nat) : Nat → Nat
  | 0 => 0
  | n + 1 => cntB U P C j n + (if objP U P C n = j then 1 else 0)
def sumB (U P C n : Nat) : Nat → Nat
  | 0 => 0
  | k + 1 => sumB U P C n k + cntB U P C k n
theorem objP_unit {U P C off : Nat} : objP U P C off ≤ off / U := by
  unfold objP
  have h1 : off / U / C / P * C ≤ off / U / C * C := Nat.mul_le_mul_right _ (Nat.div_le_self _ _)
  have h2 := Nat.div_add_mod (off / U) C
  rw [Nat.mul_comm] at h2
  omega
theorem objsX_128 {U P C : Nat} (hU : 4 ≤ U) : ∀ {n : Nat}, n ≤ 512 → objsX U P C n ≤ 128
  | 0, _ => by simp [objsX]
  | n + 1, h => by
    have h1 := objsX_128 (P := P) (C := C) hU (n := n) (by omega)
    have h2 := objP_unit (U := U) (P := P) (C := C) (off := n)
    have h3 : n / U ≤ n / 4 := Nat.div_le_div_left hU (by decide)
    unfold objsX
    omega
theorem objP_lt {U P C : Nat} : ∀ {n i : Nat}, i < n → objP U P C i < objsX U P C n
  | 0, i, h => by omega
  | n + 1, i, h => by
    unfold objsX
    by_cases hi : i = n
    · subst hi; omega
    · have := objP_lt (U := U) (P := P) (C := C) (n := n) (i := i) (by omega)
      omega
theorem objsX_last {U P C : Nat} : ∀ {n : Nat}, 0 < objsX U P C n → ∃ i, i < n ∧ objP U P C i + 1 = objsX U P C n
  | 0, h => by simp [objsX] at h
  | n + 1, h => by
    unfold objsX at h ⊢
    by_cases hc : objsX U P C n ≤ objP U P C n + 1
    · exact ⟨n, by omega, by omega⟩
    · obtain ⟨i, h1, h2⟩ := objsX_last (U := U) (P := P) (C := C) (n := n) (by omega)
      exact ⟨i, by omega, by omega⟩
theorem topB_max {U P C j M : Nat} : ∀ {n : Nat}, (∀ i, i < n → objP U P C i = j → atP U P C i + 1 ≤ M) → topB U P C (j : Int) n ≤ M
  | 0, _ => by simp [topB]
  | n + 1, h => by
    have ih := topB_max (U := U) (P := P) (C := C) (j := j) (M := M) (n := n) fun i hi => h i (by omega)
    unfold topB
    split
    · rename_i hj
      have := h n (by omega) (by omega)
      omega
    · exact ih
theorem topB_ge {U P C j : Nat} : ∀ {n i : Nat}, i < n → objP U P C i = j → atP U P C i + 1 ≤ topB U P C j n
  | 0, i, h, _ => by omega
  | n + 1, i, h, hj => by
    unfold topB
    by_cases hi : i = n
    · subst hi; rw [if_pos (by omega)]; omega
    · have := topB_ge (U := U) (P := P) (C := C) (j := j) (n := n) (i := i) (by omega) hj
      split <;> omega
theorem backP_mono {U P C j a b : Nat} (hU : 0 < U) (hC : 0 < C) (h : a ≤ b) : backP U P C j a ≤ backP U P C j b := by
  unfold backP
  have h1 : a / U ≤ b / U := Nat.div_le_div_right h
  have h2 := Nat.mod_lt a hU
  have h3 := Nat.mod_lt b hU
  by_cases he : a / U = b / U
  · have e1 := Nat.div_add_mod a U
    have e2 := Nat.div_add_mod b U
    rw [he] at e1 ⊢
    omega
  · have h4 : (j / C * P + a / U) * C + j % C + 1 ≤ (j / C * P + b / U) * C + j % C := by
      have : (j / C * P + a / U + 1) * C ≤ (j / C * P + b / U) * C := Nat.mul_le_mul_right _ (by omega)
      rw [Nat.add_mul] at this
      omega
    have h5 := Nat.mul_le_mul_right U h4
    rw [Nat.add_mul _ 1 U] at h5
    omega
theorem at_rises {U P C i n : Nat} (hU : 0 < U) (hP : 0 < P) (hC : 0 < C) (h : i < n) (ho : objP U P C i = objP U P C n) : atP U P C i < atP U P C n := by
  refine Classical.byContradiction fun hc => ?_
  have h1 := backP_mono (P := P) (j := objP U P C n) hU hC (show atP U P C n ≤ atP U P C i by omega)
  have h2 := back_place (U := U) (P := P) (C := C) (off := i) hU hP hC
  have h3 := back_place (U := U) (P := P) (C := C) (off := n) hU hP hC
  rw [ho] at h2
  omega
theorem cntB_top {U P C j : Nat} (hU : 0 < U) (hP : 0 < P) (hC : 0 < C) : ∀ n, cntB U P C j n ≤ topB U P C j n
  | 0 => by simp [cntB, topB]
  | n + 1 => by
    have ih := cntB_top (j := j) hU hP hC n
    unfold cntB topB
    by_cases hj : objP U P C n = j
    · rw [if_pos hj, if_pos (by omega)]
      have := topB_max (U := U) (P := P) (C := C) (j := j) (M := atP U P C n) (n := n) fun i hi ho => at_rises hU hP hC hi (by omega)
      omega
    · rw [if_neg hj, if_neg (by omega)]
      exact ih
theorem sumB_step {U P C n : Nat} : ∀ k, sumB U P C (n + 1) k = sumB U P C n k + (if objP U P C n < k then 1 else 0)
  | 0 => by simp [sumB]
  | k + 1 => by
    have ih := sumB_step (U := U) (P := P) (C := C) (n := n) k
    show sumB U P C (n + 1) k + (cntB U P C k n + _) = sumB U P C n k + cntB U P C k n + _
    rw [ih]
    split <;> split <;> split <;> omega
theorem sumB_zero {U P C : Nat} : ∀ k, sumB U P C 0 k = 0
  | 0 => rfl
  | k + 1 => by
    show sumB U P C 0 k + 0 = 0
    rw [sumB_zero k]
theorem sumB_all {U P C N : Nat} : ∀ {n : Nat}, (∀ i, i < n → objP U P C i < N) → sumB U P C n N = n
  | 0, _ => sumB_zero N
  | n + 1, h => by
    rw [sumB_step, sumB_all (n := n) fun i hi => h i (by omega), if_pos (h n (by omega))]
theorem sumB_le {U P C n : Nat} : ∀ {k : Nat}, sumB U P C n k ≤ n := by
  intro k
  induction n with
  | zero => rw [sumB_zero]; exact Nat.le_refl _
  | succ n ih => rw [sumB_step]; split <;> omega
theorem topB_out {U P C j n : Nat} (h : objsX U P C n ≤ j) : topB U P C j n = 0 := by
  have := topB_max (U := U) (P := P) (C := C) (j := j) (M := 0) (n := n) fun i hi ho => by
    have := objP_lt (U := U) (P := P) (C := C) hi
    omega
  omega
theorem topB_last {U P C n : Nat} (h : 0 < objsX U P C n) : 0 < topB U P C ((objsX U P C n - 1 : Nat) : Int) n := by
  obtain ⟨i, h1, h2⟩ := objsX_last h
  have := topB_ge (U := U) (P := P) (C := C) (j := objsX U P C n - 1) h1 (by omega)
  omega
/-! ### the two rows -/
def cntL (U P C N n : Nat) : List Int := (List.range N).map fun j : Nat => ((cntB U P C j n : Nat) : Int)
def topL (U P C N n : Nat) : List Int := (List.range N).map fun j : Nat => ((topB U P C (j : Int) n : Nat) : Int)
theorem cntL_len {U P C N n : Nat} : (cntL U P C N n).length = N := by simp [cntL]
theorem topL_len {U P C N n : Nat} : (topL U P C N n).length = N := by simp [topL]
theorem cntL_at {U P C N n j : Nat} (h : j < N) : (cntL U P C N n)[j]? = some (cntB U P C j n : Int) := by simp [cntL, h]
theorem topL_at {U P C N n j : Nat} (h : j < N) : (topL U P C N n)[j]? = some (topB U P C j n : Int) := by simp [topL, h]
theorem cntL_zero {U P C N : Nat} : cntL U P C N 0 = List.replicate N 0 := by
  refine List.ext_getElem (by simp [cntL]) fun i h1 h2 => ?_
  simp [cntL, cntB]
theorem topL_zero {U P C N : Nat} : topL U P C N 0 = List.replicate N 0 := by
  refine List.ext_getElem (by simp [topL]) fun i h1 h2 => ?_
  simp [topL, topB]
theorem cntL_step {U P C N n : Nat} (h : objP U P C n < N) : (cntL U P C N n).set (objP U P C n) ((cntB U P C (objP U P C n) n : Int) + 1) = cntL U P C N (n + 1) := by
  refine List.ext_getElem (by simp [cntL]) fun i h1 h2 => ?_
  rw [List.getElem_set]
  simp only [cntL, List.getElem_map, List.getElem_range, cntB]
  split
  · rename_i he; subst he; simp
  · rename_i he; simp [he]
theorem topL_step {U P C N n : Nat} (h : objP U P C n < N) : (topL U P C N n).set (objP U P C n) ((max (topB U P C (objP U P C n) n) (atP U P C n + 1) : Nat) : Int) = topL U P C N (n + 1) := by
  refine List.ext_getElem (by simp [topL]) fun i h1 h2 => ?_
  rw [List.getElem_set]
  simp only [topL, List.getElem_map, List.getElem_range, topB]
  split
  · rename_i he; subst he; rw [if_pos rfl]
  · rename_i he; rw [if_neg (by omega)]
theorem cntB_le {U P C j : Nat} : ∀ n, cntB U P C j n ≤ n
  | 0 => Nat.le_refl _
  | n + 1 => by
    have := cntB_le (U := U) (P := P) (C := C) (j := j) n
    unfold cntB
    split <;> omega
end Go.Proofs.Ytalgjoeinllllaa
