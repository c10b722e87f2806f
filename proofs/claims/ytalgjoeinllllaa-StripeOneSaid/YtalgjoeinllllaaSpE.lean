/- Stripes: how many objects, how many bytes, reckoned at once; no program in sight. -/
import Derived.Test.YtalgjoeinllllaaSpB
namespace Go.Proofs.Ytalgjoeinllllaa
set_option linter.unusedVariables false
set_option linter.unnecessarySimpa false
set_option linter.unusedSimpArgs false

/-- How many objects K units begin. -/
def fU (C P K : Nat) : Nat := K / (C * P) * C + min (K % (C * P)) C
theorem fU_succ {C P : Nat} (hC : 0 < C) (hP : 0 < P) (u : Nat) : fU C P (u + 1) = max (fU C P u) (u / C / P * C + u % C + 1) := by
  unfold fU
  rw [Nat.div_div_eq_div_mul]
  have hR : 0 < C * P := Nat.mul_pos hC hP
  have hCR : C ≤ C * P := Nat.le_mul_of_pos_right C hP
  have hm : u % (C * P) % C = u % C := Nat.mod_mul_right_mod u C P
  have hd := Nat.div_add_mod u (C * P)
  have hlt := Nat.mod_lt u hR
  have hmc := Nat.mod_lt u hC
  generalize hq : u / (C * P) = q at *
  generalize hr : u % (C * P) = r at *
  have hP1 : P = 1 ∨ C + C ≤ C * P := by
    rcases Nat.lt_or_ge P 2 with h | h
    · left; omega
    · right; have := Nat.mul_le_mul_left C h; omega
  by_cases hlast : r + 1 < C * P
  · have e1 : (u + 1) / (C * P) = q := by
      rw [← hd, Nat.add_assoc, Nat.mul_add_div hR, Nat.div_eq_of_lt hlast, Nat.add_zero]
    have e2 : (u + 1) % (C * P) = r + 1 := by
      rw [← hd, Nat.add_assoc, Nat.mul_add_mod, Nat.mod_eq_of_lt hlast]
    rw [e1, e2]
    rcases Nat.lt_or_ge r C with h | h
    · have : u % C = r := by rw [← hm]; exact Nat.mod_eq_of_lt h
      rw [this]; omega
    · omega
  · have hrr : r + 1 = C * P := by omega
    have hu : u + 1 = C * P * (q + 1) := by rw [Nat.mul_add]; omega
    have e1 : (u + 1) / (C * P) = q + 1 := by rw [hu]; exact Nat.mul_div_cancel_left _ hR
    have e2 : (u + 1) % (C * P) = 0 := by rw [hu]; exact Nat.mul_mod_right _ _
    rw [e1, e2, Nat.add_mul]
    rcases Nat.lt_or_ge r C with h | h
    · have : u % C = r := by rw [← hm]; exact Nat.mod_eq_of_lt h
      rw [this]; omega
    · omega
theorem objs_closed {U P C : Nat} (hU : 0 < U) (hP : 0 < P) (hC : 0 < C) : ∀ n, objsX U P C n = fU C P ((n + (U - 1)) / U)
  | 0 => by
    have : (0 + (U - 1)) / U = 0 := Nat.div_eq_of_lt (by omega)
    rw [this]; simp [objsX, fU]
  | n + 1 => by
    have ih := objs_closed hU hP hC n
    show max (objsX U P C n) (objP U P C n + 1) = _
    have e1 : (n + 1 + (U - 1)) / U = n / U + 1 := by rw [show n + 1 + (U - 1) = n + U by omega, Nat.add_div_right _ hU]
    have hs := fU_succ hC hP (n / U)
    have hd := Nat.div_add_mod n U
    have hlt := Nat.mod_lt n hU
    rw [ih, e1]
    unfold objP
    by_cases h0 : n % U = 0
    · have e2 : (n + (U - 1)) / U = n / U := by
        have : n + (U - 1) = U * (n / U) + (U - 1) := by omega
        rw [this, Nat.mul_add_div hU, Nat.div_eq_of_lt (show U - 1 < U by omega), Nat.add_zero]
      rw [e2, hs]
    · have e2 : (n + (U - 1)) / U = n / U + 1 := by
        have : n + (U - 1) = (n % U - 1) + U * (n / U + 1) := by rw [Nat.mul_add]; omega
        rw [this, Nat.add_mul_div_left _ _ hU, Nat.div_eq_of_lt (show n % U - 1 < U by omega), Nat.zero_add]
      rw [e2, hs]; omega

/-- Of the x-th byte of a round on, the bytes of the j-th object. -/
def hB (U C j x : Nat) : Nat := x / (C * U) * U + min (x % (C * U) - j * U) U
def gB (U P C o n : Nat) : Nat := hB U C (o % C) (min (n - o / C * (C * P * U)) (C * P * U))
theorem hB_at {U C p jj b j : Nat} (hU : 0 < U) (hj : jj < C) (hb : b < U) : hB U C j (p * (C * U) + (jj * U + b)) = p * U + min (jj * U + b - j * U) U := by
  have h1 : (jj + 1) * U ≤ C * U := Nat.mul_le_mul_right U hj
  rw [Nat.add_mul] at h1
  have hlt : jj * U + b < C * U := by omega
  have hW : 0 < C * U := by omega
  unfold hB
  rw [Nat.mul_comm p, Nat.mul_add_div hW, Nat.mul_add_mod, Nat.div_eq_of_lt hlt, Nat.mod_eq_of_lt hlt, Nat.add_zero]
theorem hB_next {U C p jj b j : Nat} (hU : 0 < U) (hj : jj < C) (hb : b < U) (hjc : j < C) : hB U C j (p * (C * U) + (jj * U + b) + 1) = p * U + min (jj * U + b + 1 - j * U) U := by
  have h1 : (jj + 1) * U ≤ C * U := Nat.mul_le_mul_right U hj
  have h2 : (j + 1) * U ≤ C * U := Nat.mul_le_mul_right U hjc
  rw [Nat.add_mul] at h1 h2
  have hW : 0 < C * U := by omega
  by_cases hlt : jj * U + b + 1 < C * U
  · unfold hB
    rw [Nat.add_assoc, Nat.mul_comm p, Nat.mul_add_div hW, Nat.mul_add_mod, Nat.div_eq_of_lt hlt, Nat.mod_eq_of_lt hlt, Nat.add_zero]
  · have he : jj * U + b + 1 = C * U := by omega
    have e : p * (C * U) + (jj * U + b) + 1 = C * U * (p + 1) := by rw [Nat.mul_add, Nat.mul_comm p]; omega
    unfold hB
    rw [e, Nat.mul_div_cancel_left _ hW, Nat.mul_mod_right, Nat.add_mul, he]; omega
theorem bytes_closed {U P C : Nat} (hU : 0 < U) (hP : 0 < P) (hC : 0 < C) (o : Nat) : ∀ n, topB U P C (o : Int) n = gB U P C o n
  | 0 => by simp [topB, gB, hB]
  | n + 1 => by
    have ih := bytes_closed hU hP hC o n
    unfold topB
    rw [ih]
    have hd1 := Nat.div_add_mod n U
    have hb := Nat.mod_lt n hU
    have hd2 := Nat.div_add_mod (n / U) C
    have hjj := Nat.mod_lt (n / U) hC
    have hd3 := Nat.div_add_mod (n / U / C) P
    have hp := Nat.mod_lt (n / U / C) hP
    have ho := Nat.div_add_mod o C
    have hoj := Nat.mod_lt o hC
    have hob : objP U P C n = n / U / C / P * C + n / U % C := rfl
    have hat : atP U P C n = n / U / C % P * U + n % U := rfl
    rw [hob, hat]
    unfold gB
    generalize n % U = b at *
    generalize n / U = u at *
    generalize u % C = jj at *
    generalize u / C = row at *
    generalize row % P = p at *
    generalize row / P = qq at *
    generalize o / C = q at *
    generalize o % C = j at *
    have hn : n = qq * (C * P * U) + (p * (C * U) + (jj * U + b)) := by
      subst hd3; subst hd2; subst hd1
      simp only [Nat.add_mul, Nat.mul_add, Nat.mul_assoc, Nat.mul_comm, Nat.mul_left_comm, Nat.add_assoc]
    have hx : p * (C * U) + (jj * U + b) < C * P * U := by
      have h1 : (jj + 1) * U ≤ C * U := Nat.mul_le_mul_right U hjj
      have h2 : (p + 1) * (C * U) ≤ P * (C * U) := Nat.mul_le_mul_right _ hp
      have h3 : P * (C * U) = C * P * U := by simp only [Nat.mul_assoc, Nat.mul_comm, Nat.mul_left_comm]
      rw [Nat.add_mul] at h1 h2; omega
    have hA := hB_at (p := p) (j := j) hU hjj hb
    have hN := hB_next (p := p) (j := j) hU hjj hb hoj
    generalize hxx : p * (C * U) + (jj * U + b) = x at *
    have hR : 0 < C * P * U := Nat.mul_pos (Nat.mul_pos hC hP) hU
    generalize C * P * U = R at *
    clear hd1 hd2 hd3
    have key : ((qq * C + jj : Nat) : Int) = (o : Int) ↔ qq = q ∧ jj = j := by
      constructor
      · intro h
        have h' : qq * C + jj = C * q + j := by omega
        have e1 : (qq * C + jj) / C = qq := by rw [Nat.mul_comm, Nat.mul_add_div hC, Nat.div_eq_of_lt hjj, Nat.add_zero]
        have e2 : (C * q + j) / C = q := by rw [Nat.mul_add_div hC, Nat.div_eq_of_lt hoj, Nat.add_zero]
        have e3 : qq = q := by rw [← e1, h', e2]
        subst e3
        rw [Nat.mul_comm] at h'
        exact ⟨rfl, by omega⟩
      · rintro ⟨rfl, rfl⟩
        rw [Nat.mul_comm]; omega
    rcases Nat.lt_trichotomy qq q with h | h | h
    · have h1 : (qq + 1) * R ≤ q * R := Nat.mul_le_mul_right R h
      rw [Nat.add_mul] at h1
      rw [if_neg (fun c => by have := (key.1 c).1; omega), show n - q * R = 0 by omega, show n + 1 - q * R = 0 by omega]
    · subst h
      rw [show n - qq * R = x by omega, show n + 1 - qq * R = x + 1 by omega, Nat.min_eq_left (Nat.le_of_lt hx), Nat.min_eq_left (show x + 1 ≤ R from hx), hA, hN]
      rcases Nat.lt_trichotomy jj j with h2 | h2 | h2
      · have h1 : (jj + 1) * U ≤ j * U := Nat.mul_le_mul_right U h2
        rw [Nat.add_mul] at h1
        rw [if_neg (fun c => by have := (key.1 c).2; omega)]; omega
      · subst h2
        rw [if_pos (key.2 ⟨rfl, rfl⟩)]; omega
      · have h1 : (j + 1) * U ≤ jj * U := Nat.mul_le_mul_right U h2
        rw [Nat.add_mul] at h1
        rw [if_neg (fun c => by have := (key.1 c).2; omega)]; omega
    · have h1 : (q + 1) * R ≤ qq * R := Nat.mul_le_mul_right R h
      rw [Nat.add_mul] at h1
      rw [if_neg (fun c => by have := (key.1 c).1; omega), Nat.min_eq_right (show R ≤ n - q * R by omega), Nat.min_eq_right (show R ≤ n + 1 - q * R by omega)]
/-- Beyond the last object there is none. -/
theorem topB_none {U P C : Nat} {obj : Int} : ∀ {n : Nat}, ((objsX U P C n : Nat) : Int) ≤ obj → topB U P C obj n = 0
  | 0, _ => rfl
  | n + 1, h => by
    unfold objsX at h
    unfold topB
    rw [if_neg (by omega)]
    exact topB_none (by omega)
theorem topB_neg {U P C : Nat} {obj : Int} (h : obj < 0) : ∀ n : Nat, topB U P C obj n = 0
  | 0 => rfl
  | n + 1 => by
    unfold topB
    rw [if_neg (by omega)]
    exact topB_neg h n
/-- A piece more, where the last one is. -/
theorem joinX_last {L : List Xt} {K : Nat} {x : Xt} (hK : L.length = K + 1) (hx : L[K]? = some x) (obj at' i k : Nat) : joinX L obj at' i k = if x.obj = obj ∧ x.off + x.len = at' then L.set K ⟨x.obj, x.off, x.len + k, x.at'⟩ else L ++ [⟨obj, at', k, i⟩] := by
  have hl : L.getLast? = some x := by rw [List.getLast?_eq_getElem?, hK]; simpa using hx
  unfold joinX
  rw [hl]
  simp only
  split
  · have hs := getLast_split hl
    have hd : L.dropLast.length = K := by rw [List.length_dropLast]; omega
    conv => rhs; rw [hs]
    rw [List.set_append_right _ _ (by omega), hd, Nat.sub_self]; rfl
  · rfl
theorem joinX_nil (obj at' i k : Nat) : joinX [] obj at' i k = [⟨obj, at', k, i⟩] := rfl
theorem atP_mod {U P C off : Nat} (hU : 0 < U) : atP U P C off % U = off % U := by
  unfold atP
  rw [Nat.mul_comm, Nat.mul_add_mod, Nat.mod_mod]
end Go.Proofs.Ytalgjoeinllllaa
