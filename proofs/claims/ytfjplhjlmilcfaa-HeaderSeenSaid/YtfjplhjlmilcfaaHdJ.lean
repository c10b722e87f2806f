/- Records of an image: what bytes are: the program's guess. -/
import Derived.Test.YtfjplhjlmilcfaaHdI
import Derived.Test.YtfjplhjlmilcfaaHdH
namespace Go.Proofs.Ytfjplhjlmilcfaa
open Go.RowKit Go.Proofs
set_option linter.unusedVariables false
set_option linter.unusedSimpArgs false
set_option linter.unnecessarySimpa false

theorem GOwn.besides {α : Type} {R : RT α} {W0 w : World} {v : Value} {ts : List α} (h : GOwn R W0 w v ts) {g : Nat} (hg : W0.heap.size ≤ g) (hne : v.ownBlock ≠ some g) (j : Nat) (u : Value) : GOwn R W0 (w.setCell ⟨g, j, none⟩ u) v ts :=
  ⟨Go.ownsRow_setCell_other h.1 hne u, h.2.1.setCell (by simpa using hg) u, h.2.2⟩
theorem RecAt.f4 {w : World} {x : Nat} {a b c d : Value} {t : TypeId} (h : RecAt w x #[a, b, c, d] t) : w.frozen? ⟨x, 0, none⟩ = false ∧ w.frozen? ⟨x, 1, none⟩ = false ∧ w.frozen? ⟨x, 2, none⟩ = false ∧ w.frozen? ⟨x, 3, none⟩ = false := ⟨h.frozen 0, h.frozen 1, h.frozen 2, h.frozen 3⟩
theorem three_recs (w : World) (cs ds es : Array Value) (t u v : TypeId) : RecAt (((w.alloc (.cells cs t)).alloc (.cells ds u)).alloc (.cells es v)) w.heap.size cs t ∧ RecAt (((w.alloc (.cells cs t)).alloc (.cells ds u)).alloc (.cells es v)) (w.heap.size + 1) ds u ∧ RecAt (((w.alloc (.cells cs t)).alloc (.cells ds u)).alloc (.cells es v)) (w.heap.size + 2) es v ∧ Below w.heap.size w (((w.alloc (.cells cs t)).alloc (.cells ds u)).alloc (.cells es v)) := by
  obtain ⟨h1, h2, h3⟩ := two_recs w cs ds t u
  have h4 := RecAt.new ((w.alloc (.cells cs t)).alloc (.cells ds u)) es v
  rw [show ((w.alloc (.cells cs t)).alloc (.cells ds u)).heap.size = w.heap.size + 2 by simp] at h4
  have b : Below ((w.alloc (.cells cs t)).alloc (.cells ds u)).heap.size ((w.alloc (.cells cs t)).alloc (.cells ds u)) (((w.alloc (.cells cs t)).alloc (.cells ds u)).alloc (.cells es v)) := (Below.refl _ _).alloc (Nat.le_refl _) _
  exact ⟨h1.later b, h2.later b, h4, h3.trans (b.mono h3.size)⟩

/-! ### the seven numbers -/
def L7 (d : Hd) : List Int := [d.size, d.order, d.unit, d.count, d.next, d.seq, d.marks.length]
theorem pre7_all {d : Hd} : pre7 (L7 d) 7 = numsH d ++ varL d.marks.length := by
  unfold pre7 L7 numsH; simp [List.append_assoc]
theorem pre7_step {d : Hd} {l : List UInt8} (hd : HdOk d) (hl : bodyH d = l) {j a : Nat} {o : Int} {a' : Nat} {z : Bool} (hj : j < 7) (ha : a = (pre7 (L7 d) j).length) (hg : getVA l ((a : Nat) : Int) = (o, ((a' : Nat) : Int), z)) :
    (L7 d)[j]? = some o ∧ a' = (pre7 (L7 d) (j + 1)).length := by
  have hjl : (L7 d)[j]? = some ((L7 d)[j]'(by simp [L7]; omega)) := List.getElem?_eq_getElem _
  obtain ⟨x, hx⟩ : ∃ x, (L7 d)[j]'(by simp [L7]; omega) = x := ⟨_, rfl⟩
  rw [hx] at hjl
  clear hx
  have hxb : 0 ≤ x ∧ x < 9223372036854775808 := by
    have hm := List.mem_of_getElem? hjl
    have hn := hd.1.nat
    have h17 := hd.2.1
    unfold L7 at hm
    simp only [List.mem_cons, List.not_mem_nil, or_false] at hm
    rcases hm with rfl | rfl | rfl | rfl | rfl | rfl | rfl <;> omega
  have e : ∃ y, l = pre7 (L7 d) 7 ++ y := ⟨rowM d.marks, by rw [pre7_all, ← hl]; unfold bodyH marksL; rw [List.append_assoc]⟩
  obtain ⟨y, hy⟩ := e
  have e2 : pre7 (L7 d) 7 = pre7 (L7 d) (j + 1) ++ ((L7 d).drop (j + 1)).flatMap fun x => varL x.toNat := by
    unfold pre7
    rw [← List.flatMap_append]
    congr 1
    rw [List.take_append_drop]; rfl
  have e3 : l.drop a = varL x.toNat ++ ((((L7 d).drop (j + 1)).flatMap fun x => varL x.toNat) ++ y) := by
    rw [ha, hy, e2, ← pre7_succ hjl]
    simp only [List.append_assoc]
    rw [List.drop_left]
  have hal : a ≤ l.length := by
    rw [ha, hy, e2, ← pre7_succ hjl]; simp only [List.length_append]; omega
  have h := getVA_put hg hal e3 (by omega)
  refine ⟨by rw [hjl, h.1]; congr 1; omega, ?_⟩
  rw [← pre7_succ hjl, List.length_append, ← ha]
  omega
/-- The record in its block, the number of marks in its own. -/
def LayH (w : World) (P3 P4 : Nat) (xs : List Int) : Prop := ∃ x0 x1 x2 x3 x4 x5 x6, xs = [x0, x1, x2, x3, x4, x5, x6] ∧ RecAt w P3 #[.int .i64 x0, .int .i64 x1, .int .i64 x2, .int .i64 x3, .int .i64 x4, .int .i64 x5, .slice none 0 0] 26 ∧ RecAt w P4 #[.int .i64 x6] 3
theorem RecAt.c1 {w : World} {x : Nat} {a : Value} {t : TypeId} (h : RecAt w x #[a] t) : w.cell? ⟨x, 0, none⟩ = some a := h.cell rfl
theorem LayH.at {w : World} {P3 P4 : Nat} {xs : List Int} (h : LayH w P3 P4 xs) (hne : P3 ≠ P4) {j : Nat} (hj : j < 7) : ∃ X K v, (X = P3 ∨ X = P4) ∧ [(some ⟨P3, 0, none⟩ : Option Addr), some ⟨P3, 1, none⟩, some ⟨P3, 2, none⟩, some ⟨P3, 3, none⟩, some ⟨P3, 4, none⟩, some ⟨P3, 5, none⟩, some ⟨P4, 0, none⟩][j]? = some (some ⟨X, K, none⟩) ∧ w.cell? ⟨X, K, none⟩ = some (.int .i64 v) ∧ w.frozen? ⟨X, K, none⟩ = false ∧ ∀ o, LayH (w.setCell ⟨X, K, none⟩ (.int .i64 o)) P3 P4 (xs.set j o) := by
  obtain ⟨x0, x1, x2, x3, x4, x5, x6, rfl, h3, h4⟩ := h
  match j, hj with
  | 0, _ => exact ⟨P3, 0, x0, .inl rfl, rfl, h3.cell rfl, h3.frozen 0, fun o => ⟨o, x1, x2, x3, x4, x5, x6, rfl, h3.set 0 (.int .i64 o), h4.other (Ne.symm hne) 0 _⟩⟩
  | 1, _ => exact ⟨P3, 1, x1, .inl rfl, rfl, h3.cell rfl, h3.frozen 1, fun o => ⟨x0, o, x2, x3, x4, x5, x6, rfl, h3.set 1 (.int .i64 o), h4.other (Ne.symm hne) 1 _⟩⟩
  | 2, _ => exact ⟨P3, 2, x2, .inl rfl, rfl, h3.cell rfl, h3.frozen 2, fun o => ⟨x0, x1, o, x3, x4, x5, x6, rfl, h3.set 2 (.int .i64 o), h4.other (Ne.symm hne) 2 _⟩⟩
  | 3, _ => exact ⟨P3, 3, x3, .inl rfl, rfl, h3.cell rfl, h3.frozen 3, fun o => ⟨x0, x1, x2, o, x4, x5, x6, rfl, h3.set 3 (.int .i64 o), h4.other (Ne.symm hne) 3 _⟩⟩
  | 4, _ => exact ⟨P3, 4, x4, .inl rfl, rfl, h3.cell rfl, h3.frozen 4, fun o => ⟨x0, x1, x2, x3, o, x5, x6, rfl, h3.set 4 (.int .i64 o), h4.other (Ne.symm hne) 4 _⟩⟩
  | 5, _ => exact ⟨P3, 5, x5, .inl rfl, rfl, h3.cell rfl, h3.frozen 5, fun o => ⟨x0, x1, x2, x3, x4, o, x6, rfl, h3.set 5 (.int .i64 o), h4.other (Ne.symm hne) 5 _⟩⟩
  | 6, _ => exact ⟨P4, 0, x6, .inr rfl, rfl, h4.cell rfl, h4.frozen 0, fun o => ⟨x0, x1, x2, x3, x4, x5, o, rfl, h3.other hne 0 _, h4.set 0 (.int .i64 o)⟩⟩
/-- What is known when j numbers are read, up to a. -/
def Read7 (l : List UInt8) (j a : Nat) (xs : List Int) : Prop := (∀ x ∈ xs, 0 ≤ x ∧ x < 9223372036854775808) ∧ xs.length = 7 ∧ ∀ d, HdOk d → bodyH d = l → a = (pre7 (L7 d) j).length ∧ ∀ i, i < j → xs[i]? = (L7 d)[i]?
theorem Read7.step {l : List UInt8} {j a a' : Nat} {xs : List Int} {o : Int} {z : Bool} (h : Read7 l j a xs) (hj : j < 7) (hg : getVA l ((a : Nat) : Int) = (o, ((a' : Nat) : Int), z)) : Read7 l (j + 1) a' (xs.set j o) := by
  refine ⟨fun x hx => ?_, by rw [List.length_set]; exact h.2.1, fun d hd hl => ?_⟩
  · rcases List.mem_or_eq_of_mem_set hx with hx | rfl
    · exact h.1 x hx
    · exact getVA_nat hg
  · obtain ⟨h1, h2⟩ := h.2.2 d hd hl
    obtain ⟨h3, h4⟩ := pre7_step hd hl hj h1 hg
    refine ⟨h4, fun i hi => ?_⟩
    by_cases e : i = j
    · subst e; rw [h3, List.getElem?_set_self (by rw [h.2.1]; exact hj)]
    · rw [List.getElem?_set_ne (by omega)]; exact h2 i (by omega)
theorem run_ixp7 (W : World) (a b c d e f g : Option Addr) (k : Nat) (v : Option Addr) (h : [a, b, c, d, e, f, g][k]? = some v) : (Instr.index 79 (.agg #[.pointer a, .pointer b, .pointer c, .pointer d, .pointer e, .pointer f, .pointer g]) (.int .i64 (k : Nat))).run Try.prog W = .ok (.pointer v) W := by
  have u3 := Try.underlying78
  have a3 := Try.isAgg78
  have z3 := Try.sizeOf78
  match k, h with
  | 0, h => simp at h; subst h; simp [Instr.index, asIntOf, run_underlying Try.underlying79, go_sem, a3, z3]
  | 1, h => simp at h; subst h; simp [Instr.index, asIntOf, run_underlying Try.underlying79, go_sem, a3, z3]
  | 2, h => simp at h; subst h; simp [Instr.index, asIntOf, run_underlying Try.underlying79, go_sem, a3, z3]
  | 3, h => simp at h; subst h; simp [Instr.index, asIntOf, run_underlying Try.underlying79, go_sem, a3, z3]
  | 4, h => simp at h; subst h; simp [Instr.index, asIntOf, run_underlying Try.underlying79, go_sem, a3, z3]
  | 5, h => simp at h; subst h; simp [Instr.index, asIntOf, run_underlying Try.underlying79, go_sem, a3, z3]
  | 6, h => simp at h; subst h; simp [Instr.index, asIntOf, run_underlying Try.underlying79, go_sem, a3, z3]
  | k + 7, h => simp at h
theorem run_ixp3 (W : World) (a b c : Option Addr) (k : Nat) (v : Option Addr) (h : [a, b, c][k]? = some v) : (Instr.index 82 (.agg #[.pointer a, .pointer b, .pointer c]) (.int .i64 (k : Nat))).run Try.prog W = .ok (.pointer v) W := by
  have u3 := Try.underlying78
  have a3 := Try.isAgg78
  have z3 := Try.sizeOf78
  match k, h with
  | 0, h => simp at h; subst h; simp [Instr.index, asIntOf, run_underlying Try.underlying82, go_sem, a3, z3]
  | 1, h => simp at h; subst h; simp [Instr.index, asIntOf, run_underlying Try.underlying82, go_sem, a3, z3]
  | 2, h => simp at h; subst h; simp [Instr.index, asIntOf, run_underlying Try.underlying82, go_sem, a3, z3]
  | k + 3, h => simp at h
/-! ### a mark's three numbers -/
def LayM (w : World) (P8 P9 : Nat) (xs : List Int) : Prop := ∃ x0 x1 x2, xs = [x0, x1, x2] ∧ RecAt w P8 #[.int .i64 x0, .string ⟨#[]⟩, .int .i64 x1, .bool false] 39 ∧ RecAt w P9 #[.int .i64 x2] 3
theorem LayM.at {w : World} {P8 P9 : Nat} {xs : List Int} (h : LayM w P8 P9 xs) (hne : P8 ≠ P9) {j : Nat} (hj : j < 3) : ∃ X K v, (X = P8 ∨ X = P9) ∧ [(some ⟨P8, 0, none⟩ : Option Addr), some ⟨P8, 2, none⟩, some ⟨P9, 0, none⟩][j]? = some (some ⟨X, K, none⟩) ∧ w.cell? ⟨X, K, none⟩ = some (.int .i64 v) ∧ w.frozen? ⟨X, K, none⟩ = false ∧ ∀ o, LayM (w.setCell ⟨X, K, none⟩ (.int .i64 o)) P8 P9 (xs.set j o) := by
  obtain ⟨x0, x1, x2, rfl, h3, h4⟩ := h
  match j, hj with
  | 0, _ => exact ⟨P8, 0, x0, .inl rfl, rfl, h3.cell rfl, h3.frozen 0, fun o => ⟨o, x1, x2, rfl, h3.set 0 (.int .i64 o), h4.other (Ne.symm hne) 0 _⟩⟩
  | 1, _ => exact ⟨P8, 2, x1, .inl rfl, rfl, h3.cell rfl, h3.frozen 2, fun o => ⟨x0, o, x2, rfl, h3.set 2 (.int .i64 o), h4.other (Ne.symm hne) 2 _⟩⟩
  | 2, _ => exact ⟨P9, 0, x2, .inr rfl, rfl, h4.cell rfl, h4.frozen 0, fun o => ⟨x0, x1, o, rfl, h3.other hne 0 _, h4.set 0 (.int .i64 o)⟩⟩
theorem take_set_succ : ∀ (xs : List Int) (j : Nat) (o : Int), j < xs.length → (xs.set j o).take (j + 1) = xs.take j ++ [o]
  | [], j, o, h => by simp at h
  | x :: xs, 0, o, h => by simp
  | x :: xs, j + 1, o, h => by
    rw [List.set_cons_succ, List.take_succ_cons, List.take_succ_cons, List.cons_append, take_set_succ xs j o (by simpa using h)]
def varsN (l : List UInt8) (p : Nat) : Nat → Nat × List Int
  | 0 => (p, [])
  | k + 1 => match getVA l (((varsN l p k).1 : Nat) : Int) with | (o, q, _) => (q.toNat, (varsN l p k).2 ++ [o])
/-- What is known when j of a mark's numbers are read, up to a. -/
def Read3 (l : List UInt8) (p j a : Nat) (xs : List Int) : Prop := (∀ x ∈ xs, 0 ≤ x ∧ x < 9223372036854775808) ∧ xs.length = 3 ∧ varsN l p j = (a, xs.take j) ∧ a ≤ l.length
theorem Read3.step {l : List UInt8} {p j a a' : Nat} {xs : List Int} {o : Int} {z : Bool} (h : Read3 l p j a xs) (hj : j < 3) (hg : getVA l ((a : Nat) : Int) = (o, ((a' : Nat) : Int), z)) : Read3 l p (j + 1) a' (xs.set j o) := by
  refine ⟨fun x hx => ?_, by rw [List.length_set]; exact h.2.1, ?_, ?_⟩
  · rcases List.mem_or_eq_of_mem_set hx with hx | rfl
    · exact h.1 x hx
    · exact getVA_nat hg
  · rw [varsN, h.2.2.1]
    simp only [hg, Int.toNat_natCast, Prod.mk.injEq, true_and]
    exact (take_set_succ xs j o (by rw [h.2.1]; exact hj)).symm
  · obtain ⟨q, hq, hq2⟩ := getVA_place hg (Int.natCast_nonneg _)
    omega
theorem varsN_three {l : List UInt8} {p a : Nat} {xs : List Int} (h : varsN l p 3 = (a, xs)) : ∃ o1 o2 o3 a1 a2 z1 z2 z3, xs = [o1, o2, o3] ∧ getVA l ((p : Nat) : Int) = (o1, ((a1 : Nat) : Int), z1) ∧ getVA l ((a1 : Nat) : Int) = (o2, ((a2 : Nat) : Int), z2) ∧ getVA l ((a2 : Nat) : Int) = (o3, ((a : Nat) : Int), z3) := by
  obtain ⟨o1, q1, z1, g1⟩ : ∃ o q z, getVA l ((p : Nat) : Int) = (o, q, z) := ⟨_, _, _, rfl⟩
  obtain ⟨a1, rfl, _⟩ := getVA_place g1 (Int.natCast_nonneg _)
  obtain ⟨o2, q2, z2, g2⟩ : ∃ o q z, getVA l ((a1 : Nat) : Int) = (o, q, z) := ⟨_, _, _, rfl⟩
  obtain ⟨a2, rfl, _⟩ := getVA_place g2 (Int.natCast_nonneg _)
  obtain ⟨o3, q3, z3, g3⟩ : ∃ o q z, getVA l ((a2 : Nat) : Int) = (o, q, z) := ⟨_, _, _, rfl⟩
  obtain ⟨a3, rfl, _⟩ := getVA_place g3 (Int.natCast_nonneg _)
  simp only [varsN, g1, g2, g3, Int.toNat_natCast, List.nil_append, List.cons_append, Prod.mk.injEq] at h
  obtain ⟨rfl, rfl⟩ := h
  exact ⟨o1, o2, o3, a1, a2, z1, z2, z3, rfl, g1, g2, g3⟩
end Go.Proofs.Ytfjplhjlmilcfaa
