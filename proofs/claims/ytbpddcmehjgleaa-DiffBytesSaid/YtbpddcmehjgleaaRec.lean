/- Records in blocks of their own. -/
import Derived.Test.YtbpddcmehjgleaaSl
import Derived.Deep.MidRow
import Derived.Test.YtbpddcmehjgleaaPhase
namespace Go.Proofs.Ytbpddcmehjgleaa
open Go.RowKit
set_option linter.unusedVariables false

/-- Block x is these cells, and may be written. -/
def RecAt (w : World) (x : Nat) (cs : Array Value) (t : TypeId) : Prop := w.heap[x]? = some (.cells cs t)
theorem RecAt.new (w : World) (cs : Array Value) (t : TypeId) : RecAt (w.alloc (.cells cs t)) w.heap.size cs t := (MapKept.heap_alloc w _).1
theorem RecAt.lt {w : World} {x : Nat} {cs : Array Value} {t : TypeId} (h : RecAt w x cs t) : x < w.heap.size := (Array.getElem?_eq_some_iff.1 h).1
theorem RecAt.later {w w' : World} {x : Nat} {cs : Array Value} {t : TypeId} (h : RecAt w x cs t) (hb : Below w.heap.size w w') : RecAt w' x cs t := by
  unfold RecAt at *
  rw [hb.block x (Array.getElem?_eq_some_iff.1 h).1]; exact h
theorem RecAt.cell {w : World} {x : Nat} {cs : Array Value} {t : TypeId} (h : RecAt w x cs t) {i : Nat} {v : Value} (hv : cs[i]? = some v) : w.cell? ⟨x, i, .none⟩ = some v := by
  unfold RecAt at h; simp [World.cell?, h, hv]
theorem RecAt.frozen {w : World} {x : Nat} {cs : Array Value} {t : TypeId} (h : RecAt w x cs t) (i : Nat) : w.frozen? ⟨x, i, .none⟩ = false := by
  unfold RecAt at h; simp [World.frozen?, h]
theorem RecAt.c2 {w : World} {x : Nat} {a b : Value} {t : TypeId} (k : RecAt w x #[a, b] t) : w.cell? ⟨x, 0, none⟩ = some a ∧ w.cell? ⟨x, 1, none⟩ = some b := ⟨k.cell rfl, k.cell rfl⟩
theorem RecAt.c5 {w : World} {x : Nat} {a b c d e : Value} {t : TypeId} (h : RecAt w x #[a, b, c, d, e] t) :
    w.cell? ⟨x, 0, .none⟩ = some a ∧ w.cell? ⟨x, 1, .none⟩ = some b ∧ w.cell? ⟨x, 2, .none⟩ = some c ∧ w.cell? ⟨x, 3, .none⟩ = some d ∧ w.cell? ⟨x, 4, .none⟩ = some e :=
  ⟨h.cell rfl, h.cell rfl, h.cell rfl, h.cell rfl, h.cell rfl⟩
theorem RecAt.c3 {w : World} {x : Nat} {a b c : Value} {t : TypeId} (h : RecAt w x #[a, b, c] t) : w.cell? ⟨x, 0, .none⟩ = some a ∧ w.cell? ⟨x, 1, .none⟩ = some b ∧ w.cell? ⟨x, 2, .none⟩ = some c :=
  ⟨h.cell rfl, h.cell rfl, h.cell rfl⟩
theorem RecAt.f3 {w : World} {x : Nat} {a b c : Value} {t : TypeId} (h : RecAt w x #[a, b, c] t) : w.frozen? ⟨x, 0, .none⟩ = false ∧ w.frozen? ⟨x, 1, .none⟩ = false ∧ w.frozen? ⟨x, 2, .none⟩ = false :=
  ⟨h.frozen 0, h.frozen 1, h.frozen 2⟩
/-! ### a record stored whole -/
theorem RecAt.c4 {w : World} {x : Nat} {a b c d : Value} {t : TypeId} (h : RecAt w x #[a, b, c, d] t) : w.cell? ⟨x, 0, none⟩ = some a ∧ w.cell? ⟨x, 1, none⟩ = some b ∧ w.cell? ⟨x, 2, none⟩ = some c ∧ w.cell? ⟨x, 3, none⟩ = some d := ⟨h.cell rfl, h.cell rfl, h.cell rfl, h.cell rfl⟩
theorem RecAt.f4 {w : World} {x : Nat} {a b c d : Value} {t : TypeId} (h : RecAt w x #[a, b, c, d] t) : w.frozen? ⟨x, 0, none⟩ = false ∧ w.frozen? ⟨x, 1, none⟩ = false ∧ w.frozen? ⟨x, 2, none⟩ = false ∧ w.frozen? ⟨x, 3, none⟩ = false := ⟨h.frozen 0, h.frozen 1, h.frozen 2, h.frozen 3⟩
theorem setCells_heap (x : Nat) (t : TypeId) : ∀ (vs : List Value) (o : Nat) (w : World) (cs : Array Value), w.heap[x]? = some (.cells cs t) → o + vs.length = cs.size →
    (w.setCells x o vs).heap[x]? = some (.cells (cs.toList.take o ++ vs).toArray t) ∧ (w.setCells x o vs).heap.size = w.heap.size ∧ (∀ y, y ≠ x → (w.setCells x o vs).heap[y]? = w.heap[y]?) ∧ (w.setCells x o vs).os = w.os ∧ (w.setCells x o vs).tape = w.tape ∧ (w.setCells x o vs).output = w.output
  | [], o, w, cs, h, hl => by
    refine ⟨?_, rfl, fun y _ => rfl, rfl, rfl, rfl⟩
    rw [show (w.setCells x o []) = w from rfl, h]
    simp at hl
    simp [hl, List.take_of_length_le]
  | v :: r, o, w, cs, h, hl => by
    have h1 : (w.setCell ⟨x, o, none⟩ v).heap[x]? = some (.cells (cs.setIfInBounds o v) t) := by
      simp [World.setCell, Array.getElem?_modify, h]
    have h2 := setCells_heap x t r (o + 1) (w.setCell ⟨x, o, none⟩ v) (cs.setIfInBounds o v) h1 (by simp at hl ⊢; omega)
    refine ⟨?_, ?_, fun y hy => ?_, h2.2.2.2.1, h2.2.2.2.2.1, h2.2.2.2.2.2⟩
    · rw [show w.setCells x o (v :: r) = (w.setCell ⟨x, o, none⟩ v).setCells x (o + 1) r from rfl, h2.1]
      congr 3
      have ho : o < cs.size := by simp at hl; omega
      rw [Array.toList_setIfInBounds, List.take_add_one, List.getElem?_set_self (by simpa using ho)]
      simp [List.take_set_of_le]
    · rw [show w.setCells x o (v :: r) = (w.setCell ⟨x, o, none⟩ v).setCells x (o + 1) r from rfl, h2.2.1]
      simp [World.setCell]
    · rw [show w.setCells x o (v :: r) = (w.setCell ⟨x, o, none⟩ v).setCells x (o + 1) r from rfl, h2.2.2.1 y hy]
      simp only [World.setCell, Array.getElem?_modify]
      rw [if_neg (fun e => hy e.symm)]
/-- 'the store of a whole record'. -/
theorem run_rec {P : Program} (W : World) (x : Nat) (ty : TypeId) (cs vs : Array Value) (h : RecAt W x cs ty) (hs : vs.size = cs.size) (hi : (P.info? ty).map (·.size) = some vs.size) (h1 : vs.all (·.oneCell') = true)
    (o : Oper) (ac : Act) (p v : Operand) (ho : o.op = .store ty p v) (hp : ac.eval p = .pointer (some ⟨x, 0, none⟩)) (hv : ac.eval v = .agg vs) :
    ∃ W', (execOp ac.eval o).run P W = .ok .skip W' ∧ RecAt W' x vs ty ∧ W'.heap.size = W.heap.size ∧ (∀ y, y ≠ x → W'.heap[y]? = W.heap[y]?) ∧ W.grownBy W' (some x) := by
  refine ⟨W.setCells x 0 vs.toList, ?_, ?_⟩
  · unfold execOp
    have := run_storeAt_mid (P := P) W x 0 ty vs (fun j hj => by
      have hl : j < cs.size := by omega
      obtain ⟨u, hu⟩ : ∃ u, cs[j]? = some u := ⟨cs[j], Array.getElem?_eq_getElem hl⟩
      rw [Nat.zero_add]
      exact ⟨by rw [h.cell hu]; rfl, h.frozen j⟩) hi h1
    simp only [ho, hp, hv, this, Sem.run_bind, Sem.run_pure, Result.andThen_ok]
  · have hh := setCells_heap x ty vs.toList 0 W cs h (by simp [hs])
    refine ⟨by unfold RecAt; rw [hh.1]; simp, hh.2.1, hh.2.2.1, hh.2.2.2.1, hh.2.2.2.2.1, hh.2.2.2.2.2, by rw [hh.2.1]; exact Nat.le_refl _, fun y hy hne => hh.2.2.1 y (fun e => hne (by rw [e]))⟩
theorem add_add {x : Addr} (h : x.spot = none) (i j : Nat) : (x.add i).add j = ⟨x.block, x.off + i + j, none⟩ := by
  obtain ⟨b, o, sp⟩ := x
  simp only at h
  subst h
  unfold Addr.add
  split <;> split <;> simp_all <;> omega
theorem ownsRow_later {w w' : World} {B size n : Nat} {e : TypeId} {v : Value} {xs : List Value} (h : w.ownsRow B e size v n xs) (hb : Below w.heap.size w w') : w'.ownsRow B e size v n xs := by
  refine ⟨h.1, ?_⟩
  rcases h.2 with hv | ⟨g, cap, cur, hv, hb2, hg, rest⟩
  · exact .inl hv
  · exact .inr ⟨g, cap, cur, hv, hb2, by rw [hb.block g (Array.getElem?_eq_some_iff.1 hg).1]; exact hg, rest⟩
/-- A record out of its block. -/
theorem RecAt.range {w : World} {x : Nat} {cs : Array Value} {t : TypeId} (h : RecAt w x cs t) : w.rangeAt x 0 cs.toList := fun j v hv => by
  rw [Nat.zero_add]; exact h.cell (by simpa using hv)
theorem results_ct {P : Program} {fn : Func} {a t : Nat} {ty : TypeId} (hf : fn.results = #[.cell a ty, .tmp t]) {tmps : Array Value} {w : World} {x : Nat} {cs : Array Value} {d : TypeDesc}
    (hx : tmps.getD a undef = .pointer (some ⟨x, 0, none⟩)) (h : RecAt w x cs ty) (hu : P.underlying ty = some d) (hd : d.isRow = true) (hi : (P.info? ty).map (·.size) = some cs.toList.length) :
    (results fn tmps).run P w = .ok (.tuple #[.agg cs, tmps.getD t undef]) w := by
  have hl := run_loadVar_mid (P := P) w x 0 ty cs.toList d h.range hu hd hi
  simp only [Array.toArray_toList] at hl
  rw [Array.getD_eq_getD_getElem?] at hx
  simp [results, hf, hx, asAddr, hl]
theorem results_ctt {P : Program} {fn : Func} {a t u : Nat} {ty : TypeId} (hf : fn.results = #[.cell a ty, .tmp t, .tmp u]) {tmps : Array Value} {w : World} {x : Nat} {cs : Array Value} {d : TypeDesc}
    (hx : tmps.getD a undef = .pointer (some ⟨x, 0, none⟩)) (h : RecAt w x cs ty) (hu : P.underlying ty = some d) (hd : d.isRow = true) (hi : (P.info? ty).map (·.size) = some cs.toList.length) :
    (results fn tmps).run P w = .ok (.tuple #[.agg cs, tmps.getD t undef, tmps.getD u undef]) w := by
  have hl := run_loadVar_mid (P := P) w x 0 ty cs.toList d h.range hu hd hi
  simp only [Array.toArray_toList] at hl
  rw [Array.getD_eq_getD_getElem?] at hx
  simp [results, hf, hx, asAddr, hl]
theorem results_c {P : Program} {fn : Func} {a : Nat} {ty : TypeId} (hf : fn.results = #[.cell a ty]) {tmps : Array Value} {w : World} {x : Nat} {cs : Array Value} {d : TypeDesc}
    (hx : tmps.getD a undef = .pointer (some ⟨x, 0, none⟩)) (h : RecAt w x cs ty) (hu : P.underlying ty = some d) (hd : d.isRow = true) (hi : (P.info? ty).map (·.size) = some cs.toList.length) :
    (results fn tmps).run P w = .ok (.agg cs) w := by
  have hl := run_loadVar_mid (P := P) w x 0 ty cs.toList d h.range hu hd hi
  simp only [Array.toArray_toList] at hl
  rw [Array.getD_eq_getD_getElem?] at hx
  simp [results, hf, hx, asAddr, hl]
theorem hv_rec {P : Program} {ops : Array Oper} {Q : Exit → Act → World → Prop} {L L' : List SV} {J' : World → Prop} {i : Nat} {a : Act} {w : World} {o : Oper} (hi : ops[i]? = some o) (hg : o.guard = none)
    {x : Nat} {ty : TypeId} {cs vs : Array Value} {p v : Operand} (ho : o.op = .store ty p v) (hp : a.eval p = .pointer (some ⟨x, 0, none⟩)) (hv : a.eval v = .agg vs)
    (h : RecAt w x cs ty) (hs : vs.size = cs.size) (hinfo : (P.info? ty).map (·.size) = some vs.size) (h1 : vs.all (·.oneCell') = true) (hV : ∀ w', VL L' i w' undef)
    (hJ : ∀ w', RecAt w' x vs ty → w'.heap.size = w.heap.size → (∀ y, y ≠ x → w'.heap[y]? = w.heap[y]?) → w.grownBy w' (some x) → J' w') (hall : ∀ w' k v0, k ≠ i → VL L k w v0 → VL L' k w' v0) : HvGoal P ops Q L L' J' i a w := by
  obtain ⟨w', hrun, r1, r2, r3, r4⟩ := run_rec (P := P) w x ty cs vs h hs hinfo h1 o a p v ho hp hv
  exact hv_skip hi hg hrun (hV w') (hJ w' r1 r2 r3 r4) (hall w')
theorem wpList_rec {P : Program} {ops : Array Oper} {rest : List Oper} {o : Oper} {a : Act} {w : World} {Q : Exit → Act → World → Prop} (hg : o.guard = none) {p v : Operand} {ty : TypeId} (ho : o.op = .store ty p v)
    (x : Nat) (cs vs : Array Value) (hp : a.eval p = .pointer (some ⟨x, 0, none⟩)) (hv : a.eval v = .agg vs)
    (h : RecAt w x cs ty) (hs : vs.size = cs.size) (hinfo : (P.info? ty).map (·.size) = some vs.size) (h1 : vs.all (·.oneCell') = true)
    (hK : ∀ w', RecAt w' x vs ty → w'.heap.size = w.heap.size → (∀ y, y ≠ x → w'.heap[y]? = w.heap[y]?) → w.grownBy w' (some x) → wpList P ops Q rest (a.put o.dst undef) w') : wpList P ops Q (o :: rest) a w := by
  obtain ⟨w', hrun, r1, r2, r3, r4⟩ := run_rec (P := P) w x ty cs vs h hs hinfo h1 o a p v ho hp hv
  refine wpList_plain hg fun K hk => ?_
  unfold Oper.wp
  rw [hrun]
  exact hk _ _ (hK w' r1 r2 r3 r4)
theorem RecAt.keep {w w' : World} {x y : Nat} {cs : Array Value} {t : TypeId} (h : RecAt w x cs t) (hk : ∀ z, z ≠ y → w'.heap[z]? = w.heap[z]?) (hne : x ≠ y) : RecAt w' x cs t := by
  unfold RecAt at *; rw [hk x hne]; exact h
theorem RecAt.set {w : World} {x : Nat} {cs : Array Value} {t : TypeId} (h : RecAt w x cs t) (i : Nat) (v : Value) : RecAt (w.setCell ⟨x, i, none⟩ v) x (cs.setIfInBounds i v) t := by
  unfold RecAt at *
  simp [World.setCell, Array.getElem?_modify, h]
theorem RecAt.other {w : World} {x y : Nat} {cs : Array Value} {t : TypeId} (h : RecAt w x cs t) (hne : x ≠ y) (i : Nat) (v : Value) : RecAt (w.setCell ⟨y, i, none⟩ v) x cs t := by
  unfold RecAt at *
  simp only [World.setCell, Array.getElem?_modify]
  rw [if_neg (fun e => hne e.symm)]; exact h
/-- 's[lo:hi]' and 's[lo:]' of bytes, below the end of what s may grow to. -/
theorem run_sl (W : World) (bk off n cap lo hi : Nat) (h1 : lo ≤ hi) (h2 : hi ≤ cap) (h3 : lo < cap) :
    (Instr.slice 22 (.slice (some ⟨bk, off, none⟩) n cap) (some (.int .i64 lo)) (some (.int .i64 hi)) none).run Try.prog W = .ok (.slice (some ⟨bk, off + lo, none⟩) (hi - lo) (cap - lo)) W := by
  simp [Instr.slice, Instr.sliceBounds, Instr.sliceBound, asIntOf, run_underlying Try.underlying22, Result.andThen, h1, h2]
  simp [show ¬ cap = lo by omega, Addr.add_lit]
theorem run_sl_end (W : World) (bk off n cap lo : Nat) (h1 : lo ≤ n) (h2 : n ≤ cap) (h3 : lo < cap) :
    (Instr.slice 22 (.slice (some ⟨bk, off, none⟩) n cap) (some (.int .i64 lo)) none none).run Try.prog W = .ok (.slice (some ⟨bk, off + lo, none⟩) (n - lo) (cap - lo)) W := by
  simp [Instr.slice, Instr.sliceBounds, Instr.sliceBound, asIntOf, run_underlying Try.underlying22, Result.andThen, h1]
  simp [show ¬ cap = lo by omega, Addr.add_lit]
end Go.Proofs.Ytbpddcmehjgleaa
