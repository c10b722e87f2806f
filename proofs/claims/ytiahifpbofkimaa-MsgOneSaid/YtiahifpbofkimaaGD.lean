/- Records in blocks of their own. | Rows of numbers of the call's own. | Appends of bytes within a region that draws its order. | A beginning of bytes; a byte that came in. | Rows of numbers, negative ones too: read, and one's own; numbers masked. -/
import Derived.Test.YtiahifpbofkimaaSl
import Derived.Test.YtiahifpbofkimaaGC
import Derived.Test.YtiahifpbofkimaaRv
import Derived.Test.YtiahifpbofkimaaRd
import Derived.Deep.MidRow
import Derived.Maps.AppendAt
import Derived.Laws.AppendOwnNone
namespace Go.Proofs.Ytiahifpbofkimaa
open Go.RowKit
set_option linter.unusedVariables false

/-- Block x is these cells, and may be written. -/
def RecAt (w : World) (x : Nat) (cs : Array Value) (t : TypeId) : Prop := w.heap[x]? = some (.cells cs t)
theorem RecAt.new (w : World) (cs : Array Value) (t : TypeId) : RecAt (w.alloc (.cells cs t)) w.heap.size cs t := (MapKept.heap_alloc w _).1
theorem RecAt.lt {w : World} {x : Nat} {cs : Array Value} {t : TypeId} (h : RecAt w x cs t) : x < w.heap.size := (Array.getElem?_eq_some_iff.1 h).1
theorem RecAt.later {w w' : World} {x : Nat} {cs : Array Value} {t : TypeId} (h : RecAt w x cs t) (hb : Below w.heap.size w w') : RecAt w' x cs t := by
  unfold RecAt at *
  rw [hb.block x (Array.getElem?_eq_some_iff.1 h).1]; exact h
theorem RecAt.cell {w : World} {x : Nat} {cs : Array Value} {t : TypeId} (h : RecAt w x cs t) {i : Nat} {v : Value} (hv : cs[i]? = some v) : w.cell? ⟨x, i, .none⟩ = some v := by
  unfold RecAt at h; simp [World.cell?, h, hv]
theorem RecAt.frozen {w : World} {x : Nat} {cs : Array Value} {t : TypeId} (h : RecAt w x cs t) (i : Nat) : w.frozen? ⟨x, i, .none⟩ = false := by
  unfold RecAt at h; simp [World.frozen?, h]
theorem RecAt.c3 {w : World} {x : Nat} {a b c : Value} {t : TypeId} (h : RecAt w x #[a, b, c] t) : w.cell? ⟨x, 0, .none⟩ = some a ∧ w.cell? ⟨x, 1, .none⟩ = some b ∧ w.cell? ⟨x, 2, .none⟩ = some c :=
  ⟨h.cell rfl, h.cell rfl, h.cell rfl⟩
theorem RecAt.f3 {w : World} {x : Nat} {a b c : Value} {t : TypeId} (h : RecAt w x #[a, b, c] t) : w.frozen? ⟨x, 0, .none⟩ = false ∧ w.frozen? ⟨x, 1, .none⟩ = false ∧ w.frozen? ⟨x, 2, .none⟩ = false :=
  ⟨h.frozen 0, h.frozen 1, h.frozen 2⟩
/-! ### a record stored whole -/
theorem RecAt.c4 {w : World} {x : Nat} {a b c d : Value} {t : TypeId} (h : RecAt w x #[a, b, c, d] t) : w.cell? ⟨x, 0, none⟩ = some a ∧ w.cell? ⟨x, 1, none⟩ = some b ∧ w.cell? ⟨x, 2, none⟩ = some c ∧ w.cell? ⟨x, 3, none⟩ = some d := ⟨h.cell rfl, h.cell rfl, h.cell rfl, h.cell rfl⟩
theorem RecAt.f4 {w : World} {x : Nat} {a b c d : Value} {t : TypeId} (h : RecAt w x #[a, b, c, d] t) : w.frozen? ⟨x, 0, none⟩ = false ∧ w.frozen? ⟨x, 1, none⟩ = false ∧ w.frozen? ⟨x, 2, none⟩ = false ∧ w.frozen? ⟨x, 3, none⟩ = false := ⟨h.frozen 0, h.frozen 1, h.frozen 2, h.frozen 3⟩
theorem setCells_heap (x : Nat) (t : TypeId) : ∀ (vs : List Value) (o : Nat) (w : World) (cs : Array Value), w.heap[x]? = some (.cells cs t) → o + vs.length = cs.size →
    (w.setCells x o vs).heap[x]? = some (.cells (cs.toList.take o ++ vs).toArray t) ∧ (w.setCells x o vs).heap.size = w.heap.size ∧ (∀ y, y ≠ x → (w.setCells x o vs).heap[y]? = w.heap[y]?) ∧ (w.setCells x o vs).os = w.os ∧ (w.setCells x o vs).tape = w.tape ∧ (w.setCells x o vs).output = w.output
  | [], o, w, cs, h, hl => by
    refine ⟨?_, rfl, fun y _ => rfl, rfl, rfl, rfl⟩
    rw [show (w.setCells x o []) = w from rfl, h]
    simp at hl
    simp [hl, List.take_of_length_le]
  | v :: r, o, w, cs, h, hl => by
    have h1 : (w.setCell ⟨x, o, none⟩ v).heap[x]? = some (.cells (cs.setIfInBounds o v) t) := by
      simp [World.setCell, Array.getElem?_modify, h]
    have h2 := setCells_heap x t r (o + 1) (w.setCell ⟨x, o, none⟩ v) (cs.setIfInBounds o v) h1 (by simp at hl ⊢; omega)
    refine ⟨?_, ?_, fun y hy => ?_, h2.2.2.2.1, h2.2.2.2.2.1, h2.2.2.2.2.2⟩
    · rw [show w.setCells x o (v :: r) = (w.setCell ⟨x, o, none⟩ v).setCells x (o + 1) r from rfl, h2.1]
      congr 3
      have ho : o < cs.size := by simp at hl; omega
      rw [Array.toList_setIfInBounds, List.take_add_one, List.getElem?_set_self (by simpa using ho)]
      simp [List.take_set_of_le]
    · rw [show w.setCells x o (v :: r) = (w.setCell ⟨x, o, none⟩ v).setCells x (o + 1) r from rfl, h2.2.1]
      simp [World.setCell]
    · rw [show w.setCells x o (v :: r) = (w.setCell ⟨x, o, none⟩ v).setCells x (o + 1) r from rfl, h2.2.2.1 y hy]
      simp only [World.setCell, Array.getElem?_modify]
      rw [if_neg (fun e => hy e.symm)]
/-- 'the store of a whole record'. -/
theorem run_rec {P : Program} (W : World) (x : Nat) (ty : TypeId) (cs vs : Array Value) (h : RecAt W x cs ty) (hs : vs.size = cs.size) (hi : (P.info? ty).map (·.size) = some vs.size) (h1 : vs.all (·.oneCell') = true)
    (o : Oper) (ac : Act) (p v : Operand) (ho : o.op = .store ty p v) (hp : ac.eval p = .pointer (some ⟨x, 0, none⟩)) (hv : ac.eval v = .agg vs) :
    ∃ W', (execOp ac.eval o).run P W = .ok .skip W' ∧ RecAt W' x vs ty ∧ W'.heap.size = W.heap.size ∧ (∀ y, y ≠ x → W'.heap[y]? = W.heap[y]?) ∧ W.grownBy W' (some x) := by
  refine ⟨W.setCells x 0 vs.toList, ?_, ?_⟩
  · unfold execOp
    have := run_storeAt_mid (P := P) W x 0 ty vs (fun j hj => by
      have hl : j < cs.size := by omega
      obtain ⟨u, hu⟩ : ∃ u, cs[j]? = some u := ⟨cs[j], Array.getElem?_eq_getElem hl⟩
      rw [Nat.zero_add]
      exact ⟨by rw [h.cell hu]; rfl, h.frozen j⟩) hi h1
    simp only [ho, hp, hv, this, Sem.run_bind, Sem.run_pure, Result.andThen_ok]
  · have hh := setCells_heap x ty vs.toList 0 W cs h (by simp [hs])
    refine ⟨by unfold RecAt; rw [hh.1]; simp, hh.2.1, hh.2.2.1, hh.2.2.2.1, hh.2.2.2.2.1, hh.2.2.2.2.2, by rw [hh.2.1]; exact Nat.le_refl _, fun y hy hne => hh.2.2.1 y (fun e => hne (by rw [e]))⟩
theorem add_add {x : Addr} (h : x.spot = none) (i j : Nat) : (x.add i).add j = ⟨x.block, x.off + i + j, none⟩ := by
  obtain ⟨b, o, sp⟩ := x
  simp only at h
  subst h
  unfold Addr.add
  split <;> split <;> simp_all <;> omega
theorem ownsRow_later {w w' : World} {B size n : Nat} {e : TypeId} {v : Value} {xs : List Value} (h : w.ownsRow B e size v n xs) (hb : Below w.heap.size w w') : w'.ownsRow B e size v n xs := by
  refine ⟨h.1, ?_⟩
  rcases h.2 with hv | ⟨g, cap, cur, hv, hb2, hg, rest⟩
  · exact .inl hv
  · exact .inr ⟨g, cap, cur, hv, hb2, by rw [hb.block g (Array.getElem?_eq_some_iff.1 hg).1]; exact hg, rest⟩
/-- A record out of its block. -/
theorem RecAt.range {w : World} {x : Nat} {cs : Array Value} {t : TypeId} (h : RecAt w x cs t) : w.rangeAt x 0 cs.toList := fun j v hv => by
  rw [Nat.zero_add]; exact h.cell (by simpa using hv)
theorem results_ct {P : Program} {fn : Func} {a t : Nat} {ty : TypeId} (hf : fn.results = #[.cell a ty, .tmp t]) {tmps : Array Value} {w : World} {x : Nat} {cs : Array Value} {d : TypeDesc}
    (hx : tmps.getD a undef = .pointer (some ⟨x, 0, none⟩)) (h : RecAt w x cs ty) (hu : P.underlying ty = some d) (hd : d.isRow = true) (hi : (P.info? ty).map (·.size) = some cs.toList.length) :
    (results fn tmps).run P w = .ok (.tuple #[.agg cs, tmps.getD t undef]) w := by
  have hl := run_loadVar_mid (P := P) w x 0 ty cs.toList d h.range hu hd hi
  simp only [Array.toArray_toList] at hl
  rw [Array.getD_eq_getD_getElem?] at hx
  simp [results, hf, hx, asAddr, hl]
theorem results_ctt {P : Program} {fn : Func} {a t u : Nat} {ty : TypeId} (hf : fn.results = #[.cell a ty, .tmp t, .tmp u]) {tmps : Array Value} {w : World} {x : Nat} {cs : Array Value} {d : TypeDesc}
    (hx : tmps.getD a undef = .pointer (some ⟨x, 0, none⟩)) (h : RecAt w x cs ty) (hu : P.underlying ty = some d) (hd : d.isRow = true) (hi : (P.info? ty).map (·.size) = some cs.toList.length) :
    (results fn tmps).run P w = .ok (.tuple #[.agg cs, tmps.getD t undef, tmps.getD u undef]) w := by
  have hl := run_loadVar_mid (P := P) w x 0 ty cs.toList d h.range hu hd hi
  simp only [Array.toArray_toList] at hl
  rw [Array.getD_eq_getD_getElem?] at hx
  simp [results, hf, hx, asAddr, hl]
theorem results_c {P : Program} {fn : Func} {a : Nat} {ty : TypeId} (hf : fn.results = #[.cell a ty]) {tmps : Array Value} {w : World} {x : Nat} {cs : Array Value} {d : TypeDesc}
    (hx : tmps.getD a undef = .pointer (some ⟨x, 0, none⟩)) (h : RecAt w x cs ty) (hu : P.underlying ty = some d) (hd : d.isRow = true) (hi : (P.info? ty).map (·.size) = some cs.toList.length) :
    (results fn tmps).run P w = .ok (.agg cs) w := by
  have hl := run_loadVar_mid (P := P) w x 0 ty cs.toList d h.range hu hd hi
  simp only [Array.toArray_toList] at hl
  rw [Array.getD_eq_getD_getElem?] at hx
  simp [results, hf, hx, asAddr, hl]
theorem hv_rec {P : Program} {ops : Array Oper} {Q : Exit → Act → World → Prop} {L L' : List SV} {J' : World → Prop} {i : Nat} {a : Act} {w : World} {o : Oper} (hi : ops[i]? = some o) (hg : o.guard = none)
    {x : Nat} {ty : TypeId} {cs vs : Array Value} {p v : Operand} (ho : o.op = .store ty p v) (hp : a.eval p = .pointer (some ⟨x, 0, none⟩)) (hv : a.eval v = .agg vs)
    (h : RecAt w x cs ty) (hs : vs.size = cs.size) (hinfo : (P.info? ty).map (·.size) = some vs.size) (h1 : vs.all (·.oneCell') = true) (hV : ∀ w', VL L' i w' undef)
    (hJ : ∀ w', RecAt w' x vs ty → w'.heap.size = w.heap.size → (∀ y, y ≠ x → w'.heap[y]? = w.heap[y]?) → w.grownBy w' (some x) → J' w') (hall : ∀ w' k v0, k ≠ i → VL L k w v0 → VL L' k w' v0) : HvGoal P ops Q L L' J' i a w := by
  obtain ⟨w', hrun, r1, r2, r3, r4⟩ := run_rec (P := P) w x ty cs vs h hs hinfo h1 o a p v ho hp hv
  exact hv_skip hi hg hrun (hV w') (hJ w' r1 r2 r3 r4) (hall w')
theorem wpList_rec {P : Program} {ops : Array Oper} {rest : List Oper} {o : Oper} {a : Act} {w : World} {Q : Exit → Act → World → Prop} (hg : o.guard = none) {p v : Operand} {ty : TypeId} (ho : o.op = .store ty p v)
    (x : Nat) (cs vs : Array Value) (hp : a.eval p = .pointer (some ⟨x, 0, none⟩)) (hv : a.eval v = .agg vs)
    (h : RecAt w x cs ty) (hs : vs.size = cs.size) (hinfo : (P.info? ty).map (·.size) = some vs.size) (h1 : vs.all (·.oneCell') = true)
    (hK : ∀ w', RecAt w' x vs ty → w'.heap.size = w.heap.size → (∀ y, y ≠ x → w'.heap[y]? = w.heap[y]?) → w.grownBy w' (some x) → wpList P ops Q rest (a.put o.dst undef) w') : wpList P ops Q (o :: rest) a w := by
  obtain ⟨w', hrun, r1, r2, r3, r4⟩ := run_rec (P := P) w x ty cs vs h hs hinfo h1 o a p v ho hp hv
  refine wpList_plain hg fun K hk => ?_
  unfold Oper.wp
  rw [hrun]
  exact hk _ _ (hK w' r1 r2 r3 r4)
theorem RecAt.keep {w w' : World} {x y : Nat} {cs : Array Value} {t : TypeId} (h : RecAt w x cs t) (hk : ∀ z, z ≠ y → w'.heap[z]? = w.heap[z]?) (hne : x ≠ y) : RecAt w' x cs t := by
  unfold RecAt at *; rw [hk x hne]; exact h
theorem RecAt.set {w : World} {x : Nat} {cs : Array Value} {t : TypeId} (h : RecAt w x cs t) (i : Nat) (v : Value) : RecAt (w.setCell ⟨x, i, none⟩ v) x (cs.setIfInBounds i v) t := by
  unfold RecAt at *
  simp [World.setCell, Array.getElem?_modify, h]
theorem RecAt.other {w : World} {x y : Nat} {cs : Array Value} {t : TypeId} (h : RecAt w x cs t) (hne : x ≠ y) (i : Nat) (v : Value) : RecAt (w.setCell ⟨y, i, none⟩ v) x cs t := by
  unfold RecAt at *
  simp only [World.setCell, Array.getElem?_modify]
  rw [if_neg (fun e => hne e.symm)]; exact h
/-- 's[lo:hi]' and 's[lo:]' of bytes, below the end of what s may grow to. -/
theorem run_sl (W : World) (bk off n cap lo hi : Nat) (h1 : lo ≤ hi) (h2 : hi ≤ cap) (h3 : lo < cap) :
    (Instr.slice 25 (.slice (some ⟨bk, off, none⟩) n cap) (some (.int .i64 lo)) (some (.int .i64 hi)) none).run Try.prog W = .ok (.slice (some ⟨bk, off + lo, none⟩) (hi - lo) (cap - lo)) W := by
  simp [Instr.slice, Instr.sliceBounds, Instr.sliceBound, asIntOf, run_underlying Try.underlying25, Result.andThen, h1, h2]
  simp [show ¬ cap = lo by omega, Addr.add_lit]
theorem run_sl_end (W : World) (bk off n cap lo : Nat) (h1 : lo ≤ n) (h2 : n ≤ cap) (h3 : lo < cap) :
    (Instr.slice 25 (.slice (some ⟨bk, off, none⟩) n cap) (some (.int .i64 lo)) none none).run Try.prog W = .ok (.slice (some ⟨bk, off + lo, none⟩) (n - lo) (cap - lo)) W := by
  simp [Instr.slice, Instr.sliceBounds, Instr.sliceBound, asIntOf, run_underlying Try.underlying25, Result.andThen, h1]
  simp [show ¬ cap = lo by omega, Addr.add_lit]
end Go.Proofs.Ytiahifpbofkimaa
namespace Go.Proofs.Ytiahifpbofkimaa
open Go.RowKit
set_option linter.unusedVariables false
set_option linter.unusedSimpArgs false

section
variable {ops : Array Oper} {rest : List Oper} {o : Oper} {a : Act} {Q : Exit → Act → World → Prop}
/-- Numbers in a row of one's own. -/
def IOwn (W0 w : World) (v : Value) (zs : List Nat) : Prop := w.ownsRow W0.heap.size 3 1 v zs.length (zs.map fun z : Nat => Value.int .i64 z) ∧ Below W0.heap.size W0 w
theorem info_i64 : (Try.prog.info? 3).map (fun i => (i.zero, i.size, i.bytes)) = some (some (.int .i64 0), 1, 8) := by kernel_rfl
theorem IOwn.nil (w : World) : IOwn w w (.slice .none 0 0) [] := ⟨World.ownsRow_nil _ _ _ _, Below.refl _ _⟩
theorem IOwn.later {W0 w w' : World} {v : Value} {zs : List Nat} (h : IOwn W0 w v zs) (hb : Below w.heap.size w w') : IOwn W0 w' v zs := by
  exact ⟨ownsRow_later h.1 hb, h.2.trans (hb.mono h.2.size)⟩
theorem IOwn.kept {W0 w w' : World} {v : Value} {zs : List Nat} {g : Option Nat} (h : IOwn W0 w v zs) (hg : w.grownBy w' g) (hne : v.ownBlock = none ∨ v.ownBlock ≠ g) (hge : ∀ k, g = some k → W0.heap.size ≤ k) : IOwn W0 w' v zs :=
  ⟨h.1.kept hg hne, h.2.grown hg h.2.size hge⟩
theorem IOwn.row_n {W0 w : World} {v : Value} {zs : List Nat} {n : Nat} (h : IOwn W0 w v zs) (hn : zs.length = n) : ∃ a cap, v = .slice a n cap ∧ n ≤ cap ∧ ∀ (i : Nat) z, zs[i]? = some z → ∃ g, a = some ⟨g, 0, .none⟩ ∧ w.cell? ⟨g, i, .none⟩ = some (.int .i64 (z : Nat)) := by
  subst hn
  rcases h.1.2 with ⟨hv, hn⟩ | ⟨g, cap, cur, hv, hb, hg, hn, hc, hs, ht⟩
  · have : zs = [] := List.length_eq_zero_iff.1 hn
    subst this
    exact ⟨.none, 0, hv, Nat.le_refl _, fun i z hz => by simp at hz⟩
  · refine ⟨_, cap, hv, hn, fun i z hz => ⟨g, rfl, ?_⟩⟩
    have hr := h.1
    rw [hv] at hr
    have hi := (List.getElem?_eq_some_iff.1 hz).1
    rw [hr.cellAt i (by omega), List.getElem?_map, hz]; rfl
theorem wp_num {w0 : World} (hgd : o.guard = none) (s x : Operand) (ho : o.op = .call { callee := .builtin .append, args := #[s, x], argTypes := #[38, 38] })
    (v : Value) (zs : List Nat) (hs : a.eval s = v) (W0 : World) (hown : IOwn W0 w0 v zs) (c : Int) (z : Nat) (hc : c = z) (hx : a.eval x = .slice (some ⟨w0.heap.size, 0, none⟩) 1 1) (hlen : zs.length + 1 ≤ 1000000)
    (h : ∀ v' w', IOwn W0 w' v' (zs ++ [z]) → (w0.alloc (.cells #[.int .i64 c] 3)).grownBy w' v.ownBlock → (v'.ownBlock = v.ownBlock ∨ v'.ownBlock = some (w0.heap.size + 1)) → wpList Try.prog ops Q rest (a.put o.dst v') w') : wpList Try.prog ops Q (o :: rest) a (w0.alloc (.cells #[.int .i64 c] 3)) := by
  subst hc
  obtain ⟨i0, hi, hz0, hz1, hz2⟩ := info_parts info_i64
  have h1 := hown.later ((Below.refl _ _).alloc (Nat.le_refl _) (.cells #[.int .i64 (z : Nat)] 3))
  have hrec := RecAt.new w0 #[.int .i64 (z : Nat)] 3
  refine wpList_append_own_at _ hgd s x 38 ho W0.heap.size 3 i0 (.int .i64 0) 1 8 Try.underlying38 hi hz0 hz1 hz2 rfl (by decide) v _ _ hs h1.1 ⟨w0.heap.size, 0, none⟩ 1 1 [.int .i64 (z : Nat)] hx rfl ?_ ?_ (by unfold maxLen; omega) (by omega) h1.2.size ?_
  · intro j u hu
    have e0 : (⟨w0.heap.size, 0, none⟩ : Addr).add j = ⟨w0.heap.size, j, none⟩ := by unfold Addr.add; split <;> simp_all
    rw [e0]
    exact hrec.cell (by simpa using hu)
  · intro u hu
    simp only [List.mem_cons, List.not_mem_nil, or_false] at hu
    rw [hu]; rfl
  · intro v' w' ho' hg _ hat
    refine h v' w' ⟨by simpa using ho', h1.2.grown hg h1.2.size (fun k hk => (World.ownsRow.lt h1.1 k hk).1)⟩ hg ?_
    rcases hat with e1 | e1
    · exact .inl e1
    · right; rw [e1]; simp
end

end Go.Proofs.Ytiahifpbofkimaa
namespace Go.Proofs.Ytiahifpbofkimaa
open Go.RowKit
set_option linter.unusedVariables false
set_option linter.unusedSimpArgs false

theorem run_row {w : World} (v : Value) (l : List UInt8) (W0 : World) (hown : Own W0 w v l) (ad : Option Addr) (cap n : Nat) (l2 : List UInt8) (hr : Row w ad cap l2) (hn : l2.length = n) (ty : TypeId) (hlen : l.length + l2.length ≤ 140737488355328) :
    ∃ v' w', (Builtin.append_ #[25, 25] ty #[v, .slice ad n cap]).run Try.prog w = .ok v' w' ∧ Own W0 w' v' (l ++ l2) ∧ w.grownBy w' v.ownBlock := by
  subst hn
  obtain ⟨i0, hi, hz0, hz1, hz2⟩ := info_parts info_u8
  cases ad with
  | none =>
    obtain ⟨rfl, rfl⟩ := hr.of_nil
    have hrun := run_append_owned_none (P := Try.prog) (w := w) W0.heap.size 25 ty 5 i0 1 Try.underlying25 hi v _ _ hown.1
    exact ⟨v, w, hrun, by simpa using hown, ⟨rfl, rfl, rfl, Nat.le_refl _, fun _ _ _ => rfl⟩⟩
  | some y =>
    obtain ⟨v', w', h1, h2, h3, h4⟩ := run_append_own (P := Try.prog) w W0.heap.size 25 ty 5 i0 (.int .u8 0) 1 1 Try.underlying25 hi hz0 hz1 hz2 rfl (by decide) v _ _ hown.1 y l2.length cap (l2.map B8) (by simp) (by
      intro j u hu
      rw [List.getElem?_map] at hu
      cases hj : l2[j]? with
      | none => rw [hj] at hu; cases hu
      | some z => rw [hj] at hu; simp at hu; subst hu; exact hr.2.2.2 y rfl j z hj) (by
      intro u hu
      simp at hu; obtain ⟨z, _, rfl⟩ := hu; rfl) (by unfold maxLen; omega) (by omega) hown.2.size
    exact ⟨v', w', h1, hown.grown (by simp) (by simp) h2 h3, h3⟩
/-- A mark that no value bears: of what isn't there yet. -/
def nV : SV := ⟨fun _ _ => False, fun _ _ _ h _ => h⟩
/-- 'append(s, b...)' as a heavy operation, s the call's own. -/
theorem hv_row {ops : Array Oper} {Q : Exit → Act → World → Prop} {L L' : List SV} {J' : World → Prop} {i : Nat} {a : Act} {w : World} {o : Oper} (hi : ops[i]? = some o) (hg : o.guard = none) (s x : Operand)
    (ho : o.op = .call { callee := .builtin .append, args := #[s, x], argTypes := #[25, 25] })
    (v : Value) (l : List UInt8) (hs : a.eval s = v) (W0 : World) (hown : Own W0 w v l) (ad : Option Addr) (cap n : Nat) (l2 : List UInt8) (hr : Row w ad cap l2) (hn : l2.length = n) (hx : a.eval x = .slice ad n cap) (hlen : l.length + l2.length ≤ 140737488355328)
    (h : ∀ v' w', Own W0 w' v' (l ++ l2) → w.grownBy w' v.ownBlock → VL L' i w' v' ∧ J' w' ∧ ∀ k v0, k ≠ i → VL L k w v0 → VL L' k w' v0) : HvGoal Try.prog ops Q L L' J' i a w := by
  obtain ⟨v', w', h1, h2, h3⟩ := run_row v l W0 hown ad cap n l2 hr hn o.type hlen
  obtain ⟨g1, g2, g3⟩ := h v' w' h2 h3
  refine hv_run (v := v') (w' := w') hi hg ?_ g1 g2 g3
  unfold execOp
  simp only [ho, resolve, invoke, builtin, Sem.run_bind, Sem.run_pure, Result.andThen_ok, List.map_toArray, List.map_cons, List.map_nil, hs, hx, h1]
/-- Marks that a heavy operation leaves alone: constants, those of which nobody asks any more, and those that aren't there yet. -/
def Calm2 (i : Nat) : Nat → List SV → List SV → Prop
  | _, [], _ => True
  | n, s :: r, s' :: r' => ((∃ c, s = cV c ∧ s' = cV c) ∨ s' = tV ∨ n = i ∨ s = nV) ∧ Calm2 i (n + 1) r r'
  | _, _ :: _, [] => False
theorem Calm2.all' {i : Nat} : ∀ {L L' : List SV} {n : Nat}, Calm2 i n L L' → ∀ w1 w2 k v0, n + k ≠ i → VL L k w1 v0 → VL L' k w2 v0
  | [], _, _, _, w1, w2, k, v0, _, h => by simp [VL] at h
  | s :: r, [], _, hc, _, _, _, _, _, _ => hc.elim
  | s :: r, s' :: r', n, hc, w1, w2, 0, v0, hne, h => by
    obtain ⟨h1, _⟩ := hc
    rcases h1 with ⟨c, rfl, rfl⟩ | rfl | h1 | rfl
    · exact h
    · exact trivial
    · exact absurd h1 hne
    · exact False.elim h
  | s :: r, s' :: r', n, hc, w1, w2, k + 1, v0, hne, h => by
    have := Calm2.all' hc.2 w1 w2 k v0 (by omega) (by simpa [VL] using h)
    simpa [VL] using this
theorem Calm2.all {i n : Nat} {L L' : List SV} (h : Calm2 i n L L') (hn : n = 0 := by rfl) : ∀ w1 w2 k v0, k ≠ i → VL L k w1 v0 → VL L' k w2 v0 := fun w1 w2 k v0 hk hv => by
  subst hn
  exact Calm2.all' h w1 w2 k v0 (by omega) hv
/-- A row that the call made itself, as what an operation of a drawn region leaves. -/
def oV (W0 : World) (l : List UInt8) : SV := ⟨fun w v => Own W0 w v l, fun w w' v h hb => h.later hb⟩
theorem ov_row {W0 w : World} {v : Value} {l : List UInt8} {n : Nat} (h : (oV W0 l).p w v) (hn : l.length = n) : ∃ a p, v = .slice a n p ∧ Row w a p l := by
  have h : Own W0 w v l := h
  exact h.row_n hn
theorem ov_of {l D : List UInt8} {W0 w : World} {P : FuncId} {args : Array Value} (h : Calls Try.prog P args w fun e w' => ∃ v, e = .returned v ∧ Own w w' v l) (hb : Below W0.heap.size W0 w) (hD : l = D) :
    Calls Try.prog P args w fun e w' => ∃ v, e = .returned v ∧ (oV W0 D).p w' v ∧ Below w.heap.size w w' := by
  subst hD
  exact h.mono fun e w' ⟨v, h, o⟩ => ⟨v, h, o.back hb, o.below⟩
/-- The world while only light operations ran; behind the heavy one nothing is told. -/
def jA (W : World) : Nat → World → Prop
  | 0, w => Below W.heap.size W w
  | _ + 1, _ => True
theorem jA_st (W : World) : ∀ ph w w', jA W ph w → Below w.heap.size w w' → jA W ph w'
  | 0, w, w', h, hb => Below.trans (h : Below W.heap.size W w) (hb.mono (Below.size h))
  | _ + 1, _, _, _, _ => trivial
end Go.Proofs.Ytiahifpbofkimaa
namespace Go.Proofs.Ytiahifpbofkimaa
open Go.RowKit Go.Proofs
set_option linter.unusedVariables false
set_option linter.unusedSimpArgs false
set_option linter.unnecessarySimpa false

/-- 's[:hi]' of bytes that are there. -/
theorem run_slB {w W : World} {a : Option Addr} {m cap hi : Nat} {l : List UInt8} (h : Row w a cap l) (hm : l.length = m) (h2 : hi ≤ m) :
    (Instr.slice 25 (.slice a m cap) none (some (.int .i64 hi)) none).run Try.prog W = .ok (.slice a hi cap) W := by
  have hc := h.1
  have h3 : hi ≤ cap := by omega
  cases a with
  | none =>
    have := h.2.2.1 rfl
    obtain rfl : hi = 0 := by omega
    subst this
    simp [Instr.slice, Instr.sliceBounds, Instr.sliceBound, asIntOf, run_underlying Try.underlying25, Result.andThen]
  | some x =>
    by_cases h0 : cap = 0
    · obtain rfl : hi = 0 := by omega
      subst h0
      simp [Instr.slice, Instr.sliceBounds, Instr.sliceBound, asIntOf, run_underlying Try.underlying25, Result.andThen]
    · have e0 : x.add 0 = x := by unfold Addr.add; obtain ⟨b, o, s⟩ := x; cases s <;> simp_all
      simp [Instr.slice, Instr.sliceBounds, Instr.sliceBound, asIntOf, run_underlying Try.underlying25, Result.andThen, h3]
      simp [show ¬ cap = 0 by omega, e0]
theorem wf_u8c {n : Int} (h : (Lit.int .u8 n).wf = true) : ∃ u : UInt8, n = (u.toNat : Int) := by
  simp [Lit.wf, IntKind.min, IntKind.max, IntKind.signed, IntKind.bits] at h
  exact ⟨UInt8.ofNat n.toNat, by rw [UInt8.toNat_ofNat']; omega⟩
/-- 's[lo:]' of bytes. -/
theorem sl_from {w : World} {a : Option Addr} {n cap lo : Nat} {l : List UInt8} (hr : Row w a cap l) (hn : l.length = n) (h0 : 0 < n) (h1 : lo ≤ n) :
    ∃ a' c', Row w a' c' (l.drop lo) ∧ ∀ W, (Instr.slice 25 (.slice a n cap) (some (.int .i64 lo)) none none).run Try.prog W = .ok (.slice a' (n - lo) c') W := by
  obtain ⟨b, off, rfl, hc⟩ := hr.at (by omega)
  have hle := hr.1
  have hmx := hr.2.1
  by_cases hlt : lo < cap
  · exact ⟨some ⟨b, off + lo, none⟩, cap - lo, hr.drop lo (by omega), fun W => run_sl_end W b off n cap lo h1 (by omega) hlt⟩
  · have e1 : lo = n := by omega
    have e2 : cap = n := by omega
    subst e1 e2
    refine ⟨some ⟨b, off, none⟩, 0, ?_, fun W => ?_⟩
    · rw [List.drop_of_length_le (by omega)]
      exact Row.empty w _ 0 (by simp [maxLen]) (fun h => by cases h)
    · simp [Instr.slice, Instr.sliceBounds, Instr.sliceBound, asIntOf, run_underlying Try.underlying25, Result.andThen]
end Go.Proofs.Ytiahifpbofkimaa
namespace Go.Proofs.Ytiahifpbofkimaa
open Go.RowKit Go.Proofs
set_option linter.unusedVariables false
set_option linter.unusedSimpArgs false

theorem and_range (z : Int) (m : Nat) (hm : m < 9223372036854775808) : 0 ≤ bits .and .i64 z (m : Int) ∧ bits .and .i64 z (m : Int) ≤ m := by
  have h1 : (BitVec.ofInt 64 (m : Int)).toNat = m := by
    rw [BitVec.toNat_ofInt]; simp; omega
  have h2 : bits .and .i64 z (m : Int) = IntKind.i64.wrap (((BitVec.ofInt 64 z).toNat &&& m : Nat) : Int) := by
    show IntKind.i64.wrap ((BitVec.ofInt 64 z &&& BitVec.ofInt 64 (m : Int)).toNat : Int) = _
    rw [BitVec.toNat_and, h1]
  have h3 := @Nat.and_le_right (BitVec.ofInt 64 z).toNat m
  rw [h2, IntKind.wrap_i64]
  omega
/-! ### rows of numbers -/
def zV (zs : List Int) : List Value := zs.map fun z => Value.int .i64 z
def ZB (zs : List Int) : Prop := ∀ z ∈ zs, -9223372036854775808 ≤ z ∧ z ≤ 9223372036854775807
def ZRow (w : World) (a : Option Addr) (cap : Nat) (zs : List Int) : Prop :=
  zs.length ≤ cap ∧ cap ≤ maxLen ∧ (a = none → cap = 0) ∧ ZB zs ∧ ∀ x, a = some x → ∀ (i : Nat) z, zs[i]? = some z → x.spot = .none ∧ w.cell? ⟨x.block, x.off + i, .none⟩ = some (.int .i64 z)
theorem RowE.zrow {w : World} {a : Option Addr} {cap : Nat} {zs : List Int} (h : RowE w 1 (IntE .i64) a cap zs) : ZRow w a cap zs := by
  refine ⟨h.1, h.2.1, h.2.2.1, fun z hz => ?_, fun x hx i z hz => ?_⟩
  · obtain ⟨i, hi⟩ := List.mem_iff_getElem?.1 hz
    cases ha : a with
    | none =>
      have := h.2.2.1 ha
      have := h.1
      have := (List.getElem?_eq_some_iff.1 hi).1
      omega
    | some x =>
      obtain ⟨v, _, _, hw⟩ := h.one ha hi
      exact wf_i64 hw
  · obtain ⟨v, hc, hv, _⟩ := h.one hx hz
    cases hv
    have hsp : x.spot = none := by
      have hi := (List.getElem?_eq_some_iff.1 hz).1
      obtain ⟨v0, hc0, _, _⟩ := h.one hx (List.getElem?_eq_getElem (l := zs) (i := 0) (by omega))
      have e0 : x.add 0 = x := by unfold Addr.add; obtain ⟨b, o, s⟩ := x; cases s <;> simp_all
      rw [e0] at hc0
      exact World.cell?_spot hc0
    obtain ⟨b, o, s⟩ := x
    simp only at hsp
    subst hsp
    refine ⟨rfl, ?_⟩
    rwa [show (⟨b, o, none⟩ : Addr).add i = ⟨b, o + i, none⟩ from by unfold Addr.add; split <;> simp_all] at hc
theorem ZRow.later {w w' : World} {a : Option Addr} {cap : Nat} {zs : List Int} (h : ZRow w a cap zs) (hb : Below w.heap.size w w') : ZRow w' a cap zs := by
  refine ⟨h.1, h.2.1, h.2.2.1, h.2.2.2.1, fun x hx i z hz => ?_⟩
  obtain ⟨hs, hc⟩ := h.2.2.2.2 x hx i z hz
  exact ⟨hs, by rw [hb.cell (World.block_lt_of_cell? w _ hc)]; exact hc⟩
theorem ZRow.at {w : World} {a : Option Addr} {cap : Nat} {zs : List Int} (h : ZRow w a cap zs) {i : Nat} {z : Int} (hz : zs[i]? = some z) : ∃ b off, a = some ⟨b, off, .none⟩ ∧ w.cell? ⟨b, off + i, .none⟩ = some (.int .i64 z) := by
  cases a with
  | none =>
    have := h.2.2.1 rfl
    have := h.1
    have := (List.getElem?_eq_some_iff.1 hz).1
    omega
  | some x =>
    obtain ⟨hs, hc⟩ := h.2.2.2.2 x rfl i z hz
    obtain ⟨b, off, sp⟩ := x
    simp only at hs
    subst hs
    exact ⟨b, off, rfl, hc⟩
theorem ZRow.none_nil {w : World} {cap : Nat} {zs : List Int} (h : ZRow w none cap zs) : zs = [] ∧ cap = 0 := by
  have h1 := h.2.2.1 rfl
  exact ⟨List.length_eq_zero_iff.1 (by have := h.1; omega), h1⟩
def ZOwn (W0 w : World) (v : Value) (zs : List Int) : Prop := w.ownsRow W0.heap.size 3 1 v zs.length (zV zs) ∧ Below W0.heap.size W0 w ∧ ZB zs
theorem ZOwn.empty {W0 w : World} (h : Below W0.heap.size W0 w) : ZOwn W0 (w.alloc (.cells #[] 3)) (.slice (some ⟨w.heap.size, 0, none⟩) 0 0) [] :=
  ⟨World.ownsRow_made w #[] 0 h.size (by simp [maxLen]) rfl, h.alloc h.size _, fun z h => by cases h⟩
theorem ZOwn.below {W0 w : World} {v : Value} {zs : List Int} (h : ZOwn W0 w v zs) : Below W0.heap.size W0 w := h.2.1
theorem ZOwn.row_n {W0 w : World} {v : Value} {zs : List Int} {n : Nat} (h : ZOwn W0 w v zs) (hn : zs.length = n) : ∃ a cap, v = .slice a n cap ∧ ZRow w a cap zs := by
  subst hn
  rcases h.1.2 with ⟨hv, hn⟩ | ⟨g, cap, cur, hv, hb, hg, hn, hc, hs, ht⟩
  · have : zs = [] := List.length_eq_zero_iff.1 hn
    subst this
    exact ⟨.none, 0, hv, by simp, by simp [maxLen], fun _ => rfl, h.2.2, fun x hx => by cases hx⟩
  · refine ⟨_, cap, hv, hn, hc, fun e => (by cases e), h.2.2, fun x hx i z hz => ?_⟩
    cases hx
    have hr := h.1
    rw [hv] at hr
    have hi := (List.getElem?_eq_some_iff.1 hz).1
    refine ⟨rfl, ?_⟩
    rw [Nat.zero_add, hr.cellAt i (by omega)]
    unfold zV
    rw [List.getElem?_map, hz]; rfl
section
variable {ops : Array Oper} {rest : List Oper} {o : Oper} {a : Act} {Q : Exit → Act → World → Prop}
/-- 'append(s, l...)', s the call's own, l whatever reads as numbers. -/
theorem wp_ints {w : World} (hgd : o.guard = none) (s x : Operand) (ho : o.op = .call { callee := .builtin .append, args := #[s, x], argTypes := #[38, 38] })
    (v : Value) (ts : List Int) (hs : a.eval s = v) (W0 : World) (hown : ZOwn W0 w v ts) (ad : Option Addr) (cap n : Nat) (us : List Int) (hr : ZRow w ad cap us) (hn : us.length = n) (hx : a.eval x = .slice ad n cap) (hlen : ts.length + us.length ≤ 4398046511104)
    (h : ∀ v' w', ZOwn W0 w' v' (ts ++ us) → wpList Try.prog ops Q rest (a.put o.dst v') w') : wpList Try.prog ops Q (o :: rest) a w := by
  subst hn
  obtain ⟨i0, hi, hz0, hz1, hz2⟩ := info_parts info_i64
  cases ad with
  | none =>
    obtain ⟨rfl, rfl⟩ := hr.none_nil
    refine wpList_append_own_none hgd s x 38 ho W0.heap.size 3 i0 1 Try.underlying38 hi v _ _ hs hown.1 hx ?_
    exact h v w (by simpa using hown)
  | some y =>
    refine wpList_append_own_at w hgd s x 38 ho W0.heap.size 3 i0 _ 1 8 Try.underlying38 hi hz0 hz1 hz2 rfl (by decide) v _ _ hs hown.1 y us.length cap (zV us) hx (by simp [zV]) (fun j u hu => ?_) (fun u hu => ?_) (by unfold maxLen; omega) (by omega) hown.2.1.size ?_
    · unfold zV at hu
      rw [List.getElem?_map] at hu
      cases hz : us[j]? with
      | none => rw [hz] at hu; cases hu
      | some z =>
        rw [hz] at hu; cases hu
        obtain ⟨hs2, hc⟩ := hr.2.2.2.2 y rfl j z hz
        obtain ⟨b, off, sp⟩ := y
        simp only at hs2
        subst hs2
        rw [show (⟨b, off, none⟩ : Addr).add j = ⟨b, off + j, none⟩ from by unfold Addr.add; split <;> simp_all]
        exact hc
    · unfold zV at hu
      obtain ⟨z, _, rfl⟩ := List.mem_map.1 hu
      rfl
    · intro v' w' ho' hg _ hat
      refine h v' w' ⟨by simpa [zV] using ho', hown.2.1.grown hg hown.2.1.size (fun k hk => (World.ownsRow.lt hown.1 k hk).1), fun s hs => ?_⟩
      rcases List.mem_append.1 hs with hs | hs
      · exact hown.2.2 s hs
      · exact hr.2.2.2.1 s hs
end
end Go.Proofs.Ytiahifpbofkimaa
