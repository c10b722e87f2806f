/- Images: states over stores into records; the law's After; what the program's answers are to be. -/
import Derived.Test.YtghglbaflmbeoaaMdN
namespace Go.Proofs.Ytghglbaflmbeoaa
open Go.RowKit Go.Proofs
set_option linter.unusedVariables false
set_option linter.unusedSimpArgs false
set_option linter.unnecessarySimpa false

/-- A record of states is written whole: all other states stay. -/
theorem StA.over {J : Nat → Prop} {w w' : World} {d v : Value} {s : Sx} (h : StA J w d v s) {P : Nat} {a1 a2 : Option Addr} {n1 n2 c1 c2 : Nat} {T : TypeId} (hr : RecAt w P #[.slice a1 n1 c1, .slice a2 n2 c2] T) (r3 : ∀ b, b ≠ P → w'.heap[b]? = w.heap[b]?) (r2 : w'.heap.size = w.heap.size) : StA J w' d v s :=
  ((h.lessRec hr).keep (fun b hb hj => r3 b hj.2) (Nat.le_of_eq r2.symm)).weak fun b _ hj => hj.1
theorem StA.all {J : Nat → Prop} {w : World} {d v : Value} {s : Sx} (h : StA J w d v s) : StA allJ w d v s := h.weak fun _ _ _ => trivial
theorem StOk.may {s : Sx} (h : StOk s) : MayS s := ⟨by have := h.size; omega, by have := h.many; omega, fun o ho => ⟨by have := h.sizes o ho; omega, by have := nameOk_len (h.names o ho); omega⟩⟩
/-- The program's own Apply: new memory. -/
def newU (w w' : World) : Nat → Prop := fun b => w.heap.size ≤ b ∧ ∀ i, w'.frozen? ⟨b, i, none⟩ = false
theorem newU_B {w w' : World} (b : Nat) (h : newU w w' b) : newB w b := h.1
def PApplyIs (w : World) (s : Sx) (ev : Ev) (e : Ending) (w' : World) : Prop := ∃ d v, e = .returned (.tuple #[.agg #[d, v], .int .i64 (applyM s ev).2]) ∧ StA (newU w w') w' d v (applyM s ev).1 ∧ Below w.heap.size w w'

set_option maxRecDepth 20000 in
set_option maxHeartbeats 6400000 in
theorem after14_any (size : Int) (a : Option Addr) (n cap : Nat) (l : List Ev) (J JE : Nat → Prop) (w : World) (hJ : NewJ J w) (hl : QE JE w (.slice a n cap) l) :
    Calls Try.prog 27 #[.int .i64 size, .slice a n cap] w fun e w' => FoldIs J w (foldM (newM size) l) e w' := by
  have HX0 := Lib.hid (RecAt.new w zeroSt 28)
  have HB0 := Lib.hid ((Below.refl w.heap.size w).alloc (Nat.le_refl _) (.cells zeroSt 28))
  obtain ⟨w1, hw1⟩ : ∃ W, w.alloc (.cells zeroSt 28) = W := ⟨_, rfl⟩
  rw [hw1] at HX0 HB0
  have HL := Lib.hid (hl.later ev_rel HB0.out)
  have HJ := Lib.hid hJ
  clear hl hJ
  go_enter Try.func27, Try.ntmps27
  go_upto_region 1 with fail
  try rw [hw1]
  clear hw1
  obtain ⟨X, hX⟩ : ∃ X, w.heap.size = X := ⟨_, rfl⟩
  simp only [hX] at HX0 ⊢
  have HXS := Lib.hid hX
  clear hX
  go_wp2_with fail
  refine (rnew14_any size J w1 (HJ.out.later HB0.out.size)).mono ?_
  rintro e w2 ⟨d2, v2, rfl, hs2, b2⟩
  have HX2 := Lib.hid (HX0.out.later b2)
  have HB2 := Lib.hid (HB0.out.trans (b2.mono HB0.out.size))
  have HL2 := Lib.hid (HL.out.later ev_rel b2)
  have HS2 := Lib.hid hs2
  clear b2 hs2
  go_wp2_with fail
  refine (rfold14_any d2 v2 (newM size) a n cap l J JE w2 (HJ.out.later HB2.out.size) HS2.out (newM_ok size) HL2.out).mono ?_
  rintro e w3 ⟨d3, v3, rfl, hs3, b3⟩
  have HX3 := Lib.hid (HX2.out.later b3)
  have HB3 := Lib.hid (HB2.out.trans (b3.mono HB2.out.size))
  have HS3 := Lib.hid hs3
  clear b3 hs3
  obtain ⟨qa, qc, qb, qd, rfl, rfl, -, -⟩ := HS3.out.open
  obtain ⟨S, hS⟩ : ∃ z, foldM (newM size) l = z := ⟨_, rfl⟩
  rw [hS] at HS3 ⊢
  have HSE := Lib.hid hS
  clear hS
  obtain ⟨L1, hL1⟩ : ∃ z, S.data.length = z := ⟨_, rfl⟩
  obtain ⟨L2, hL2⟩ : ∃ z, S.snaps.length = z := ⟨_, rfl⟩
  simp only [hL1, hL2] at HS3 ⊢
  clear hL1 hL2
  go_wp2_with (refine wpList_rec rfl rfl X zeroSt #[.slice qa L1 qc, .slice qb L2 qd] rfl rfl HX3.out rfl (by kernel_rfl) (by simp [Value.oneCell']) ?_; intro w4 r1 r2 r3 r4)
  refine bodyPost_ret (results_c rfl rfl r1 Try.underlying28 rfl (by kernel_rfl)) rfl ?_
  exact ⟨_, _, rfl, by rw [HSE.out]; exact HS3.out.over HX3.out r3 r2, HB3.out.grown r4 HB3.out.size (fun q e => by cases e; have := HXS.out; omega)⟩

/-! ### a state in a block of its own -/
theorem StA.shape {J : Nat → Prop} {w : World} {d v : Value} {s : Sx} (h : StA J w d v s) : ∃ a1 n1 c1 a2 n2 c2, d = .slice a1 n1 c1 ∧ v = .slice a2 n2 c2 := by
  obtain ⟨a1, c1, a2, c2, h1, h2, -, -⟩ := h.open
  exact ⟨a1, _, c1, a2, _, c2, h1, h2⟩
def SAt (J : Nat → Prop) (w : World) (P : Nat) (s : Sx) : Prop := ∃ a1 n1 c1 a2 n2 c2, RecAt w P #[.slice a1 n1 c1, .slice a2 n2 c2] tSt ∧ StA J w (.slice a1 n1 c1) (.slice a2 n2 c2) s
theorem SAt.later {J : Nat → Prop} {w w' : World} {P : Nat} {s : Sx} (h : SAt J w P s) (hb : Below w.heap.size w w') : SAt J w' P s := by
  obtain ⟨a1, n1, c1, a2, n2, c2, h1, h2⟩ := h
  exact ⟨a1, n1, c1, a2, n2, c2, h1.later hb, h2.later hb⟩
theorem SAt.weak {J J' : Nat → Prop} {w : World} {P : Nat} {s : Sx} (h : SAt J w P s) (hj : ∀ b, b < w.heap.size → J b → J' b) : SAt J' w P s := by
  obtain ⟨a1, n1, c1, a2, n2, c2, h1, h2⟩ := h
  exact ⟨a1, n1, c1, a2, n2, c2, h1, h2.weak hj⟩
theorem SAt.lt {J : Nat → Prop} {w : World} {P : Nat} {s : Sx} (h : SAt J w P s) : P < w.heap.size := by
  obtain ⟨a1, n1, c1, a2, n2, c2, h1, h2⟩ := h
  exact h1.lt
theorem below_st (w : World) (cs : Array Value) : Below w.heap.size w (w.alloc (.cells cs tSt)) := (Below.refl _ _).alloc (Nat.le_refl _) _
theorem SAt.new {J : Nat → Prop} {w : World} {a1 a2 : Option Addr} {n1 c1 n2 c2 : Nat} {s : Sx} (h : StA J w (.slice a1 n1 c1) (.slice a2 n2 c2) s) : SAt J (w.alloc (.cells #[.slice a1 n1 c1, .slice a2 n2 c2] tSt)) w.heap.size s :=
  ⟨a1, n1, c1, a2, n2, c2, RecAt.new w _ _, h.later (below_st w _)⟩
/-- Another record of states is written whole. -/
theorem SAt.over {J J' : Nat → Prop} {w w' : World} {P Q : Nat} {s t : Sx} (h : SAt J w P s) (hq : SAt J' w Q t) (hne : P ≠ Q) (r3 : ∀ b, b ≠ Q → w'.heap[b]? = w.heap[b]?) (r2 : w'.heap.size = w.heap.size) : SAt J w' P s := by
  obtain ⟨a1, n1, c1, a2, n2, c2, h1, h2⟩ := h
  obtain ⟨b1, m1, e1, b2, m2, e2, q1, q2⟩ := hq
  exact ⟨a1, n1, c1, a2, n2, c2, by unfold RecAt at *; rw [r3 P hne]; exact h1, h2.over q1 r3 r2⟩
section
variable {ops : Array Oper} {rest : List Oper} {o : Oper} {a : Act} {Q : Exit → Act → World → Prop}
/-- 'append(s, t)' of one record, in the block just laid; where the row lies behind it. -/
theorem wp_nonL {α : Type} {sz : Nat} {tE tS : TypeId} {E : Rel α} {J : Nat → Prop} (hR : (rawT sz tE tS).Ok) (hE : RelOk E) {w0 : World} (hgd : o.guard = none) (s x : Operand) {cs : Array Value} (ho : o.op = .call { callee := .builtin .append, args := #[s, x], argTypes := #[tS, tS] })
    (v : Value) (ts : List α) (hs : a.eval s = v) (W0 : World) (hown : NOwn J sz tE tS E W0 w0 v ts) (t : α) (ht : E (lessJ J v) w0 cs.toList t) (hl : cs.toList.length = sz) (h1 : ∀ u ∈ cs.toList, u.oneCell' = true) (hx : a.eval x = .slice (some ⟨w0.heap.size, 0, none⟩) 1 1) (hlen : ts.length + 1 ≤ 1000000)
    (h : ∀ v' w', NOwn J sz tE tS E W0 w' v' (ts ++ [t]) → (w0.alloc (.cells cs tE)).grownBy w' v.ownBlock → (v'.ownBlock = v.ownBlock ∨ v'.ownBlock = some (w0.heap.size + 1)) → wpList Try.prog ops Q rest (a.put o.dst v') w') :
    wpList Try.prog ops Q (o :: rest) a (w0.alloc (.cells cs tE)) := by
  obtain ⟨css, g1, g2⟩ := hown
  refine wp_gone hR hgd s x ho rfl v css hs W0 g1 (⟨cs.toList, hl, h1⟩ : Raw sz) trivial rfl hx (by rw [g2.1]; exact hlen) fun v' w' o2 gr hat => h v' w' ⟨_, o2, ?_⟩ gr hat
  have hba : Below w0.heap.size w0 (w0.alloc (.cells cs tE)) := (Below.refl _ _).alloc (Nat.le_refl _) _
  have key : ∀ c u, E (lessJ J v) w0 c u → E (lessJ J v') w' c u := fun c u hc => lean_grown hE (hE.later hc hba) gr hat (by simp)
  exact (g2.mono fun c u hc => key _ _ hc).append (Both.one (key _ _ ht))
end
theorem NOwn.keptN {α : Type} {sz : Nat} {tE tS : TypeId} {E : Rel α} {J : Nat → Prop} (hE : RelOk E) {W0 w w' : World} {v : Value} {ts : List α} {g : Nat} (h : NOwn J sz tE tS E W0 w v ts) (hg : w.grownBy w' (some g)) (hge : W0.heap.size ≤ g) (hne : v.ownBlock ≠ some g) (hJ : ∀ b, J b → b ≠ g) : NOwn J sz tE tS E W0 w' v ts := by
  obtain ⟨css, h1, h2⟩ := h
  exact ⟨css, h1.keptBy hg (.inr hne) (fun k e => by cases e; exact hge), h2.mono fun c t h => hE.keep h (fun b hb hj => hg.block b hb (fun e => by cases e; exact hJ _ hj.1 rfl)) hg.size⟩
end Go.Proofs.Ytghglbaflmbeoaa
