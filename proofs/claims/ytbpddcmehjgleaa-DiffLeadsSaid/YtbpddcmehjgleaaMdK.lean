/- Images: the document's examples. -/
import Derived.Test.YtbpddcmehjgleaaMdP
namespace Go.Proofs.Ytbpddcmehjgleaa
open Go.RowKit Go.Proofs
set_option linter.unusedVariables false
set_option linter.unusedSimpArgs false
set_option linter.unnecessarySimpa false

theorem wf_inB {n : Int} (h : (Lit.int .i64 n).wf = true) : inB n := by
  simp [Lit.wf, IntKind.min, IntKind.max, IntKind.signed, IntKind.bits] at h
  unfold inB; omega
theorem psame14_yes (d1 v1 d2 v2 : Value) (s t : Sx) (J1 J2 : Nat → Prop) (w : World) (h1 : StA J1 w d1 v1 s) (h2 : StA J2 w d2 v2 t) (hs : MayS s) (ht : MayS t) (he : s = t) :
    Calls Try.prog 23 #[.agg #[d1, v1], .agg #[d2, v2]] w fun e w' => e = .returned (.bool true) ∧ Below w.heap.size w w' := by
  have h := psame14_any d1 v1 d2 v2 s t J1 J2 w h1 h2 hs ht
  rw [decide_eq_true he] at h
  exact h
theorem pright14_yes (d v : Value) (s : Sx) (J : Nat → Prop) (w : World) (h : StA J w d v s) (hok : StOk s) :
    Calls Try.prog 34 #[.agg #[d, v]] w fun e w' => e = .returned (.bool true) ∧ Below w.heap.size w w' := by
  refine (pright14_any d v s J w h hok.may).mono ?_
  rintro e w' ⟨B, rfl, hB, hb⟩
  obtain rfl : B = true := hB.2 hok
  exact ⟨rfl, hb⟩
theorem km_new : newM 2 = ⟨[0, 0], []⟩ := by decide
theorem km_apply : applyM ⟨[0, 0], []⟩ ⟨1, 1, 0, [97], []⟩ = (⟨[0, 97], []⟩, 0) := by decide
theorem km_read : readM ⟨[0, 0], []⟩ [120] 0 0 = ([], 4) := by decide
theorem km_check : checkM ⟨[0, 0], []⟩ ⟨1, 1, 0, [97, 98], []⟩ = 3 := by decide
theorem km_ok : StOk ⟨[0, 0], []⟩ := by rw [← km_new]; exact newM_ok 2
theorem km_x : (⟨#[120]⟩ : ByteArray).data.toList = [120] := rfl
theorem km_e : (⟨#[]⟩ : ByteArray).data.toList = [] := rfl
/-! ### an event of a row, and what is made of it -/
structure EvAt (J : Nat → Prop) (w : World) (ev : Ev) (b f : Nat) (K1 K2 K3 : Int) (a2 : Option Addr) (L1 c2 : Nat) (S : ByteArray) : Prop where
  cells : ∀ W, Below w.heap.size w W → W.cell? ⟨b, f, none⟩ = some (.int .i64 K1) ∧ W.cell? ⟨b, f + 1, none⟩ = some (.int .i64 K2) ∧ W.cell? ⟨b, f + 2, none⟩ = some (.int .i64 K3) ∧ W.cell? ⟨b, f + 3, none⟩ = some (.slice a2 L1 c2) ∧ W.cell? ⟨b, f + 4, none⟩ = some (.string S)
  papply : ∀ d v s J' s1 CE W, Below w.heap.size w W → StA J' W d v s → StOk s → applyM s ev = (s1, CE) → Calls Try.prog 22 #[.agg #[d, v], .agg #[.int .i64 K1, .int .i64 K2, .int .i64 K3, .slice a2 L1 c2, .string S]] W fun e w' => ∃ d2 v2, e = .returned (.tuple #[.agg #[d2, v2], .int .i64 CE]) ∧ StA (newB W) w' d2 v2 s1 ∧ Below W.heap.size W w'
  pcheck : ∀ d v s J' W, Below w.heap.size w W → StA J' W d v s → StOk s → Calls Try.prog 38 #[.agg #[d, v], .agg #[.int .i64 K1, .int .i64 K2, .int .i64 K3, .slice a2 L1 c2, .string S]] W fun e w' => e = .returned (.int .i64 (checkM s ev)) ∧ Below W.heap.size W w'
  rapply : ∀ d v s J' s1 CE W, Below w.heap.size w W → StA J' W d v s → StOk s → applyM s ev = (s1, CE) → Calls Try.prog 33 #[.agg #[d, v], .agg #[.int .i64 K1, .int .i64 K2, .int .i64 K3, .slice a2 L1 c2, .string S]] W fun e w' => ∃ d2 v2, e = .returned (.tuple #[.agg #[d2, v2], .int .i64 CE]) ∧ StA allJ w' d2 v2 s1 ∧ Below W.heap.size W w'
  rcheck : ∀ d v s J' W, Below w.heap.size w W → StA J' W d v s → Calls Try.prog 50 #[.agg #[d, v], .agg #[.int .i64 K1, .int .i64 K2, .int .i64 K3, .slice a2 L1 c2, .string S]] W fun e w' => e = .returned (.int .i64 (checkM s ev)) ∧ Below W.heap.size W w'
  rel : EvL J w [.int .i64 K1, .int .i64 K2, .int .i64 K3, .slice a2 L1 c2, .string S] ev
  kind : K1 = ev.kind
  name : S.data.toList = ev.name
theorem evAt_of {J : Nat → Prop} {w : World} {ev : Ev} {a2 : Option Addr} {c2 : Nat} {S : ByteArray} (hr : Row w a2 c2 ev.data) (hS : S.data.toList = ev.name) (hS2 : S.size ≤ 9223372036854775807) (hrel : EvL J w [.int .i64 ev.kind, .int .i64 ev.off, .int .i64 ev.len, .slice a2 ev.data.length c2, .string S] ev) (b f : Nat)
    (hc : ∀ W, Below w.heap.size w W → W.cell? ⟨b, f, none⟩ = some (.int .i64 ev.kind) ∧ W.cell? ⟨b, f + 1, none⟩ = some (.int .i64 ev.off) ∧ W.cell? ⟨b, f + 2, none⟩ = some (.int .i64 ev.len) ∧ W.cell? ⟨b, f + 3, none⟩ = some (.slice a2 ev.data.length c2) ∧ W.cell? ⟨b, f + 4, none⟩ = some (.string S)) :
    EvAt J w ev b f ev.kind ev.off ev.len a2 ev.data.length c2 S := by
  have hevn : (⟨ev.kind, ev.off, ev.len, ev.data, S.data.toList⟩ : Ev) = ev := by rw [hS]
  refine ⟨hc, ?_, ?_, ?_, ?_, hrel, rfl, hS⟩
  · intro d v s J' s1 CE W hb hst hok hap
    have h := papply14_any d v s ev.kind ev.off ev.len a2 ev.data.length c2 ev.data S J' W hst hok (hr.later hb) rfl hS2
    unfold PApplyIs at h
    rw [hevn, hap] at h
    exact h.mono fun e w' ⟨d2, v2, h1, h2, h3⟩ => ⟨d2, v2, h1, h2.weak fun b _ hj => hj.1, h3⟩
  · intro d v s J' W hb hst hok
    have h := pcheck14_any d v s ev.kind ev.off ev.len a2 ev.data.length c2 ev.data S J' W hst hok (hr.later hb) rfl hS2
    rw [hevn] at h
    exact h
  · intro d v s J' s1 CE W hb hst hok hap
    have h := rapply14_any d v s ev.kind ev.off ev.len a2 ev.data.length c2 ev.data S allJ W (allJ_new _) hst.all (hr.later hb) rfl hS2 (by have := hok.size; omega) (by have := hok.many; omega) (fun q hq => by have := hok.sizes q hq; omega)
    unfold ApplyIs at h
    rw [hevn, hap] at h
    exact h
  · intro d v s J' W hb hst
    have h := rcheck14_any d v s ev.off ev.len a2 ev.data.length c2 ev.data S J' W ev.kind hst (hr.later hb) rfl hS2
    rw [hevn] at h
    exact h
theorem QRow.evAt {J : Nat → Prop} {w : World} {a : Option Addr} {n cap : Nat} {l : List Ev} (h : QE J w (.slice a n cap) l) {j : Nat} {ev : Ev} (he : l[j]? = some ev) :
    ∃ b1 f1 K1 K2 K3 a2 L1 c2 S, a = some ⟨b1, f1, none⟩ ∧ EvAt J w ev b1 (f1 + j * 5) K1 K2 K3 a2 L1 c2 S := by
  obtain ⟨b, off, cs, ha, hl, ⟨v, S, rfl, h2, h3, h4⟩, hc⟩ := h.at he
  obtain ⟨a2, c2, rfl, hr⟩ := h4.row_n rfl
  refine ⟨b, off, _, _, _, a2, _, c2, S, ha, evAt_of hr h2 h3 ⟨_, S, rfl, h2, h3, h4⟩ b (off + j * 5) fun W hb => ?_⟩
  have p0 := hc 0 _ rfl
  rw [Nat.add_zero] at p0
  have p1 := hc 1 _ rfl
  have p2 := hc 2 _ rfl
  have p3 := hc 3 _ rfl
  have p4 := hc 4 _ rfl
  refine ⟨?_, ?_, ?_, ?_, ?_⟩
  · rw [hb.cell (World.block_lt_of_cell? _ _ p0)]; exact p0
  · rw [hb.cell (World.block_lt_of_cell? _ _ p1)]; exact p1
  · rw [hb.cell (World.block_lt_of_cell? _ _ p2)]; exact p2
  · rw [hb.cell (World.block_lt_of_cell? _ _ p3)]; exact p3
  · rw [hb.cell (World.block_lt_of_cell? _ _ p4)]; exact p4
theorem EvAt.later {J : Nat → Prop} {w w' : World} {ev : Ev} {b f : Nat} {K1 K2 K3 : Int} {a2 : Option Addr} {L1 c2 : Nat} {S : ByteArray} (h : EvAt J w ev b f K1 K2 K3 a2 L1 c2 S) (hb : Below w.heap.size w w') : EvAt J w' ev b f K1 K2 K3 a2 L1 c2 S := by
  have k : ∀ W, Below w'.heap.size w' W → Below w.heap.size w W := fun W hW => hb.trans (hW.mono hb.size)
  exact ⟨fun W hW => h.cells W (k W hW), fun d v s J' s1 CE W hW => h.papply d v s J' s1 CE W (k W hW), fun d v s J' W hW => h.pcheck d v s J' W (k W hW), fun d v s J' s1 CE W hW => h.rapply d v s J' s1 CE W (k W hW), fun d v s J' W hW => h.rcheck d v s J' W (k W hW), ev_rel.later h.rel hb, h.kind, h.name⟩
/-! ### what a row of events comes to -/
theorem applyM_ok {s s1 : Sx} {ev : Ev} (h : applyM s ev = (s1, 0)) : checkM s ev = 0 ∧ s1 = stepM s ev := by
  by_cases c : checkM s ev = 0
  · rw [applyM_yes c] at h; exact ⟨c, by rw [stepM_yes c]; exact (Prod.mk.inj h).1.symm⟩
  · rw [applyM_no c] at h; exact absurd (Prod.mk.inj h).2 c
theorem applyM_err {s s1 : Sx} {ev : Ev} {CE : Int} (h : applyM s ev = (s1, CE)) (hne : CE ≠ 0) : checkM s ev = CE ∧ s1 = noSx ∧ stepM s ev = s := by
  by_cases c : checkM s ev = 0
  · rw [applyM_yes c] at h; exact absurd (Prod.mk.inj h).2.symm hne
  · rw [applyM_no c] at h; exact ⟨(Prod.mk.inj h).2, (Prod.mk.inj h).1.symm, stepM_no c⟩
theorem takenM_snoc : ∀ (s : Sx) (l : List Ev) (e : Ev), takenM s (l ++ [e]) = takenM s l ++ (if checkM (foldM s l) e = 0 then [e] else [])
  | s, [], e => by
    rw [List.nil_append, foldM_nil]
    unfold takenM
    split <;> rfl
  | s, x :: l, e => by
    rw [List.cons_append, foldM_cons]
    unfold takenM
    split
    · rename_i c
      rw [stepM_yes c, takenM_snoc (doneM s x) l e]; rfl
    · rename_i c
      rw [stepM_no c, takenM_snoc s l e]
theorem takenM_len (s : Sx) (l : List Ev) : (takenM s l).length ≤ l.length := by
  induction l generalizing s with
  | nil => exact Nat.le_refl _
  | cons e l ih =>
    unfold takenM
    split
    · simp only [List.length_cons]; have := ih (doneM s e); omega
    · simp only [List.length_cons]; have := ih s; omega
theorem calls_st {J : Nat → Prop} {P : Program} {f : FuncId} {args : Array Value} {w : World} {s : Sx} (h : Calls P f args w (FoldIs J w s)) : Calls P f args w fun e w' => ∃ x, e = .returned x ∧ (∃ d v, x = .agg #[d, v] ∧ StA allJ w' d v s) ∧ Below w.heap.size w w' :=
  h.mono fun e w' ⟨d, v, h1, h2, h3⟩ => ⟨_, h1, ⟨d, v, rfl, h2.all⟩, h3⟩
theorem applyM_check {s s1 : Sx} {ev : Ev} {CE : Int} (h : applyM s ev = (s1, CE)) : checkM s ev = CE := by
  by_cases c : checkM s ev = 0
  · rw [applyM_yes c] at h; rw [c]; exact (Prod.mk.inj h).2
  · rw [applyM_no c] at h; exact (Prod.mk.inj h).2
theorem StOk.no : StOk noSx := ⟨by decide, by decide, fun o h => by simp [noSx] at h, fun o h => by simp [noSx] at h, fun i j a b _ h => by simp [noSx] at h⟩
theorem applyM_ok1 {s s1 : Sx} {ev : Ev} {CE : Int} (hs : StOk s) (h : applyM s ev = (s1, CE)) : StOk s1 := by
  by_cases c : checkM s ev = 0
  · rw [applyM_yes c] at h; rw [← (Prod.mk.inj h).1]; exact doneM_ok hs c
  · rw [applyM_no c] at h; rw [← (Prod.mk.inj h).1]; exact StOk.no
/-- A row of one event, in the block just laid. -/
def erV (ev : Ev) : SV := ⟨fun w x => ∃ g, x = .slice (some ⟨g, 0, none⟩) 1 1 ∧ QE allJ w x [ev], fun w w' x ⟨g, h1, h2⟩ hb => ⟨g, h1, h2.later ev_rel hb⟩⟩
theorem qe_one {J : Nat → Prop} {w : World} {cs : Array Value} {ev : Ev} (h : EvL J w cs.toList ev) : QE allJ (w.alloc (.cells cs 46)) (.slice (some ⟨w.heap.size, 0, none⟩) 1 1) [ev] := by
  have hb : Below w.heap.size w (w.alloc (.cells cs 46)) := (Below.refl _ _).alloc (Nat.le_refl _) _
  have h2 := ev_rel.later h hb
  have hl : cs.toList.length = 5 ∧ ∀ u ∈ cs.toList, u.oneCell' = true := by
    obtain ⟨v, S, e, _, _, q⟩ := h
    obtain ⟨a, c, rfl, _⟩ := q.row_n rfl
    rw [e]
    refine ⟨rfl, fun u hu => ?_⟩
    simp only [List.mem_cons, List.not_mem_nil, or_false] at hu
    rcases hu with rfl | rfl | rfl | rfl | rfl <;> rfl
  exact ⟨[(⟨cs.toList, hl.1, hl.2⟩ : Raw 5)], some ⟨w.heap.size, 0, none⟩, 1, rfl, grow_of_rec evT_ok (RecAt.new w cs _) trivial rfl, fun _ x hx => by cases hx; exact ⟨by simp, trivial⟩, Both.one (ev_rel.weak h2 fun _ _ _ => trivial)⟩
/-- A state stays over an append to a row that it doesn't lean on. -/
theorem SAt.grown {w w' : World} {cs : Array Value} {T : TypeId} {v v' : Value} {P : Nat} {s : Sx} (h : SAt (lessJ allJ v) w P s) (hP : v.ownBlock ≠ some P) (hg : (w.alloc (.cells cs T)).grownBy w' v.ownBlock) (hat : v'.ownBlock = v.ownBlock ∨ v'.ownBlock = some (w.heap.size + 1)) : SAt (lessJ allJ v') w' P s := by
  have hb : Below w.heap.size w (w.alloc (.cells cs T)) := (Below.refl _ _).alloc (Nat.le_refl _) _
  have hs : (w.alloc (.cells cs T)).heap.size = w.heap.size + 1 := by simp
  obtain ⟨a1, n1, c1, a2, n2, c2, h1, h2⟩ := h
  refine ⟨a1, n1, c1, a2, n2, c2, (h1.later hb).grown hg (fun e => hP e.symm), ?_⟩
  have h3 : StA (fun b => lessJ allJ v b ∧ b < w.heap.size) (w.alloc (.cells cs T)) (.slice a1 n1 c1) (.slice a2 n2 c2) s := (h2.weak fun b hb2 hj => ⟨hj, hb2⟩).later hb
  refine (h3.keep (fun b hb2 hj => hg.block b hb2 (fun e => hj.1.2 e)) hg.size).weak fun b _ hj => ⟨trivial, fun e => ?_⟩
  rcases hat with q | q
  · rw [q] at e; exact hj.1.2 e
  · rw [q] at e; cases e; omega
end Go.Proofs.Ytbpddcmehjgleaa
