/- Rows of records whose cells lead on into memory: rows of raw cells, each read as a thing. -/
import Derived.Test.YtbpddcmehjgleaaGRow
namespace Go.Proofs.Ytbpddcmehjgleaa
open Go.RowKit
set_option linter.unusedVariables false
set_option linter.unusedSimpArgs false
set_option linter.unnecessarySimpa false

/-- A record's cells. -/
def Raw (sz : Nat) : Type := {cs : List Value // cs.length = sz ∧ ∀ u ∈ cs, u.oneCell' = true}
abbrev rawT (sz : Nat) (E S : TypeId) : RT (Raw sz) := ⟨Subtype.val, sz, fun _ => True, E, S⟩
theorem rawT_ok {sz : Nat} {E S : TypeId} (pos : 0 < sz) (und : Try.prog.underlying S = some (.slice E)) {z : Value} {bytes : Nat}
    (h : (Try.prog.info? E).map (fun i => (i.zero, i.size, i.bytes)) = some (some z, sz, bytes)) (hb : bytes ≤ 1024) (hz : z.cells.size = sz) : (rawT sz E S).Ok :=
  RT.Ok.of (fun t => t.2.1) (fun t => t.2.2) pos und h rfl hb hz
/-- Two lists side by side. -/
def Both {α β : Type} (p : α → β → Prop) (xs : List α) (ys : List β) : Prop := xs.length = ys.length ∧ ∀ (i : Nat) a b, xs[i]? = some a → ys[i]? = some b → p a b
section
variable {α β : Type} {p : α → β → Prop}
theorem Both.nil : Both p [] [] := ⟨rfl, fun i a b h => by simp at h⟩
theorem Both.mono {q : α → β → Prop} {xs : List α} {ys : List β} (h : Both p xs ys) (hm : ∀ a b, p a b → q a b) : Both q xs ys := ⟨h.1, fun i a b ha hb => hm a b (h.2 i a b ha hb)⟩
theorem Both.append {xs zs : List α} {ys us : List β} (h : Both p xs ys) (k : Both p zs us) : Both p (xs ++ zs) (ys ++ us) := by
  refine ⟨by simp [h.1, k.1], fun i a b ha hb => ?_⟩
  by_cases hi : i < xs.length
  · rw [List.getElem?_append_left hi] at ha
    rw [List.getElem?_append_left (by have := h.1; omega)] at hb
    exact h.2 i a b ha hb
  · rw [List.getElem?_append_right (by omega)] at ha
    rw [List.getElem?_append_right (by have := h.1; omega), ← h.1] at hb
    exact k.2 _ a b ha hb
theorem Both.one {a : α} {b : β} (h : p a b) : Both p [a] [b] := ⟨rfl, fun i x y hx hy => by
  match i, hx, hy with
  | 0, hx, hy => simp at hx hy; subst hx; subst hy; exact h⟩
theorem Both.take {xs : List α} {ys : List β} (h : Both p xs ys) (k : Nat) : Both p (xs.take k) (ys.take k) := by
  refine ⟨by simp [h.1], fun i a b ha hb => ?_⟩
  rw [List.getElem?_take] at ha hb
  split at ha
  · rw [if_pos (by assumption)] at hb; exact h.2 i a b ha hb
  · cases ha
theorem Both.drop {xs : List α} {ys : List β} (h : Both p xs ys) (k : Nat) : Both p (xs.drop k) (ys.drop k) := by
  refine ⟨by simp [h.1], fun i a b ha hb => ?_⟩
  rw [List.getElem?_drop] at ha hb
  exact h.2 _ a b ha hb
theorem Both.set {xs : List α} {ys : List β} (h : Both p xs ys) {i : Nat} {a : α} {b : β} (hp : p a b) : Both p (xs.set i a) (ys.set i b) := by
  refine ⟨by simp [h.1], fun j x y hx hy => ?_⟩
  rw [List.getElem?_set] at hx hy
  by_cases e : i = j
  · rw [if_pos e] at hx hy
    split at hx
    · split at hy
      · cases hx; cases hy; exact hp
      · cases hy
    · cases hx
  · rw [if_neg e] at hx hy
    exact h.2 j x y hx hy
theorem Both.at {xs : List α} {ys : List β} (h : Both p xs ys) {i : Nat} {b : β} (hb : ys[i]? = some b) : ∃ a, xs[i]? = some a ∧ p a b := by
  have hi := (List.getElem?_eq_some_iff.1 hb).1
  have ha : xs[i]? = some (xs[i]'(by have := h.1; omega)) := List.getElem?_eq_getElem _
  exact ⟨_, ha, h.2 i _ b ha hb⟩
end
/-- What a record's cells are read as, in a world; J: the blocks that it leans on lie in it. -/
abbrev Rel (α : Type) := (Nat → Prop) → World → List Value → α → Prop
structure RelOk {α : Type} (E : Rel α) : Prop where
  keep : ∀ {J w w' cs t}, E J w cs t → (∀ b, b < w.heap.size → J b → w'.heap[b]? = w.heap[b]?) → w.heap.size ≤ w'.heap.size → E J w' cs t
  weak : ∀ {J J' : Nat → Prop} {w cs t}, E J w cs t → (∀ b, b < w.heap.size → J b → J' b) → E J' w cs t
theorem RelOk.later {α : Type} {E : Rel α} (hE : RelOk E) {J : Nat → Prop} {w w' : World} {cs : List Value} {t : α} (h : E J w cs t) (hb : Below w.heap.size w w') : E J w' cs t := hE.keep h (fun b hb2 _ => hb.block b hb2) hb.size
/-- Where a slice lies: in a block that is there, of those that stay. -/
def InJ (J : Nat → Prop) (w : World) (a : Option Addr) : Prop := ∀ x, a = some x → x.block < w.heap.size ∧ J x.block
theorem InJ.later {J : Nat → Prop} {w w' : World} {a : Option Addr} (h : InJ J w a) (hb : w.heap.size ≤ w'.heap.size) : InJ J w' a := fun x hx => ⟨Nat.lt_of_lt_of_le (h x hx).1 hb, (h x hx).2⟩
theorem InJ.none (J : Nat → Prop) (w : World) : InJ J w .none := fun x hx => by cases hx
theorem InJ.weak {J J' : Nat → Prop} {w : World} {a : Option Addr} (h : InJ J w a) (hj : ∀ b, b < w.heap.size → J b → J' b) : InJ J' w a := fun x hx => ⟨(h x hx).1, hj _ (h x hx).1 (h x hx).2⟩
/-- All blocks from here on stay. -/
def NewJ (J : Nat → Prop) (w : World) : Prop := ∀ b, w.heap.size ≤ b → J b
theorem NewJ.later {J : Nat → Prop} {w w' : World} (h : NewJ J w) (hb : w.heap.size ≤ w'.heap.size) : NewJ J w' := fun b hb2 => h b (Nat.le_trans hb hb2)
theorem GRow.same {α : Type} {R : RT α} {w w' : World} {a : Option Addr} {cap : Nat} {ts : List α} (h : GRow R w a cap ts) (hb : ∀ x, a = some x → w'.heap[x.block]? = w.heap[x.block]?) : GRow R w' a cap ts := by
  refine ⟨h.1, h.2.1, h.2.2.1, h.2.2.2.1, fun x hx i e he => ?_⟩
  obtain ⟨hs, c⟩ := h.2.2.2.2 x hx i e he
  refine ⟨hs, fun k v hv => ?_⟩
  rw [← c k v hv]
  exact World.cell?_of_block (hb x hx)
/-! ### bytes in blocks that stay -/
/-- A slice's bytes. -/
def BJ (J : Nat → Prop) (w : World) (v : Value) (l : List UInt8) : Prop := ∃ a cap, v = .slice a l.length cap ∧ Row w a cap l ∧ InJ J w a
theorem BJ.keep {J : Nat → Prop} {w w' : World} {v : Value} {l : List UInt8} (h : BJ J w v l) (hb : ∀ b, b < w.heap.size → J b → w'.heap[b]? = w.heap[b]?) (hs : w.heap.size ≤ w'.heap.size) : BJ J w' v l := by
  obtain ⟨a, cap, hv, hr, hj⟩ := h
  refine ⟨a, cap, hv, ⟨hr.1, hr.2.1, hr.2.2.1, fun x hx i u hu => ?_⟩, hj.later hs⟩
  rw [← hr.2.2.2 x hx i u hu]
  have e : (x.add i).block = x.block := by unfold Addr.add; split <;> rfl
  exact World.cell?_of_block (by rw [e]; exact hb _ (hj x hx).1 (hj x hx).2)
theorem BJ.weak {J J' : Nat → Prop} {w : World} {v : Value} {l : List UInt8} (h : BJ J w v l) (hj : ∀ b, b < w.heap.size → J b → J' b) : BJ J' w v l := by
  obtain ⟨a, cap, hv, hr, hi⟩ := h
  exact ⟨a, cap, hv, hr, hi.weak hj⟩
theorem BJ.later {J : Nat → Prop} {w w' : World} {v : Value} {l : List UInt8} (h : BJ J w v l) (hb : Below w.heap.size w w') : BJ J w' v l := h.keep (fun b hb2 _ => hb.block b hb2) hb.size
theorem BJ.nil (J : Nat → Prop) (w : World) : BJ J w (.slice none 0 0) [] := ⟨none, 0, rfl, Row.none w, InJ.none J w⟩
theorem BJ.own {J : Nat → Prop} {W0 w : World} {v : Value} {l : List UInt8} (h : Own W0 w v l) (hJ : NewJ J W0) : BJ J w v l := by
  obtain ⟨a, cap, hv, hr⟩ := h.row
  refine ⟨a, cap, hv, hr, fun x hx => ?_⟩
  have := World.ownsRow.lt h.1 x.block (by rw [hv, hx]; rfl)
  exact ⟨this.2, hJ _ this.1⟩
theorem BJ.row_n {J : Nat → Prop} {w : World} {v : Value} {l : List UInt8} {n : Nat} (h : BJ J w v l) (hn : l.length = n) : ∃ a cap, v = .slice a n cap ∧ Row w a cap l := by
  obtain ⟨a, cap, hv, hr, _⟩ := h; subst hn; exact ⟨a, cap, hv, hr⟩
variable {α : Type} {sz : Nat} {tE tS : TypeId} {E : Rel α} {J : Nat → Prop}
/-! ### rows -/
def NRow (J : Nat → Prop) (sz : Nat) (tE tS : TypeId) (E : Rel α) (w : World) (v : Value) (ts : List α) : Prop := ∃ (css : List (Raw sz)) (a : Option Addr) (cap : Nat), v = .slice a ts.length cap ∧ GRow (rawT sz tE tS) w a cap css ∧ InJ J w a ∧ Both (fun c t => E J w c.1 t) css ts
theorem NRow.keep (hE : RelOk E) {w w' : World} {v : Value} {ts : List α} (h : NRow J sz tE tS E w v ts) (hb : ∀ b, b < w.heap.size → J b → w'.heap[b]? = w.heap[b]?) (hs : w.heap.size ≤ w'.heap.size) : NRow J sz tE tS E w' v ts := by
  obtain ⟨css, a, cap, hv, h1, h3, h2⟩ := h
  exact ⟨css, a, cap, hv, h1.same fun x hx => hb _ (h3 x hx).1 (h3 x hx).2, h3.later hs, h2.mono fun c t h => hE.keep h hb hs⟩
theorem NRow.later (hE : RelOk E) {w w' : World} {v : Value} {ts : List α} (h : NRow J sz tE tS E w v ts) (hb : Below w.heap.size w w') : NRow J sz tE tS E w' v ts := h.keep hE (fun b hb2 _ => hb.block b hb2) hb.size
theorem NRow.weak (hE : RelOk E) {J' : Nat → Prop} {w : World} {v : Value} {ts : List α} (h : NRow J sz tE tS E w v ts) (hj : ∀ b, b < w.heap.size → J b → J' b) : NRow J' sz tE tS E w v ts := by
  obtain ⟨css, a, cap, hv, h1, h3, h2⟩ := h
  exact ⟨css, a, cap, hv, h1, h3.weak hj, h2.mono fun c t h => hE.weak h hj⟩
theorem NRow.nil (J : Nat → Prop) (w : World) : NRow J sz tE tS E w (.slice none 0 0) [] := ⟨[], none, 0, rfl, GRow.nil _ w, InJ.none J w, Both.nil⟩
theorem NRow.val {w : World} {v : Value} {ts : List α} {n : Nat} (h : NRow J sz tE tS E w v ts) (hn : ts.length = n) : ∃ a cap, v = .slice a n cap ∧ n ≤ cap ∧ cap ≤ maxLen ∧ (a = none → cap = 0) := by
  obtain ⟨css, a, cap, hv, h1, h3, h2⟩ := h
  subst hn
  exact ⟨a, cap, hv, by rw [← h2.1]; exact h1.1, h1.2.1, h1.2.2.1⟩
theorem NRow.at {w : World} {a : Option Addr} {n cap : Nat} {ts : List α} (h : NRow J sz tE tS E w (.slice a n cap) ts) {i : Nat} {t : α} (ht : ts[i]? = some t) :
    ∃ (b off : Nat) (cs : List Value), a = some ⟨b, off, .none⟩ ∧ cs.length = sz ∧ E J w cs t ∧ ∀ (k : Nat) v, cs[k]? = some v → w.cell? ⟨b, off + i * sz + k, .none⟩ = some v := by
  obtain ⟨css, a', cap', hv, h1, _, h2⟩ := h
  cases hv
  obtain ⟨c, hc, he⟩ := h2.at ht
  obtain ⟨b, off, ha, hq⟩ := h1.at hc
  exact ⟨b, off, c.1, ha, c.2.1, he, hq⟩
/-! ### rows of one's own -/
/-- J less one's own row. -/
def lessJ (J : Nat → Prop) (v : Value) : Nat → Prop := fun b => J b ∧ some b ≠ v.ownBlock
def NOwn (J : Nat → Prop) (sz : Nat) (tE tS : TypeId) (E : Rel α) (W0 w : World) (v : Value) (ts : List α) : Prop := ∃ css : List (Raw sz), GOwn (rawT sz tE tS) W0 w v css ∧ Both (fun c t => E (lessJ J v) w c.1 t) css ts
theorem NOwn.row (hR : (rawT sz tE tS).Ok) (hE : RelOk E) {W0 w : World} {v : Value} {ts : List α} (h : NOwn J sz tE tS E W0 w v ts) (hJ : NewJ J W0) : NRow J sz tE tS E w v ts := by
  obtain ⟨css, h1, h2⟩ := h
  obtain ⟨a, cap, hv, hr⟩ := h1.row_n hR rfl
  refine ⟨css, a, cap, by rw [hv, h2.1], hr, fun x hx => ?_, h2.mono fun c t h => hE.weak h fun b _ hb => hb.1⟩
  have := World.ownsRow.lt h1.1 x.block (by rw [hv, hx]; rfl)
  exact ⟨this.2, hJ _ this.1⟩
theorem NOwn.below {W0 w : World} {v : Value} {ts : List α} (h : NOwn J sz tE tS E W0 w v ts) : Below W0.heap.size W0 w := by
  obtain ⟨css, h1, h2⟩ := h; exact h1.below
theorem NOwn.later (hE : RelOk E) {W0 w w' : World} {v : Value} {ts : List α} (h : NOwn J sz tE tS E W0 w v ts) (hb : Below w.heap.size w w') : NOwn J sz tE tS E W0 w' v ts := by
  obtain ⟨css, h1, h2⟩ := h
  exact ⟨css, h1.later hb, h2.mono fun c t h => hE.later h hb⟩
theorem NOwn.back {W0 W1 w : World} {v : Value} {ts : List α} (h : NOwn J sz tE tS E W1 w v ts) (hb : Below W0.heap.size W0 W1) : NOwn J sz tE tS E W0 w v ts := by
  obtain ⟨css, h1, h2⟩ := h
  exact ⟨css, h1.back hb, h2⟩
theorem NOwn.nil' {W0 w : World} (h : Below W0.heap.size W0 w) : NOwn J sz tE tS E W0 w (.slice .none 0 0) [] := ⟨[], GOwn.nil' h, Both.nil⟩
theorem NOwn.val (hR : (rawT sz tE tS).Ok) {W0 w : World} {v : Value} {ts : List α} {n : Nat} (h : NOwn J sz tE tS E W0 w v ts) (hn : ts.length = n) : ∃ a cap, v = .slice a n cap := by
  obtain ⟨css, h1, h2⟩ := h
  obtain ⟨a, cap, hv, _⟩ := h1.row_n (n := n) hR (h2.1.trans hn)
  exact ⟨a, cap, hv⟩
/-- What a row's elements lean on stays while the row grows. -/
theorem lean_grown (hE : RelOk E) {w0 w' : World} {v v' : Value} {k : Nat} {cs : List Value} {t : α} (h : E (lessJ J v) w0 cs t) (hg : w0.grownBy w' v.ownBlock) (hat : v'.ownBlock = v.ownBlock ∨ v'.ownBlock = some k) (hk : w0.heap.size ≤ k) : E (lessJ J v') w' cs t := by
  have h1 : E (fun b => lessJ J v b ∧ some b ≠ v'.ownBlock) w0 cs t := hE.weak h fun b hb hj => ⟨hj, fun e => by
    rcases hat with h | h
    · exact hj.2 (e.trans h)
    · rw [h] at e; cases e; omega⟩
  exact hE.weak (hE.keep h1 (fun b hb hj => hg.block b hb hj.1.2) hg.size) fun b _ hj => ⟨hj.1.1, hj.2⟩
section
variable {ops : Array Oper} {rest : List Oper} {o : Oper} {a : Act} {Q : Exit → Act → World → Prop}
/-- 'append(s, t)' of one record, that lies in the block that the statement has just laid. -/
theorem wp_non1 (hR : (rawT sz tE tS).Ok) (hE : RelOk E) {w0 : World} (hgd : o.guard = none) (s x : Operand) {cs : Array Value} (ho : o.op = .call { callee := .builtin .append, args := #[s, x], argTypes := #[tS, tS] })
    (v : Value) (ts : List α) (hs : a.eval s = v) (W0 : World) (hown : NOwn J sz tE tS E W0 w0 v ts) (t : α) (ht : E (lessJ J v) w0 cs.toList t) (hl : cs.toList.length = sz) (h1 : ∀ u ∈ cs.toList, u.oneCell' = true) (hx : a.eval x = .slice (some ⟨w0.heap.size, 0, none⟩) 1 1) (hlen : ts.length + 1 ≤ 1000000)
    (h : ∀ v' w', NOwn J sz tE tS E W0 w' v' (ts ++ [t]) → wpList Try.prog ops Q rest (a.put o.dst v') w') :
    wpList Try.prog ops Q (o :: rest) a (w0.alloc (.cells cs tE)) := by
  obtain ⟨css, g1, g2⟩ := hown
  refine wp_gone hR hgd s x ho rfl v css hs W0 g1 (⟨cs.toList, hl, h1⟩ : Raw sz) trivial rfl hx (by rw [g2.1]; exact hlen) fun v' w' o2 gr hat => h v' w' ⟨_, o2, ?_⟩
  have hba : Below w0.heap.size w0 (w0.alloc (.cells cs tE)) := (Below.refl _ _).alloc (Nat.le_refl _) _
  have key : ∀ c u, E (lessJ J v) w0 c u → E (lessJ J v') w' c u := fun c u hc => lean_grown hE (hE.later hc hba) gr hat (by simp)
  exact (g2.mono fun c u hc => key _ _ hc).append (Both.one (key _ _ ht))
end
/-- 'append(s, t)' of one record, as an operation that a region's walk stands at. -/
theorem step_non {α : Type} {sz : Nat} {tE tS : TypeId} {E : Rel α} {J : Nat → Prop} {ops : Array Oper} {o : Oper} {a : Act} {Q : Exit → Act → World → Prop} (hR : (rawT sz tE tS).Ok) (hE : RelOk E) {w0 : World} {K : Act → World → Prop} {EE : Prop} (hgd : o.guard = none) (s x : Operand) {S : TypeId} {cs : Array Value} (ho : o.op = .call { callee := .builtin .append, args := #[s, x], argTypes := #[S, S] }) (hS : S = tS)
    (v : Value) (ts : List α) (hs : a.eval s = v) (W0 : World) (hown : NOwn J sz tE tS E W0 w0 v ts) (t : α) (ht : E (lessJ J v) w0 cs.toList t) (hl : cs.toList.length = sz) (h1 : ∀ u ∈ cs.toList, u.oneCell' = true) (hx : a.eval x = .slice (some ⟨w0.heap.size, 0, none⟩) 1 1) (hlen : ts.length + 1 ≤ 1000000)
    (hK : ∀ v' w', NOwn J sz tE tS E W0 w' v' (ts ++ [t]) → (w0.alloc (.cells cs tE)).grownBy w' v.ownBlock → K (a.put o.dst v') w') :
    if Region.wanted o (yielded ops a.tmps) = true then Oper.wp Try.prog o a (w0.alloc (.cells cs tE)) K Q else EE := by
  obtain ⟨css, g1, g2⟩ := hown
  have hba : Below w0.heap.size w0 (w0.alloc (.cells cs tE)) := (Below.refl _ _).alloc (Nat.le_refl _) _
  refine step_gapp hR hgd s x ho hS v css hs W0 (g1.later hba) _ 1 1 [(⟨cs.toList, hl, h1⟩ : Raw sz)] (grow_new hR w0 trivial rfl tE) rfl hx (by rw [g2.1]; exact hlen) fun v' w' o2 gr hat => hK v' w' ⟨_, o2, ?_⟩ gr
  have key : ∀ c u, E (lessJ J v) w0 c u → E (lessJ J v') w' c u := fun c u hc => lean_grown hE (hE.later hc hba) gr hat (Nat.le_refl _)
  exact (g2.mono fun c u hc => key _ _ hc).append (Both.one (key _ _ ht))
end Go.Proofs.Ytbpddcmehjgleaa
