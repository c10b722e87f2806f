/- Rows of the caller's own beside a store: they grow, the store stays. -/
import Derived.Test.YtgjdabneodkmpaaStX
namespace Go.Proofs.Ytgjdabneodkmpaa
open Go.RowKit
set_option linter.unusedVariables false

def WRow (w : World) (r : Nat → Role) (ty : TypeId) (size : Nat) (v : Value) (n : Nat) (xs : List Value) : Prop := w.ownsRow 0 ty size v n xs ∧ ∀ g, v.ownBlock = some g → r g = .own
theorem WRow.nil (w : World) (r : Nat → Role) (ty : TypeId) (size : Nat) : WRow w r ty size (.slice none 0 0) 0 [] := ⟨World.ownsRow_nil w 0 ty size, fun g hg => nomatch hg⟩
theorem WRow.keep {w w' : World} {r r' : Nat → Role} {ty : TypeId} {size n : Nat} {v : Value} {xs : List Value} (h : WRow w r ty size v n xs) (hb : ∀ g, v.ownBlock = some g → g < w.heap.size → w'.heap[g]? = w.heap[g]?) (hr : ∀ g, v.ownBlock = some g → g < w.heap.size → r' g = .own) : WRow w' r' ty size v n xs := by
  have hlt := fun k hk => (World.ownsRow.lt h.1 k hk).2
  refine ⟨⟨h.1.1, ?_⟩, fun g hg => hr g hg (hlt g hg)⟩
  rcases h.1.2 with hv | ⟨g, cap, cur, hv, hb2, hg, rest⟩
  · exact .inl hv
  · exact .inr ⟨g, cap, cur, hv, hb2, by rw [hb g (by rw [hv]; rfl) (Array.getElem?_eq_some_iff.1 hg).1]; exact hg, rest⟩
theorem WRow.jk {w w' : World} {r r' : Nat → Role} {ty : TypeId} {size n : Nat} {v : Value} {xs : List Value} (h : WRow w r ty size v n xs) (hf : Jk w w' r r') : WRow w' r' ty size v n xs :=
  h.keep (fun g hg hlt => hf.block g hlt (.inr (h.2 g hg))) fun g hg hlt => by rw [hf.role g hlt (.inr (h.2 g hg))]; exact h.2 g hg
theorem Sto.frR {w w' : World} {b : Nat} {g : Gh} {S : St} (h : Sto w b g S) {r' : Nat → Role} {Z : Role → Prop} (hf : Fr w w' g.r r' Z) (hz : ∀ t, t ≠ .own → ¬ Z t) (hd : Dom w' r') : Sto w' b ⟨r', g.sv, g.wv, g.pm, g.pw⟩ S where
  role := by show r' b = .st; rw [hf.role b h.lt]; exact h.role
  heap := by rw [hf.block b h.lt (by rw [h.role]; exact hz _ (by simp))]; exact h.heap
  sm := h.sm.keep fun x hx hlt => hf.block x hlt (by rw [h.sr x hx]; exact hz _ (by simp))
  sr := fun x hx => by
    have hx2 : x < w.heap.size := by have hsm := h.sm; rw [show g.sv = .map (some x) from hx] at hsm; exact hsm.lt
    show r' x = .seen
    rw [hf.role x hx2]; exact h.sr x hx
  wm := h.wm.keep fun x hx hlt => hf.block x hlt (by rw [h.wr x hx]; exact hz _ (by simp))
  wr := fun x hx => by
    have hx2 : x < w.heap.size := by have hsm := h.wm; rw [show g.wv = .map (some x) from hx] at hsm; exact hsm.lt
    show r' x = .wet
    rw [hf.role x hx2]; exact h.wr x hx
  seen := fun k hk => (h.seen k hk).fr hf (by rintro t (rfl | rfl | rfl) <;> exact hz _ (by simp)) (hz _ (by simp))
  wet := fun k hk => (h.wet k hk).fr hf (by rintro t (rfl | rfl | rfl | rfl | rfl) <;> exact hz _ (by simp)) (hz _ (by simp))
  dom := hd
/-- All new blocks are the caller's own. -/
def ownNew (r : Nat → Role) (w w' : World) : Nat → Role := fun x => if w.heap.size ≤ x ∧ x < w'.heap.size then .own else r x
theorem ownNew_old {r : Nat → Role} {w w' : World} {x : Nat} (h : x < w.heap.size) : ownNew r w w' x = r x := by simp [ownNew]; omega
theorem ownNew_new {r : Nat → Role} {w w' : World} {x : Nat} (h : w.heap.size ≤ x) (h2 : x < w'.heap.size) : ownNew r w w' x = .own := by simp [ownNew, h, h2]
def Gh.withR (g : Gh) (r : Nat → Role) : Gh := ⟨r, g.sv, g.wv, g.pm, g.pw⟩
theorem NSto.grown {w0 w w' : World} {b : Nat} {g : Gh} {S : St} (h : NSto w0 w b g S) {vb : Option Nat} (hg : w.grownBy w' vb) (hv : ∀ x, vb = some x → g.r x = .own) :
    NSto w0 w' b (g.withR (ownNew g.r w w')) S ∧ Fr w w' g.r (ownNew g.r w w') (fun t => t = .own) := by
  have hf0 : Fr w w' g.r g.r (fun t => t = .own) := Fr.of_grown hg hv
  have hf : Fr w w' g.r (ownNew g.r w w') (fun t => t = .own) := hf0.newrole fun x hx => ownNew_old hx
  refine ⟨⟨h.sto.frR hf (fun t ht => ht) (fun y hy => ?_), ?_, fun x hx => ?_⟩, hf⟩
  · have : ¬ y < w'.heap.size := by omega
    simp only [ownNew, this, and_false, if_false]
    exact h.sto.dom y (Nat.le_trans hf.size hy)
  · obtain ⟨b1, b2, b3, b4, b5⟩ := h.below
    refine ⟨hf.os.trans b1, hf.tape.trans b2, hf.output.trans b3, Nat.le_trans b4 hf.size, fun k hk => ?_⟩
    exact (hf.block k (by omega) (by rw [h.junk k hk]; simp)).trans (b5 k hk)
  · show ownNew g.r w w' x = .junk
    rw [ownNew_old (Nat.lt_of_lt_of_le hx h.below.size)]; exact h.junk x hx

section
variable {ops : Array Oper} {rest : List Oper} {o : Oper} {a : Act} {Q : Exit → Act → World → Prop}
/-- 'append(s, b...)' of bytes, s the caller's own. -/
theorem wp_wrow {w : World} (hgd : o.guard = none) (s x : Operand) (ho : o.op = .call { callee := .builtin .append, args := #[s, x], argTypes := #[31, 31] })
    (v : Value) (l : List UInt8) (hs : a.eval s = v) {w0 : World} {b : Nat} {g : Gh} {S : St} (h : NSto w0 w b g S) (hw : WRow w g.r 5 1 v l.length (l.map B8)) (ad : Option Addr) (cap n : Nat) (l2 : List UInt8) (hr : Row w ad cap l2) (hn : l2.length = n) (hx : a.eval x = .slice ad n cap) (hlen : l.length + l2.length ≤ 100000000)
    (hk : ∀ v' w' r', NSto w0 w' b (g.withR r') S → WRow w' r' 5 1 v' (l ++ l2).length ((l ++ l2).map B8) → Fr w w' g.r r' (fun t => t = .own) → wpList Try.prog ops Q rest (a.put o.dst v') w') : wpList Try.prog ops Q (o :: rest) a w := by
  subst hn
  obtain ⟨i0, hi, hz0, hz1, hz2⟩ := info_parts info_u8
  cases ad with
  | none =>
    obtain ⟨rfl, rfl⟩ := hr.of_nil
    refine wpList_append_own_none hgd s x 31 ho 0 5 i0 1 Try.underlying31 hi v _ _ hs hw.1 hx ?_
    exact hk v w g.r h (by simpa using hw) (Fr.refl _ _ _)
  | some y =>
    refine wpList_append_own_at w hgd s x 31 ho 0 5 i0 (.int .u8 0) 1 1 Try.underlying31 hi hz0 hz1 hz2 rfl (by decide) v _ _ hs hw.1 y l2.length cap (l2.map B8) hx (by simp) ?_ ?_ (by unfold maxLen; omega) (by omega) (Nat.zero_le _) ?_
    · intro j u hu
      rw [List.getElem?_map] at hu
      cases hj : l2[j]? with
      | none => rw [hj] at hu; cases hu
      | some z => rw [hj] at hu; simp at hu; subst hu; exact hr.2.2.2 y rfl j z hj
    · intro u hu
      simp at hu; obtain ⟨z, _, rfl⟩ := hu; rfl
    · intro v' w' ho' hg _ hat
      obtain ⟨h1, h2⟩ := h.grown hg (fun z hz => hw.2 z hz)
      refine hk v' w' _ h1 ⟨by rw [List.length_append, List.map_append]; exact ho', fun z hz => ?_⟩ h2
      have hlt := (World.ownsRow.lt ho' z hz).2
      by_cases hzo : z < w.heap.size
      · rw [ownNew_old hzo]
        rcases hat with e | e
        · exact hw.2 z (by rw [← e]; exact hz)
        · rw [e] at hz; cases hz; omega
      · exact ownNew_new (by omega) hlt
end
end Go.Proofs.Ytgjdabneodkmpaa
