/- An object cut short: 'trim'. -/
import Derived.Test.YtgjdabneodkmpaaStO
import Derived.Deep.RegionHeld3
namespace Go.Proofs.Ytgjdabneodkmpaa
open Go.RowKit
set_option linter.unusedVariables false
set_option linter.unusedSimpArgs false

/-- How much is left. -/
def heldN (n : Int) (m : Nat) : Nat := min n.toNat m
theorem heldI_nat (n : Int) (m : Nat) : heldI n 0 m = (heldN n m : Nat) := by
  unfold heldI heldN; omega
theorem heldN_le (n : Int) (m : Nat) : heldN n m ≤ m := Nat.min_le_right _ _
/-- A row of one's own, its end cut off. -/
theorem BRow.cut {w : World} {a : Option Addr} {n cap : Nat} {l : List UInt8} (h : BRow w (.slice a n cap) l) (z : Nat) (hz : z ≤ n) (hn : l.length = n) : BRow w (.slice a z cap) (l.take z) := by
  have hl : (l.take z).length = z := by rw [List.length_take]; omega
  refine ⟨by simp, ?_⟩
  rw [hl]
  rcases h.2 with ⟨hv, hn0⟩ | ⟨g, cap2, cur, hv, hb, hg, hn2, hc, hs, ht⟩
  · have h1 : z = 0 := by omega
    injection hv with e1 e2 e3
    subst h1 e1 e3
    exact .inl ⟨rfl, rfl⟩
  · injection hv with e1 e2 e3
    subst e1 e3
    refine .inr ⟨g, cap, cur, rfl, hb, hg, by omega, hc, hs, ?_⟩
    simp only [Nat.mul_one] at ht ⊢
    rw [List.map_take, ← ht, List.take_take]
    congr 1; omega
theorem ObAt.cut {w : World} {r : Nat → Role} {p : Bool} {k : K4} {x n cap z : Nat} {a : Option Addr} {av : Value} {o : Ob} (h : ObAt w r p k x (.slice a n cap) av o) (hn : o.bytes.length = n) (hz : z ≤ n) :
    Fr w (w.setCell ⟨x, 0, .none⟩ (.slice a z cap)).drew r r (byOf p k) ∧ ObAt (w.setCell ⟨x, 0, .none⟩ (.slice a z cap)).drew r p k x (.slice a z cap) av { o with bytes := o.bytes.take z } := by
  have hf : Fr w (w.setCell ⟨x, 0, .none⟩ (.slice a z cap)) r r (fun t => t = .ob p k) := Fr.of_set (by exact h.role)
  have hd : Fr (w.setCell ⟨x, 0, .none⟩ (.slice a z cap)) (w.setCell ⟨x, 0, .none⟩ (.slice a z cap)).drew r r (fun _ => False) := Fr.of_below (Below.refl _ _).drew r _
  have h1 := heap_setCell_same w x 0 _ _ (.slice a z cap) h.heap
  have hc := h.row.cut z hz hn
  have ho : ∀ g, (Value.slice a z cap).ownBlock = some g → r g = .by p k := fun g hg => h.rrow g (by cases a <;> exact hg)
  refine ⟨(hf.mono fun t ht => .inl ht).trans (hd.mono fun t ht => ht.elim), ?_⟩
  have hA : ObAt (w.setCell ⟨x, 0, .none⟩ (.slice a z cap)) r p k x (.slice a z cap) av { o with bytes := o.bytes.take z } :=
    ⟨h.role, by simpa using h1, hc.fr hf (fun g hg => by rw [ho g hg]; simp), ho, h.attrs.fr hf (by simp) (by simp)⟩
  exact hA.fr hd (fun t _ ht => ht) (fun ht => ht)
/-- An object cut short. -/
def Ob.cut (o : Ob) (n : Int) : Ob := { o with bytes := o.bytes.take (heldN n o.bytes.length) }
theorem Ob.cut_len (o : Ob) (n : Int) : (o.cut n).bytes.length ≤ o.bytes.length := by
  unfold Ob.cut; simp only [List.length_take]; omega
set_option maxRecDepth 20000 in
theorem otrim_any (w : World) (r : Nat → Role) (p : Bool) (k : K4) (x : Nat) (o : Ob) (h : ObX w r p k x o) (hdom : Dom w r) (n : Int) (hl : o.bytes.length ≤ 1000000) :
    Calls Try.prog 83 #[.pointer (some ⟨x, 0, .none⟩), .int .i64 n] w fun e w' =>
      e = .returned (.tuple #[]) ∧ Fr w w' r r (byOf p k) ∧ Dom w' r ∧ ObX w' r p k x (o.cut n) := by
  have HX := Lib.hid h
  obtain ⟨bv, av, h⟩ := h
  have c0 : w.cell? ⟨x, 0, .none⟩ = some bv := cell_of_block h.heap rfl
  obtain ⟨a, cap, rfl, hr, _⟩ := h.row.row
  obtain ⟨m, hm⟩ : ∃ m, o.bytes.length = m := ⟨_, rfl⟩
  rw [hm] at c0
  have hmc : m ≤ cap := by have := hr.1; omega
  have hc2 : cap ≤ maxLen := hr.2.1
  have hfz : w.frozen? ⟨x, 0, .none⟩ = false := by simp [World.frozen?, h.heap]
  obtain ⟨z, hz⟩ : ∃ z, heldN n m = z := ⟨_, rfl⟩
  have hzm : z ≤ m := by rw [← hz]; exact heldN_le n m
  have hzi : (z : Int) ≤ m := by omega
  have hzc : (z : Int) ≤ cap := by omega
  have HE : Hid (heldI n 0 (m : Int) = (z : Nat)) := Lib.hid (by rw [heldI_nat, hz])
  have HZ := Lib.hid hz
  have HM := Lib.hid hm
  have HA := Lib.hid h
  have HD := Lib.hid hdom
  clear h hr hdom hz hm
  go_enter Try.func83, Try.ntmps83
  go_region_with (go_at_call 32; refine (held_any _ _ _ _).mono ?_; rw [HE.out]; rintro e w' ⟨rfl, rfl⟩)
  all_goals
    go_end0
    obtain ⟨hf, ho⟩ := HA.out.cut (z := z) rfl (by have := HM.out; omega)
    refine ⟨rfl, hf, HD.out.later hf.size, ?_⟩
    unfold Ob.cut
    rw [HM.out, HZ.out]
    exact ⟨_, _, ho⟩
end Go.Proofs.Ytgjdabneodkmpaa
