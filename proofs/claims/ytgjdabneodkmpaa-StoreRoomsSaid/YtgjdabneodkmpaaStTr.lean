/- Trim; what is asked of an object that isn't there. -/
import Derived.Test.YtgjdabneodkmpaaStB
namespace Go.Proofs.Ytgjdabneodkmpaa
open Go.RowKit
set_option linter.unusedVariables false

set_option maxRecDepth 20000 in
theorem trim_any (w : World) (b : Nat) (g : Gh) (S : St) (h : Sto w b g S) (k : K4) (hk : k.ok) (o : Ob) (ho : S.seen k = some o) (hwhy : whyNot S k = 0) (hS : S.WF) (m : Nat) (hsm : S.Sm m) (hm : m ≤ 100000) (n : Int) :
    Calls Try.prog 49 #[.pointer (some ⟨b, 0, .none⟩), kv k, .int .i64 n] w fun e w' =>
      e = .returned (.int .i64 0) ∧ ∃ g', Sto w' b g' (S.did k ⟨2, n, [], []⟩) ∧ Fr w w' g.r g'.r ours := by
  obtain ⟨R, hR⟩ : ∃ R, S.did k ⟨2, n, [], []⟩ = R := ⟨_, rfl⟩
  rw [hR]
  obtain ⟨w1, hwe⟩ : ∃ w1, w.alloc (.cells #[.int .i64 k.a, .int .i64 k.b, .int .i64 k.c, .int .i64 k.d] 27) = w1 := ⟨_, rfl⟩
  have hb1 : Below w.heap.size w w1 := by rw [← hwe]; exact (Below.refl _ _).alloc (Nat.le_refl _) _
  have hK : KeyAt w1 w.heap.size k := by rw [← hwe]; exact KeyAt.new w k
  obtain ⟨x, hx⟩ : ∃ x, g.pm k = some x := by
    have := h.seen k hk
    rw [ho] at this
    cases hp : g.pm k with
    | none => rw [hp] at this; exact this.elim
    | some x => exact ⟨x, rfl⟩
  have HFD := Lib.hid (find_any w1 b g S (h.later hb1) k hk)
  rw [hx] at HFD
  have e : findR S k (some x) = .tuple #[.pointer (some ⟨x, 0, .none⟩), .int .i64 0] := by simp [findR, hwhy, ptrV]
  rw [e] at HFD
  obtain ⟨k0, k1, k2, k3⟩ := hK.cells
  have H := Lib.hid (h.later hb1)
  have HB := Lib.hid hb1
  have HK := Lib.hid hK
  have HCN : Hid (canD ⟨2, n, [], []⟩ (S.seen k)) := Lib.hid (.inr (.inr (.inr (.inl ⟨rfl, by rw [ho]; rfl⟩))))
  clear h hb1 hK e
  unfold kv at HFD ⊢
  go_enter Try.func49, Try.ntmps49
  go_upto_region 1 with fail
  clear hwe
  go_wp2_with fail
  refine HFD.out.mono ?_
  rintro e w2 ⟨rfl, hb2⟩
  clear HFD k0 k1 k2 k3
  have H2 := Lib.hid (H.out.later hb2)
  have HB2 := Lib.hid (HB.out.trans (hb2.mono HB.out.size))
  have HK2 := Lib.hid (HK.out.later hb2)
  clear H HB HK hb2
  obtain ⟨k0, k1, k2, k3⟩ := HK2.out.cells
  have hdo : Shr w2 g.r (.slice .none 0 0) [] := ⟨.none, 0, rfl, Row.none _, fun x h => by cases h⟩
  have HDO := Lib.hid (do_any w2 b g S H2.out k hk ⟨2, n, [], []⟩ (.slice .none 0 0) hdo hS m hsm (by omega) HCN.out)
  unfold kv deedV at HDO
  rw [hR] at HDO
  clear hR hdo hS hsm ho hx HCN
  go_wp2_with fail
  refine HDO.out.mono ?_
  rintro e w4 ⟨rfl, g', a1, a2⟩
  have HST := Lib.hid (And.intro a1 a2)
  clear a1 a2
  go_wp2_with fail
  go_ret
  exact ⟨rfl, g', HST.out.1, (Fr.of_below HB2.out g.r ours).trans HST.out.2⟩
/-- The refusal. -/
def noC (S : St) (k : K4) : Int := if whyNot S k = 0 then 4 else whyNot S k
theorem findR_no {w : World} {b : Nat} {g : Gh} {S : St} (h : Sto w b g S) {k : K4} (hk : k.ok) (hno : S.seen k = .none ∨ whyNot S k ≠ 0) : ∃ (p : Option Addr) (c : Int), findR S k (g.pm k) = .tuple #[.pointer p, .int .i64 c] ∧ (c != 0) = true ∧ c = noC S k := by
  refine ⟨if whyNot S k = 0 then (g.pm k).map fun x => ⟨x, 0, .none⟩ else .none, noC S k, ?_, ?_, rfl⟩
  · unfold findR noC
    by_cases hw : whyNot S k = 0
    · have hn : S.seen k = .none := by rcases hno with h1 | h1; exact h1; exact absurd hw h1
      have h1 := h.seen k hk
      rw [hn] at h1
      cases hp : g.pm k with
      | none => simp [hw, ptrV]
      | some x => rw [hp] at h1; exact h1.elim
    · simp [hw]
  · unfold noC
    rw [bne_iff_ne]
    split
    · decide
    · assumption

theorem drop_no (w : World) (b : Nat) (g : Gh) (S : St) (h : Sto w b g S) (k : K4) (hk : k.ok) (hno : S.seen k = .none ∨ whyNot S k ≠ 0) :
    Calls Try.prog 28 #[.pointer (some ⟨b, 0, .none⟩), kv k] w fun e w' => e = .returned (.int .i64 (noC S k)) ∧ Below w.heap.size w w' := by
  obtain ⟨pv, c, hfr, hc0, hcc⟩ := findR_no h hk hno
  obtain ⟨w1, hwe⟩ : ∃ w1, w.alloc (.cells #[.int .i64 k.a, .int .i64 k.b, .int .i64 k.c, .int .i64 k.d] 27) = w1 := ⟨_, rfl⟩
  have hb1 : Below w.heap.size w w1 := by rw [← hwe]; exact (Below.refl _ _).alloc (Nat.le_refl _) _
  have hK : KeyAt w1 w.heap.size k := by rw [← hwe]; exact KeyAt.new w k
  have HFD := Lib.hid (find_any w1 b g S (h.later hb1) k hk)
  rw [hfr] at HFD
  obtain ⟨k0, k1, k2, k3⟩ := hK.cells
  have HB := Lib.hid hb1
  have HC := Lib.hid hcc
  clear h hb1 hK hfr hcc hno
  unfold kv at HFD ⊢
  go_enter Try.func28, Try.ntmps28
  go_upto_region 1 with fail
  clear hwe
  go_wp2_with fail
  refine HFD.out.mono ?_
  rintro e w2 ⟨rfl, hb2⟩
  clear HFD k0 k1 k2 k3
  have HB2 := Lib.hid (HB.out.trans (hb2.mono HB.out.size))
  clear HB hb2
  go_wp2_with fail
  go_ret
  exact ⟨by rw [HC.out]; rfl, HB2.out⟩

theorem trim_no (w : World) (b : Nat) (g : Gh) (S : St) (h : Sto w b g S) (k : K4) (hk : k.ok) (hno : S.seen k = .none ∨ whyNot S k ≠ 0) (n : Int) :
    Calls Try.prog 49 #[.pointer (some ⟨b, 0, .none⟩), kv k, .int .i64 n] w fun e w' => e = .returned (.int .i64 (noC S k)) ∧ Below w.heap.size w w' := by
  obtain ⟨pv, c, hfr, hc0, hcc⟩ := findR_no h hk hno
  obtain ⟨w1, hwe⟩ : ∃ w1, w.alloc (.cells #[.int .i64 k.a, .int .i64 k.b, .int .i64 k.c, .int .i64 k.d] 27) = w1 := ⟨_, rfl⟩
  have hb1 : Below w.heap.size w w1 := by rw [← hwe]; exact (Below.refl _ _).alloc (Nat.le_refl _) _
  have hK : KeyAt w1 w.heap.size k := by rw [← hwe]; exact KeyAt.new w k
  have HFD := Lib.hid (find_any w1 b g S (h.later hb1) k hk)
  rw [hfr] at HFD
  obtain ⟨k0, k1, k2, k3⟩ := hK.cells
  have HB := Lib.hid hb1
  have HC := Lib.hid hcc
  clear h hb1 hK hfr hcc hno
  unfold kv at HFD ⊢
  go_enter Try.func49, Try.ntmps49
  go_upto_region 1 with fail
  clear hwe
  go_wp2_with fail
  refine HFD.out.mono ?_
  rintro e w2 ⟨rfl, hb2⟩
  clear HFD k0 k1 k2 k3
  have HB2 := Lib.hid (HB.out.trans (hb2.mono HB.out.size))
  clear HB hb2
  go_wp2_with fail
  go_ret
  exact ⟨by rw [HC.out]; rfl, HB2.out⟩

theorem write_no (w : World) (b : Nat) (g : Gh) (S : St) (h : Sto w b g S) (k : K4) (hk : k.ok) (hno : S.seen k = .none ∨ whyNot S k ≠ 0) (n : Int) (a : Option Addr) (m cap : Nat) :
    Calls Try.prog 31 #[.pointer (some ⟨b, 0, .none⟩), kv k, .int .i64 n, .slice a m cap] w fun e w' => e = .returned (.int .i64 (noC S k)) ∧ Below w.heap.size w w' := by
  obtain ⟨pv, c, hfr, hc0, hcc⟩ := findR_no h hk hno
  obtain ⟨w1, hwe⟩ : ∃ w1, w.alloc (.cells #[.int .i64 k.a, .int .i64 k.b, .int .i64 k.c, .int .i64 k.d] 27) = w1 := ⟨_, rfl⟩
  have hb1 : Below w.heap.size w w1 := by rw [← hwe]; exact (Below.refl _ _).alloc (Nat.le_refl _) _
  have hK : KeyAt w1 w.heap.size k := by rw [← hwe]; exact KeyAt.new w k
  have HFD := Lib.hid (find_any w1 b g S (h.later hb1) k hk)
  rw [hfr] at HFD
  obtain ⟨k0, k1, k2, k3⟩ := hK.cells
  have HB := Lib.hid hb1
  have HC := Lib.hid hcc
  clear h hb1 hK hfr hcc hno
  unfold kv at HFD ⊢
  go_enter Try.func31, Try.ntmps31
  go_upto_region 1 with fail
  clear hwe
  go_wp2_with fail
  refine HFD.out.mono ?_
  rintro e w2 ⟨rfl, hb2⟩
  clear HFD k0 k1 k2 k3
  have HB2 := Lib.hid (HB.out.trans (hb2.mono HB.out.size))
  clear HB hb2
  go_wp2_with fail
  go_ret
  exact ⟨by rw [HC.out]; rfl, HB2.out⟩

theorem append_no (w : World) (b : Nat) (g : Gh) (S : St) (h : Sto w b g S) (k : K4) (hk : k.ok) (hno : S.seen k = .none ∨ whyNot S k ≠ 0) (a : Option Addr) (m cap : Nat) :
    Calls Try.prog 12 #[.pointer (some ⟨b, 0, .none⟩), kv k, .slice a m cap] w fun e w' => e = .returned (.int .i64 (noC S k)) ∧ Below w.heap.size w w' := by
  obtain ⟨pv, c, hfr, hc0, hcc⟩ := findR_no h hk hno
  obtain ⟨w1, hwe⟩ : ∃ w1, w.alloc (.cells #[.int .i64 k.a, .int .i64 k.b, .int .i64 k.c, .int .i64 k.d] 27) = w1 := ⟨_, rfl⟩
  have hb1 : Below w.heap.size w w1 := by rw [← hwe]; exact (Below.refl _ _).alloc (Nat.le_refl _) _
  have hK : KeyAt w1 w.heap.size k := by rw [← hwe]; exact KeyAt.new w k
  have HFD := Lib.hid (find_any w1 b g S (h.later hb1) k hk)
  rw [hfr] at HFD
  obtain ⟨k0, k1, k2, k3⟩ := hK.cells
  have HB := Lib.hid hb1
  have HC := Lib.hid hcc
  clear h hb1 hK hfr hcc hno
  unfold kv at HFD ⊢
  go_enter Try.func12, Try.ntmps12
  go_upto_region 1 with fail
  clear hwe
  go_wp2_with fail
  refine HFD.out.mono ?_
  rintro e w2 ⟨rfl, hb2⟩
  clear HFD k0 k1 k2 k3
  have HB2 := Lib.hid (HB.out.trans (hb2.mono HB.out.size))
  clear HB hb2
  go_wp2_with fail
  go_ret
  exact ⟨by rw [HC.out]; rfl, HB2.out⟩
end Go.Proofs.Ytgjdabneodkmpaa
