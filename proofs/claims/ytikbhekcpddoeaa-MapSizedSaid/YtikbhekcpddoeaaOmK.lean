/- Maps of objects: the law's own states, the document's examples. -/
import Derived.Test.YtikbhekcpddoeaaOmP
import Derived.Test.YtikbhekcpddoeaaZSame
import Derived.Test.YtikbhekcpddoeaaFree
import Derived.Test.YtikbhekcpddoeaaBy
import Derived.BigQuiet
import Derived.Deep.DeepCutAuto
import Derived.Deep.RegionWith
namespace Go.Proofs.Ytikbhekcpddoeaa
open Go.RowKit Go.Proofs
set_option linter.unusedVariables false
set_option linter.unusedSimpArgs false
set_option linter.unnecessarySimpa false

def stZ (z : Int) : Int := bits .and .i64 z 255 % 3
def statesO (l : List Int) : List Int := l.map stZ
theorem stZ_ok (z : Int) : stOk (stZ z) := by
  have h : 0 ≤ bits .and .i64 z 255 ∧ bits .and .i64 z 255 ≤ 255 := and_range z 255 (by decide)
  unfold stZ stOk; omega
theorem statesO_ok {l : List Int} (h : l.length ≤ 512) : MapOk (statesO l) := by
  refine ⟨by unfold statesO; simpa using h, fun x hx => ?_⟩
  unfold statesO at hx
  obtain ⟨z, _, rfl⟩ := List.mem_map.1 hx
  exact stZ_ok z
theorem statesO_len (l : List Int) : (statesO l).length = l.length := by unfold statesO; simp
theorem statesO_take {l : List Int} {j : Nat} {z : Int} (h : l[j]? = some z) : statesO (l.take (j + 1)) = statesO (l.take j) ++ [stZ z] := by
  unfold statesO
  have hj := (List.getElem?_eq_some_iff.1 h).1
  rw [List.take_add_one, h]; simp

set_option maxRecDepth 20000 in
set_option maxHeartbeats 3200000 in
theorem states13_any (a : Option Addr) (n cap : Nat) (l : List Int) (w : World) (h : GRow inT w a cap l) (hn : l.length = n) (hb : n ≤ 100000) :
    Calls Try.prog 8 #[.slice a n cap] w fun e w' => ∃ v, e = .returned v ∧ GOwn inT w w' v (statesO l) := by
  have HR := Lib.hid h
  have HN := Lib.hid hn
  have hc := h.1
  rw [hn] at hc
  have hcm : cap ≤ 9223372036854775807 := by have := h.2.1; unfold maxLen at this; omega
  clear h hn
  go_enter Try.func8, Try.ntmps8
  go_wp2_with fail
  go_loopw [3, 4] (fun v i wr => ∃ j : Nat, i = .int .i64 j ∧ j ≤ n ∧ GOwn inT w wr v (statesO (l.take j))) (fun _ i _ => n - (intOf i).toNat)
  case atStart => exact ⟨0, rfl, by omega, by simpa [statesO] using GOwn.nil inT w⟩
  case round =>
    obtain ⟨j, rfl, hj, o⟩ := hrel
    have HO := Lib.hid o
    clear o
    by_cases hjn : (j : Int) < n
    · obtain ⟨x, hx⟩ : ∃ e, l[j]? = some e := ⟨l[j]'(by have := HN.out; omega), List.getElem?_eq_getElem _⟩
      obtain ⟨b1, o1, rfl, p⟩ := (HR.out.later HO.out.below).at hx
      have p0 := p 0 (.int .i64 x) rfl
      simp only [Nat.mul_one, Nat.add_zero] at p0
      have HT := Lib.hid (statesO_take hx)
      have HLT : Hid ((statesO (l.take j)).length = j) := Lib.hid (by rw [statesO_len, List.length_take, HN.out]; omega)
      obtain ⟨q, hq⟩ : ∃ q, bits .and .i64 x 255 = q := ⟨_, rfl⟩
      have hq2 : 0 ≤ q ∧ q ≤ 255 := by rw [← hq]; exact and_range x 255 (by decide)
      have HZ : Hid (stZ x = q % 3) := Lib.hid (by unfold stZ; rw [hq])
      have hz : q.tmod 3 = q % 3 := Int.tmod_eq_emod_of_nonneg hq2.1
      clear hx p
      go_wp2_with (at_builtin; refine wp_gone inOk rfl _ _ rfl rfl _ (statesO (l.take j)) rfl w HO.out (q % 3) ?_ rfl rfl (by rw [HLT.out]; omega) ?_; rotate_left; intro v9 w9 o9 _ _)
      go_roundw
      case rel => exact ⟨j + 1, by go_num, by omega, by rw [HT.out, HZ.out]; exact o9⟩
      case measure => simp [intOf]; omega
      case _ => unfold inB; omega
    · have hjN : j = n := by omega
      subst hjN
      have HE : Hid (statesO (l.take j) = statesO l) := Lib.hid (by rw [List.take_of_length_le (by rw [HN.out]; omega)])
      go_wp2_with fail
      go_ret
      exact ⟨_, rfl, by rw [← HE.out]; exact HO.out⟩

/-! ### the document's examples -/
theorem grow_lit (w0 : World) (zs : List Int) (cs : Array Value) (hc : cs.toList = zs.map (Value.int .i64)) (hz : ∀ z ∈ zs, inB z) (n : Nat) (hn : zs.length = n) (hl : n ≤ 1000) (E : TypeId) (x : Nat) (hx : x = w0.heap.size) : GRow inT (w0.alloc (.cells cs E)) (some ⟨x, 0, none⟩) n zs := by
  subst hx hn
  have hrec := RecAt.new w0 cs E
  refine ⟨Nat.le_refl _, by unfold maxLen; omega, fun e => (by cases e), hz, fun x hx i s hs => ?_⟩
  cases hx
  refine ⟨rfl, fun k v hv => ?_⟩
  match k, hv with
  | 0, hv =>
    simp at hv; subst hv
    have := hrec.cell (i := i) (v := .int .i64 s) (by
      rw [← Array.getElem?_toList, hc, List.getElem?_map, hs]; rfl)
    simpa using this
theorem ko_put : (if rightO [1, 2] = true then putO [1, 2] else []) = [9] := by decide
theorem ko_ok : (if rightO [1, 2] = true then (0 : Int) else 1) = 0 := by decide
theorem ko_get : getOE [] 1 = 2 := by
  unfold getOE
  rw [if_pos (by omega), if_neg (by intro h; have := h.1; simp at this)]
theorem ko_at : atO [] 3 = 0 := by decide
set_option maxRecDepth 20000 in
set_option maxHeartbeats 3200000 in
theorem known13_any (w : World) : Calls Try.prog 7 #[] w fun e w' => e = .returned (.bool true) ∧ Below w.heap.size w w' := by
  have HR0 := Lib.hid (grow_lit w [1, 2] #[.int .i64 1, .int .i64 2] rfl (by intro z hz; simp at hz; unfold inB; omega) 2 rfl (by decide) 3 _ rfl)
  have HB0 := Lib.hid ((Below.refl w.heap.size w).alloc (Nat.le_refl _) (.cells #[.int .i64 1, .int .i64 2] 3))
  obtain ⟨w1, hw1⟩ : ∃ W, w.alloc (.cells #[.int .i64 1, .int .i64 2] 3) = W := ⟨_, rfl⟩
  rw [hw1] at HR0 HB0
  go_enter Try.func7, Try.ntmps7
  go_wp2_with fail
  try rw [hw1]
  refine (oput_any _ 2 2 [1, 2] w1 HR0.out rfl (by decide)).mono ?_
  rw [ko_put, ko_ok]
  rintro e w2 ⟨v2, rfl, o2⟩
  obtain ⟨a2, c2, rfl, r2⟩ := o2.row_n (n := 1) rfl
  have HB2 := Lib.hid (HB0.out.trans (o2.below.mono HB0.out.size))
  have HR2 := Lib.hid r2
  clear o2 r2
  go_wp2_with fail
  refine (oget_any none 0 0 [] 1 (by unfold inB; omega) w2 (Row.none _) rfl (by decide)).mono ?_
  rw [ko_get]
  rintro e w3 ⟨v3, rfl, o3⟩
  have HB3 := Lib.hid (HB2.out.trans (o3.below.mono HB2.out.size))
  have HR3 := Lib.hid (HR2.out.later o3.below)
  clear o3
  obtain ⟨b2, off2, rfl, p0⟩ := HR3.out.at (by decide)
  have p1 : w3.cell? ⟨b2, off2, none⟩ = some (.int .u8 9) := by have h := p0 0 9 rfl; rw [Nat.add_zero] at h; exact h
  have hc2 := HR3.out.1
  have hcm2 := HR3.out.2.1
  unfold maxLen at hcm2
  simp only [List.length_cons, List.length_nil] at hc2
  clear p0
  go_wp2_with fail
  refine (oat_any none 0 0 [] 3 w3 (GRow.nil _ _) rfl).mono ?_
  rw [ko_at]
  rintro e w4 ⟨rfl, b4⟩
  have HB4 := Lib.hid (HB3.out.trans (b4.mono HB3.out.size))
  clear b4
  go_wp2_with fail
  go_ret
  exact ⟨rfl, HB4.out⟩
end Go.Proofs.Ytikbhekcpddoeaa
