/- Images: states and rows of events that come in; states that aren't long. -/
import Derived.Test.YtghglbaflmbeoaaMdF
import Derived.Test.YtghglbaflmbeoaaEvE
namespace Go.Proofs.Ytghglbaflmbeoaa
open Go.RowKit Go.Proofs
set_option linter.unusedVariables false
set_option linter.unusedSimpArgs false
set_option linter.unnecessarySimpa false

def OdE (w : World) (cs : List Value) (o : Od) : Prop := ∃ S a c, cs = [.string S, .slice a o.data.length c] ∧ S.data.toList = o.name ∧ S.size ≤ 9223372036854775807 ∧ Row w a c o.data
theorem opens_od {w : World} : Opens w 48 (OdE w) :=
  Opens.fields Try.underlying48 (by kernel_rfl : Try.prog.cellsOf 48 = 2) fun cs hl hf => by
    obtain ⟨s, hs, hsl⟩ := hf 0 _ rfl _ _ (Opens.str Try.underlying9)
    obtain ⟨d, a, c, hd, hr⟩ := hf 1 _ rfl _ _ (Opens.bytes (w := w) Try.underlying25 Try.underlying5 (by kernel_rfl))
    refine ⟨⟨s, d⟩, ⟨s.toArray⟩, a, c, ?_, by simp, by unfold maxLen at hsl; simpa [ByteArray.size] using hsl, hr⟩
    match cs, hl with
    | [x, y], _ =>
      have h2 : Try.prog.cellsOf 25 = 1 := by kernel_rfl
      have h3 : Try.prog.cellsOf 9 = 1 := by kernel_rfl
      simp [h3] at hs
      simp [h2] at hd
      simp [hd, hs]
theorem OdE.rel {w : World} {cs : List Value} {o : Od} (h : OdE w cs o) : OdR allJ w cs o ∧ ∀ u ∈ cs, u.oneCell' = true := by
  obtain ⟨S, a, c, rfl, h2, h3, h4⟩ := h
  refine ⟨⟨S, _, rfl, h2, h3, BQ.of_row h4⟩, fun u hu => ?_⟩
  simp only [List.mem_cons, List.not_mem_nil, or_false] at hu
  rcases hu with rfl | rfl <;> rfl
theorem EvE.rel {w : World} {cs : List Value} {e : Ev} (h : EvE w cs e) : EvL allJ w cs e ∧ ∀ u ∈ cs, u.oneCell' = true := by
  obtain ⟨a, c, S, rfl, h2, h3, h4⟩ := h
  refine ⟨⟨_, S, rfl, h2, h3, BQ.of_row h4⟩, fun u hu => ?_⟩
  simp only [List.mem_cons, List.not_mem_nil, or_false] at hu
  rcases hu with rfl | rfl | rfl | rfl | rfl <;> rfl
/-- A row of events that came in. -/
theorem RowE.qe {w : World} {a : Option Addr} {cap n : Nat} {l : List Ev} (h : RowE w 5 (EvE w) a cap l) (hn : l.length = n) : QE allJ w (.slice a n cap) l := by
  subst hn
  exact QRow.of_rowE h (by decide) fun cs t ht => ht.rel
/-- A state that came in. -/
def StE (w : World) (cs : List Value) (s : Sx) : Prop := ∃ d v, cs = [d, v] ∧ StA allJ w d v s
theorem opens_st {w : World} : Opens w 28 (StE w) :=
  Opens.fields Try.underlying28 (by kernel_rfl : Try.prog.cellsOf 28 = 2) fun cs hl hf => by
    obtain ⟨d, a, c, hd, hr⟩ := hf 0 _ rfl _ _ (Opens.bytes (w := w) Try.underlying25 Try.underlying5 (by kernel_rfl))
    obtain ⟨l, a2, c2, hl2, hr2⟩ := hf 1 _ rfl _ _ (Opens.slice (w := w) (sz := 2) Try.underlying26 (by kernel_rfl) (opens_od (w := w)))
    refine ⟨⟨d, l⟩, _, _, ?_, ⟨BQ.of_row hr, QRow.of_rowE hr2 (by decide) fun cs t ht => ht.rel⟩⟩
    match cs, hl with
    | [x, y], _ =>
      have h2 : Try.prog.cellsOf 25 = 1 := by kernel_rfl
      have h3 : Try.prog.cellsOf 26 = 1 := by kernel_rfl
      simp [h2] at hd
      simp [h3] at hl2
      simp [hd, hl2]
theorem StE.open {w : World} {cs : Array Value} {s : Sx} (h : StE w cs.toList s) : ∃ d v, cs = #[d, v] ∧ StA allJ w d v s := by
  obtain ⟨d, v, h1, h2⟩ := h
  exact ⟨d, v, by rw [← Array.toArray_toList (xs := cs), h1], h2⟩
/-! ### not long -/
def MayS (s : Sx) : Prop := s.data.length ≤ 600 ∧ s.snaps.length ≤ 12 ∧ ∀ o ∈ s.snaps, o.data.length ≤ 600 ∧ o.name.length ≤ 40
def MayIs (w : World) (s : Sx) (e : Ending) (w' : World) : Prop := ∃ B, e = .returned (.bool B) ∧ (B = true → MayS s) ∧ Below w.heap.size w w'
set_option maxRecDepth 20000 in
set_option maxHeartbeats 6400000 in
theorem may14_any (d v : Value) (s : Sx) (J : Nat → Prop) (w : World) (h : StA J w d v s) :
    Calls Try.prog 23 #[.agg #[d, v]] w fun e w' => MayIs w s e w' := by
  obtain ⟨a1, c1, a2, c2, rfl, rfl, rd, rs⟩ := h.open
  have X2 := RecAt.new w #[.slice a1 s.data.length c1, .slice a2 s.snaps.length c2] 28
  have B2 : Below w.heap.size w (w.alloc (.cells #[.slice a1 s.data.length c1, .slice a2 s.snaps.length c2] 28)) := (Below.refl _ _).alloc (Nat.le_refl _) _
  obtain ⟨w1, hw1⟩ : ∃ W, w.alloc (.cells #[.slice a1 s.data.length c1, .slice a2 s.snaps.length c2] 28) = W := ⟨_, rfl⟩
  rw [hw1] at X2 B2
  obtain ⟨nd, hnd⟩ : ∃ z, s.data.length = z := ⟨_, rfl⟩
  obtain ⟨ns, hns⟩ : ∃ z, s.snaps.length = z := ⟨_, rfl⟩
  rw [hnd] at X2 hw1 ⊢
  rw [hns] at X2 hw1 rs ⊢
  have HX2 := Lib.hid X2
  have HB3 := Lib.hid B2
  have HRS := Lib.hid (rs.later od_rel B2)
  have HND := Lib.hid hnd
  have HNS := Lib.hid hns
  obtain ⟨hl1, hl2⟩ := rs.lim
  clear X2 B2 rd rs h hnd hns
  go_enter Try.func23, Try.ntmps23
  go_upto_region 1 with fail
  try rw [hw1]
  clear hw1
  obtain ⟨X, hX⟩ : ∃ X, w.heap.size = X := ⟨_, rfl⟩
  rw [hX] at HX2 ⊢
  have HXS := Lib.hid hX
  clear hX
  obtain ⟨x0, x1⟩ := HX2.out.c2
  go_wp2_with fail
  go_loopw [3] (fun i wr => ∃ j : Nat, i = .int .i64 j ∧ j ≤ ns ∧ j ≤ 20 ∧ wr = w1 ∧ Hid (∀ k, k < j → ∀ o, s.snaps[k]? = some o → o.data.length ≤ 600 ∧ o.name.length ≤ 40)) (fun i _ => ns - (intOf i).toNat)
  case atStart => exact ⟨0, rfl, by omega, by omega, rfl, Lib.hid (fun k h => by omega)⟩
  case round =>
    obtain ⟨j, rfl, hj, hj20, rfl, HA⟩ := hrel
    by_cases hjn : (j : Int) < ns ∧ (j : Int) < 20
    · obtain ⟨h1, h2⟩ := hjn
      obtain ⟨e, he⟩ : ∃ e, s.snaps[j]? = some e := ⟨s.snaps[j]'(by have := HNS.out; omega), List.getElem?_eq_getElem _⟩
      obtain ⟨b1, f1, N1, e1, k1, rfl, p0, p1, hN1, hN2, hrr⟩ := HRS.out.o2 he
      have hsz : e.name.length = N1.size := by rw [← hN1]; exact Array.length_toList
      have HMO : Hid (e.data.length ≤ 600 ∧ N1.size ≤ 40 → ∀ k, k < j + 1 → ∀ o, s.snaps[k]? = some o → o.data.length ≤ 600 ∧ o.name.length ≤ 40) := Lib.hid fun h k hk o ho => by
        by_cases c : k = j
        · subst c; rw [he] at ho; cases ho; exact ⟨h.1, by rw [hsz]; exact h.2⟩
        · exact HA.out k (by omega) o ho
      obtain ⟨L1, hL1⟩ : ∃ z, e.data.length = z := ⟨_, rfl⟩
      rw [hL1] at p1 HMO
      clear he hN1 hsz hrr hL1
      by_cases hL : L1 ≤ 600
      · have hd1 : decide ((L1 : Int) > 600) = false := decide_eq_false (by omega)
        by_cases hS : N1.size ≤ 40
        · have hd2 : decide ((N1.size : Int) > 40) = false := decide_eq_false (by omega)
          have HA2 := Lib.hid (HMO.out ⟨hL, hS⟩)
          go_wp2_with fail
          go_roundw
          case rel => exact ⟨j + 1, by go_num, by omega, by omega, trivial, HA2⟩
          case measure => simp [intOf]; omega
        · have hd2 : decide ((N1.size : Int) > 40) = true := decide_eq_true (by omega)
          go_wp2_with fail
          go_ret
          exact ⟨_, rfl, fun c => absurd c (by decide), HB3.out⟩
      · have hd1 : decide ((L1 : Int) > 600) = true := decide_eq_true (by omega)
        go_wp2_with fail
        go_ret
        exact ⟨_, rfl, fun c => absurd c (by decide), HB3.out⟩
    · by_cases h600 : nd ≤ 600
      · have hd6 : decide ((nd : Int) ≤ 600) = true := decide_eq_true (by omega)
        by_cases h12 : ns ≤ 12
        · have hd12 : decide ((ns : Int) ≤ 12) = true := decide_eq_true (by omega)
          have hjs : j = ns := by omega
          have HM : Hid (MayS s) := Lib.hid ⟨by rw [HND.out]; exact h600, by rw [HNS.out]; exact h12, fun o ho => by
            obtain ⟨i, hi⟩ := List.mem_iff_getElem?.1 ho
            exact HA.out i (by have := (List.getElem?_eq_some_iff.1 hi).1; rw [HNS.out] at this; omega) o hi⟩
          subst hjs
          have hf : decide ((j : Int) < (j : Int)) = false := decide_eq_false (by omega)
          clear hjn
          go_wp2_with fail
          go_ret
          exact ⟨_, rfl, fun _ => HM.out, HB3.out⟩
        · have hd12 : decide ((ns : Int) ≤ 12) = false := decide_eq_false (by omega)
          rcases (show ¬ (j : Int) < ns ∨ ((j : Int) < ns ∧ ¬ (j : Int) < 20) by omega) with h1 | ⟨h1, h2⟩
          all_goals
            clear hjn
            go_wp2_with fail
            go_ret
            exact ⟨_, rfl, fun c => absurd c (by decide), HB3.out⟩
      · have hd6 : decide ((nd : Int) ≤ 600) = false := decide_eq_false (by omega)
        rcases (show ¬ (j : Int) < ns ∨ ((j : Int) < ns ∧ ¬ (j : Int) < 20) by omega) with h1 | ⟨h1, h2⟩
        all_goals
          clear hjn
          go_wp2_with fail
          go_ret
          exact ⟨_, rfl, fun c => absurd c (by decide), HB3.out⟩
end Go.Proofs.Ytghglbaflmbeoaa
