/- Rows of acts that come in; few. -/
import Derived.Test.YtgjdabneodkmpaaStRj
import Derived.Test.YtgjdabneodkmpaaRd
namespace Go.Proofs.Ytgjdabneodkmpaa
open Go.RowKit
set_option linter.unusedVariables false

/-- A slice of acts that one reads. -/
def ARow (w : World) (a : Option Addr) (cap : Nat) (zs : List (ActP × List UInt8)) : Prop :=
  zs.length ≤ cap ∧ (a = none → cap = 0) ∧ ∀ x, a = some x → ∀ (i : Nat) A l, zs[i]? = some (A, l) → x.spot = .none ∧ (∀ r v, A.cs[r]? = some v → w.cell? ⟨x.block, x.off + i * 12 + r, .none⟩ = some v) ∧
    Row w A.pa A.pc l ∧ l.length = A.pl ∧ (-9223372036854775808 ≤ A.off ∧ A.off ≤ 9223372036854775807) ∧ A.nm.size ≤ 9223372036854775807
theorem ARow.later {w w' : World} {a : Option Addr} {cap : Nat} {zs : List (ActP × List UInt8)} (h : ARow w a cap zs) (hb : Below w.heap.size w w') : ARow w' a cap zs := by
  refine ⟨h.1, h.2.1, fun x hx i A l he => ?_⟩
  obtain ⟨h1, h2, h3, h4, h5⟩ := h.2.2 x hx i A l he
  exact ⟨h1, fun r v hv => (Below.cell hb (World.block_lt_of_cell? w _ (h2 r v hv))).trans (h2 r v hv), h3.later hb, h4, h5⟩
theorem ARow.at {w : World} {a : Option Addr} {cap : Nat} {zs : List (ActP × List UInt8)} (h : ARow w a cap zs) {i : Nat} {A : ActP} {l : List UInt8} (he : zs[i]? = some (A, l)) :
    ∃ b off, a = some ⟨b, off, .none⟩ ∧ (∀ r v, A.cs[r]? = some v → w.cell? ⟨b, off + i * 12 + r, .none⟩ = some v) ∧ Row w A.pa A.pc l ∧ l.length = A.pl ∧ (-9223372036854775808 ≤ A.off ∧ A.off ≤ 9223372036854775807) ∧ A.nm.size ≤ 9223372036854775807 := by
  cases a with
  | none =>
    have := h.2.1 rfl
    have := h.1
    have := (List.getElem?_eq_some_iff.1 he).1
    omega
  | some x =>
    obtain ⟨h1, h2⟩ := h.2.2 x rfl i A l he
    obtain ⟨b, off, sp⟩ := x
    simp only at h1
    subst h1
    exact ⟨b, off, rfl, h2⟩
def fewA (x : ActP × List UInt8) : Prop := x.1.pl ≤ 60 ∧ x.1.nm.size ≤ 30
set_option maxRecDepth 20000 in
theorem few_any (w : World) (a : Option Addr) (m cap : Nat) (zs : List (ActP × List UInt8)) (h : ARow w a cap zs) (hm : zs.length = m) (hm2 : m ≤ 9223372036854775807) :
    Calls Try.prog 16 #[.slice a m cap] w fun e w' => (∃ fb, e = .returned (.bool fb) ∧ (fb = true → m ≤ 60 ∧ ∀ (i : Nat) x, zs[i]? = some x → fewA x)) ∧ w = w' := by
  have HR := Lib.hid h
  have HM := Lib.hid hm
  have hmc : m ≤ cap := by have := h.1; omega
  clear h hm
  go_enter Try.func16, Try.ntmps16
  go_wp2_with fail
  go_loopw [3] (fun i wr => wr = w ∧ ∃ j : Nat, i = .int .i64 j ∧ j ≤ m ∧ Hid (∀ (i : Nat) x, i < j → zs[i]? = some x → fewA x)) (fun i _ => m - (intOf i).toNat)
  case atStart => exact ⟨rfl, 0, rfl, by omega, Lib.hid fun i x h => by omega⟩
  case round =>
    obtain ⟨rfl, j, rfl, hj, HI⟩ := hrel
    by_cases hjm : j < m
    · obtain ⟨⟨A, l⟩, hA⟩ : ∃ x, zs[j]? = some x := ⟨_, List.getElem?_eq_getElem (by have := HM.out; omega)⟩
      obtain ⟨b, off, rfl, hc, hr, hl, ho, hs⟩ := HR.out.at hA
      obtain ⟨wh, wi, of_, nq, raw, ⟨ka, kb, kc, kd⟩, pa, pl, pc, nm, qa, ql, qc⟩ := A
      have d9 : wr.cell? ⟨b, off + j * 12 + 9, .none⟩ = some (.slice pa pl pc) := hc 9 _ rfl
      have d10 : wr.cell? ⟨b, off + j * 12 + 10, .none⟩ = some (.string nm) := hc 10 _ rfl
      have d11 : wr.cell? ⟨b, off + j * 12 + 11, .none⟩ = some (.slice qa ql qc) := hc 11 _ rfl
      simp only at hs
      have HAJ := Lib.hid hA
      clear hc hr hl ho hA
      obtain ⟨b1, hb1⟩ : ∃ v, decide (60 < (pl : Int)) = v := ⟨_, rfl⟩
      obtain ⟨b2, hb2⟩ : ∃ v, decide (20 < (ql : Int)) = v := ⟨_, rfl⟩
      obtain ⟨b3, hb3⟩ : ∃ v, decide (30 < (nm.size : Int)) = v := ⟨_, rfl⟩
      cases b1
      · cases b2
        · cases b3
          · have HOK : Hid (∀ (i : Nat) x, i < j + 1 → zs[i]? = some x → fewA x) := Lib.hid fun i x hi hx => by
              by_cases e : i = j
              · subst e
                rw [HAJ.out] at hx
                cases hx
                simp only [decide_eq_false_iff_not] at hb1 hb3
                exact ⟨by show pl ≤ 60; omega, by show nm.size ≤ 30; omega⟩
              · exact HI.out i x (by omega) hx
            go_wp2_with fail
            go_roundw
            case rel => exact ⟨trivial, j + 1, by go_num, by omega, HOK⟩
            case measure => simp [intOf]; omega
          · go_wp2_with fail
            go_ret
            exact ⟨⟨_, rfl, fun h => by cases h⟩, rfl⟩
        · go_wp2_with fail
          go_ret
          exact ⟨⟨_, rfl, fun h => by cases h⟩, rfl⟩
      · go_wp2_with fail
        go_ret
        exact ⟨⟨_, rfl, fun h => by cases h⟩, rfl⟩
    · have e : j = m := by omega
      subst e
      have HALL : Hid (∀ (i : Nat) x, zs[i]? = some x → fewA x) := Lib.hid fun i x hx => HI.out i x (by have := (List.getElem?_eq_some_iff.1 hx).1; have := HM.out; omega) hx
      go_wp2_with fail
      go_ret
      exact ⟨⟨_, rfl, fun h => ⟨by simp at h; omega, HALL.out⟩⟩, rfl⟩
end Go.Proofs.Ytgjdabneodkmpaa
