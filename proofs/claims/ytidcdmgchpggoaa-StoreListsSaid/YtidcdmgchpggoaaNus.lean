/- Rows of numbers: two that are alike; the numbers of the 64 keys. -/
import Derived.Test.YtidcdmgchpggoaaNum
import Derived.Test.YtidcdmgchpggoaaStT
import Derived.Test.YtidcdmgchpggoaaStU
import Derived.BigQuiet
namespace Go.Proofs.Ytidcdmgchpggoaa
open Go.RowKit Go.Proofs Go.Shelf Go.Sort
set_option linter.unusedVariables false
set_option linter.unusedSimpArgs false

/-- A row of numbers that lies in a block of its own. -/
def NRow (w : World) (a : Option Addr) (n cap : Nat) (zs : List Nat) : Prop := zs.length = n ∧ n ≤ cap ∧ ∀ (i : Nat) z, zs[i]? = some z → ∃ g, a = some ⟨g, 0, .none⟩ ∧ w.cell? ⟨g, i, .none⟩ = some (.int .i64 (z : Nat))
theorem NRow.later {w w' : World} {a : Option Addr} {n cap : Nat} {zs : List Nat} (h : NRow w a n cap zs) (hb : Below w.heap.size w w') : NRow w' a n cap zs :=
  ⟨h.1, h.2.1, fun i z hz => by obtain ⟨g, e, hc⟩ := h.2.2 i z hz; exact ⟨g, e, (Below.cell hb (World.block_lt_of_cell? w _ hc)).trans hc⟩⟩
theorem IOwn.nrow {W0 w : World} {v : Value} {zs : List Nat} {n : Nat} (h : IOwn W0 w v zs) (hn : zs.length = n) : ∃ a cap, v = .slice a n cap ∧ NRow w a n cap zs := by
  obtain ⟨a, cap, e, h1, h2⟩ := h.row_n hn
  exact ⟨a, cap, e, hn, h1, h2⟩
set_option maxRecDepth 20000 in
theorem isame_any (a1 a2 : Option Addr) (n c1 c2 : Nat) (zs : List Nat) (w : World) (h1 : NRow w a1 n c1 zs) (h2 : NRow w a2 n c2 zs) (hlen : n ≤ 100000) :
    Calls Try.prog 30 #[.slice a1 n c1, .slice a2 n c2] w fun e w' => e = .returned (.bool true) ∧ Below w.heap.size w w' := by
  have H1 := Lib.hid h1
  have H2 := Lib.hid h2
  have hc1 := h1.2.1
  have hc2 := h2.2.1
  clear h1 h2
  go_enter Try.func30, Try.ntmps30
  go_wp2_with fail
  go_loopw [5] (fun i wr => ∃ j : Nat, i = .int .i64 j ∧ j ≤ n ∧ Below w.heap.size w wr) (fun i _ => n - (intOf i).toNat)
  case atStart => exact ⟨0, rfl, by omega, Below.refl _ _⟩
  case round =>
    obtain ⟨j, rfl, hj, hb⟩ := hrel
    have HB := Lib.hid hb
    clear hb
    by_cases hjn : (j : Int) < n
    · obtain ⟨z, hz⟩ : ∃ z, zs[j]? = some z := ⟨zs[j]'(by have := H1.out.1; omega), List.getElem?_eq_getElem _⟩
      obtain ⟨b1, rfl, p1⟩ := (H1.out.later HB.out).2.2 j z hz
      obtain ⟨b2, rfl, p2⟩ := (H2.out.later HB.out).2.2 j z hz
      clear hz
      obtain ⟨y, hy⟩ : ∃ y : Int, ((z : Nat) : Int) = y := ⟨_, rfl⟩
      rw [hy] at p1 p2
      clear hy
      have hbt : (y == y) = true := by simp
      go_upto_region 6 with fail
      go_quiet (fail)
      go_wp2_with fail
      go_roundw
      case rel => exact ⟨j + 1, by go_num, by omega, HB.out.trans ((below_drewN _ _).mono HB.out.size)⟩
      case measure => simp [intOf]; omega
    · have : j = n := by omega
      go_wp2_with fail
      go_ret
      exact ⟨rfl, HB.out⟩

theorem KOut.nums {w : World} {v : Value} {L : List Nat} (h : KOut w v (L.map keyN)) : ∃ a cap, v = .slice a L.length cap ∧ L.length ≤ cap ∧ ∀ (i q : Nat), L[i]? = some q → ∃ b, a = some ⟨b, 0, none⟩ ∧ w.cell? ⟨b, i * 4 + 2, none⟩ = some (.int .i64 ((q / 8 : Nat) : Int)) ∧ w.cell? ⟨b, i * 4 + 3, none⟩ = some (.int .i64 ((q % 8 : Nat) : Int)) := by
  rcases h with ⟨rfl, hk⟩ | ⟨blk, cap, rfl, hr, hc⟩
  · have : L = [] := by simpa using hk
    subst this
    exact ⟨none, 0, rfl, Nat.le_refl _, fun i q hq => by simp at hq⟩
  · rw [List.length_map] at hc ⊢
    refine ⟨_, cap, rfl, hc, fun i q hq => ⟨blk, rfl, ?_, ?_⟩⟩
    · have := hr i (keyN q) (by rw [List.getElem?_map, hq]; rfl) 2 (by omega)
      exact this
    · have := hr i (keyN q) (by rw [List.getElem?_map, hq]; rfl) 3 (by omega)
      exact this
theorem KOut.none {w : World} {v : Value} (h : KOut w v []) : ∃ a cap, v = .slice a 0 cap := by
  rcases h with ⟨rfl, _⟩ | ⟨blk, cap, rfl, _, _⟩
  · exact ⟨_, _, rfl⟩
  · exact ⟨_, _, rfl⟩
theorem takeN_snoc {L : List Nat} {j q : Nat} (h : L[j]? = some q) : L.take (j + 1) = L.take j ++ [q] := by
  rw [List.take_add_one, h]; rfl
theorem step_num {ops : Array Oper} {o : Oper} {a : Act} {w0 : World} {K : Act → World → Prop} {Q : Exit → Act → World → Prop} {E : Prop} (hgd : o.guard = none) (s x : Operand) (ho : o.op = .call { callee := .builtin .append, args := #[s, x], argTypes := #[34, 34] })
    (v : Value) (zs : List Nat) (hs : a.eval s = v) (W0 : World) (hown : IOwn W0 w0 v zs) (c : Int) (z : Nat) (hc : c = z) (hx : a.eval x = .slice (some ⟨w0.heap.size, 0, none⟩) 1 1) (hlen : zs.length + 1 ≤ 1000000)
    (hK : ∀ v' w', IOwn W0 w' v' (zs ++ [z]) → (w0.alloc (.cells #[.int .i64 c] 3)).grownBy w' v.ownBlock → K (a.put o.dst v') w') :
    if Region.wanted o (yielded ops a.tmps) = true then Oper.wp Try.prog o a (w0.alloc (.cells #[.int .i64 c] 3)) K Q else E := by
  have hw : Region.wanted o (yielded ops a.tmps) = true := by simp [Region.wanted, hgd]
  rw [if_pos hw]
  subst hc
  obtain ⟨i0, hi, hz0, hz1, hz2⟩ := info_parts info_i64
  have h1 := hown.later ((Below.refl _ _).alloc (Nat.le_refl _) (.cells #[.int .i64 (z : Nat)] 3))
  have hrec := RecAt.new w0 #[.int .i64 (z : Nat)] 3
  obtain ⟨v', w', hr, h2, h3, h4, h5⟩ := run_append_own_at (P := Try.prog) (w0.alloc (.cells #[.int .i64 (z : Nat)] 3)) W0.heap.size 34 o.type 3 i0 (.int .i64 0) 1 8 Try.underlying34 hi hz0 hz1 hz2 rfl (by decide) v _ _ h1.1 ⟨w0.heap.size, 0, none⟩ 1 1 [.int .i64 (z : Nat)] rfl
    (fun j u hu => by
      have e0 : (⟨w0.heap.size, 0, none⟩ : Addr).add j = ⟨w0.heap.size, j, none⟩ := by unfold Addr.add; split <;> simp_all
      rw [e0]
      exact hrec.cell (by simpa using hu))
    (fun u hu => by
      simp only [List.mem_cons, List.not_mem_nil, or_false] at hu
      rw [hu]; rfl) (by unfold maxLen; omega) (by omega) h1.2.size
  unfold Oper.wp execOp
  simp only [ho, resolve, invoke, builtin, Sem.run_bind, Sem.run_pure, Result.andThen_ok, List.map_toArray, List.map_cons, List.map_nil, hs, hx, hr]
  exact hK _ _ ⟨by simpa using h2, h1.2.grown h3 h1.2.size (fun k hk => (World.ownsRow.lt h1.1 k hk).1)⟩ h3
end Go.Proofs.Ytidcdmgchpggoaa
