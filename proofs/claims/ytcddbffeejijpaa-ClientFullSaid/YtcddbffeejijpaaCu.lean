/- Clients: rows of them; which may be: the program's and the document's own. -/
import Derived.Test.YtcddbffeejijpaaCuPlain
import Derived.Test.YtcddbffeejijpaaGRow
import Derived.Test.YtcddbffeejijpaaInts
import Derived.Test.YtcddbffeejijpaaPut
import Derived.Laws.StructEq
import Derived.Deep.QuietTactic
import Derived.BigQuiet
namespace Go.Proofs.Ytcddbffeejijpaa
open Go.RowKit Go.Proofs
set_option linter.unusedVariables false
set_option linter.unusedSimpArgs false
set_option linter.unnecessarySimpa false

def W64 (n : Int) : Prop := -9223372036854775808 ≤ n ∧ n ≤ 9223372036854775807
def Cu.B (t : Cu) : Prop := W64 t.id ∧ W64 t.pos
def cuV (t : Cu) : List Value := [.int .i64 t.id, .int .i64 t.pos, .bool t.off]
abbrev cuT : RT Cu := ⟨cuV, 3, Cu.B, 39, 22⟩
theorem info_cu : (Try.prog.info? 39).map (fun i => (i.zero, i.size, i.bytes)) = some (some (.agg #[.int .i64 0, .int .i64 0, .bool false]), 3, 24) := by kernel_rfl
theorem cuOk : (cuT).Ok := RT.Ok.of (fun t => rfl) (fun t u h => by
    simp only [cuV, List.mem_cons, List.not_mem_nil, or_false] at h
    rcases h with rfl | rfl | rfl <;> rfl) (by decide) Try.underlying22 info_cu rfl (by decide) rfl
def CuE (cs : List Value) (t : Cu) : Prop := cs = cuV t ∧ t.B
theorem opens_cu {w : World} : Opens w 39 CuE :=
  Opens.fields Try.underlying39 (by kernel_rfl : Try.prog.cellsOf 39 = 3) fun cs hl hf => by
    obtain ⟨a, ha, wa⟩ := hf 0 _ rfl _ _ (Opens.int (k := .i64) Try.underlying3)
    obtain ⟨b, hb, wb⟩ := hf 1 _ rfl _ _ (Opens.int (k := .i64) Try.underlying3)
    obtain ⟨c, hc⟩ := hf 2 _ rfl _ _ (Opens.bool Try.underlying4)
    refine ⟨⟨a, b, c⟩, ?_, wf_i64 wa, wf_i64 wb⟩
    match cs, hl with
    | [x, y, z], _ =>
      have h1 : Try.prog.cellsOf 3 = 1 := by kernel_rfl
      have h2 : Try.prog.cellsOf 4 = 1 := by kernel_rfl
      simp [h1, h2, BoolE] at ha hb hc
      simp [cuV, ha, hb, hc]
abbrev CRow := GRow cuT
abbrev COwn := GOwn cuT
theorem RowE.crow {w : World} {a : Option Addr} {cap : Nat} {ts : List Cu} (h : RowE w 3 CuE a cap ts) : CRow w a cap ts := h.grow rfl (by decide) (fun t => rfl) fun cs t h => h
theorem GRow.c3 {w : World} {a : Option Addr} {cap : Nat} {ts : List Cu} (h : GRow cuT w a cap ts) {i : Nat} {t : Cu} (he : ts[i]? = some t) :
    ∃ b off, a = some ⟨b, off, .none⟩ ∧ w.cell? ⟨b, off + i * 3, .none⟩ = some (.int .i64 t.id) ∧ w.cell? ⟨b, off + i * 3 + 1, .none⟩ = some (.int .i64 t.pos) ∧ w.cell? ⟨b, off + i * 3 + 2, .none⟩ = some (.bool t.off) := by
  obtain ⟨b, off, ha, c⟩ := h.at he
  exact ⟨b, off, ha, c 0 _ rfl, c 1 _ rfl, c 2 _ rfl⟩

/-! ### within -/
set_option maxHeartbeats 800000 in
theorem within_any (k p : Int) (w : World) : Calls Try.prog 34 #[.int .i64 k, .int .i64 p] w fun e w' => e = .returned (.bool (decide (IdOk k) && decide (PosOk p))) ∧ w = w' := by
  have e : (decide (IdOk k) && decide (PosOk p)) = (decide (1 ≤ k) && (decide (k ≤ 1073741824) && (decide (0 ≤ p) && decide (p ≤ 1099511627776)))) := by
    rw [Bool.eq_iff_iff]; simp only [Bool.and_eq_true, decide_eq_true_eq]; unfold IdOk PosOk; omega
  rw [e]
  clear e
  by_cases h1 : 1 ≤ k <;> by_cases h2 : k ≤ 1073741824 <;> by_cases h3 : 0 ≤ p <;> by_cases h4 : p ≤ 1099511627776
  all_goals
    go_enter Try.func34, Try.ntmps34
    go_wp2
    go_ret
    exact ⟨ret_bool (by simp [h1, h2, h3, h4]), rfl⟩
end Go.Proofs.Ytcddbffeejijpaa
