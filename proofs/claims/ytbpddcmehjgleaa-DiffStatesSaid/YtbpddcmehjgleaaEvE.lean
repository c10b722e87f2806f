/- Events that come in. -/
import Derived.Test.YtbpddcmehjgleaaEvPlain
import Derived.Test.YtbpddcmehjgleaaRd
import Derived.Test.YtbpddcmehjgleaaSl
namespace Go.Proofs.Ytbpddcmehjgleaa
open Go.RowKit
set_option linter.unusedVariables false
set_option linter.unusedSimpArgs false

def EvE (w : World) (cs : List Value) (e : Ev) : Prop := ∃ a c S, cs = [.int .i64 e.kind, .int .i64 e.off, .int .i64 e.len, .slice a e.data.length c, .string S] ∧ S.data.toList = e.name ∧ S.size ≤ 9223372036854775807 ∧ Row w a c e.data
set_option maxRecDepth 20000 in
theorem opens_ev {w : World} : Opens w 46 (EvE w) :=
  Opens.fields Try.underlying46 (by kernel_rfl : Try.prog.cellsOf 46 = 5) fun cs hl hf => by
    obtain ⟨k, hk, _⟩ := hf 0 _ rfl _ _ (Opens.int (k := .i64) Try.underlying3)
    obtain ⟨o, ho, _⟩ := hf 1 _ rfl _ _ (Opens.int (k := .i64) Try.underlying3)
    obtain ⟨m, hm, _⟩ := hf 2 _ rfl _ _ (Opens.int (k := .i64) Try.underlying3)
    obtain ⟨d, a, c, hd, hr⟩ := hf 3 _ rfl _ _ (Opens.bytes (w := w) Try.underlying22 Try.underlying5 (by kernel_rfl))
    obtain ⟨s, hs, hsl⟩ := hf 4 _ rfl _ _ (Opens.str Try.underlying9)
    refine ⟨⟨k, o, m, d, s⟩, a, c, ⟨s.toArray⟩, ?_, by simp, by unfold maxLen at hsl; simpa [ByteArray.size] using hsl, hr⟩
    match cs, hl with
    | [x, y, z, u, v], _ =>
      have h1 : Try.prog.cellsOf 3 = 1 := by kernel_rfl
      have h2 : Try.prog.cellsOf 22 = 1 := by kernel_rfl
      have h3 : Try.prog.cellsOf 9 = 1 := by kernel_rfl
      simp [h1] at hk
      simp [h1] at ho
      simp [h1] at hm
      simp [h2] at hd
      simp [h3] at hs
      simp [hk, ho, hm, hd, hs]
theorem EvE.open {w : World} {cs : Array Value} {e : Ev} (h : EvE w cs.toList e) : ∃ a c S, cs = #[.int .i64 e.kind, .int .i64 e.off, .int .i64 e.len, .slice a e.data.length c, .string S] ∧ S.data.toList = e.name ∧ S.size ≤ 9223372036854775807 ∧ Row w a c e.data := by
  obtain ⟨a, c, S, h1, h2, h3, h4⟩ := h
  exact ⟨a, c, S, by rw [← Array.toArray_toList (xs := cs), h1], h2, h3, h4⟩
end Go.Proofs.Ytbpddcmehjgleaa
