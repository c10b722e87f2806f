/- Records of an image that come in. -/
import Derived.Test.YtfjplhjlmilcfaaHdC
import Derived.Test.YtfjplhjlmilcfaaRd
namespace Go.Proofs.Ytfjplhjlmilcfaa
open Go.RowKit Go.Proofs
set_option linter.unusedVariables false
set_option linter.unusedSimpArgs false

def HdE (w : World) (cs : List Value) (h : Hd) : Prop := ∃ a c, cs = [.int .i64 h.size, .int .i64 h.order, .int .i64 h.unit, .int .i64 h.count, .int .i64 h.next, .int .i64 h.seq, .slice a h.marks.length c] ∧ MRow w a c h.marks
def LayE (cs : List Value) (t : Int × Int × Int) : Prop := cs = [.int .i64 t.1, .int .i64 t.2.1, .int .i64 t.2.2]
theorem opens_lay {w : World} : Opens w 23 LayE :=
  Opens.fields Try.underlying23 (by kernel_rfl : Try.prog.cellsOf 23 = 3) fun cs hl hf => by
    obtain ⟨x0, h0, _⟩ := hf 0 _ rfl _ _ (Opens.int (k := .i64) Try.underlying3)
    obtain ⟨x1, h1, _⟩ := hf 1 _ rfl _ _ (Opens.int (k := .i64) Try.underlying3)
    obtain ⟨x2, h2, _⟩ := hf 2 _ rfl _ _ (Opens.int (k := .i64) Try.underlying3)
    refine ⟨(x0, x1, x2), ?_⟩
    match cs, hl with
    | [a, b, c], _ =>
      have e1 : Try.prog.cellsOf 3 = 1 := by kernel_rfl
      simp [e1] at h0
      simp [e1] at h1
      simp [e1] at h2
      simp [LayE, h0, h1, h2]
set_option maxRecDepth 20000 in
theorem opens_hd {w : World} : Opens w 26 (HdE w) :=
  Opens.fields Try.underlying26 (by kernel_rfl : Try.prog.cellsOf 26 = 7) fun cs hl hf => by
    obtain ⟨x0, h0, _⟩ := hf 0 _ rfl _ _ (Opens.int (k := .i64) Try.underlying3)
    obtain ⟨x1, h1⟩ := hf 1 _ rfl _ _ opens_lay
    obtain ⟨x2, h2, _⟩ := hf 2 _ rfl _ _ (Opens.int (k := .i64) Try.underlying3)
    obtain ⟨x3, h3, _⟩ := hf 3 _ rfl _ _ (Opens.int (k := .i64) Try.underlying3)
    obtain ⟨x4, a4, c4, h4, r4⟩ := hf 4 _ rfl _ _ (Opens.slice (w := w) (sz := 4) Try.underlying24 (by kernel_rfl) opens_mk)
    refine ⟨⟨x0, x1.1, x1.2.1, x1.2.2, x2, x3, x4⟩, a4, c4, ?_, r4.mrow⟩
    unfold LayE at h1
    have e1 : Try.prog.cellsOf 3 = 1 := by kernel_rfl
    have e2 : Try.prog.cellsOf 23 = 3 := by kernel_rfl
    have e3 : Try.prog.cellsOf 24 = 1 := by kernel_rfl
    match cs, hl with
    | [y0, y1, y2, y3, y4, y5, y6], _ =>
      simp [e1] at h0
      simp [e2] at h1
      simp [e1] at h2
      simp [e1] at h3
      simp [e3] at h4
      simp [h0, h1, h2, h3, h4]
theorem HdE.open {w : World} {cs : Array Value} {h : Hd} (k : HdE w cs.toList h) : ∃ a c, cs = #[.int .i64 h.size, .int .i64 h.order, .int .i64 h.unit, .int .i64 h.count, .int .i64 h.next, .int .i64 h.seq, .slice a h.marks.length c] ∧ MRow w a c h.marks := by
  obtain ⟨a, c, h1, h2⟩ := k
  exact ⟨a, c, by rw [← Array.toArray_toList (xs := cs), h1], h2⟩
end Go.Proofs.Ytfjplhjlmilcfaa
