/- Acts that come in. -/
import Derived.Test.YtgjdabneodkmpaaStRk
namespace Go.Proofs.Ytgjdabneodkmpaa
open Go.RowKit
set_option linter.unusedVariables false
set_option linter.unusedSimpArgs false

def ActE (w : World) (cs : List Value) (x : ActP × List UInt8) : Prop := cs = x.1.cs.toList ∧ Row w x.1.pa x.1.pc x.2 ∧ x.2.length = x.1.pl ∧ (-9223372036854775808 ≤ x.1.off ∧ x.1.off ≤ 9223372036854775807) ∧ x.1.nm.size ≤ 9223372036854775807
def KeyE (cs : List Value) (k : K4) : Prop := cs = [.int .i64 k.a, .int .i64 k.b, .int .i64 k.c, .int .i64 k.d]
set_option maxRecDepth 20000 in
theorem opens_key {w : World} : Opens w 27 KeyE :=
  Opens.fields Try.underlying27 (by kernel_rfl : Try.prog.cellsOf 27 = 4) fun cs hl hf => by
    obtain ⟨x0, h0, _⟩ := hf 0 _ rfl _ _ (Opens.int (k := .i64) Try.underlying3)
    obtain ⟨x1, h1, _⟩ := hf 1 _ rfl _ _ (Opens.int (k := .i64) Try.underlying3)
    obtain ⟨x2, h2, _⟩ := hf 2 _ rfl _ _ (Opens.int (k := .i64) Try.underlying3)
    obtain ⟨x3, h3, _⟩ := hf 3 _ rfl _ _ (Opens.int (k := .i64) Try.underlying3)
    refine ⟨⟨x0, x1, x2, x3⟩, ?_⟩
    match cs, hl with
    | [a, b, c, d], _ =>
      have e1 : Try.prog.cellsOf 3 = 1 := by kernel_rfl
      simp [e1] at h0
      simp [e1] at h1
      simp [e1] at h2
      simp [e1] at h3
      simp [KeyE, h0, h1, h2, h3]
set_option maxRecDepth 20000 in
theorem opens_act {w : World} : Opens w 44 (ActE w) :=
  Opens.fields Try.underlying44 (by kernel_rfl : Try.prog.cellsOf 44 = 12) fun cs hl hf => by
    obtain ⟨x0, h0, _⟩ := hf 0 _ rfl _ _ (Opens.int (k := .i64) Try.underlying3)
    obtain ⟨x1, h1, _⟩ := hf 1 _ rfl _ _ (Opens.int (k := .i64) Try.underlying3)
    obtain ⟨x2, h2, w2⟩ := hf 2 _ rfl _ _ (Opens.int (k := .i64) Try.underlying3)
    obtain ⟨x3, h3, _⟩ := hf 3 _ rfl _ _ (Opens.int (k := .i64) Try.underlying3)
    obtain ⟨x4, h4⟩ := hf 4 _ rfl _ _ (Opens.bool Try.underlying4)
    obtain ⟨x5, h5⟩ := hf 5 _ rfl _ _ opens_key
    obtain ⟨x6, a6, c6, h6, r6⟩ := hf 6 _ rfl _ _ (Opens.bytes (w := w) Try.underlying31 Try.underlying5 (by kernel_rfl))
    obtain ⟨x7, h7, l7⟩ := hf 7 _ rfl _ _ (Opens.str Try.underlying9)
    obtain ⟨x8, a8, c8, h8, r8⟩ := hf 8 _ rfl _ _ (Opens.slice (w := w) (sz := 1) Try.underlying34 (by kernel_rfl) (Opens.int (k := .i64) Try.underlying3))
    refine ⟨(⟨x0, x1, x2, x3, x4, x5, a6, x6.length, c6, ⟨x7.toArray⟩, a8, x8.length, c8⟩, x6), ?_, r6, rfl, ?_, ?_⟩
    · unfold BoolE at h4
      unfold KeyE at h5
      have e1 : Try.prog.cellsOf 3 = 1 := by kernel_rfl
      have e2 : Try.prog.cellsOf 4 = 1 := by kernel_rfl
      have e3 : Try.prog.cellsOf 27 = 4 := by kernel_rfl
      have e4 : Try.prog.cellsOf 31 = 1 := by kernel_rfl
      have e5 : Try.prog.cellsOf 9 = 1 := by kernel_rfl
      have e6 : Try.prog.cellsOf 34 = 1 := by kernel_rfl
      match cs, hl with
      | [y0, y1, y2, y3, y4, y5, y6, y7, y8, y9, y10, y11], _ =>
        simp [e1] at h0 h1 h2 h3
        simp [e2] at h4
        simp [e3] at h5
        simp [e4] at h6
        simp [e5] at h7
        simp [e6] at h8
        simp [ActP.cs, h0, h1, h2, h3, h4, h5, h6, h7, h8]
    · simp [Lit.wf] at w2; exact w2
    · show x7.toArray.size ≤ _
      unfold maxLen at l7
      simpa using l7
theorem RowE.arow {w : World} {a : Option Addr} {cap : Nat} {zs : List (ActP × List UInt8)} (h : RowE w 12 (ActE w) a cap zs) : ARow w a cap zs := by
  refine ⟨h.1, h.2.2.1, fun x hx i A l he => ?_⟩
  have hsp : x.spot = none := by
    have hi := (List.getElem?_eq_some_iff.1 he).1
    obtain ⟨cs, h1, h2, h3, _⟩ := h.2.2.2 x hx 0 zs[0] (List.getElem?_eq_getElem (by omega))
    have c0 := h2 0 (by omega)
    rw [h3] at c0
    exact World.cell?_spot c0
  obtain ⟨cs, h1, h2, h3, h4, h5, h6, h7⟩ := h.2.2.2 x hx i (A, l) he
  simp only at h3 h4 h5 h6 h7
  refine ⟨hsp, fun r v hv => ?_, h4, h5, h6, h7⟩
  have hr : r < 12 := by
    have := (Array.getElem?_eq_some_iff.1 hv).1
    simpa [ActP.cs] using this
  have c := h2 r hr
  rw [add_add hsp, h3] at c
  rw [c]
  simpa using hv
end Go.Proofs.Ytgjdabneodkmpaa
