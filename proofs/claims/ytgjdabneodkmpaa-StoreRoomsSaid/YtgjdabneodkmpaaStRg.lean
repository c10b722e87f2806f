/- The law's acts: ours, key, few; the document's own Barrier. -/
import Derived.Test.YtgjdabneodkmpaaStRf
import Derived.Test.YtgjdabneodkmpaaStT
namespace Go.Proofs.Ytgjdabneodkmpaa
open Go.RowKit
set_option linter.unusedVariables false

set_option maxRecDepth 20000 in
theorem rbarrier_any (w : World) (x : Nat) (room : Int) (h : RefAt w x room) :
    Calls Try.prog 51 #[.pointer (some ⟨x, 0, .none⟩)] w fun e w' => ∃ c, e = .returned (.int .i64 c) ∧ Bt w w' x := by
  have HBU := Lib.hid (rburn_any w x room h)
  obtain ⟨c0, c1, c2, c3, c4⟩ := h.cells
  have f2 : w.frozen? ⟨x, 2, .none⟩ = false := frozen_of_block h 2
  have HE : Hid (Bt w (w.setCell ⟨x, 2, .none⟩ (.slice none 0 0)) x) := Lib.hid (Bt.set _ _ _ _)
  have hrv : RefV (w.setCell ⟨x, 2, .none⟩ (.slice none 0 0)) x room (.slice none 0 0) := by
    unfold RefV
    rw [heap_setCell_same w x 2 _ _ (.slice none 0 0) h]; simp [rcells]
  obtain ⟨w1, hw1⟩ : ∃ W, w.setCell ⟨x, 2, .none⟩ (.slice none 0 0) = W := ⟨_, rfl⟩
  rw [hw1] at HE hrv
  have d1 : w1.cell? ⟨x, 1, .none⟩ = some (.int .i64 0) := cell_of_block hrv rfl
  have g1 : w1.frozen? ⟨x, 1, .none⟩ = false := frozen_of_block hrv 1
  clear h hrv
  go_enter Try.func51, Try.ntmps51
  go_wp2_with fail
  refine HBU.out.mono ?_
  rintro e w' ⟨rfl, rfl⟩
  clear HBU
  go_wp2_with fail
  refine wp_loop_rounds 1 ?_
  rw [rounds_succ]
  go_wp2_with fail
  go_ret
  refine ⟨_, rfl, HE.out.trans (Bt.set _ _ _ _)⟩
theorem NSto.besides {w0 w w' : World} {b x : Nat} {g : Gh} {S : St} (h : NSto w0 w b g S) (hb : Bt w w' x) (hx : g.r x = .own) : NSto w0 w' b g S := by
  have hf : Fr w w' g.r g.r (fun t => t = .own) := ⟨hb.os, hb.tape, hb.output, hb.size, fun y hy hn => hb.block y hy (fun e => hn (by rw [e]; exact hx)), fun _ _ => rfl⟩
  have hd : Dom w' g.r := fun y hy => h.sto.dom y (Nat.le_trans hb.size hy)
  have hs := h.sto.frR hf (fun t ht => ht) hd
  refine ⟨hs, ?_, h.junk⟩
  obtain ⟨b1, b2, b3, b4, b5⟩ := h.below
  refine ⟨hb.os.trans b1, hb.tape.trans b2, hb.output.trans b3, Nat.le_trans b4 hb.size, fun k hk => ?_⟩
  exact (hb.block k (by omega) (fun e => by have := h.junk k hk; rw [e, hx] at this; cases this)).trans (b5 k hk)

/-! ### acts -/
structure ActP where
  what : Int
  which : Int
  off : Int
  n : Int
  raw : Bool
  k : K4
  pa : Option Addr
  pl : Nat
  pc : Nat
  nm : ByteArray
  qa : Option Addr
  ql : Nat
  qc : Nat
def ActP.cs (a : ActP) : Array Value := #[.int .i64 a.what, .int .i64 a.which, .int .i64 a.off, .int .i64 a.n, .bool a.raw, .int .i64 a.k.a, .int .i64 a.k.b, .int .i64 a.k.c, .int .i64 a.k.d, .slice a.pa a.pl a.pc, .string a.nm, .slice a.qa a.ql a.qc]
theorem and7w (n : Int) : ∃ q : Nat, bits .and .i64 n 7 = q ∧ q < 8 := by
  have e : (BitVec.ofInt 64 n &&& BitVec.ofInt 64 7).toNat < 8 := by
    rw [BitVec.toNat_and]
    exact Nat.lt_of_le_of_lt Nat.and_le_right (by decide)
  refine ⟨(BitVec.ofInt 64 n &&& BitVec.ofInt 64 7).toNat, ?_, e⟩
  show IntKind.i64.wrap (((BitVec.ofInt 64 n &&& BitVec.ofInt 64 7).toNat : Nat) : Int) = _
  exact IntWalk.i64_in _ (by omega)
theorem and1w : ∀ q : Nat, q < 8 → bits .and .i64 (q : Int) 1 = ((q % 2 : Nat) : Int) := by decide +kernel
/-- The law's eight keys. -/
def keyW (q : Nat) : K4 := ⟨((2 + q % 2 : Nat) : Int), ((q / 2 % 2 : Nat) : Int), ((q / 4 : Nat) : Int), ((q % 2 : Nat) : Int)⟩
theorem keyW_ok {q : Nat} (h : q < 8) : (keyW q).ok := KEY_ok _ _ _ _ (by omega)
theorem keyW_right {q : Nat} (h : q < 8) : rightK (keyW q) = true := by
  unfold rightK keyW; simp only [decide_eq_true_eq]; omega
theorem rec_snd (w : World) (x : Obj) (cs : Array Value) (t : TypeId) : RecAt ((w.alloc x).alloc (.cells cs t)) (w.heap.size + 1) cs t := by
  have h := RecAt.new (w.alloc x) cs t
  have e : (w.alloc x).heap.size = w.heap.size + 1 := by simp
  rw [e] at h; exact h
theorem below_2 (w : World) (x y : Obj) : Below w.heap.size w ((w.alloc x).alloc y) := ((Below.refl _ _).alloc (Nat.le_refl _) _).alloc (by simp) _
set_option maxRecDepth 20000 in
theorem key_any (A : ActP) (hraw : A.raw = false) (w : World) :
    Calls Try.prog 23 #[.agg A.cs] w fun e w' => ∃ q : Nat, q < 8 ∧ e = .returned (kv (keyW q)) ∧ Below w.heap.size w w' := by
  obtain ⟨wh, wi, off, n, raw, ⟨ka, kb, kc, kd⟩, pa, pl, pc, nm, qa, ql, qc⟩ := A
  simp only at hraw
  subst hraw
  unfold ActP.cs
  simp only
  obtain ⟨q, hq, hq8⟩ := and7w wi
  have hq1 := and1w q hq8
  go_enter Try.func23, Try.ntmps23
  go_wp2_with fail
  refine bodyPost_ret (results_c rfl rfl (rec_snd _ _ _ _) Try.underlying27 rfl (by kernel_rfl)) rfl ?_
  refine ⟨q, hq8, ?_, below_2 _ _ _⟩
  have e2 : (q : Int) / 2 = ((q / 2 : Nat) : Int) := by omega
  have e4 : (q : Int) / 4 = ((q / 4 : Nat) : Int) := by omega
  have e1 : (2 : Int) + (q : Int) % 2 = ((2 + q % 2 : Nat) : Int) := by omega
  have e0 : (q : Int) % 2 = ((q % 2 : Nat) : Int) := by omega
  have e3 := and1w (q / 2) (by omega)
  rw [e1, e2, e3, e4, e0]
  rfl
set_option maxRecDepth 20000 in
theorem ours_any (A : ActP) (w : World) :
    Calls Try.prog 19 #[.agg A.cs] w fun e w' => ∃ q : Nat, q < 7 ∧ e = .returned (.agg ({ A with what := (q : Int), raw := false } : ActP).cs) ∧ Below w.heap.size w w' := by
  obtain ⟨wh, wi, off, n, raw, ⟨ka, kb, kc, kd⟩, pa, pl, pc, nm, qa, ql, qc⟩ := A
  unfold ActP.cs
  simp only
  go_enter Try.func19, Try.ntmps19
  go_wp2_with fail
  obtain ⟨q, hq, hq7⟩ : ∃ q : Nat, wrap64 ((IntKind.u64.wrap wh).tmod 7) = (q : Int) ∧ q < 7 := by
    have h0 : 0 ≤ IntKind.u64.wrap wh := by rw [IntKind.wrap_u64]; omega
    have h1 : (IntKind.u64.wrap wh).tmod 7 = IntKind.u64.wrap wh % 7 := Int.tmod_eq_emod_of_nonneg h0
    refine ⟨(IntKind.u64.wrap wh % 7).toNat, ?_, by omega⟩
    rw [h1]
    unfold wrap64
    omega
  refine bodyPost_ret (results_c rfl rfl (rec_snd _ _ _ _) Try.underlying44 rfl (by kernel_rfl)) rfl ?_
  refine ⟨q, hq7, ?_, below_2 _ _ _⟩
  rw [hq]
/-- An act's row out of memory. -/
structure ActAt (w : World) (A : ActP) (l : List UInt8) : Prop where
  row : Row w A.pa A.pc l
  len : l.length = A.pl
end Go.Proofs.Ytgjdabneodkmpaa
