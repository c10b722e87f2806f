/- Sums: what package crc's functions and the document's own come to. -/
import Derived.Test.YtalgjoeinllllaaRows
import Derived.Test.YtalgjoeinllllaaPlain
import Derived.Test.YtalgjoeinllllaaCrcPlain
import Derived.Test.YtalgjoeinllllaaInts
import Derived.Test.YtalgjoeinllllaaSl
import Derived.Test.YtalgjoeinllllaaPut
import Derived.Test.YtalgjoeinllllaaGet
import Derived.Test.YtalgjoeinllllaaCl
import Derived.WalkKit
import Derived.WalkSpells
import Derived.WalkLawsBesides
import Derived.Handy
import Derived.Lib.Hide
import Derived.Lib.SliceRun
namespace Go.Proofs.Ytalgjoeinllllaa
open Go.RowKit
set_option linter.unusedVariables false

/-! ### sums as the walk has them -/
def cI (c : W32) : Int := (c.toNat : Int)
theorem cI_lt (c : W32) : 0 ≤ cI c ∧ cI c < 4294967296 := by unfold cI; have := c.isLt; omega
theorem cI_inj {c d : W32} (h : cI c = cI d) : c = d := BitVec.eq_of_toNat_eq (by unfold cI at h; omega)
theorem ofInt_cI (c : W32) : BitVec.ofInt 32 (cI c) = c := by
  unfold cI; rw [BitVec.ofInt_natCast]; simp
theorem u32_wrap (n : Int) : IntKind.u32.wrap n = n % 4294967296 := IntKind.wrap_u32 n
theorem u32_nat (x : W32) : IntKind.u32.wrap ((x.toNat : Nat) : Int) = cI x := by
  rw [u32_wrap]; have := x.isLt; unfold cI; omega
theorem xor_cI (a b : W32) : bits .xor .u32 (cI a) (cI b) = cI (a ^^^ b) := by
  show IntKind.u32.wrap (((BitVec.ofInt 32 (cI a) ^^^ BitVec.ofInt 32 (cI b)).toNat : Nat) : Int) = _
  rw [ofInt_cI, ofInt_cI]; exact u32_nat _
theorem cI_ofNat {n : Nat} (h : n < 4294967296) : cI (BitVec.ofNat 32 n) = n := by
  unfold cI; rw [BitVec.toNat_ofNat]; omega
theorem cI_byte (u : UInt8) : cI (u.toBitVec.setWidth 32) = (u.toNat : Int) := by
  unfold cI; rw [BitVec.toNat_setWidth]
  have h : u.toBitVec.toNat = u.toNat := rfl
  have := u.toNat_lt
  rw [h]; omega
theorem xor_byte (c : W32) (u : UInt8) : bits .xor .u32 (cI c) (u.toNat : Int) = cI (c ^^^ u.toBitVec.setWidth 32) := by
  rw [← cI_byte, xor_cI]
theorem and_one (c : W32) : bits .and .u32 (cI c) 1 = if c.getLsbD 0 then 1 else 0 := by
  show IntKind.u32.wrap (((BitVec.ofInt 32 (cI c) &&& BitVec.ofInt 32 1).toNat : Nat) : Int) = _
  rw [ofInt_cI]
  have e : c &&& BitVec.ofInt 32 1 = if c.getLsbD 0 then 1#32 else 0#32 := by
    apply BitVec.eq_of_getLsbD_eq
    intro i hi
    rw [BitVec.getLsbD_and, show BitVec.ofInt 32 1 = 1#32 from rfl]
    cases i with
    | zero => cases c.getLsbD 0 <;> simp
    | succ i => cases c.getLsbD 0 <;> simp
  rw [e]
  cases c.getLsbD 0 <;> rfl
theorem shr_one (c : W32) : cI c / (2 : Int) = cI (c >>> 1) := by
  unfold cI; rw [BitVec.toNat_ushiftRight, Nat.shiftRight_eq_div_pow]; omega
theorem xor_poly (c : W32) : bits .xor .u32 (cI c) 2197175160 = cI (c ^^^ poly) := by
  rw [← xor_cI]; rfl
theorem step_odd {c : W32} (h : c.getLsbD 0 = true) : bits .xor .u32 (cI c / 2) 2197175160 = cI (stepB c) := by
  unfold stepB; rw [if_pos h, shr_one, xor_poly]
theorem step_even {c : W32} (h : c.getLsbD 0 = false) : cI c / 2 = cI (stepB c) := by
  unfold stepB; rw [h, shr_one]; rfl

theorem u8_xor (a b : UInt8) : bits .xor .u8 (a.toNat : Int) (b.toNat : Int) = ((a ^^^ b).toNat : Int) := by
  show IntKind.u8.wrap (((BitVec.ofInt 8 (a.toNat : Int) ^^^ BitVec.ofInt 8 (b.toNat : Int)).toNat : Nat) : Int) = _
  have e (x : UInt8) : BitVec.ofInt 8 (x.toNat : Int) = x.toBitVec := by
    rw [BitVec.ofInt_natCast]; exact BitVec.eq_of_toNat_eq (by rw [BitVec.toNat_ofNat]; exact Nat.mod_eq_of_lt x.toNat_lt)
  rw [e, e, IntKind.wrap_u8]
  have : (a.toBitVec ^^^ b.toBitVec).toNat = (a ^^^ b).toNat := rfl
  rw [this]
  have := (a ^^^ b).toNat_lt
  omega
theorem ret_u32 {a b : Int} (h : a = b) : Ending.returned (.int .u32 a) = .returned (.int .u32 b) := by rw [h]

/-! ### rows -/
def bv (l : List UInt8) : List (BitVec 8) := l.map (·.toBitVec)
def crcL (l : List UInt8) : W32 := ofB (bv l)
theorem bv_append (l m : List UInt8) : bv (l ++ m) = bv l ++ bv m := by simp [bv]
theorem bv_len (l : List UInt8) : (bv l).length = l.length := by simp [bv]
theorem run_snoc {l : List UInt8} {j : Nat} {u : UInt8} (hu : l[j]? = some u) (c : W32) : nextB (runB c (bv (l.take j))) u.toBitVec = runB c (bv (l.take (j + 1))) := by
  rw [take_snoc hu, bv_append, runB_append]; rfl
theorem cI_ones : cI ones = 4294967295 := by decide
theorem not_cI (c : W32) : bits .xor .u32 IntKind.u32.max (cI c) = cI (c ^^^ ones) := by
  have : IntKind.u32.max = cI ones := by decide
  rw [this, xor_cI, BitVec.xor_comm]
theorem not_cI' (c : W32) : bits .xor .u32 4294967295 (cI c) = cI (c ^^^ ones) := by
  have : (4294967295 : Int) = cI ones := by decide
  rw [this, xor_cI, BitVec.xor_comm]

/-- Join's answer. -/
def joinB (a b : W32) (n : Int) : W32 := stepN (8 * (min (max n 0) 1048576).toNat) a ^^^ b
theorem next_zero (c : W32) : nextB c 0#8 = stepN 8 c := by unfold nextB; simp
theorem step8 (j : Nat) (c : W32) : stepN 8 (stepN (8 * j) c) = stepN (8 * (j + 1)) c := by
  rw [← stepN_add]; congr 1
/-! ### sealed rows -/
def sealL (l : List UInt8) : List UInt8 := l ++ putL (crcL l).toNat 4
theorem sealL_len (l : List UInt8) : (sealL l).length = l.length + 4 := by simp [sealL, putL_len]
theorem put_seal (l : List UInt8) : putA l (crcL l).toNat 4 = sealL l := by unfold putA; rw [if_pos (by decide)]; rfl
/-- Open's answer: what is ahead of the last four, if these are its sum. -/
def openL (l : List UInt8) : Option (List UInt8) := if 4 ≤ l.length ∧ getL (l.drop (l.length - 4)) = (crcL (l.take (l.length - 4))).toNat then some (l.take (l.length - 4)) else none
theorem open_few {l : List UInt8} (h : l.length < 4) : openL l = none := by unfold openL; rw [if_neg (by omega)]
theorem open_yes {l : List UInt8} {k : Nat} (h : l.length = k + 4) (h2 : getL (l.drop k) = (crcL (l.take k)).toNat) : openL l = some (l.take k) := by
  unfold openL; rw [show l.length - 4 = k by omega, if_pos ⟨by omega, h2⟩]
theorem open_not {l : List UInt8} {k : Nat} (h : l.length = k + 4) (h2 : getL (l.drop k) ≠ (crcL (l.take k)).toNat) : openL l = none := by
  unfold openL; rw [show l.length - 4 = k by omega, if_neg (fun h3 => h2 h3.2)]
theorem get_few {l : List UInt8} (h : l.length < 4) : getA l ((l.length : Int) - 4) 4 = (0, false) := by
  unfold getA; rw [if_neg (by omega)]
theorem get_sum {l : List UInt8} {k : Nat} (h : l.length = k + 4) : getA l (k : Int) 4 = (getL (l.drop k), true) := by
  unfold getA; rw [if_pos ⟨by decide, by decide, by omega, by omega⟩, Int.toNat_natCast, List.take_of_length_le (by simp; omega)]
theorem sum_lt {l : List UInt8} {k : Nat} (h : l.length = k + 4) : getL (l.drop k) < 4294967296 := by
  have := getL_lt (l.drop k)
  rw [List.length_drop, h, show k + 4 - k = 4 by omega] at this
  exact this

end Go.Proofs.Ytalgjoeinllllaa
