/- Sums: what package crc's functions and the document's own come to. -/
import Derived.Test.YtabeleihpnnadaaRows
import Derived.Test.YtabeleihpnnadaaPlain
import Derived.Test.YtabeleihpnnadaaCrcPlain
import Derived.Test.YtabeleihpnnadaaInts
import Derived.Test.YtabeleihpnnadaaSl
import Derived.Test.YtabeleihpnnadaaPut
import Derived.Test.YtabeleihpnnadaaGet
import Derived.Test.YtabeleihpnnadaaCl
import Derived.WalkKit
import Derived.WalkSpells
import Derived.WalkLawsBesides
import Derived.Handy
import Derived.Lib.Hide
import Derived.Lib.SliceRun
namespace Go.Proofs.Ytabeleihpnnadaa
open Go.RowKit
set_option linter.unusedVariables false

/-! ### sums as the walk has them -/
def cI (c : W32) : Int := (c.toNat : Int)
theorem cI_lt (c : W32) : 0 ≤ cI c ∧ cI c < 4294967296 := by unfold cI; have := c.isLt; omega
theorem cI_inj {c d : W32} (h : cI c = cI d) : c = d := BitVec.eq_of_toNat_eq (by unfold cI at h; omega)
theorem ofInt_cI (c : W32) : BitVec.ofInt 32 (cI c) = c := by
  unfold cI; rw [BitVec.ofInt_natCast]; simp
theorem u32_wrap (n : Int) : IntKind.u32.wrap n = n % 4294967296 := IntKind.wrap_u32 n
theorem u32_nat (x : W32) : IntKind.u32.wrap ((x.toNat : Nat) : Int) = cI x := by
  rw [u32_wrap]; have := x.isLt; unfold cI; omega
theorem xor_cI (a b : W32) : bits .xor .u32 (cI a) (cI b) = cI (a ^^^ b) := by
  show IntKind.u32.wrap (((BitVec.ofInt 32 (cI a) ^^^ BitVec.ofInt 32 (cI b)).toNat : Nat) : Int) = _
  rw [ofInt_cI, ofInt_cI]; exact u32_nat _
theorem cI_ofNat {n : Nat} (h : n < 4294967296) : cI (BitVec.ofNat 32 n) = n := by
  unfold cI; rw [BitVec.toNat_ofNat]; omega
theorem cI_byte (u : UInt8) : cI (u.toBitVec.setWidth 32) = (u.toNat : Int) := by
  unfold cI; rw [BitVec.toNat_setWidth]
  have h : u.toBitVec.toNat = u.toNat := rfl
  have := u.toNat_lt
  rw [h]; omega
theorem xor_byte (c : W32) (u : UInt8) : bits .xor .u32 (cI c) (u.toNat : Int) = cI (c ^^^ u.toBitVec.setWidth 32) := by
  rw [← cI_byte, xor_cI]
theorem and_one (c : W32) : bits .and .u32 (cI c) 1 = if c.getLsbD 0 then 1 else 0 := by
  show IntKind.u32.wrap (((BitVec.ofInt 32 (cI c) &&& BitVec.ofInt 32 1).toNat : Nat) : Int) = _
  rw [ofInt_cI]
  have e : c &&& BitVec.ofInt 32 1 = if c.getLsbD 0 then 1#32 else 0#32 := by
    apply BitVec.eq_of_getLsbD_eq
    intro i hi
    rw [BitVec.getLsbD_and, show BitVec.ofInt 32 1 = 1#32 from rfl]
    cases i with
    | zero => cases c.getLsbD 0 <;> simp
    | succ i => cases c.getLsbD 0 <;> simp
  rw [e]
  cases c.getLsbD 0 <;> rfl
theorem shr_one (c : W32) : cI c / (2 : Int) = cI (c >>> 1) := by
  unfold cI; rw [BitVec.toNat_ushiftRight, Nat.shiftRight_eq_div_pow]; omega
theorem xor_poly (c : W32) : bits .xor .u32 (cI c) 2197175160 = cI (c ^^^ poly) := by
  rw [← xor_cI]; rfl
theorem step_odd {c : W32} (h : c.getLsbD 0 = true) : bits .xor .u32 (cI c / 2) 2197175160 = cI (stepB c) := by
  unfold stepB; rw [if_pos h, shr_one, xor_poly]
theorem step_even {c : W32} (h : c.getLsbD 0 = false) : cI c / 2 = cI (stepB c) := by
  unfold stepB; rw [h, shr_one]; rfl

theorem u8_xor (a b : UInt8) : bits .xor .u8 (a.toNat : Int) (b.toNat : Int) = ((a ^^^ b).toNat : Int) := by
  show IntKind.u8.wrap (((BitVec.ofInt 8 (a.toNat : Int) ^^^ BitVec.ofInt 8 (b.toNat : Int)).toNat : Nat) : Int) = _
  have e (x : UInt8) : BitVec.ofInt 8 (x.toNat : Int) = x.toBitVec := by
    rw [BitVec.ofInt_natCast]; exact BitVec.eq_of_toNat_eq (by rw [BitVec.toNat_ofNat]; exact Nat.mod_eq_of_lt x.toNat_lt)
  rw [e, e, IntKind.wrap_u8]
  have : (a.toBitVec ^^^ b.toBitVec).toNat = (a ^^^ b).toNat := rfl
  rw [this]
  have := (a ^^^ b).toNat_lt
  omega
theorem ret_u32 {a b : Int} (h : a = b) : Ending.returned (.int .u32 a) = .returned (.int .u32 b) := by rw [h]

set_option maxHeartbeats 800000 in
theorem next_any (c : W32) (u : UInt8) (w : World) :
    Calls Try.prog 42 #[.int .u32 (cI c), .int .u8 (u.toNat : Int)] w fun e w' => e = .returned (.int .u32 (cI (nextB c u.toBitVec))) ∧ w = w' := by
  have H := Lib.hid (xor_byte c u)
  have hu := u.toNat_lt
  have hc := cI_lt c
  obtain ⟨x, hx⟩ : ∃ x, c ^^^ u.toBitVec.setWidth 32 = x := ⟨_, rfl⟩
  have HN : Hid (nextB c u.toBitVec = stepN 8 x) := by unfold Hid nextB; rw [hx]
  rw [hx] at H
  clear hx
  go_enter Try.func42, Try.ntmps42
  go_wp2
  rw [H.out]
  go_loop [0, 10] (fun d i => ∃ (j : Nat) (y : W32), d = .int .u32 (cI y) ∧ i = .int .i64 j ∧ j ≤ 8 ∧ Hid (stepN (8 - j) y = stepN 8 x)) (fun _ i => 8 - (intOf i).toNat)
  case atStart => exact ⟨0, x, rfl, rfl, by omega, Lib.hid rfl⟩
  case round =>
    obtain ⟨j, y, rfl, rfl, hj, HI⟩ := hrel
    have hy := cI_lt y
    by_cases c : j < 8
    · have HI2 : Hid (stepN (8 - (j + 1)) (stepB y) = stepN 8 x) := by
        have := HI.out
        rw [show 8 - j = (8 - (j + 1)) + 1 by omega] at this
        exact Lib.hid this
      clear HI
      cases hb : y.getLsbD 0 with
      | true =>
        have ha : bits .and .u32 (cI y) 1 = 1 := by rw [and_one, hb]; rfl
        have HS := Lib.hid (step_odd hb)
        clear hb
        go_wp2
        go_round
        case rel => exact ⟨j + 1, stepB y, by rw [← HS.out], by go_num, by omega, HI2⟩
        case measure => simp [intOf]; omega
      | false =>
        have ha : bits .and .u32 (cI y) 1 = 0 := by rw [and_one, hb]; rfl
        have HS := Lib.hid (step_even hb)
        clear hb
        go_wp2
        go_round
        case rel => exact ⟨j + 1, stepB y, by rw [← HS.out], by go_num, by omega, HI2⟩
        case measure => simp [intOf]; omega
    · obtain rfl : j = 8 := by omega
      go_wp2
      go_ret
      exact ⟨ret_u32 (by rw [HN.out, ← HI.out]; rfl), rfl⟩

set_option maxHeartbeats 800000 in
theorem rnext_any (c : W32) (u : UInt8) (w : World) :
    Calls Try.prog 34 #[.int .u32 (cI c), .int .u8 (u.toNat : Int)] w fun e w' => e = .returned (.int .u32 (cI (nextB c u.toBitVec))) ∧ w = w' := by
  have H := Lib.hid (xor_byte c u)
  have hu := u.toNat_lt
  have hc := cI_lt c
  obtain ⟨x, hx⟩ : ∃ x, c ^^^ u.toBitVec.setWidth 32 = x := ⟨_, rfl⟩
  have HN : Hid (nextB c u.toBitVec = stepN 8 x) := by unfold Hid nextB; rw [hx]
  rw [hx] at H
  clear hx
  go_enter Try.func34, Try.ntmps34
  go_wp2
  rw [H.out]
  go_loop [0, 5] (fun d i => ∃ (j : Nat) (y : W32), d = .int .u32 (cI y) ∧ i = .int .i64 j ∧ j ≤ 8 ∧ Hid (stepN (8 - j) y = stepN 8 x)) (fun _ i => 8 - (intOf i).toNat)
  case atStart => exact ⟨0, x, rfl, rfl, by omega, Lib.hid rfl⟩
  case round =>
    obtain ⟨j, y, rfl, rfl, hj, HI⟩ := hrel
    have hy := cI_lt y
    by_cases c : j < 8
    · have HI2 : Hid (stepN (8 - (j + 1)) (stepB y) = stepN 8 x) := by
        have := HI.out
        rw [show 8 - j = (8 - (j + 1)) + 1 by omega] at this
        exact Lib.hid this
      clear HI
      cases hb : y.getLsbD 0 with
      | true =>
        have ha : bits .and .u32 (cI y) 1 = 1 := by rw [and_one, hb]; rfl
        have HS := Lib.hid (step_odd hb)
        clear hb
        go_wp2
        go_round
        case rel => exact ⟨j + 1, stepB y, by rw [← HS.out], by go_num, by omega, HI2⟩
        case measure => simp [intOf]; omega
      | false =>
        have ha : bits .and .u32 (cI y) 1 = 0 := by rw [and_one, hb]; rfl
        have HS := Lib.hid (step_even hb)
        clear hb
        go_wp2
        go_round
        case rel => exact ⟨j + 1, stepB y, by rw [← HS.out], by go_num, by omega, HI2⟩
        case measure => simp [intOf]; omega
    · obtain rfl : j = 8 := by omega
      go_wp2
      go_ret
      exact ⟨ret_u32 (by rw [HN.out, ← HI.out]; rfl), rfl⟩

/-! ### rows -/
def bv (l : List UInt8) : List (BitVec 8) := l.map (·.toBitVec)
def crcL (l : List UInt8) : W32 := ofB (bv l)
theorem bv_append (l m : List UInt8) : bv (l ++ m) = bv l ++ bv m := by simp [bv]
theorem bv_len (l : List UInt8) : (bv l).length = l.length := by simp [bv]
theorem run_snoc {l : List UInt8} {j : Nat} {u : UInt8} (hu : l[j]? = some u) (c : W32) : nextB (runB c (bv (l.take j))) u.toBitVec = runB c (bv (l.take (j + 1))) := by
  rw [take_snoc hu, bv_append, runB_append]; rfl
theorem cI_ones : cI ones = 4294967295 := by decide
theorem not_cI (c : W32) : bits .xor .u32 IntKind.u32.max (cI c) = cI (c ^^^ ones) := by
  have : IntKind.u32.max = cI ones := by decide
  rw [this, xor_cI, BitVec.xor_comm]
theorem not_cI' (c : W32) : bits .xor .u32 4294967295 (cI c) = cI (c ^^^ ones) := by
  have : (4294967295 : Int) = cI ones := by decide
  rw [this, xor_cI, BitVec.xor_comm]

set_option maxHeartbeats 800000 in
theorem of_any (a : Option Addr) (m cap : Nat) (l : List UInt8) (w : World) (hr : Row w a cap l) (hm : l.length = m) (hlen : m ≤ 100000) :
    Calls Try.prog 40 #[.slice a m cap] w fun e w' => e = .returned (.int .u32 (cI (crcL l))) ∧ w = w' := by
  by_cases h0 : m = 0
  · subst h0
    have e : l = [] := List.length_eq_zero_iff.1 hm
    subst e
    clear hm
    go_enter Try.func40, Try.ntmps40
    go_wp2
    refine wp_loop_rounds 1 ?_
    rw [rounds_succ]
    go_wp2
    go_ret
    exact ⟨ret_u32 (by decide), rfl⟩
  · obtain ⟨b, off, rfl, hc⟩ := hr.at (by omega)
    have hcm := hr.1
    rw [hm] at hcm
    have HC : Hid (cI (crcL l) = cI (runB ones (bv l) ^^^ ones)) := Lib.hid rfl
    have HM := Lib.hid hm
    clear hm
    go_enter Try.func40, Try.ntmps40
    go_wp2
    go_loop [3, 8] (fun d i => ∃ j : Nat, i = .int .i64 j ∧ j ≤ m ∧ d = .int .u32 (cI (runB ones (bv (l.take j))))) (fun _ i => m - (intOf i).toNat)
    case atStart => exact ⟨0, rfl, by omega, by rw [List.take_zero]; exact congrArg (Value.int IntKind.u32) cI_ones.symm⟩
    case round =>
      obtain ⟨j, rfl, hj, rfl⟩ := hrel
      by_cases c : j < m
      · obtain ⟨u, hu⟩ : ∃ u, l[j]? = some u := ⟨l[j]'(by have := HM.out; omega), List.getElem?_eq_getElem _⟩
        have hcell : w.cell? ⟨b, off + j, none⟩ = some (.int .u8 (u.toNat : Int)) := hc j u hu
        have HS := Lib.hid (run_snoc hu ones)
        obtain ⟨y, hy⟩ : ∃ y, runB ones (bv (l.take j)) = y := ⟨_, rfl⟩
        rw [hy] at HS ⊢
        have hb := u.toNat_lt
        clear hc hu hy
        go_wp2_with (go_at_call 42; refine (next_any _ _ _).mono ?_; rintro e w' ⟨rfl, rfl⟩)
        go_round
        case rel => exact ⟨j + 1, by go_num, by omega, by rw [HS.out]⟩
        case measure => simp [intOf]; omega
      · obtain rfl : j = m := by omega
        have HX : Hid (l.take j = l) := by unfold Hid; rw [List.take_of_length_le]; have := HM.out; omega
        rw [HX.out]
        clear HX
        have HN := Lib.hid (not_cI (runB ones (bv l)))
        go_wp2
        go_ret
        exact ⟨ret_u32 (by rw [HC.out]; exact HN.out), rfl⟩

set_option maxHeartbeats 800000 in
theorem rof_any (a : Option Addr) (m cap : Nat) (l : List UInt8) (w : World) (hr : Row w a cap l) (hm : l.length = m) (hlen : m ≤ 100000) :
    Calls Try.prog 32 #[.slice a m cap] w fun e w' => e = .returned (.int .u32 (cI (crcL l))) ∧ w = w' := by
  by_cases h0 : m = 0
  · subst h0
    have e : l = [] := List.length_eq_zero_iff.1 hm
    subst e
    clear hm
    go_enter Try.func32, Try.ntmps32
    go_wp2
    refine wp_loop_rounds 1 ?_
    rw [rounds_succ]
    go_wp2
    go_ret
    exact ⟨ret_u32 (by decide), rfl⟩
  · obtain ⟨b, off, rfl, hc⟩ := hr.at (by omega)
    have hcm := hr.1
    rw [hm] at hcm
    have HC : Hid (cI (crcL l) = cI (runB ones (bv l) ^^^ ones)) := Lib.hid rfl
    have HM := Lib.hid hm
    clear hm
    go_enter Try.func32, Try.ntmps32
    go_wp2
    go_loop [3, 4] (fun d i => ∃ j : Nat, i = .int .i64 j ∧ j ≤ m ∧ d = .int .u32 (cI (runB ones (bv (l.take j))))) (fun _ i => m - (intOf i).toNat)
    case atStart => exact ⟨0, rfl, by omega, by rw [List.take_zero]; exact congrArg (Value.int IntKind.u32) cI_ones.symm⟩
    case round =>
      obtain ⟨j, rfl, hj, rfl⟩ := hrel
      by_cases c : j < m
      · obtain ⟨u, hu⟩ : ∃ u, l[j]? = some u := ⟨l[j]'(by have := HM.out; omega), List.getElem?_eq_getElem _⟩
        have hcell : w.cell? ⟨b, off + j, none⟩ = some (.int .u8 (u.toNat : Int)) := hc j u hu
        have HS := Lib.hid (run_snoc hu ones)
        obtain ⟨y, hy⟩ : ∃ y, runB ones (bv (l.take j)) = y := ⟨_, rfl⟩
        rw [hy] at HS ⊢
        have hb := u.toNat_lt
        clear hc hu hy
        go_wp2_with (go_at_call 34; refine (rnext_any _ _ _).mono ?_; rintro e w' ⟨rfl, rfl⟩)
        go_round
        case rel => exact ⟨j + 1, by go_num, by omega, by rw [HS.out]⟩
        case measure => simp [intOf]; omega
      · obtain rfl : j = m := by omega
        have HX : Hid (l.take j = l) := by unfold Hid; rw [List.take_of_length_le]; have := HM.out; omega
        rw [HX.out]
        clear HX
        have HN := Lib.hid (not_cI (runB ones (bv l)))
        go_wp2
        go_ret
        exact ⟨ret_u32 (by rw [HC.out]; exact HN.out), rfl⟩

/-- Join's answer. -/
def joinB (a b : W32) (n : Int) : W32 := stepN (8 * (min (max n 0) 1048576).toNat) a ^^^ b
theorem next_zero (c : W32) : nextB c 0#8 = stepN 8 c := by unfold nextB; simp
theorem step8 (j : Nat) (c : W32) : stepN 8 (stepN (8 * j) c) = stepN (8 * (j + 1)) c := by
  rw [← stepN_add]; congr 1
/-! ### sealed rows -/
def sealL (l : List UInt8) : List UInt8 := l ++ putL (crcL l).toNat 4
theorem sealL_len (l : List UInt8) : (sealL l).length = l.length + 4 := by simp [sealL, putL_len]
theorem put_seal (l : List UInt8) : putA l (crcL l).toNat 4 = sealL l := by unfold putA; rw [if_pos (by decide)]; rfl
set_option maxHeartbeats 400000 in
theorem rseal_any (a : Option Addr) (m cap : Nat) (l : List UInt8) (w : World) (hr : Row w a cap l) (hm : l.length = m) (hlen : m ≤ 100000) :
    Calls Try.prog 27 #[.slice a m cap] w fun e w' => ∃ v, e = .returned v ∧ Own w w' v (sealL l) := by
  have hl := cI_lt (crcL l)
  have HP := Lib.hid (put_seal l)
  go_enter Try.func27, Try.ntmps27
  go_wp2_with fail
  refine (rof_any a m cap l w hr hm hlen).mono ?_
  rintro e w1 ⟨rfl, rfl⟩
  go_wp2_with fail
  refine (rput_any a m cap l (crcL l).toNat 4 w hr hm hlen (by have := (crcL l).isLt; omega)).mono ?_
  rintro e w1 ⟨v, rfl, ho⟩
  rw [HP.out] at ho
  go_wp2
  go_ret
  exact ⟨_, rfl, ho⟩

/-- Open's answer: what is ahead of the last four, if these are its sum. -/
def openL (l : List UInt8) : Option (List UInt8) := if 4 ≤ l.length ∧ getL (l.drop (l.length - 4)) = (crcL (l.take (l.length - 4))).toNat then some (l.take (l.length - 4)) else none
theorem open_few {l : List UInt8} (h : l.length < 4) : openL l = none := by unfold openL; rw [if_neg (by omega)]
theorem open_yes {l : List UInt8} {k : Nat} (h : l.length = k + 4) (h2 : getL (l.drop k) = (crcL (l.take k)).toNat) : openL l = some (l.take k) := by
  unfold openL; rw [show l.length - 4 = k by omega, if_pos ⟨by omega, h2⟩]
theorem open_not {l : List UInt8} {k : Nat} (h : l.length = k + 4) (h2 : getL (l.drop k) ≠ (crcL (l.take k)).toNat) : openL l = none := by
  unfold openL; rw [show l.length - 4 = k by omega, if_neg (fun h3 => h2 h3.2)]
theorem get_few {l : List UInt8} (h : l.length < 4) : getA l ((l.length : Int) - 4) 4 = (0, false) := by
  unfold getA; rw [if_neg (by omega)]
theorem get_sum {l : List UInt8} {k : Nat} (h : l.length = k + 4) : getA l (k : Int) 4 = (getL (l.drop k), true) := by
  unfold getA; rw [if_pos ⟨by decide, by decide, by omega, by omega⟩, Int.toNat_natCast, List.take_of_length_le (by simp; omega)]
theorem sum_lt {l : List UInt8} {k : Nat} (h : l.length = k + 4) : getL (l.drop k) < 4294967296 := by
  have := getL_lt (l.drop k)
  rw [List.length_drop, h, show k + 4 - k = 4 by omega] at this
  exact this

set_option maxHeartbeats 800000 in
theorem open_any (a : Option Addr) (m cap : Nat) (l : List UInt8) (w : World) (hr : Row w a cap l) (hm : l.length = m) (hlen : m ≤ 100000) :
    Calls Try.prog 36 #[.slice a m cap] w fun e w' => ∃ v, e = .returned (.tuple #[v, .bool (openL l).isSome]) ∧ Own w w' v ((openL l).getD []) := by
  have h0 := Own.nil w
  by_cases h4 : m < 4
  · have HO := Lib.hid (open_few (l := l) (by omega))
    have hg := get_few (l := l) (by omega)
    rw [hm] at hg
    have HG := Lib.hid hg
    clear hg
    go_enter Try.func36, Try.ntmps36
    go_wp2_with fail
    refine (get_any a m cap l _ 4 w hr hm hlen (by omega) (by omega) (by omega) (by omega)).mono ?_
    rw [HG.out]
    rintro e w1 ⟨rfl, rfl⟩
    go_wp2
    go_ret2
    exact ⟨_, by rw [HO.out]; rfl, by rw [HO.out]; exact h0⟩
  · obtain ⟨k, rfl⟩ : ∃ k, m = k + 4 := ⟨m - 4, by omega⟩
    obtain ⟨b, off, rfl, hc⟩ := hr.at (by omega)
    clear hc
    have hcm := hr.1
    rw [hm] at hcm
    have hrk := hr.take k
    have hkl : (l.take k).length = k := by simp; omega
    have hg := get_sum hm
    have hs := sum_lt hm
    have hy := cI_lt (crcL (l.take k))
    by_cases heq : getL (l.drop k) = (crcL (l.take k)).toNat
    · have HO := Lib.hid (open_yes hm heq)
      have HE : Hid ((((getL (l.drop k) : Nat) : Int) != cI (crcL (l.take k))) = false) := by unfold Hid cI; rw [heq]; simp
      clear heq
      obtain ⟨n, hn⟩ : ∃ n, getL (l.drop k) = n := ⟨_, rfl⟩
      rw [hn] at hg hs HE
      have HG := Lib.hid hg
      clear hg hn
      obtain ⟨y, hy2⟩ : ∃ y, crcL (l.take k) = y := ⟨_, rfl⟩
      rw [hy2] at HE hy
      have HY := Lib.hid hy2
      clear hy2
      go_enter Try.func36, Try.ntmps36
      go_wp2_with fail
      refine (get_any _ (k + 4) cap l k 4 w hr hm hlen (by omega) (by omega) (by omega) (by omega)).mono ?_
      rw [HG.out]
      rintro e w1 ⟨rfl, rfl⟩
      go_wp2_with fail
      refine (of_any _ k cap _ w hrk hkl (by omega)).mono ?_
      rw [HY.out]
      rintro e w1 ⟨rfl, rfl⟩
      have hE := HE.out
      go_wp2_with fail
      clear hE
      refine (clone_any _ k cap _ w hrk hkl (by omega)).mono ?_
      rintro e w1 ⟨v, rfl, ho⟩
      go_wp2
      go_ret2
      exact ⟨_, by rw [HO.out]; rfl, by rw [HO.out]; exact ho⟩
    · have HO := Lib.hid (open_not hm heq)
      have HE : Hid ((((getL (l.drop k) : Nat) : Int) != cI (crcL (l.take k))) = true) := by unfold Hid cI; simp; omega
      clear heq
      obtain ⟨n, hn⟩ : ∃ n, getL (l.drop k) = n := ⟨_, rfl⟩
      rw [hn] at hg hs HE
      have HG := Lib.hid hg
      clear hg hn
      obtain ⟨y, hy2⟩ : ∃ y, crcL (l.take k) = y := ⟨_, rfl⟩
      rw [hy2] at HE hy
      have HY := Lib.hid hy2
      clear hy2
      go_enter Try.func36, Try.ntmps36
      go_wp2_with fail
      refine (get_any _ (k + 4) cap l k 4 w hr hm hlen (by omega) (by omega) (by omega) (by omega)).mono ?_
      rw [HG.out]
      rintro e w1 ⟨rfl, rfl⟩
      go_wp2_with fail
      refine (of_any _ k cap _ w hrk hkl (by omega)).mono ?_
      rw [HY.out]
      rintro e w1 ⟨rfl, rfl⟩
      have hE := HE.out
      go_wp2
      go_ret2
      exact ⟨_, by rw [HO.out]; rfl, by rw [HO.out]; exact h0⟩
set_option maxHeartbeats 800000 in
theorem ropen_any (a : Option Addr) (m cap : Nat) (l : List UInt8) (w : World) (hr : Row w a cap l) (hm : l.length = m) (hlen : m ≤ 100000) :
    Calls Try.prog 31 #[.slice a m cap] w fun e w' => ∃ v, e = .returned (.tuple #[v, .bool (openL l).isSome]) ∧ Own w w' v ((openL l).getD []) := by
  have h0 := Own.nil w
  by_cases h4 : m < 4
  · have HO := Lib.hid (open_few (l := l) (by omega))
    go_enter Try.func31, Try.ntmps31
    go_wp2
    go_ret2
    exact ⟨_, by rw [HO.out]; rfl, by rw [HO.out]; exact h0⟩
  · obtain ⟨k, rfl⟩ : ∃ k, m = k + 4 := ⟨m - 4, by omega⟩
    obtain ⟨b, off, rfl, hc⟩ := hr.at (by omega)
    clear hc
    have hcm := hr.1
    rw [hm] at hcm
    have hrk := hr.take k
    have hkl : (l.take k).length = k := by simp; omega
    have hg := get_sum hm
    have hs := sum_lt hm
    have hy := cI_lt (crcL (l.take k))
    by_cases heq : getL (l.drop k) = (crcL (l.take k)).toNat
    · have HO := Lib.hid (open_yes hm heq)
      have HE : Hid ((((getL (l.drop k) : Nat) : Int) != cI (crcL (l.take k))) = false) := by unfold Hid cI; rw [heq]; simp
      clear heq
      obtain ⟨n, hn⟩ : ∃ n, getL (l.drop k) = n := ⟨_, rfl⟩
      rw [hn] at hg hs HE
      have HG := Lib.hid hg
      clear hg hn
      obtain ⟨y, hy2⟩ : ∃ y, crcL (l.take k) = y := ⟨_, rfl⟩
      rw [hy2] at HE hy
      have HY := Lib.hid hy2
      clear hy2
      go_enter Try.func31, Try.ntmps31
      go_wp2_with fail
      refine (rget_any _ (k + 4) cap l k 4 w hr hm hlen (by omega) (by omega) (by omega) (by omega)).mono ?_
      rw [HG.out]
      rintro e w1 ⟨rfl, rfl⟩
      go_wp2_with fail
      refine (rof_any _ k cap _ w hrk hkl (by omega)).mono ?_
      rw [HY.out]
      rintro e w1 ⟨rfl, rfl⟩
      have hE := HE.out
      have he := own_empty (Below.refl w.heap.size w)
      go_wp2_with (at_builtin; refine wp_row rfl _ _ rfl _ _ rfl w he (some ⟨b, off, none⟩) cap k _ (hrk.later ((Below.refl _ _).alloc (Nat.le_refl _) _)) hkl rfl (by simp; omega) ?_; intro v1 w1 ho)
      rw [List.nil_append] at ho
      go_wp2
      go_ret2
      exact ⟨_, by rw [HO.out]; rfl, by rw [HO.out]; exact ho⟩
    · have HO := Lib.hid (open_not hm heq)
      have HE : Hid ((((getL (l.drop k) : Nat) : Int) != cI (crcL (l.take k))) = true) := by unfold Hid cI; simp; omega
      clear heq
      obtain ⟨n, hn⟩ : ∃ n, getL (l.drop k) = n := ⟨_, rfl⟩
      rw [hn] at hg hs HE
      have HG := Lib.hid hg
      clear hg hn
      obtain ⟨y, hy2⟩ : ∃ y, crcL (l.take k) = y := ⟨_, rfl⟩
      rw [hy2] at HE hy
      have HY := Lib.hid hy2
      clear hy2
      go_enter Try.func31, Try.ntmps31
      go_wp2_with fail
      refine (rget_any _ (k + 4) cap l k 4 w hr hm hlen (by omega) (by omega) (by omega) (by omega)).mono ?_
      rw [HG.out]
      rintro e w1 ⟨rfl, rfl⟩
      go_wp2_with fail
      refine (rof_any _ k cap _ w hrk hkl (by omega)).mono ?_
      rw [HY.out]
      rintro e w1 ⟨rfl, rfl⟩
      have hE := HE.out
      go_wp2
      go_ret2
      exact ⟨_, by rw [HO.out]; rfl, by rw [HO.out]; exact h0⟩
end Go.Proofs.Ytabeleihpnnadaa
