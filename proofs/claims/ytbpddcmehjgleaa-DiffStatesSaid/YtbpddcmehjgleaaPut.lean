/- What is put: package bits' and the document's own. -/
import Derived.Test.YtbpddcmehjgleaaRows
import Derived.Test.YtbpddcmehjgleaaPlain
import Derived.Test.YtbpddcmehjgleaaInts
import Derived.Test.YtbpddcmehjgleaaSl
import Derived.WalkKit
import Derived.WalkSpells
import Derived.WalkLawsBesides
import Derived.Handy
import Derived.Lib.Hide
namespace Go.Proofs.Ytbpddcmehjgleaa
open Go.RowKit
set_option linter.unusedVariables false

set_option maxHeartbeats 400000 in
theorem copied_any (a : Option Addr) (n cap : Nat) (l : List UInt8) (k : Int) (w : World) (hr : Row w a cap l) (hn : l.length = n) (h0 : 0 ≤ k) (h1 : n + k ≤ 140737488355328) :
    Calls Try.prog 59 #[.slice a n cap, .int .i64 k] w fun e w' => ∃ v, e = .returned v ∧ Own w w' v l := by
  obtain ⟨K, rfl⟩ := Int.eq_ofNat_of_zero_le h0
  have hmk := hr.1
  go_enter Try.func59, Try.ntmps59
  go_wp2_with (first
    | (at_make; refine wp_make rfl _ _ rfl w (Below.refl _ _) _ _ _ (n + K) rfl rfl (by simp) (by omega) ?_; intro w1 hown1 hb1)
    | (at_builtin; refine wp_row rfl _ _ rfl _ _ rfl w hown1 a cap n l (hr.later hb1) hn rfl (by simp; omega) ?_; intro v2 w2 hown2))
  go_ret
  exact ⟨_, rfl, by simpa using hown2⟩

/-- Put's answer. -/
def putA (l : List UInt8) (n : Nat) (width : Int) : List UInt8 := if 1 ≤ width ∧ width ≤ 8 then l ++ putL n width.toNat else l

theorem byte_at (n : Nat) (k : Nat) : IntKind.u8.wrap ((n : Int) / 2 ^ (8 * k)) = ((UInt8.ofNat (n / 256 ^ k)).toNat : Int) := by
  have e : ((2 : Int) ^ (8 * k)) = ((256 ^ k : Nat) : Int) := by rw [pow_cast, Nat.pow_mul]
  rw [IntKind.wrap_u8, e, UInt8.toNat_ofNat']
  omega

theorem byte_or (m : Nat) (hm : m < 18446744073709551616) : bits .or .u8 (IntKind.u8.wrap (m : Int)) 128 = ((UInt8.ofNat (m % 128 + 128)).toNat : Int) := by
  rw [IntKind.wrap_u8, show (m : Int) % 256 = ((m % 256 : Nat) : Int) by omega, show (128 : Int) = ((128 : Nat) : Int) from rfl, u8_or_nat _ _ (by omega) (by decide), UInt8.toNat_ofNat']
  have h : m % 256 ||| 128 = m % 128 + 128 := by
    rcases (show m % 256 < 128 ∨ 128 ≤ m % 256 by omega) with h | h
    · rw [Nat.or_comm, nat_join 7 128 _ (by decide) (by omega)]; omega
    · have e : m % 256 = 128 ||| (m % 128) := by rw [nat_join 7 128 _ (by decide) (by omega)]; omega
      rw [e, Nat.or_comm, ← Nat.or_assoc, Nat.or_self, nat_join 7 128 _ (by decide) (by omega)]; omega
  rw [h]; omega
theorem byte_small {m : Nat} (h : m < 256) : (m : Int) = ((UInt8.ofNat m).toNat : Int) := by
  rw [UInt8.toNat_ofNat']; omega
theorem byte_low (m : Nat) : IntKind.u8.wrap (m : Int) = ((UInt8.ofNat m).toNat : Int) := by
  rw [IntKind.wrap_u8, UInt8.toNat_ofNat']; omega

set_option maxHeartbeats 1000000 in
theorem var_any (a : Option Addr) (m cap : Nat) (l : List UInt8) (k : Int) (w : World) (hr : Row w a cap l) (hm : l.length = m) (hlen : m ≤ 100000) (hk : k ≤ 9223372036854775807) :
    Calls Try.prog 46 #[.slice a m cap, .int .i64 k] w fun e w' => ∃ v, e = .returned v ∧ Own w w' v (l ++ varL k.toNat) := by
  obtain ⟨N, hN⟩ : ∃ N : Nat, N = k.toNat := ⟨_, rfl⟩
  have hN2 : N < 9223372036854775808 := by omega
  rw [← hN]
  have h9 := varL_nine hN2
  rcases (show k < 0 ∨ 0 ≤ k by omega) with h | h
  all_goals
    have hz : Hid ((N : Int) = max k 0) := by unfold Hid; omega
    clear hN
    go_enter Try.func46, Try.ntmps46
    go_wp2_with (go_at_call 59; refine (copied_any _ _ _ l _ _ hr hm (by omega) (by omega)).mono ?_; rintro e w1 ⟨v1, rfl, hown1⟩)
    go_loopw [5, 6] (fun v r wr => ∃ (R : Nat) (p : List UInt8), r = .int .u64 R ∧ Own w wr v (l ++ p) ∧ Hid (p ++ varL R = varL N) ∧ p.length ≤ 9 ∧ R < 9223372036854775808) (fun _ r _ => (intOf r).toNat)
    case atStart => exact ⟨N, [], congrArg (Value.int IntKind.u64) (by have := hz.out; omega), by simpa using hown1, by unfold Hid; simp, by simp, hN2⟩
    case round =>
      obtain ⟨R, p, rfl, hown, HQ, hp, hR⟩ := hrel
      clear hown1
      by_cases c : R < 128
      · have HF : Hid (l ++ varL N = l ++ p ++ [UInt8.ofNat R]) := by
          have := HQ.out
          unfold Hid; rw [← this, varL_lo c, List.append_assoc]
        go_wp2_with (at_builtin; refine wp_byte rfl _ _ rfl _ _ rfl w hown _ (UInt8.ofNat R) (byte_small (by omega)) rfl (by simp; omega) ?_; intro v2 w2 hown2)
        go_ret
        exact ⟨_, rfl, by rw [HF.out]; exact hown2⟩
      · have HF : Hid (p ++ [UInt8.ofNat (R % 128 + 128)] ++ varL (R / 128) = varL N) := by
          have := HQ.out
          unfold Hid; rw [← this, varL_hi (n := R) (by omega)]; simp
        have hp2 : (p ++ [UInt8.ofNat (R % 128 + 128)]).length ≤ 9 := by
          have := congrArg List.length HF.out
          rw [List.length_append] at this
          omega
        go_wp2_with (at_builtin; refine wp_byte rfl _ _ rfl _ _ rfl w hown _ (UInt8.ofNat (R % 128 + 128)) (byte_or R (by omega)) rfl (by simp; omega) ?_; intro v2 w2 hown2)
        go_roundw
        case rel => exact ⟨R / 128, p ++ [UInt8.ofNat (R % 128 + 128)], by go_num, by simpa using hown2, HF, hp2, by omega⟩
        case measure => simp [intOf]; omega

/-! ### the document's own -/
theorem byte_or_ref (R : Nat) (hR : R < 9223372036854775808) : bits .or .i64 (bits .and .i64 (R : Int) 127) 128 % 256 = ((UInt8.ofNat (R % 128 + 128)).toNat : Int) := by
  rw [show (127 : Int) = ((127 : Nat) : Int) from rfl, i64_and_nat R 127 hR (by decide), nat_mask7, show (128 : Int) = ((128 : Nat) : Int) from rfl, i64_or_nat _ 128 (by omega) (by decide), UInt8.toNat_ofNat',
    Nat.or_comm, nat_join 7 128 _ (by decide) (by omega)]
  omega

set_option maxHeartbeats 1000000 in
theorem rvar_any (a : Option Addr) (m cap : Nat) (l : List UInt8) (k : Int) (w : World) (hr : Row w a cap l) (hm : l.length = m) (hlen : m ≤ 100000) (hk : k ≤ 9223372036854775807) :
    Calls Try.prog 48 #[.slice a m cap, .int .i64 k] w fun e w' => ∃ v, e = .returned v ∧ Own w w' v (l ++ varL k.toNat) := by
  have he := own_empty (Below.refl w.heap.size w)
  obtain ⟨N, hN⟩ : ∃ N : Nat, N = k.toNat := ⟨_, rfl⟩
  have hN2 : N < 9223372036854775808 := by omega
  rw [← hN]
  have h9 := varL_nine hN2
  rcases (show k < 0 ∨ 0 ≤ k by omega) with h | h
  all_goals
    have hz : Hid ((N : Int) = max k 0) := by unfold Hid; omega
    clear hN
    go_enter Try.func48, Try.ntmps48
    go_wp2_with (at_builtin; refine wp_row rfl _ _ rfl _ _ rfl w he a cap m l (hr.later ((Below.refl _ _).alloc (Nat.le_refl _) _)) hm rfl (by simp; omega) ?_; intro v1 w1 hown1)
    go_loopw [1, 5] (fun r v wr => ∃ (R : Nat) (p : List UInt8), r = .int .i64 R ∧ Own w wr v (l ++ p) ∧ Hid (p ++ varL R = varL N) ∧ p.length ≤ 9 ∧ R < 9223372036854775808) (fun r _ _ => (intOf r).toNat)
    case atStart => exact ⟨N, [], congrArg (Value.int IntKind.i64) (by have := hz.out; omega), by simpa using hown1, by unfold Hid; simp, by simp, hN2⟩
    case round =>
      obtain ⟨R, p, rfl, hown, HQ, hp, hR⟩ := hrel
      clear hown1
      by_cases c : R < 128
      · have HF : Hid (l ++ varL N = l ++ p ++ [UInt8.ofNat R]) := by
          have := HQ.out
          unfold Hid; rw [← this, varL_lo c, List.append_assoc]
        go_wp2_with (at_builtin; refine wp_byte rfl _ _ rfl _ _ rfl w hown _ (UInt8.ofNat R) (byte_small (by omega)) rfl (by simp; omega) ?_; intro v2 w2 hown2)
        go_ret
        exact ⟨_, rfl, by rw [HF.out]; exact hown2⟩
      · have HF : Hid (p ++ [UInt8.ofNat (R % 128 + 128)] ++ varL (R / 128) = varL N) := by
          have := HQ.out
          unfold Hid; rw [← this, varL_hi (n := R) (by omega)]; simp
        have hp2 : (p ++ [UInt8.ofNat (R % 128 + 128)]).length ≤ 9 := by
          have := congrArg List.length HF.out
          rw [List.length_append] at this
          omega
        go_wp2_with (at_builtin; refine wp_byte rfl _ _ rfl _ _ rfl w hown _ (UInt8.ofNat (R % 128 + 128)) ?hc rfl ?hl ?_)
        case hc => exact byte_or_ref R hR
        case hl => simp; omega
        intro v2 w2 hown2
        clear hown
        go_wp2
        go_roundw
        case rel => exact ⟨R / 128, p ++ [UInt8.ofNat (R % 128 + 128)], by go_num, by simpa using hown2, HF, hp2, by omega⟩
        case measure => simp [intOf]; omega

/-! ### on an empty slice, as texts -/
theorem var_nil (k : Int) (w : World) (hk : k ≤ 9223372036854775807) :
    Calls Try.prog 46 #[.slice none 0 0, .int .i64 k] w fun e w' => ∃ a c, e = .returned (.slice a (varL k.toNat).length c) ∧ Row w' a c (varL k.toNat) ∧ Below w.heap.size w w' := by
  refine (var_any none 0 0 [] k w (Row.none w) rfl (by omega) hk).mono ?_
  rintro e w' ⟨v, rfl, hown⟩
  obtain ⟨a, c, rfl, hr⟩ := hown.row
  exact ⟨a, c, rfl, hr, hown.below⟩
theorem rvar_nil (k : Int) (w : World) (hk : k ≤ 9223372036854775807) :
    Calls Try.prog 48 #[.slice none 0 0, .int .i64 k] w fun e w' => ∃ a c, e = .returned (.slice a (varL k.toNat).length c) ∧ Row w' a c (varL k.toNat) ∧ Below w.heap.size w w' := by
  refine (rvar_any none 0 0 [] k w (Row.none w) rfl (by omega) hk).mono ?_
  rintro e w' ⟨v, rfl, hown⟩
  obtain ⟨a, c, rfl, hr⟩ := hown.row
  exact ⟨a, c, rfl, hr, hown.below⟩
end Go.Proofs.Ytbpddcmehjgleaa
