/- What is put: package bits' and the document's own. -/
import Derived.Test.YtabeleihpnnadaaRows
import Derived.Test.YtabeleihpnnadaaPlain
import Derived.Test.YtabeleihpnnadaaInts
import Derived.Test.YtabeleihpnnadaaSl
import Derived.WalkKit
import Derived.WalkSpells
import Derived.WalkLawsBesides
import Derived.Handy
import Derived.Lib.Hide
namespace Go.Proofs.Ytabeleihpnnadaa
open Go.RowKit
set_option linter.unusedVariables false

/-- Put's answer. -/
def putA (l : List UInt8) (n : Nat) (width : Int) : List UInt8 := if 1 ≤ width ∧ width ≤ 8 then l ++ putL n width.toNat else l

theorem byte_at (n : Nat) (k : Nat) : IntKind.u8.wrap ((n : Int) / 2 ^ (8 * k)) = ((UInt8.ofNat (n / 256 ^ k)).toNat : Int) := by
  have e : ((2 : Int) ^ (8 * k)) = ((256 ^ k : Nat) : Int) := by rw [pow_cast, Nat.pow_mul]
  rw [IntKind.wrap_u8, e, UInt8.toNat_ofNat']
  omega

theorem byte_or (m : Nat) (hm : m < 18446744073709551616) : bits .or .u8 (IntKind.u8.wrap (m : Int)) 128 = ((UInt8.ofNat (m % 128 + 128)).toNat : Int) := by
  rw [IntKind.wrap_u8, show (m : Int) % 256 = ((m % 256 : Nat) : Int) by omega, show (128 : Int) = ((128 : Nat) : Int) from rfl, u8_or_nat _ _ (by omega) (by decide), UInt8.toNat_ofNat']
  have h : m % 256 ||| 128 = m % 128 + 128 := by
    rcases (show m % 256 < 128 ∨ 128 ≤ m % 256 by omega) with h | h
    · rw [Nat.or_comm, nat_join 7 128 _ (by decide) (by omega)]; omega
    · have e : m % 256 = 128 ||| (m % 128) := by rw [nat_join 7 128 _ (by decide) (by omega)]; omega
      rw [e, Nat.or_comm, ← Nat.or_assoc, Nat.or_self, nat_join 7 128 _ (by decide) (by omega)]; omega
  rw [h]; omega
theorem byte_small {m : Nat} (h : m < 256) : (m : Int) = ((UInt8.ofNat m).toNat : Int) := by
  rw [UInt8.toNat_ofNat']; omega
theorem byte_low (m : Nat) : IntKind.u8.wrap (m : Int) = ((UInt8.ofNat m).toNat : Int) := by
  rw [IntKind.wrap_u8, UInt8.toNat_ofNat']; omega

/-! ### the document's own -/
set_option maxHeartbeats 1000000 in
theorem rput_any (a : Option Addr) (m cap : Nat) (l : List UInt8) (n : Nat) (k : Int) (w : World) (hr : Row w a cap l) (hm : l.length = m) (hlen : m ≤ 100000) (hn : n < 18446744073709551616) :
    Calls Try.prog 26 #[.slice a m cap, .int .u64 n, .int .i64 k] w fun e w' => ∃ v, e = .returned v ∧ Own w w' v (putA l n k) := by
  have he := own_empty (Below.refl w.heap.size w)
  by_cases hk : 1 ≤ k ∧ k ≤ 8
  · obtain ⟨hk1, hk2⟩ := hk
    have HP : Hid (putA l n k = l ++ putL n k.toNat) := by unfold Hid putA; rw [if_pos ⟨hk1, hk2⟩]
    obtain ⟨K, rfl⟩ := Int.eq_ofNat_of_zero_le (show 0 ≤ k by omega)
    go_enter Try.func26, Try.ntmps26
    go_wp2_with (at_builtin; refine wp_row rfl _ _ rfl _ _ rfl w he a cap m l (hr.later ((Below.refl _ _).alloc (Nat.le_refl _) _)) hm rfl (by simp; omega) ?_; intro v1 w1 hown1)
    go_loopw [7, 8] (fun v i wr => ∃ j : Nat, i = .int .i64 j ∧ j ≤ K ∧ Own w wr v (l ++ putL n j)) (fun _ i _ => K - (intOf i).toNat)
    case atStart => exact ⟨0, rfl, by omega, by simpa [putL] using hown1⟩
    case round =>
      obtain ⟨j, rfl, hj, hown⟩ := hrel
      clear hown1
      by_cases c : j < K
      · go_wp2_with (at_builtin; refine wp_byte rfl _ _ rfl _ _ rfl w hown _ (UInt8.ofNat (n / 256 ^ j)) ?hc rfl ?hl ?_)
        case hc => exact byte_at n j
        case hl => simp [putL_len]; omega
        intro v2 w2 hown2
        clear hown
        go_wp2
        go_roundw
        case rel => exact ⟨j + 1, by go_num, by omega, by rw [putL_succ]; simpa using hown2⟩
        case measure => simp [intOf]; omega
      · have e : j = K := by omega
        go_wp2
        go_ret
        exact ⟨_, rfl, by rw [HP.out, ← e]; simpa using hown⟩
  · have HP : Hid (putA l n k = l) := by unfold Hid putA; rw [if_neg hk]
    rcases (show k < 1 ∨ 8 < k by omega) with h | h
    all_goals
      clear hk
      go_enter Try.func26, Try.ntmps26
      go_wp2_with (at_builtin; refine wp_row rfl _ _ rfl _ _ rfl w he a cap m l (hr.later ((Below.refl _ _).alloc (Nat.le_refl _) _)) hm rfl (by simp; omega) ?_; intro v1 w1 hown1)
      refine wp_loop_rounds 1 ?_
      rw [rounds_succ]
      go_wp2
      go_ret
      exact ⟨_, rfl, by rw [HP.out]; simpa using hown1⟩

theorem byte_or_ref (R : Nat) (hR : R < 9223372036854775808) : bits .or .i64 (bits .and .i64 (R : Int) 127) 128 % 256 = ((UInt8.ofNat (R % 128 + 128)).toNat : Int) := by
  rw [show (127 : Int) = ((127 : Nat) : Int) from rfl, i64_and_nat R 127 hR (by decide), nat_mask7, show (128 : Int) = ((128 : Nat) : Int) from rfl, i64_or_nat _ 128 (by omega) (by decide), UInt8.toNat_ofNat',
    Nat.or_comm, nat_join 7 128 _ (by decide) (by omega)]
  omega

/-! ### on an empty slice, as texts -/
end Go.Proofs.Ytabeleihpnnadaa
