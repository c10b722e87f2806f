/- What is put: package bits' and the document's own. -/
import Derived.Test.YtghglbaflmbeoaaRows
import Derived.Test.YtghglbaflmbeoaaPlain
import Derived.Test.YtghglbaflmbeoaaInts
import Derived.Test.YtghglbaflmbeoaaSl
import Derived.WalkKit
import Derived.WalkSpells
import Derived.WalkLawsBesides
import Derived.Handy
import Derived.Lib.Hide
namespace Go.Proofs.Ytghglbaflmbeoaa
open Go.RowKit
set_option linter.unusedVariables false

/-- Put's answer. -/
def putA (l : List UInt8) (n : Nat) (width : Int) : List UInt8 := if 1 ≤ width ∧ width ≤ 8 then l ++ putL n width.toNat else l

theorem byte_at (n : Nat) (k : Nat) : IntKind.u8.wrap ((n : Int) / 2 ^ (8 * k)) = ((UInt8.ofNat (n / 256 ^ k)).toNat : Int) := by
  have e : ((2 : Int) ^ (8 * k)) = ((256 ^ k : Nat) : Int) := by rw [pow_cast, Nat.pow_mul]
  rw [IntKind.wrap_u8, e, UInt8.toNat_ofNat']
  omega

theorem byte_or (m : Nat) (hm : m < 18446744073709551616) : bits .or .u8 (IntKind.u8.wrap (m : Int)) 128 = ((UInt8.ofNat (m % 128 + 128)).toNat : Int) := by
  rw [IntKind.wrap_u8, show (m : Int) % 256 = ((m % 256 : Nat) : Int) by omega, show (128 : Int) = ((128 : Nat) : Int) from rfl, u8_or_nat _ _ (by omega) (by decide), UInt8.toNat_ofNat']
  have h : m % 256 ||| 128 = m % 128 + 128 := by
    rcases (show m % 256 < 128 ∨ 128 ≤ m % 256 by omega) with h | h
    · rw [Nat.or_comm, nat_join 7 128 _ (by decide) (by omega)]; omega
    · have e : m % 256 = 128 ||| (m % 128) := by rw [nat_join 7 128 _ (by decide) (by omega)]; omega
      rw [e, Nat.or_comm, ← Nat.or_assoc, Nat.or_self, nat_join 7 128 _ (by decide) (by omega)]; omega
  rw [h]; omega
theorem byte_small {m : Nat} (h : m < 256) : (m : Int) = ((UInt8.ofNat m).toNat : Int) := by
  rw [UInt8.toNat_ofNat']; omega
theorem byte_low (m : Nat) : IntKind.u8.wrap (m : Int) = ((UInt8.ofNat m).toNat : Int) := by
  rw [IntKind.wrap_u8, UInt8.toNat_ofNat']; omega

/-! ### the document's own -/
theorem byte_or_ref (R : Nat) (hR : R < 9223372036854775808) : bits .or .i64 (bits .and .i64 (R : Int) 127) 128 % 256 = ((UInt8.ofNat (R % 128 + 128)).toNat : Int) := by
  rw [show (127 : Int) = ((127 : Nat) : Int) from rfl, i64_and_nat R 127 hR (by decide), nat_mask7, show (128 : Int) = ((128 : Nat) : Int) from rfl, i64_or_nat _ 128 (by omega) (by decide), UInt8.toNat_ofNat',
    Nat.or_comm, nat_join 7 128 _ (by decide) (by omega)]
  omega

/-! ### on an empty slice, as texts -/
end Go.Proofs.Ytghglbaflmbeoaa
