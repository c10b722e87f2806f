/- 'bytes.Clone'. | bytes.Equal; bytes that are the same. | What a number out of bytes is, and where it ends; no program. -/
import Derived.Test.YtiahifpbofkimaaSl
import Derived.Test.YtiahifpbofkimaaRv
import Derived.Test.YtiahifpbofkimaaInts
import Derived.Test.YtiahifpbofkimaaGet
namespace Go.Proofs.Ytiahifpbofkimaa
open Go.RowKit
set_option linter.unusedVariables false

theorem Own.nil (w : World) : Own w w (.slice none 0 0) [] := ⟨World.ownsRow_nil _ _ _ _, Below.refl _ _⟩
theorem row_nil_or {w : World} {a : Option Addr} {cap : Nat} {l : List UInt8} (h : Row w a cap l) : (a = none ∧ l = [] ∧ cap = 0) ∨ ∃ x, a = some x := by
  cases a with
  | none => have := h.of_nil; exact .inl ⟨rfl, this.1, this.2⟩
  | some x => exact .inr ⟨x, rfl⟩

set_option maxHeartbeats 400000 in
theorem clone_any (a : Option Addr) (m cap : Nat) (l : List UInt8) (w : World) (hr : Row w a cap l) (hm : l.length = m) (hlen : m ≤ 100000) :
    Calls Try.prog 66 #[.slice a m cap] w fun e w' => ∃ v, e = .returned v ∧ Own w w' v l := by
  have q (w : World) (a : Option Addr) (n c n' c' : Nat) : (binOp .eql 25 (.slice a n c) (.slice none n' c')).run Try.prog w = .ok (.bool a.isNone) w := Lib.run_eql_slice_nil w _ _ a n c n' c' Try.underlying25
  rcases row_nil_or hr with ⟨rfl, rfl, rfl⟩ | ⟨x, rfl⟩
  · obtain rfl : m = 0 := by simpa using hm.symm
    have ho := Own.nil w
    clear hm
    go_enter Try.func66, Try.ntmps66
    go_wp2
    go_ret
    exact ⟨_, rfl, ho⟩
  · have he := own_empty (Below.refl w.heap.size w)
    go_enter Try.func66, Try.ntmps66
    go_wp2_with (at_builtin; refine wp_row rfl _ _ rfl _ _ rfl w he (some x) cap m l (hr.later ((Below.refl _ _).alloc (Nat.le_refl _) _)) hm rfl (by simp; omega) ?_; intro v1 w1 hown1)
    go_ret
    exact ⟨_, rfl, by simpa using hown1⟩
end Go.Proofs.Ytiahifpbofkimaa
namespace Go.Proofs.Ytiahifpbofkimaa
open Go.RowKit
set_option linter.unusedVariables false
set_option linter.unusedSimpArgs false

theorem sbeq_iff (x y : ByteArray) : (x.toList == y.toList) = true ↔ x = y := by
  rw [beq_iff_eq, ByteArray.toList_eq, ByteArray.toList_eq]
  constructor
  · intro h; cases x; cases y; simpa using h
  · rintro rfl; rfl
theorem sbeq_no {x y : ByteArray} (h : x ≠ y) : (x.toList == y.toList) = false := by
  rw [Bool.eq_false_iff]; exact fun h2 => h ((sbeq_iff x y).1 h2)
theorem bytes_eq {l1 l2 : List UInt8} : ((⟨l1.toArray⟩ : ByteArray) = ⟨l2.toArray⟩) ↔ l1 = l2 := by
  constructor
  · intro h; have := congrArg (fun b : ByteArray => b.data.toList) h; simpa using this
  · rintro rfl; rfl
set_option maxHeartbeats 1000000 in
theorem equal_any (a1 a2 : Option Addr) (n1 n2 c1 c2 : Nat) (l1 l2 : List UInt8) (w : World) (h1 : Row w a1 c1 l1) (h2 : Row w a2 c2 l2) (hn1 : l1.length = n1) (hn2 : l2.length = n2) :
    Calls Try.prog 32 #[.slice a1 n1 c1, .slice a2 n2 c2] w fun e w' => e = .returned (.bool (decide (l1 = l2))) ∧ w = w' := by
  have q1 := conv_row_n h1 hn1
  have q2 := conv_row_n h2 hn2
  have HB : Hid (((⟨l1.toArray⟩ : ByteArray) = ⟨l2.toArray⟩) ↔ l1 = l2) := Lib.hid bytes_eq
  generalize (⟨l1.toArray⟩ : ByteArray) = S1 at *
  generalize (⟨l2.toArray⟩ : ByteArray) = S2 at *
  go_enter Try.func32, Try.ntmps32
  go_wp2_with fail
  go_ret
  exact ⟨ret_bool (by rw [Bool.eq_iff_iff, sbeq_iff, HB.out]; simp), rfl⟩
end Go.Proofs.Ytiahifpbofkimaa
namespace Go.Proofs.Ytiahifpbofkimaa
set_option linter.unusedVariables false

theorem gvA_nat {l : List UInt8} {p : Nat} (h : p ≤ l.length) : gvA l (p : Nat) = getV (l.drop p) := by
  unfold gvA; rw [if_pos (by omega)]; simp
theorem getVA_place {l : List UInt8} {q : Int} {o p : Int} {z : Bool} (h : getVA l q = (o, p, z)) (hq : 0 ≤ q) : ∃ a : Nat, p = a ∧ a ≤ l.length := by
  cases hg : gvA l q with
  | none => rw [getVA_none hg] at h; cases h; exact ⟨0, rfl, Nat.zero_le _⟩
  | some x =>
    obtain ⟨n, j⟩ := x
    rw [getVA_some hg] at h; cases h
    have := gvA_bound hg
    exact ⟨q.toNat + j, by omega, by omega⟩
theorem getVA_nat {l : List UInt8} {q : Int} {o p : Int} {z : Bool} (h : getVA l q = (o, p, z)) : 0 ≤ o ∧ o < 9223372036854775808 := by
  cases hg : gvA l q with
  | none => rw [getVA_none hg] at h; cases h; omega
  | some x =>
    obtain ⟨n, j⟩ := x
    rw [getVA_some hg] at h; cases h
    have := gvA_bound hg
    omega
theorem getVA_put {d : Nat} {l x : List UInt8} {q : Nat} {o p : Int} {z : Bool} (h : getVA l q = (o, p, z)) (hq : q ≤ l.length) (hl : l.drop q = varL d ++ x) (hd : d < 9223372036854775808) : o = d ∧ p = (q : Int) + (varL d).length ∧ z = true := by
  have hg : gvA l q = some (d, (varL d).length) := by rw [gvA_nat hq, hl]; exact getV_varL hd x
  rw [getVA_some hg] at h
  cases h; exact ⟨rfl, rfl, rfl⟩
end Go.Proofs.Ytiahifpbofkimaa
