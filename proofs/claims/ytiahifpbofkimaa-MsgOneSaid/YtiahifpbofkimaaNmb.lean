/- Numbers out of bytes, one behind the other: the document's own. -/
import Derived.Test.YtiahifpbofkimaaGE
import Derived.Test.YtiahifpbofkimaaGD
namespace Go.Proofs.Ytiahifpbofkimaa
open Go.RowKit Go.Proofs
set_option linter.unusedVariables false
set_option linter.unusedSimpArgs false

def numsA (l : List UInt8) (p : Nat) : Nat → Option (List Nat × Nat)
  | 0 => some ([], p)
  | k + 1 => match numsA l p k with
    | none => none
    | some (vs, q) => match getVA l ((q : Nat) : Int) with
      | (o, q', z) => if z = true then some (vs ++ [o.toNat], q'.toNat) else none
theorem numsA_none {l : List UInt8} {p k : Nat} (h : numsA l p k = none) : ∀ m, numsA l p (k + m) = none
  | 0 => h
  | m + 1 => by
    have := numsA_none h m
    rw [show k + (m + 1) = (k + m) + 1 by omega, numsA, this]
theorem numsA_yes {l : List UInt8} {p k q : Nat} {vs : List Nat} {o : Int} {a : Nat} (h : numsA l p k = some (vs, q)) (hg : getVA l ((q : Nat) : Int) = (o, ((a : Nat) : Int), true)) : numsA l p (k + 1) = some (vs ++ [o.toNat], a) := by
  rw [numsA, h]; simp only [hg]; simp
theorem numsA_no {l : List UInt8} {p k q : Nat} {vs : List Nat} {o a : Int} (h : numsA l p k = some (vs, q)) (hg : getVA l ((q : Nat) : Int) = (o, a, false)) : numsA l p (k + 1) = none := by
  rw [numsA, h]; simp only [hg]; simp
def NumsK (l : List UInt8) (p K : Nat) (w : World) (e : Ending) (w' : World) : Prop :=
  (∃ v vs q, numsA l p K = some (vs, q) ∧ e = .returned (.tuple #[v, .int .i64 (q : Nat), .bool true]) ∧ IOwn w w' v vs ∧ vs.length = K ∧ q ≤ l.length ∧ ∀ z ∈ vs, z < 9223372036854775808) ∨
  (numsA l p K = none ∧ e = .returned (.tuple #[.slice none 0 0, .int .i64 0, .bool false]) ∧ Below w.heap.size w w')
set_option maxRecDepth 20000 in
set_option maxHeartbeats 3200000 in
theorem numbersK_any (ad : Option Addr) (n c : Nat) (l : List UInt8) (p K : Nat) (w : World) (hr : Row w ad c l) (hn : l.length = n) (hlen : n ≤ 100000) (hp : p ≤ n) (hK : K ≤ 100) (KI : Int) (hKI : KI = K) :
    Calls Try.prog 34 #[.slice ad n c, .int .i64 (p : Nat), .int .i64 KI] w (NumsK l p K w) := by
  subst hKI
  have HR := Lib.hid hr
  have HN := Lib.hid hn
  have HP : Hid (p ≤ l.length) := Lib.hid (by omega)
  clear hr hn hp
  go_enter Try.func34, Try.ntmps34
  go_wp2_with fail
  go_loopw [1, 9, 10, 11, 12, 13] (fun at' v i _ _ _ wr => ∃ (j q : Nat) (vs : List Nat), at' = .int .i64 (q : Nat) ∧ i = .int .i64 (j : Nat) ∧ j ≤ K ∧ Hid (q ≤ l.length) ∧ Hid (vs.length = j) ∧ Hid (IOwn w wr v vs) ∧ Hid (numsA l p j = some (vs, q)) ∧ Hid (∀ z ∈ vs, z < 9223372036854775808)) (fun _ _ i _ _ _ _ => K - (intOf i).toNat)
  case atStart => exact ⟨0, p, [], rfl, rfl, by omega, HP, Lib.hid rfl, Lib.hid (IOwn.nil w), Lib.hid rfl, Lib.hid (fun z h => by cases h)⟩
  case round =>
    obtain ⟨j, q, vs, rfl, rfl, hj, hq, hl, hO, hA, hZ⟩ := hrel
    by_cases hj4 : (j : Int) < K
    · obtain ⟨o, q2, z, hg⟩ : ∃ o q2 z, getVA l ((q : Nat) : Int) = (o, q2, z) := ⟨_, _, _, rfl⟩
      obtain ⟨a, rfl, ha⟩ := getVA_place hg (Int.natCast_nonneg _)
      have ho := getVA_nat hg
      obtain ⟨O, hO2⟩ : ∃ O : Nat, o = O := ⟨o.toNat, by omega⟩
      subst hO2
      have HK := Lib.hid (rgetvar_any ad n c l ((q : Nat) : Int) wr (HR.out.later hO.out.2) HN.out hlen (by omega) (by have := hq.out; have := HN.out; omega))
      rw [hg] at HK
      simp only [Got3] at HK
      cases z with
      | true =>
        have HA2 := Lib.hid (numsA_yes hA.out hg)
        rw [Int.toNat_natCast] at HA2
        have HQ : Hid (a ≤ l.length) := Lib.hid ha
        have HL2 : Hid ((vs ++ [O]).length = j + 1) := Lib.hid (by rw [List.length_append, hl.out]; rfl)
        have HZ2 : Hid (∀ z ∈ vs ++ [O], z < 9223372036854775808) := Lib.hid (fun z h => by
          rcases List.mem_append.1 h with h | h
          · exact hZ.out z h
          · simp at h; omega)
        clear hg ha ho
        go_wp2_with fail
        refine HK.out.mono ?_
        rintro e w2 ⟨rfl, rfl⟩
        go_wp2_with (at_builtin; refine wp_num rfl _ _ rfl _ _ rfl w hO.out _ O rfl rfl (by rw [hl.out]; omega) ?_; intro v2 w2 o2 hgr _)
        clear hgr
        have HO2 := Lib.hid o2
        clear o2
        go_wp2_with fail
        go_roundw
        case rel => exact ⟨j + 1, a, vs ++ [O], rfl, by go_num, by omega, HQ, HL2, HO2, HA2, HZ2⟩
        case measure => simp [intOf]; omega
      | false =>
        have HF : Hid (numsA l p K = none) := Lib.hid (by
          have := numsA_none (numsA_no hA.out hg) (K - (j + 1))
          rw [show j + 1 + (K - (j + 1)) = K by omega] at this
          exact this)
        clear hg ha ho
        go_wp2_with fail
        refine HK.out.mono ?_
        rintro e w2 ⟨rfl, rfl⟩
        go_wp2_with fail
        go_ret3
        exact .inr ⟨HF.out, rfl, hO.out.2⟩
    · have hjK : j = K := by omega
      subst hjK
      go_wp2_with fail
      go_ret3
      exact .inl ⟨_, vs, q, hA.out, rfl, hO.out, hl.out, hq.out, hZ.out⟩
end Go.Proofs.Ytiahifpbofkimaa
