/- The law 'RingNums', walked. -/
import Derived.Test.YtblipabemghdbaaRgK
import Derived.Test.YtblipabemghdbaaGz
namespace Go.Proofs.Ytblipabemghdbaa
open Go.RowKit Go.Proofs
set_option linter.unusedVariables false
set_option linter.unusedSimpArgs false
set_option linter.unnecessarySimpa false

/-- The number of object k of the i-th set from S on. -/
def nAt (SP ST S i k : Nat) : Nat := (S + i) % ST * SP + k
theorem nAt_num {SP ST : Nat} {sz : Int} (hk : Rg.Ok ⟨(SP : Nat), (ST : Nat), sz⟩) {S i k : Nat} (hS : S + i ≤ 1073741824) (hk2 : k < SP) : numR ⟨(SP : Nat), (ST : Nat), sz⟩ ⟨(S : Nat) + (i : Nat), (k : Nat)⟩ = (nAt SP ST S i k : Nat) := by
  unfold numR
  rw [if_pos ⟨hk, by simp only; omega, by simp only; omega, by simp only; omega⟩]
  unfold nAt
  simp only [Int.natCast_add, Int.natCast_mul, Int.natCast_emod]
theorem nAt_lt {SP ST S i k : Nat} (hST : 0 < ST) (hk : k < SP) : nAt SP ST S i k < ST * SP := by
  unfold nAt
  have h1 := Nat.mod_lt (S + i) hST
  have h2 : ((S + i) % ST + 1) * SP ≤ ST * SP := Nat.mul_le_mul_right _ h1
  rw [Nat.add_mul] at h2; omega
theorem nAt_inj {SP ST S i k i' k' : Nat} (hi : i < ST) (hi' : i' < ST) (hk : k < SP) (hk' : k' < SP) (h : nAt SP ST S i k = nAt SP ST S i' k') : i = i' ∧ k = k' := by
  unfold nAt at h
  have h2 := num_split (a := (((S + i) % ST : Nat) : Int)) (b := (((S + i') % ST : Nat) : Int)) (m := (SP : Int)) (k := (k : Int)) (j := (k' : Int)) (by omega) (by omega) (by exact_mod_cast h)
  have h3 := mod_apart (s := (S : Int)) (i := (i : Int)) (j := (i' : Int)) (m := (ST : Int)) (by omega) (by omega) (by omega) (by have := h2.1; simpa using this)
  omega
theorem nAt_same {SP ST S i k : Nat} : nAt SP ST S (i + ST) k = nAt SP ST S i k := by
  unfold nAt
  rw [← Nat.add_assoc, Nat.add_mod_right]
/-- What is marked so far. -/
def MarkedN (SP ST S i k : Nat) (L : List Bool) : Prop := L.length = ST * SP ∧ ∀ x : Nat, L[x]? = some true → ∃ i' k', (i' < i ∨ (i' = i ∧ k' < k)) ∧ i' < ST ∧ k' < SP ∧ nAt SP ST S i' k' = x
theorem MarkedN.free {SP ST S i k : Nat} {L : List Bool} (h : MarkedN SP ST S i k L) (hi : i < ST) (hk : k < SP) (hST : 0 < ST) : L[nAt SP ST S i k]? = some false := by
  have hl := nAt_lt (S := S) (i := i) hST hk
  rw [← h.1] at hl
  cases e : L[nAt SP ST S i k] with
  | false => rw [List.getElem?_eq_getElem hl, e]
  | true =>
    obtain ⟨i', k', h1, h2, h3, h4⟩ := h.2 _ (by rw [List.getElem?_eq_getElem hl, e])
    have := nAt_inj h2 hi h3 hk h4
    omega
theorem MarkedN.next {SP ST S i k : Nat} {L : List Bool} (h : MarkedN SP ST S i k L) (hi : i < ST) (hk : k < SP) : MarkedN SP ST S i (k + 1) (L.set (nAt SP ST S i k) true) := by
  refine ⟨by rw [List.length_set]; exact h.1, fun x hx => ?_⟩
  by_cases e : nAt SP ST S i k = x
  · exact ⟨i, k, .inr ⟨rfl, by omega⟩, hi, hk, e⟩
  · rw [List.getElem?_set_ne e] at hx
    obtain ⟨i', k', h1, h2⟩ := h.2 x hx
    exact ⟨i', k', by omega, h2⟩
theorem MarkedN.on {SP ST S i : Nat} {L : List Bool} (h : MarkedN SP ST S i SP L) : MarkedN SP ST S (i + 1) 0 L := ⟨h.1, fun x hx => by
  obtain ⟨i', k', h1, h2⟩ := h.2 x hx
  exact ⟨i', k', by omega, h2⟩⟩
set_option maxRecDepth 100000 in
set_option maxHeartbeats 12800000 in
theorem ringNums_walk (a b c set : Int) (w : World) : Calls Try.prog 6 #[.int .i64 a, .int .i64 b, .int .i64 c, .int .i64 set] w fun x w' => x = .returned (.bool true) ∧ Below w.heap.size w w' := by
  obtain ⟨S0, hS0⟩ : ∃ z, bits .and .i64 set 16777215 = z := ⟨_, rfl⟩
  have hSr : 0 ≤ S0 ∧ S0 ≤ 16777215 := by rw [← hS0]; exact and_range set 16777215 (by decide)
  obtain ⟨S, rfl⟩ : ∃ S : Nat, S0 = S := ⟨S0.toNat, by omega⟩
  have hS : S ≤ 16777215 := by omega
  clear hSr
  go_enter Try.func6, Try.ntmps6
  go_wp2_with fail
  refine (shape10_any a b c w).mono ?_
  rintro e w1 ⟨s, rfl, hok, b1⟩
  obtain ⟨sp, st, sz⟩ := s
  obtain ⟨SP, rfl⟩ : ∃ n : Nat, sp = n := ⟨sp.toNat, by have := hok.1; simp only at this; omega⟩
  obtain ⟨ST, rfl⟩ : ∃ n : Nat, st = n := ⟨st.toNat, by have := hok.2.1; simp only at this; omega⟩
  have hSP : 1 ≤ SP ∧ SP ≤ 4 := by have := hok.1; simp only at this; omega
  have hST : 4 ≤ ST ∧ ST ≤ 8 := by have := hok.2.1; simp only at this; omega
  have HOK := Lib.hid hok
  have hba : Below w1.heap.size w1 (w1.alloc (.cells #[.int .i64 (SP : Nat), .int .i64 (ST : Nat), .int .i64 sz] 23)) := (Below.refl _ _).alloc (Nat.le_refl _) _
  have HX2 := Lib.hid (RecAt.new w1 #[.int .i64 (SP : Nat), .int .i64 (ST : Nat), .int .i64 sz] 23)
  have HB2 := Lib.hid (b1.trans (hba.mono b1.size))
  clear b1 hba hok
  go_upto_region 2 with fail
  generalize (w1.alloc (.cells #[.int .i64 (SP : Nat), .int .i64 (ST : Nat), .int .i64 sz] 23)) = w2 at *
  obtain ⟨P9, hP9⟩ : ∃ P, w1.heap.size = P := ⟨_, rfl⟩
  rw [hP9] at HX2
  rw [hP9]
  clear hP9
  obtain ⟨y0, y1, y2⟩ := HX2.out.c3
  obtain ⟨T, hT⟩ : ∃ T, ST * SP = T := ⟨_, rfl⟩
  have hTi : (ST : Int) * (SP : Int) = (T : Nat) := by rw [← hT]; simp
  have hT32 : T ≤ 32 := by rw [← hT]; exact Nat.le_trans (Nat.mul_le_mul hST.2 hSP.2) (by decide)
  have hwT : IntKind.i64.wrap ((T : Nat) : Int) = (T : Nat) := by rw [IntKind.wrap_i64]; omega
  go_upto_region 4 with (refine wp_gzeros boOk info_bo (by decide) rfl rfl false rfl trivial rfl _ _ rfl rfl w HB2.out .i64 .i64 _ _ T rfl rfl rfl rfl (by omega) ?_; intro w3 o3 b3; have HO3 := Lib.hid o3; have HB3 := Lib.hid b3; clear o3 b3)
  have HX3 := Lib.hid (HX2.out.later HB3.out)
  obtain ⟨g, hg⟩ : ∃ g, w2.heap.size = g := ⟨_, rfl⟩
  have HPG : Hid (P9 < g) := Lib.hid (by rw [← hg]; exact HX2.out.lt)
  rw [hg] at HO3
  rw [hg]
  clear hg HX2 HB2 HB3 y0 y1 y2 hwT hTi hS0
  go_wp2_with fail
  go_loopw [11, 12, 13] (fun iv _ _ wr => ∃ (i : Nat) (L : List Bool), iv = .int .i64 (i : Nat) ∧ i ≤ ST ∧ Hid (RecAt wr P9 #[.int .i64 (SP : Nat), .int .i64 (ST : Nat), .int .i64 sz] 23) ∧ Hid (GOwn boT w wr (.slice (some ⟨g, 0, none⟩) T T) L) ∧ Hid (MarkedN SP ST S i 0 L)) (fun iv _ _ _ => ST - (intOf iv).toNat)
  case atStart => exact ⟨0, List.replicate T false, rfl, by omega, HX3, HO3, Lib.hid ⟨by rw [List.length_replicate, hT], fun x hx => by rw [List.getElem?_replicate] at hx; split at hx <;> simp at hx⟩⟩
  case round =>
    clear HX3 HO3
    obtain ⟨i, L, rfl, hi, HX, HO, HM⟩ := hrel
    obtain ⟨y0, y1, y2⟩ := HX.out.c3
    by_cases hiS : (i : Int) < ST
    · go_wp2_with fail
      go_loopw [12, 13] (fun kv _ wq => ∃ (k : Nat) (L : List Bool), kv = .int .i64 (k : Nat) ∧ k ≤ SP ∧ Hid (RecAt wq P9 #[.int .i64 (SP : Nat), .int .i64 (ST : Nat), .int .i64 sz] 23) ∧ Hid (GOwn boT w wq (.slice (some ⟨g, 0, none⟩) T T) L) ∧ Hid (MarkedN SP ST S i k L)) (fun kv _ _ => SP - (intOf kv).toNat)
      case atStart => exact ⟨0, L, rfl, by omega, HX, HO, HM⟩
      case round =>
        clear HX HO HM y0 y1 y2
        obtain ⟨k, L, rfl, hk, HX, HO, HM⟩ := hrel
        obtain ⟨y0, y1, y2⟩ := HX.out.c3
        by_cases hkS : (k : Int) < SP
        · obtain ⟨wo, hwo⟩ : ∃ W, W = wr := ⟨_, rfl⟩
          subst hwo
          obtain ⟨N, hN⟩ : ∃ N, nAt SP ST S i k = N := ⟨_, rfl⟩
          have HFR := Lib.hid (HM.out.free (by omega) (by omega) (by omega))
          have HNX := Lib.hid (HM.out.next (by omega) (by omega))
          have hNT : N < T := by rw [← hN, ← hT]; exact nAt_lt (by omega) (by omega)
          have HN1 := Lib.hid (fun W => ringnum_any ⟨(SP : Nat), (ST : Nat), sz⟩ ⟨(S : Nat) + (i : Nat), (k : Nat)⟩ HOK.out.in (by unfold Pc.In inI; simp only; omega) W)
          rw [nAt_num HOK.out (by omega) (by omega), hN] at HN1
          have HN2 := Lib.hid (fun W => ringnum_any ⟨(SP : Nat), (ST : Nat), sz⟩ ⟨(S : Nat) + ((i + ST : Nat) : Int), (k : Nat)⟩ HOK.out.in (by unfold Pc.In inI; simp only; omega) W)
          rw [nAt_num HOK.out (by omega) (by omega), nAt_same, hN] at HN2
          rw [show ((S : Nat) : Int) + ((i + ST : Nat) : Int) = (S : Nat) + (i : Nat) + (ST : Nat) by omega] at HN2
          rw [hN] at HFR HNX
          have hw1 : IntKind.i64.wrap ((S : Nat) + (i : Nat) : Int) = (S : Nat) + (i : Nat) := by rw [IntKind.wrap_i64]; omega
          have hw2 : IntKind.i64.wrap ((S : Nat) + (i : Nat) + (ST : Nat) : Int) = (S : Nat) + (i : Nat) + (ST : Nat) := by rw [IntKind.wrap_i64]; omega
          have hLl : L.length = T := by rw [HM.out.1, hT]
          have HLl := Lib.hid hLl
          clear hN hLl
          go_wp2_with fail
          refine (HN1.out wo).mono ?_
          rintro e w5 ⟨rfl, b5⟩
          have HX5 := Lib.hid (HX.out.later b5)
          have HO5 := Lib.hid (HO.out.later b5)
          clear b5 y0 y1 y2 HX HO
          obtain ⟨y0, y1, y2⟩ := HX5.out.c3
          have c0 := HO5.out.cell1 boOk rfl HLl.out HFR.out rfl
          have hge : decide ((T : Int) ≤ N) = false := by simp; omega
          go_wp2_with fail
          refine (HN2.out w5).mono ?_
          rintro e w6 ⟨rfl, b6⟩
          have HX6 := Lib.hid (HX5.out.later b6)
          have HO6 := Lib.hid (HO5.out.later b6)
          clear b6 y0 y1 y2 c0 HX5 HO5 hw1 hw2 hge
          have c0 := HO6.out.cell1 boOk rfl HLl.out HFR.out rfl
          have f0 := HO6.out.frozenAt HLl.out N
          have hnn : ((N : Int) != (N : Int)) = false := by simp
          have HX7 := Lib.hid (HX6.out.other (y := g) (by have := HPG.out; omega) N (.bool true))
          have HO7 := Lib.hid (HO6.out.stored1 boOk rfl HLl.out HFR.out rfl (t' := true) (v' := .bool true) rfl trivial)
          clear HX6 HO6
          go_wp2_with fail
          go_roundw
          case rel => exact ⟨k + 1, _, by go_num, by omega, HX7, HO7, HNX⟩
          case measure => simp [intOf]; omega
        · have : k = SP := by omega
          subst this
          have HM2 := Lib.hid HM.out.on
          go_wp2_with fail
          go_roundw
          case rel => exact ⟨i + 1, L, by go_num, by omega, HX, HO, HM2⟩
          case measure => simp [intOf]; omega
    · have : i = ST := by omega
      subst this
      go_wp2_with fail
      refine (knownRg_any _).mono ?_
      rintro e w9 ⟨rfl, b9⟩
      go_wp2_with fail
      go_ret
      exact ⟨rfl, HO.out.below.trans (b9.mono HO.out.below.size)⟩
end Go.Proofs.Ytblipabemghdbaa
