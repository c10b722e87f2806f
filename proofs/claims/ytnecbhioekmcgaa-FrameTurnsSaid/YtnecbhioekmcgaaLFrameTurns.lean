/- The law 'FrameTurns', walked. -/
import Derived.Test.YtnecbhioekmcgaaFrK
import Derived.Test.YtnecbhioekmcgaaFrE
import Derived.Test.YtnecbhioekmcgaaLCrcTurns
namespace Go.Proofs.Ytnecbhioekmcgaa
open Go.RowKit
set_option linter.unusedVariables false
set_option linter.unusedSimpArgs false

theorem take_err_of {F : List UInt8} (h : (takeM F).2.2 ≠ 0) : ∃ c, takeA F ((0 : Nat) : Int) = (noE, 0, c) ∧ c ≠ 0 := by
  rcases takeM_two F with ⟨d, h1, h2⟩ | ⟨e, h1, _, _⟩
  · exact ⟨d, takeA_err (by omega) (by rw [List.drop_zero]; exact h1) h2, h2⟩
  · rw [h1] at h; exact absurd rfl h

set_option maxRecDepth 100000 in
set_option maxHeartbeats 3200000 in
theorem fturns_known (e : En) (ad : Option Addr) (n c : Nat) (p t : Int) (w : World) (hr : Row w ad c e.data) (hn : e.data.length = n) (hn2 : n ≤ 9223372036854775807) (hb : e.right = false ∨ p < 0) (hp : -9223372036854775808 ≤ p) :
    Calls Try.prog 6 #[.agg #[.int .i64 e.tag, .int .i64 e.seq, .slice ad n c], .int .i64 p, .int .u32 t] w fun x w' => x = .returned (.bool true) ∧ Below w.heap.size w w' := by
  have HB : Hid (Below w.heap.size w (w.alloc (.cells #[.int .i64 e.tag, .int .i64 e.seq, .slice ad n c] 24))) := Lib.hid ((Below.refl _ _).alloc (Nat.le_refl _) _)
  have HLY := Lib.hid (lay_any e ad c n _ (hr.later HB.out) hn hn2)
  clear hr
  cases h : e.right with
  | false =>
    rw [layA_no h] at HLY
    clear hb h hn
    go_enter Try.func6, Try.ntmps6
    go_wp2_with fail
    refine HLY.out.mono ?_
    rintro x w1 ⟨v1, rfl, o1⟩
    have HB1 := Lib.hid (HB.out.trans (o1.below.mono HB.out.size))
    simp only
    clear o1 HLY
    go_wp2_with fail
    refine (known_any _).mono ?_
    rintro x w2 ⟨rfl, hb2⟩
    go_wp2_with fail
    go_ret
    exact ⟨rfl, HB1.out.trans (hb2.mono HB1.out.size)⟩
  | true =>
    have hp0 : p < 0 := by
      rcases hb with hb | hb
      · rw [h] at hb; cases hb
      · exact hb
    rw [layA_yes h] at HLY
    clear hb h hn
    go_enter Try.func6, Try.ntmps6
    go_wp2_with fail
    refine HLY.out.mono ?_
    rintro x w1 ⟨v1, rfl, o1⟩
    have HB1 := Lib.hid (HB.out.trans (o1.below.mono HB.out.size))
    simp only
    clear o1 HLY
    go_wp2_with fail
    refine (known_any _).mono ?_
    rintro x w2 ⟨rfl, hb2⟩
    go_wp2_with fail
    go_ret
    exact ⟨rfl, HB1.out.trans (hb2.mono HB1.out.size)⟩

theorem take_whole {e : En} (h : e.right = true) : takeA (layL e) ((0 : Nat) : Int) = (e, ((e.data.length + 22 : Nat) : Int), 0) := by
  have h1 := take_lay h []
  rw [List.append_nil] at h1
  have := takeA_ok (l := layL e) (q := 0) (by omega) (by rw [List.drop_zero]; exact h1)
  rw [Nat.zero_add] at this
  exact this

set_option maxRecDepth 100000 in
set_option maxHeartbeats 6400000 in
theorem fturns_walk (e : En) (ad : Option Addr) (n c A : Nat) (t : W32) (w : World) (hr : Row w ad c e.data) (hn : e.data.length = n) (hright : e.right = true) (hA : (A : Int) ≤ 9223372036854775807) :
    Calls Try.prog 6 #[.agg #[.int .i64 e.tag, .int .i64 e.seq, .slice ad n c], .int .i64 A, .int .u32 (cI t)] w fun x w' => x = .returned (.bool true) ∧ Below w.heap.size w w' := by
  have HB : Hid (Below w.heap.size w (w.alloc (.cells #[.int .i64 e.tag, .int .i64 e.seq, .slice ad n c] 24))) := Lib.hid ((Below.refl _ _).alloc (Nat.le_refl _) _)
  have hn9 := (rightE_iff.1 hright).2.2.2.2
  rw [hn] at hn9
  have HLY := Lib.hid (lay_any e ad c n _ (hr.later HB.out) hn (by omega))
  rw [layA_yes hright] at HLY
  have HRT := Lib.hid hright
  have HLL : Hid (layL e = sealL (e.head ++ e.data)) := Lib.hid rfl
  have HHL : Hid ((e.head ++ e.data).length = n + 18) := Lib.hid (by unfold En.head; rw [List.length_append, headL_len, hn]; omega)
  have HN := Lib.hid hn
  have ht32 := cI_lt t
  clear hr hright hn
  go_enter Try.func6, Try.ntmps6
  go_wp2_with fail
  refine HLY.out.mono ?_
  rintro x w1 ⟨v1, rfl, o0⟩
  simp only at o0 ⊢
  have o1 := o0.back HB.out
  clear o0 HLY
  obtain ⟨g, c1, rfl, hc1, hd1⟩ := o1.at (n := n + 22) (by rw [layL_len, HN.out]) (by omega)
  go_wp2
  obtain ⟨K, hK, hK2⟩ : ∃ K : Nat, (A : Int) % (8 * ((n : Int) + 22)) = K ∧ K < 8 * (n + 22) := by
    have h1 := Int.emod_nonneg (A : Int) (show (8 * ((n : Int) + 22)) ≠ 0 by omega)
    have h2 := Int.emod_lt_of_pos (A : Int) (show 0 < (8 * ((n : Int) + 22)) by omega)
    exact ⟨((A : Int) % (8 * ((n : Int) + 22))).toNat, by omega, by omega⟩
  rw [hK]
  clear hK hA
  go_loopw [10, 11] (fun td i wr => ∃ (j : Nat) (F : List UInt8), i = .int .i64 j ∧ j ≤ 32 ∧ K + j ≤ 8 * (n + 22) ∧ td = .bool (turnB t j) ∧ Own w wr (.slice (some ⟨g, 0, none⟩) (n + 22) c1) F ∧ TurnTo (layL e) F K t j ∧ Hid (F[16]? = (layL e)[16]? ∧ F[17]? = (layL e)[17]?)) (fun _ i _ => 32 - (intOf i).toNat)
  case atStart => exact ⟨0, _, rfl, by omega, by omega, rfl, o1, turnTo_0 _ _ _, Lib.hid ⟨rfl, rfl⟩⟩
  case round =>
    obtain ⟨j, F, rfl, hj, hkj, rfl, o, hF, H16⟩ := hrel
    clear o1
    have hlen := hF.1
    rw [layL_len, HN.out] at hlen
    by_cases cc : j < 32 ∧ K + j < 8 * (n + 22)
    · obtain ⟨q1, q2⟩ := cc
      have hb := shr_bit t j
      cases htj : t.getLsbD j with
      | false =>
        have HT := Lib.hid (turnTo_skip hF htj)
        have HBT : Hid (turnB t (j + 1) = turnB t j) := by unfold Hid; rw [turnB_succ, htj, Bool.or_false]
        rw [htj, if_neg (by simp)] at hb
        clear htj hF hlen
        go_wp2_with fail
        go_roundw
        case rel => exact ⟨j + 1, F, by go_num, by omega, by omega, by rw [HBT.out], o, HT.out, H16⟩
        case measure => simp [intOf]; omega
      | true =>
        obtain ⟨u, hu⟩ : ∃ u, F[(K + j) / 8]? = some u := ⟨F[(K + j) / 8]'(by omega), List.getElem?_eq_getElem _⟩
        have HT := Lib.hid (turnTo_turn hF htj (by rw [layL_len, HN.out]; omega) hu)
        have HBT : Hid (turnB t (j + 1) = true) := by unfold Hid; rw [turnB_succ, htj, Bool.or_true]
        have fc := o.cellAt hlen hu
        have fr := o.frozenAt hlen ((K + j) / 8)
        have oS := o.stored hlen ((K + j) / 8) (u ^^^ UInt8.ofNat (2 ^ ((K + j) % 8)))
        have hu8 := u.toNat_lt
        unfold B8 at fc oS
        rw [htj, if_pos rfl] at hb
        clear htj hF hlen hu
        by_cases h16 : (K + j) / 16 = 8
        · go_wp2_with fail
          rw [pow_byte, u8_xor]
          refine (known_any _).mono ?_
          rintro x w2 ⟨rfl, hb2⟩
          have HB3 := Lib.hid (oS.below.trans (hb2.mono oS.below.size))
          go_wp2_with fail
          go_ret
          exact ⟨rfl, HB3.out⟩
        · have H17 : Hid ((F.set ((K + j) / 8) (u ^^^ UInt8.ofNat (2 ^ ((K + j) % 8))))[16]? = (layL e)[16]? ∧ (F.set ((K + j) / 8) (u ^^^ UInt8.ofNat (2 ^ ((K + j) % 8))))[17]? = (layL e)[17]?) := by
            refine Lib.hid ⟨?_, ?_⟩
            · rw [List.getElem?_set_ne (by omega)]; exact H16.out.1
            · rw [List.getElem?_set_ne (by omega)]; exact H16.out.2
          go_wp2_with fail
          go_roundw
          case rel =>
            rw [pow_byte, u8_xor]
            exact ⟨j + 1, _, by go_num, by omega, by omega, by rw [HBT.out], oS, HT.out, H17⟩
          case measure => simp [intOf]; omega
    · have hend : j = 32 ∨ K + j = 8 * (n + 22) := by omega
      have hop := turnTo_open (l := e.head ++ e.data) (F := F) (k := K) (j := j) (t := t) hF (by rw [HHL.out]; omega) hj (by rw [HHL.out]; omega) (by rw [HHL.out]; omega)
      have h16 := field_eq H16.out.1 H16.out.2
      have HTN : Hid (turnB t j = true → ∃ cd, takeA F ((0 : Nat) : Int) = (noE, 0, cd) ∧ cd ≠ 0) := Lib.hid fun h => by
        rw [h] at hop
        exact take_err_of (take_turned HRT.out hF.1 h16 hop)
      have HTE : Hid (turnB t j = false → takeA F ((0 : Nat) : Int) = (e, ((n + 22 : Nat) : Int), 0)) := Lib.hid fun h => by
        rw [hF.2.1 h, take_whole HRT.out, HN.out]
      obtain ⟨a2, c2, hv, r2⟩ := o.row_n hlen
      cases hv
      have t2 := o.below
      have HTK := Lib.hid (take_any (some ⟨g, 0, none⟩) (n + 22) c1 F ((0 : Nat) : Int) wr r2 hlen (by omega) (by decide) (by decide))
      clear hop hF o h16 H16 r2 hlen
      have hend2 : 32 ≤ j ∨ (j < 32 ∧ 8 * (n + 22) ≤ K + j) := by omega
      clear hend cc
      cases ht : turnB t j with
      | false =>
        rw [HTE.out ht] at HTK
        clear HTE HTN ht
        rcases hend2 with h32 | ⟨h32, hK8⟩
        all_goals
          go_wp2_with fail
          refine HTK.out.mono ?_
          rintro x w2 ⟨a3, c3, rfl, r3, hb3, -⟩
          unfold entV
          simp only
          have HB3 := Lib.hid (t2.trans (hb3.mono t2.size))
          clear r3 hb3 HTK
          go_wp2_with fail
          refine (known_any _).mono ?_
          rintro x w5 ⟨rfl, hk⟩
          go_wp2_with fail
          go_ret
          exact ⟨rfl, (HB3.out.alloc HB3.out.size _).trans (hk.mono (HB3.out.alloc HB3.out.size _).size)⟩
      | true =>
        obtain ⟨cd, hcd, hcd0⟩ := HTN.out ht
        rw [hcd] at HTK
        have hcb : (cd == 0) = false := beq_eq_false_iff_ne.2 hcd0
        clear HTE HTN ht hcd
        rcases hend2 with h32 | ⟨h32, hK8⟩
        all_goals
          go_wp2_with fail
          refine HTK.out.mono ?_
          rintro x w2 ⟨a3, c3, rfl, r3, hb3, -⟩
          unfold entV noE
          simp only [List.length_nil]
          have HB3 := Lib.hid (t2.trans (hb3.mono t2.size))
          clear r3 hb3 HTK
          go_wp2_with fail
          refine (known_any _).mono ?_
          rintro x w5 ⟨rfl, hk⟩
          go_wp2_with fail
          go_ret
          exact ⟨rfl, (HB3.out.alloc HB3.out.size _).trans (hk.mono (HB3.out.alloc HB3.out.size _).size)⟩

theorem frameTurns_walk (cs : Array Value) (e : En) (p t : Int) (w : World) (he : EnE w cs.toList e) (w1 : (Lit.int .i64 p).wf = true) (w2 : (Lit.int .u32 t).wf = true) :
    Calls Try.prog 6 #[.agg cs, .int .i64 p, .int .u32 t] w fun x w' => x = .returned (.bool true) ∧ Below w.heap.size w w' := by
  obtain ⟨a, c, hcs, hr⟩ := he
  obtain rfl : cs = #[.int .i64 e.tag, .int .i64 e.seq, .slice a e.data.length c] := by
    rw [← Array.toArray_toList (xs := cs), hcs]
  obtain ⟨t, rfl⟩ := wf_u32 w2
  have hp := wf_int w1
  have hl : e.data.length ≤ 9223372036854775807 := by have := hr.1; have := hr.2.1; unfold maxLen at this; omega
  by_cases hb : e.right = false ∨ p < 0
  · exact fturns_known e a _ c p (cI t) w hr rfl hl hb hp.1
  · obtain ⟨A, rfl⟩ := Int.eq_ofNat_of_zero_le (show 0 ≤ p by omega)
    exact fturns_walk e a _ c A t w hr rfl (by cases h : e.right with | true => rfl | false => exact absurd (.inl h) hb) hp.2
end Go.Proofs.Ytnecbhioekmcgaa
