/- Images: the document's own Read. -/
import Derived.Test.YtghglbaflmbeoaaMdB
import Derived.Test.YtghglbaflmbeoaaSlC
import Derived.Test.YtghglbaflmbeoaaCl
namespace Go.Proofs.Ytghglbaflmbeoaa
open Go.RowKit Go.Proofs
set_option linter.unusedVariables false
set_option linter.unusedSimpArgs false
set_option linter.unnecessarySimpa false

theorem Own.nil' {W0 w : World} (h : Below W0.heap.size W0 w) : Own W0 w (.slice none 0 0) [] := (Own.nil w).back h
def readL (b : List UInt8) (off n : Int) : List UInt8 × Int := if n < 0 then ([], 1) else if off < 0 ∨ (b.length : Int) < off ∨ (b.length : Int) - off < n then ([], 3) else ((b.drop off.toNat).take n.toNat, 0)
theorem readM_now {s : Sx} {off n : Int} : readM s [] off n = readL s.data off n := by unfold readM readL; rw [if_pos rfl]
theorem readM_none {s : Sx} {nm : List UInt8} {off n : Int} (h0 : nm ≠ []) (h : findO s.snaps nm < 0) : readM s nm off n = ([], 4) := by
  have hl : lookO s.snaps nm = none := by
    refine placeO_none.1 ?_
    unfold findO at h
    cases hp : placeO s.snaps nm with
    | none => rfl
    | some k => rw [hp] at h; simp only at h; omega
  unfold readM; rw [if_neg h0, hl]; rfl
theorem readM_old {s : Sx} {nm : List UInt8} {off n : Int} {k : Nat} (h0 : nm ≠ []) (h : findO s.snaps nm = (k : Int)) : ∃ o, s.snaps[k]? = some o ∧ readM s nm off n = readL o.data off n := by
  unfold findO at h
  cases hp : placeO s.snaps nm with
  | none => rw [hp] at h; simp only at h; omega
  | some j =>
    rw [hp] at h
    simp only at h
    obtain ⟨o, ho, hl, _⟩ := placeO_look hp
    refine ⟨o, by rw [← show j = k by omega]; exact ho, ?_⟩
    unfold readM readL; rw [if_neg h0, hl]; rfl

set_option maxRecDepth 20000 in
set_option maxHeartbeats 6400000 in
theorem rread14_any (d v : Value) (s : Sx) (T : ByteArray) (off n : Int) (J : Nat → Prop) (w : World) (h : StA J w d v s) (hT : T.size ≤ 9223372036854775807) (ho : inB off) (hn : inB n) (hbig : s.data.length ≤ 100000 ∧ ∀ o ∈ s.snaps, o.data.length ≤ 100000) :
    Calls Try.prog 20 #[.agg #[d, v], .string T, .int .i64 off, .int .i64 n] w fun e w' => ∃ x, e = .returned (.tuple #[x, .int .i64 (readM s T.data.toList off n).2]) ∧ Own w w' x (readM s T.data.toList off n).1 := by
  obtain ⟨R, hR⟩ : ∃ z, readM s T.data.toList off n = z := ⟨_, rfl⟩
  rw [hR]
  have HR := Lib.hid hR
  clear hR
  obtain ⟨a1, c1, a2, c2, rfl, rfl, rd, rs⟩ := h.open
  have X2 := RecAt.new w #[.slice a1 s.data.length c1, .slice a2 s.snaps.length c2] 28
  have B2 : Below w.heap.size w (w.alloc (.cells #[.slice a1 s.data.length c1, .slice a2 s.snaps.length c2] 28)) := (Below.refl _ _).alloc (Nat.le_refl _) _
  obtain ⟨w1, hw1⟩ : ∃ W, w.alloc (.cells #[.slice a1 s.data.length c1, .slice a2 s.snaps.length c2] 28) = W := ⟨_, rfl⟩
  rw [hw1] at X2 B2
  obtain ⟨nd, hnd⟩ : ∃ z, s.data.length = z := ⟨_, rfl⟩
  obtain ⟨ns, hns⟩ : ∃ z, s.snaps.length = z := ⟨_, rfl⟩
  rw [hnd] at X2 hw1 ⊢
  rw [hns] at X2 hw1 rs ⊢
  have HX2 := Lib.hid X2
  have HB2 := Lib.hid B2
  have HRS := Lib.hid (rs.later od_rel B2)
  have HRD := Lib.hid (rd.later B2)
  have HND := Lib.hid hnd
  have HNS := Lib.hid hns
  have HBIG := Lib.hid hbig
  clear X2 B2 rd rs h hnd hns hbig
  go_enter Try.func20, Try.ntmps20
  go_upto_region 1 with fail
  try rw [hw1]
  clear hw1
  obtain ⟨X, hX⟩ : ∃ X, w.heap.size = X := ⟨_, rfl⟩
  rw [hX] at HX2 ⊢
  have HXS := Lib.hid hX
  clear hX
  obtain ⟨x0, x1⟩ := HX2.out.c2
  by_cases hT0 : T.data.toList = []
  · have hTe : T = ⟨#[]⟩ := (str_iff (l := T.data.toList) (m := []) rfl rfl).2 hT0
    have HRR : Hid (R = if n < 0 then ([], 1) else if off < 0 ∨ (nd : Int) < off ∨ (nd : Int) - off < n then ([], 3) else ((s.data.drop off.toNat).take n.toNat, 0)) := Lib.hid (by rw [← HR.out, hT0, readM_now]; unfold readL; rw [HND.out])
    subst hTe
    clear hT0
    obtain ⟨w3, HRB, HNB, HBW, hw3⟩ : ∃ w3, Hid (Row w3 a1 c1 s.data) ∧ Hid (s.data.length = nd) ∧ Hid (Below w.heap.size w w3) ∧ w1 = w3 := ⟨w1, HRD, HND, HB2, rfl⟩
    obtain ⟨lb, hlb⟩ : ∃ z, s.data = z := ⟨_, rfl⟩
    have HSM : Hid (nd ≤ 100000) := Lib.hid (by rw [← HND.out]; exact HBIG.out.1)
    rw [hlb] at HRR HNB
    rw [hlb] at HRB
    subst hw3
    clear hlb
    have hub : nd ≤ 9223372036854775807 := by have := HRB.out.1; have := HRB.out.2.1; unfold maxLen at this; rw [HNB.out] at *; omega
    have hinn := hn
    have hino := ho
    unfold inB at hinn hino
    rcases (show n < 0 ∨ (¬ n < 0 ∧ off < 0) ∨ (¬ n < 0 ∧ ¬ off < 0 ∧ (nd : Int) < off) ∨ (¬ n < 0 ∧ ¬ off < 0 ∧ ¬ (nd : Int) < off ∧ (nd : Int) - off < n) ∨ (¬ n < 0 ∧ ¬ off < 0 ∧ ¬ (nd : Int) < off ∧ ¬ (nd : Int) - off < n) by omega) with h | ⟨h, h1⟩ | ⟨h, h1, h2⟩ | ⟨h, h1, h2, h3⟩ | ⟨h, h1, h2, h3⟩
    · have hd : decide (n < 0) = true := decide_eq_true h
      rw [if_pos h] at HRR
      go_wp2_with fail
      go_ret2
      rw [HRR.out]
      exact ⟨_, rfl, Own.nil' HBW.out⟩
    · have hd : decide (n < 0) = false := decide_eq_false h
      have hd1 : decide (off < 0) = true := decide_eq_true h1
      rw [if_neg h, if_pos (.inl h1)] at HRR
      go_wp2_with fail
      go_ret2
      rw [HRR.out]
      exact ⟨_, rfl, Own.nil' HBW.out⟩
    · have hd : decide (n < 0) = false := decide_eq_false h
      have hd1 : decide (off < 0) = false := decide_eq_false h1
      have hd2 : decide (off > (nd : Int)) = true := decide_eq_true h2
      rw [if_neg h, if_pos (.inr (.inl h2))] at HRR
      go_wp2_with fail
      go_ret2
      rw [HRR.out]
      exact ⟨_, rfl, Own.nil' HBW.out⟩
    · have hd : decide (n < 0) = false := decide_eq_false h
      have hd1 : decide (off < 0) = false := decide_eq_false h1
      have hd2 : decide (off > (nd : Int)) = false := decide_eq_false h2
      have hw : wrap64 ((nd : Int) - off) = (nd : Int) - off := IntWalk.wrap64_in _ (by omega)
      have hd3 : decide (n > (nd : Int) - off) = true := decide_eq_true h3
      rw [if_neg h, if_pos (.inr (.inr h3))] at HRR
      go_wp2_with fail
      go_ret2
      rw [HRR.out]
      exact ⟨_, rfl, Own.nil' HBW.out⟩
    · have hd : decide (n < 0) = false := decide_eq_false h
      have hd1 : decide (off < 0) = false := decide_eq_false h1
      have hd2 : decide (off > (nd : Int)) = false := decide_eq_false h2
      have hw : wrap64 ((nd : Int) - off) = (nd : Int) - off := IntWalk.wrap64_in _ (by omega)
      have hd3 : decide (n > (nd : Int) - off) = false := decide_eq_false h3
      rw [if_neg h, if_neg (by omega)] at HRR
      go_upto_region 11 with fail
      obtain ⟨O, rfl⟩ : ∃ O : Nat, off = O := ⟨off.toNat, by omega⟩
      obtain ⟨M, rfl⟩ : ∃ O : Nat, n = O := ⟨n.toNat, by omega⟩
      simp only [Int.toNat_natCast] at HRR
      obtain ⟨E, hE⟩ : ∃ E, O + M = E := ⟨_, rfl⟩
      have hEO : E - O = M := by omega
      have hOE : O ≤ E := by omega
      have hOM : E ≤ nd := by omega
      have hw2 : wrap64 ((O : Int) + (M : Int)) = (E : Int) := by rw [show (O : Int) + (M : Int) = (E : Int) by omega]; exact IntWalk.wrap64_in _ (by omega)
      have HSL := fun W => run_slB2 (W := W) HRB.out HNB.out hOE hOM
      rw [hEO] at HSL
      have HSLb := HSL
      simp only [show ((E : Nat) : Int) = (O : Int) + (M : Int) by omega] at HSLb
      clear hE
      have HCUT := HRB.out.cutB (lo := O) (hi := E) hOE (by rw [HNB.out]; exact hOM)
      rw [hEO] at HCUT
      have HCL : Hid (((lb.drop O).take M).length = M) := Lib.hid (by rw [List.length_take, List.length_drop, HNB.out]; omega)
      have HE0 := Lib.hid (own_empty (W0 := w1) (w := w1) (Below.refl _ _))
      have hba : Below w1.heap.size w1 (w1.alloc (.cells #[] 5)) := (Below.refl _ _).alloc (Nat.le_refl _) _
      have HC5 := Lib.hid (HCUT.later hba)
      clear hba HCUT h h1 h2 h3 hinn hino
      have HM6 : Hid (([] : List UInt8).length + ((lb.drop O).take M).length ≤ 1000000) := Lib.hid (by rw [HCL.out, List.length_nil, Nat.zero_add, ← hEO]; exact Nat.le_trans (Nat.sub_le _ _) (Nat.le_trans hOM (Nat.le_trans HSM.out (by decide))))
      go_wp2_with (at_builtin; refine wp_row rfl (.tmp 45) (.tmp 51) rfl _ [] rfl w1 HE0.out _ _ M _ HC5.out HCL.out rfl (Nat.le_trans HM6.out (by decide)) ?_; intro v8 w8 o8)
      go_ret2
      rw [HRR.out]
      exact ⟨_, rfl, by rw [List.nil_append] at o8; exact o8.back HBW.out⟩
  · have hq : T.toList.isEmpty = false := by
      rw [ByteArray.toList_eq]
      simpa using hT0
    have HFD := Lib.hid (rfind14_any (.slice a1 nd c1) a2 ns c2 s.snaps T J w1 rfl HRS.out hT)
    have HNO : Hid (findO s.snaps T.data.toList < 0 → R = ([], 4)) := Lib.hid fun h => by rw [← HR.out]; exact readM_none hT0 h
    have HOL : Hid (∀ k : Nat, findO s.snaps T.data.toList = (k : Int) → ∃ o, s.snaps[k]? = some o ∧ R = readL o.data off n) := Lib.hid fun k h => by rw [← HR.out]; exact readM_old hT0 h
    obtain ⟨F, hF⟩ : ∃ z, findO s.snaps T.data.toList = z := ⟨_, rfl⟩
    rw [hF] at HFD HNO HOL
    clear hF hT0
    go_wp2_with fail
    refine HFD.out.mono ?_
    rintro e w3 ⟨rfl, b3⟩
    have HBW := Lib.hid (HB2.out.trans (b3.mono HB2.out.size))
    obtain ⟨z0, z1⟩ := (HX2.out.later b3).c2
    have HR3 := Lib.hid (HRS.out.later od_rel b3)
    clear b3 x0 x1 hq
    by_cases hlt : F < 0
    · have hdF : decide (F < 0) = true := decide_eq_true hlt
      have HRR := Lib.hid (HNO.out hlt)
      go_wp2_with fail
      go_ret2
      rw [HRR.out]
      exact ⟨_, rfl, Own.nil' HBW.out⟩
    · have hdF : decide (F < 0) = false := decide_eq_false hlt
      obtain ⟨k, rfl⟩ : ∃ k : Nat, F = k := ⟨F.toNat, by omega⟩
      obtain ⟨o, ho, hRo⟩ := HOL.out k rfl
      obtain ⟨bb, boff, S, ab, cb, rfl, p0, p1, -, -, hrb⟩ := HR3.out.o2 ho
      have hkn : k < ns := by have := (List.getElem?_eq_some_iff.1 ho).1; rw [HNS.out] at this; exact this
      have HSM : Hid (o.data.length ≤ 100000) := Lib.hid (HBIG.out.2 o (List.mem_of_getElem? ho))
      have hcs : ns ≤ c2 ∧ c2 ≤ 9223372036854775807 := by
        obtain ⟨_, h1, h2, _⟩ := HR3.out.cap
        exact ⟨h1, h2⟩
      obtain ⟨hcs1, hcs2⟩ := hcs
      obtain ⟨lb, hlb⟩ : ∃ z, o.data = z := ⟨_, rfl⟩
      obtain ⟨nb, hnb⟩ : ∃ z, lb.length = z := ⟨_, rfl⟩
      unfold readL at hRo
      rw [hlb] at hRo HSM hrb p1
      rw [hnb] at hRo HSM p1
      have HRR := Lib.hid hRo
      have HRB := Lib.hid hrb
      have HNB := Lib.hid hnb
      clear ho hRo hrb hlb hnb
      have hub : nb ≤ 9223372036854775807 := by have := HRB.out.1; have := HRB.out.2.1; unfold maxLen at this; rw [HNB.out] at *; omega
      have hinn := hn
      have hino := ho
      unfold inB at hinn hino
      rcases (show n < 0 ∨ (¬ n < 0 ∧ off < 0) ∨ (¬ n < 0 ∧ ¬ off < 0 ∧ (nb : Int) < off) ∨ (¬ n < 0 ∧ ¬ off < 0 ∧ ¬ (nb : Int) < off ∧ (nb : Int) - off < n) ∨ (¬ n < 0 ∧ ¬ off < 0 ∧ ¬ (nb : Int) < off ∧ ¬ (nb : Int) - off < n) by omega) with h | ⟨h, h1⟩ | ⟨h, h1, h2⟩ | ⟨h, h1, h2, h3⟩ | ⟨h, h1, h2, h3⟩
      · have hd : decide (n < 0) = true := decide_eq_true h
        rw [if_pos h] at HRR
        go_wp2_with fail
        go_ret2
        rw [HRR.out]
        exact ⟨_, rfl, Own.nil' HBW.out⟩
      · have hd : decide (n < 0) = false := decide_eq_false h
        have hd1 : decide (off < 0) = true := decide_eq_true h1
        rw [if_neg h, if_pos (.inl h1)] at HRR
        go_wp2_with fail
        go_ret2
        rw [HRR.out]
        exact ⟨_, rfl, Own.nil' HBW.out⟩
      · have hd : decide (n < 0) = false := decide_eq_false h
        have hd1 : decide (off < 0) = false := decide_eq_false h1
        have hd2 : decide (off > (nb : Int)) = true := decide_eq_true h2
        rw [if_neg h, if_pos (.inr (.inl h2))] at HRR
        go_wp2_with fail
        go_ret2
        rw [HRR.out]
        exact ⟨_, rfl, Own.nil' HBW.out⟩
      · have hd : decide (n < 0) = false := decide_eq_false h
        have hd1 : decide (off < 0) = false := decide_eq_false h1
        have hd2 : decide (off > (nb : Int)) = false := decide_eq_false h2
        have hw : wrap64 ((nb : Int) - off) = (nb : Int) - off := IntWalk.wrap64_in _ (by omega)
        have hd3 : decide (n > (nb : Int) - off) = true := decide_eq_true h3
        rw [if_neg h, if_pos (.inr (.inr h3))] at HRR
        go_wp2_with fail
        go_ret2
        rw [HRR.out]
        exact ⟨_, rfl, Own.nil' HBW.out⟩
      · have hd : decide (n < 0) = false := decide_eq_false h
        have hd1 : decide (off < 0) = false := decide_eq_false h1
        have hd2 : decide (off > (nb : Int)) = false := decide_eq_false h2
        have hw : wrap64 ((nb : Int) - off) = (nb : Int) - off := IntWalk.wrap64_in _ (by omega)
        have hd3 : decide (n > (nb : Int) - off) = false := decide_eq_false h3
        rw [if_neg h, if_neg (by omega)] at HRR
        go_upto_region 11 with fail
        clear p0 p1 z0 z1 hdF hlt hkn hd hd1 hd2 hd3 hw hcs1 hcs2 HNO HOL HR
        obtain ⟨O, rfl⟩ : ∃ O : Nat, off = O := ⟨off.toNat, by omega⟩
        obtain ⟨M, rfl⟩ : ∃ O : Nat, n = O := ⟨n.toNat, by omega⟩
        simp only [Int.toNat_natCast] at HRR
        obtain ⟨E, hE⟩ : ∃ E, O + M = E := ⟨_, rfl⟩
        have hEO : E - O = M := by omega
        have hOE : O ≤ E := by omega
        have hOM : E ≤ nb := by omega
        have hw2 : wrap64 ((O : Int) + (M : Int)) = (E : Int) := by rw [show (O : Int) + (M : Int) = (E : Int) by omega]; exact IntWalk.wrap64_in _ (by omega)
        have HSL := fun W => run_slB2 (W := W) HRB.out HNB.out hOE hOM
        rw [hEO] at HSL
        have HSLb := HSL
        simp only [show ((E : Nat) : Int) = (O : Int) + (M : Int) by omega] at HSLb
        clear hE
        have HCUT := HRB.out.cutB (lo := O) (hi := E) hOE (by rw [HNB.out]; exact hOM)
        rw [hEO] at HCUT
        have HCL : Hid (((lb.drop O).take M).length = M) := Lib.hid (by rw [List.length_take, List.length_drop, HNB.out]; omega)
        have HE0 := Lib.hid (own_empty (W0 := w3) (w := w3) (Below.refl _ _))
        have hba : Below w3.heap.size w3 (w3.alloc (.cells #[] 5)) := (Below.refl _ _).alloc (Nat.le_refl _) _
        have HC5 := Lib.hid (HCUT.later hba)
        clear hba HCUT h h1 h2 h3 hinn hino
        have HM6 : Hid (([] : List UInt8).length + ((lb.drop O).take M).length ≤ 1000000) := Lib.hid (by rw [HCL.out, List.length_nil, Nat.zero_add, ← hEO]; exact Nat.le_trans (Nat.sub_le _ _) (Nat.le_trans hOM (Nat.le_trans HSM.out (by decide))))
        go_wp2_with (at_builtin; refine wp_row rfl (.tmp 45) (.tmp 51) rfl _ [] rfl w3 HE0.out _ _ M _ HC5.out HCL.out rfl (Nat.le_trans HM6.out (by decide)) ?_; intro v8 w8 o8)
        go_ret2
        rw [HRR.out]
        exact ⟨_, rfl, by rw [List.nil_append] at o8; exact o8.back HBW.out⟩
end Go.Proofs.Ytghglbaflmbeoaa
