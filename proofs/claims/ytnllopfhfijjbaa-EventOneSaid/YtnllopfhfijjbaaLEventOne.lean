/- The law 'EventOne', walked. -/
import Derived.Test.YtnllopfhfijjbaaEvO
namespace Go.Proofs.Ytnllopfhfijjbaa
open Go.RowKit
set_option linter.unusedVariables false
set_option linter.unusedSimpArgs false

theorem wf_u8b {n : Int} (h : (Lit.int .u8 n).wf = true) : ∃ u : UInt8, n = (u.toNat : Nat) := by
  simp [Lit.wf, IntKind.min, IntKind.max, IntKind.signed, IntKind.bits] at h
  exact ⟨UInt8.ofNat n.toNat, by simp [UInt8.toNat_ofNat']; omega⟩
set_option maxRecDepth 100000 in
set_option maxHeartbeats 3200000 in
theorem eone_known (a : Option Addr) (n c : Nat) (u : UInt8) (w : World) (hb : 150 < n) :
    Calls Try.prog 5 #[.slice a n c, .int .u8 (u.toNat : Nat)] w fun x w' => x = .returned (.bool true) ∧ Below w.heap.size w w' := by
  go_enter Try.func5, Try.ntmps5
  go_wp2_with fail
  refine (known_any _).mono ?_
  rintro y w2 ⟨rfl, hb2⟩
  go_wp2_with fail
  go_ret
  exact ⟨rfl, hb2⟩
set_option maxRecDepth 100000 in
set_option maxHeartbeats 6400000 in
theorem eone_walk (a : Option Addr) (n c : Nat) (l : List UInt8) (u : UInt8) (w : World) (hr : Row w a c l) (hn : l.length = n) (hn2 : n ≤ 150) :
    Calls Try.prog 5 #[.slice a n c, .int .u8 (u.toNat : Nat)] w fun x w' => x = .returned (.bool true) ∧ Below w.heap.size w w' := by
  have HR := Lib.hid hr
  have HN := Lib.hid hn
  clear hr hn
  rcases getEv_two l with ⟨E, hg, hrt, hp⟩ | ⟨hg, hno⟩
  · have hlen := putE_len hrt
    rw [hp, HN.out] at hlen
    obtain ⟨k, o, m, d, nm⟩ := E
    have hpe := putEv_yes hrt
    rw [hp] at hpe
    obtain ⟨S, hS⟩ : ∃ S : ByteArray, ⟨nm.toArray⟩ = S := ⟨_, rfl⟩
    obtain ⟨dn, hdn⟩ : ∃ dn, d.length = dn := ⟨_, rfl⟩
    have HD := Lib.hid hdn
    have HSN : Hid (S.data.toList = nm) := Lib.hid (by rw [← hS])
    have HSS : Hid (S.size ≤ 12) := by
      refine Lib.hid ?_
      have : nm.length ≤ 12 := by
        rcases right_iff.1 hrt with h1 | h1 | h1 | h1 | h1 <;> simp only at h1
        · rw [h1.2.2.2.2]; simp
        · rw [h1.2.2.2]; simp
        · rw [h1.2.2.2.2.2]; simp
        · exact (nameOk_len h1.2.2.2.2).2
        · rw [h1.2.2.2.2]; simp
      rw [← hS]; simpa [ByteArray.size] using this
    have GA := Lib.hid (fun (W : World) (h : Below w.heap.size w W) => eget_any a n c l W (HR.out.later h) HN.out (by omega))
    unfold EGot evV at GA
    rw [hg] at GA
    simp only at GA
    rw [hS, hdn] at GA
    -- the longer one
    obtain ⟨E2, er2, hg2, hne⟩ : ∃ E2 er2, getEv (l ++ [u]) = (E2, er2) ∧ (er2 ≠ 0 ∨ E2 ≠ ⟨k, o, m, d, nm⟩) := by
      rcases getEv_two (l ++ [u]) with ⟨E2, h1, h2, h3⟩ | ⟨h1, h2⟩
      · refine ⟨E2, 0, h1, .inr fun h => ?_⟩
        rw [h, hp] at h3
        have := congrArg List.length h3
        simp at this
      · exact ⟨noEv, 2, h1, .inl (by decide)⟩
    obtain ⟨k2, o2, m2, d2, nm2⟩ := E2
    obtain ⟨S2, hS2⟩ : ∃ S2 : ByteArray, ⟨nm2.toArray⟩ = S2 := ⟨_, rfl⟩
    obtain ⟨dn2, hdn2⟩ : ∃ dn2, d2.length = dn2 := ⟨_, rfl⟩
    have HD2 := Lib.hid hdn2
    have HNE : Hid (er2 = 0 → (false = true ↔ k2 = k ∧ o2 = o ∧ m2 = m ∧ S2 = S ∧ d2 = d)) := by
      refine Lib.hid fun h0 => Iff.intro (fun h => nomatch h) fun ⟨h1, h2, h3, h4, h5⟩ => ?_
      rcases hne with hne | hne
      · exact absurd h0 hne
      · refine absurd ?_ hne
        rw [← hS2, ← hS] at h4
        have h6 : nm2 = nm := bytes_eq.1 h4
        rw [h1, h2, h3, h5, h6]
    have G2 := Lib.hid (fun (W : World) (aa : Option Addr) (cc : Nat) (h : Row W aa cc (l ++ [u])) => eget_any aa (n + 1) cc (l ++ [u]) W h (by rw [List.length_append, HN.out]; rfl) (by omega))
    unfold EGot evV at G2
    rw [hg2] at G2
    simp only at G2
    rw [hS2, hdn2] at G2
    have HPE := Lib.hid hpe
    have HRT := Lib.hid hrt
    have HLEN := Lib.hid hlen
    clear hg hrt hp hpe hS hdn hg2 hne hS2 hdn2 hlen
    go_enter Try.func5, Try.ntmps5
    go_wp2_with fail
    refine (GA.out _ (Below.refl _ _)).mono ?_
    rintro y w1 ⟨ap, cp, rfl, rp, hb1⟩
    have hba : Below w1.heap.size w1 (w1.alloc (.cells #[.int .i64 k, .int .i64 o, .int .i64 m, .slice ap dn cp, .string S] 24)) := (Below.refl _ _).alloc (Nat.le_refl _) _
    have HB2 := Lib.hid (hb1.trans (hba.mono hb1.size))
    have HP2 := Lib.hid (RecAt.new w1 #[.int .i64 k, .int .i64 o, .int .i64 m, .slice ap dn cp, .string S] 24)
    have RP2 := Lib.hid (rp.later hba)
    clear rp hb1 hba GA
    go_upto_region 4 with fail
    generalize (w1.alloc (.cells #[.int .i64 k, .int .i64 o, .int .i64 m, .slice ap dn cp, .string S] 24)) = w2 at *
    generalize w1.heap.size = p1 at *
    obtain ⟨x0, x1, x2, x3, x4⟩ := HP2.out.c5
    go_wp2_with fail
    refine (eputE ⟨k, o, m, d, nm⟩ ap dn cp S w2 RP2.out HD.out HSN.out (by have := HSS.out; omega)).mono ?_
    rintro y w3 ⟨v3, rfl, o3⟩
    rw [HPE.out] at o3 ⊢
    simp only at o3 ⊢
    have HB3 := Lib.hid (HB2.out.trans (o3.below.mono HB2.out.size))
    have HP3 := Lib.hid (HP2.out.later o3.below)
    have RP3 := Lib.hid (RP2.out.later o3.below)
    obtain ⟨aY, cY, rfl, rY⟩ := o3.row_n HN.out
    have RY3 := Lib.hid rY
    clear o3 rY x0 x1 x2 x3 x4 HB2 HP2 RP2 HPE
    go_wp2_with (first
      | (at_builtin; refine wp_row rfl _ _ rfl _ _ rfl w3 (own_empty (Below.refl _ _)) a c n l (HR.out.later (HB3.out.alloc HB3.out.size _)) HN.out rfl (by have := HN.out; simp only [List.length_nil]; omega) ?_; intro v5 w5 o5)
      | (at_builtin; refine wp_byte rfl _ _ rfl _ _ rfl w3 o5 _ u rfl rfl (by have := HN.out; simp; omega) ?_; intro v6 w6 o6))
    rw [List.nil_append] at o6
    have hb6 := o6.below
    obtain ⟨aZ, cZ, rfl, rZ⟩ := o6.row_n (n := n + 1) (by rw [List.length_append, HN.out]; rfl)
    have HB6 := Lib.hid (HB3.out.trans (hb6.mono HB3.out.size))
    have HP6 := Lib.hid (HP3.out.later hb6)
    have RP6 := Lib.hid (RP3.out.later hb6)
    have RY6 := Lib.hid (RY3.out.later hb6)
    clear hb6 o6 o5 HB3 HP3 RP3 RY3
    refine (G2.out w6 aZ cZ rZ).mono ?_
    rintro y w7 ⟨aq, cq, rfl, rq, hb7⟩
    have hba : Below w7.heap.size w7 (w7.alloc (.cells #[.int .i64 k2, .int .i64 o2, .int .i64 m2, .slice aq dn2 cq, .string S2] 24)) := (Below.refl _ _).alloc (Nat.le_refl _) _
    have hbb := hb7.trans (hba.mono hb7.size)
    have HB8 := Lib.hid (HB6.out.trans (hbb.mono HB6.out.size))
    have HP8 := Lib.hid (HP6.out.later hbb)
    have RP8 := Lib.hid (RP6.out.later hbb)
    have RY8 := Lib.hid (RY6.out.later hbb)
    have HQ8 := Lib.hid (RecAt.new w7 #[.int .i64 k2, .int .i64 o2, .int .i64 m2, .slice aq dn2 cq, .string S2] 24)
    have RQ8 := Lib.hid (rq.later hba)
    clear rq hb7 hba hbb G2 rZ HB6 HP6 RP6 RY6
    go_upto_region 8 with fail
    generalize (w7.alloc (.cells #[.int .i64 k2, .int .i64 o2, .int .i64 m2, .slice aq dn2 cq, .string S2] 24)) = w8 at *
    generalize w7.heap.size = p2 at *
    obtain ⟨x0, x1, x2, x3, x4⟩ := HP8.out.c5
    obtain ⟨y0, y1, y2, y3, y4⟩ := HQ8.out.c5
    have hcy := conv_row_n RY8.out HN.out
    have hcb := conv_row_n (HR.out.later HB8.out) HN.out
    generalize (⟨l.toArray⟩ : ByteArray) = LS at *
    have ee : (LS.toList == LS.toList) = true := by simp
    by_cases he : er2 = 0
    · have HQN := Lib.hid (HNE.out he)
      subst he
      clear HNE
      go_wp2_with fail
      refine (esame_any _ _ _ _ _ _ _ _ _ _ _ _ _ _ _ _ w8 RQ8.out RP8.out HD2.out HD.out false HQN.out).mono ?_
      rintro e w9 ⟨rfl, hb9⟩
      have HB9 := Lib.hid (HB8.out.trans (hb9.mono HB8.out.size))
      have HP9 := Lib.hid (HP8.out.later hb9)
      have RP9 := Lib.hid (RP8.out.later hb9)
      clear x0 x1 x2 x3 x4 y0 y1 y2 y3 y4 hb9 hcy hcb
      obtain ⟨x0, x1, x2, x3, x4⟩ := HP9.out.c5
      have hrr := eright_any o m ap dn cp d S w9 k RP9.out HD.out (by have := HSS.out; omega)
      rw [HSN.out, HRT.out] at hrr
      go_wp2_with fail
      refine hrr.mono ?_
      rintro e w10 ⟨rfl, hb10⟩
      have HB10 := Lib.hid (HB9.out.trans (hb10.mono HB9.out.size))
      clear x0 x1 x2 x3 x4
      go_wp2_with fail
      refine (known_any _).mono ?_
      rintro y w11 ⟨rfl, hb11⟩
      go_wp2_with fail
      go_ret
      exact ⟨rfl, HB10.out.trans (hb11.mono HB10.out.size)⟩
    · have e1 : (er2 != 0) = true := by simpa using he
      have e2 : (er2 == 0) = false := by simpa using he
      have hrr := eright_any o m ap dn cp d S w8 k RP8.out HD.out (by have := HSS.out; omega)
      rw [HSN.out, HRT.out] at hrr
      clear HNE he
      go_wp2_with fail
      refine hrr.mono ?_
      rintro e w10 ⟨rfl, hb10⟩
      have HB10 := Lib.hid (HB8.out.trans (hb10.mono HB8.out.size))
      clear x0 x1 x2 x3 x4 y0 y1 y2 y3 y4
      go_wp2_with fail
      refine (known_any _).mono ?_
      rintro y w11 ⟨rfl, hb11⟩
      go_wp2_with fail
      go_ret
      exact ⟨rfl, HB10.out.trans (hb11.mono HB10.out.size)⟩
  · have GA := Lib.hid (fun (W : World) (h : Below w.heap.size w W) => eget_any a n c l W (HR.out.later h) HN.out (by omega))
    unfold EGot evV at GA
    rw [hg] at GA
    clear hg hno
    unfold noEv at GA
    simp only [List.length_nil] at GA
    go_enter Try.func5, Try.ntmps5
    go_wp2_with fail
    refine (GA.out _ (Below.refl _ _)).mono ?_
    rintro y w1 ⟨ap, cp, rfl, rp, hb1⟩
    have hba : Below w1.heap.size w1 (w1.alloc (.cells #[.int .i64 0, .int .i64 0, .int .i64 0, .slice ap 0 cp, .string ⟨#[]⟩] 24)) := (Below.refl _ _).alloc (Nat.le_refl _) _
    have HB2 := Lib.hid (hb1.trans (hba.mono hb1.size))
    clear rp hb1 hba GA
    go_wp2_with fail
    refine (known_any _).mono ?_
    rintro y w6 ⟨rfl, hb6⟩
    go_wp2_with fail
    go_ret
    exact ⟨rfl, HB2.out.trans (hb6.mono HB2.out.size)⟩

theorem eventOne_walk (a : Option Addr) (n c : Nat) (l : List UInt8) (z : Int) (w : World) (hr : Row w a c l) (hn : l.length = n) (hz : (Lit.int .u8 z).wf = true) :
    Calls Try.prog 5 #[.slice a n c, .int .u8 z] w fun x w' => x = .returned (.bool true) ∧ Below w.heap.size w w' := by
  obtain ⟨u, rfl⟩ := wf_u8b hz
  by_cases hb : 150 < n
  · exact eone_known a n c u w hb
  · exact eone_walk a n c l u w hr hn (by omega)
end Go.Proofs.Ytnllopfhfijjbaa
