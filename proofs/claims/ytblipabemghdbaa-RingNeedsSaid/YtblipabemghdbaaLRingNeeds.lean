/- The law 'RingNeeds', walked. -/
import Derived.Test.YtblipabemghdbaaLRingHolds
import Derived.Test.YtblipabemghdbaaGapp
import Derived.Test.YtblipabemghdbaaApp
namespace Go.Proofs.Ytblipabemghdbaa
open Go.RowKit Go.Proofs
set_option linter.unusedVariables false
set_option linter.unusedSimpArgs false
set_option linter.unnecessarySimpa false

theorem szL_take (l : List Int) (j : Nat) : (szL l).take j = szL (l.take j) := by unfold szL; rw [List.map_take]
/-- A row of numbers of one's own, as a region leaves it. -/
def zwV (W0 : World) (ts : List Int) : SV := ⟨fun w v => GOwn inT W0 w v ts, fun w w' v h hb => h.later hb⟩
set_option maxRecDepth 100000 in
set_option maxHeartbeats 12800000 in
theorem ringNeeds_walk (a b c at' : Int) (ad1 : Option Addr) (n1 cap1 : Nat) (l1 : List Int) (ad2 : Option Addr) (n2 cap2 : Nat) (l2 : List Int) (w : World) (hr1 : ZRow w ad1 cap1 l1) (hn1 : l1.length = n1) (hr2 : ZRow w ad2 cap2 l2) (hn2 : l2.length = n2) :
    Calls Try.prog 7 #[.int .i64 a, .int .i64 b, .int .i64 c, .int .i64 at', .slice ad1 n1 cap1, .slice ad2 n2 cap2] w fun x w' => x = .returned (.bool true) ∧ Below w.heap.size w w' := by
  have HR1 := Lib.hid hr1
  have HK1 := Lib.hid hn1
  have HR2 := Lib.hid hr2
  have HK2 := Lib.hid hn2
  have hcm1 : cap1 ≤ 9223372036854775807 := by have := hr1.2.1; unfold maxLen at this; omega
  have hmc1 : n1 ≤ cap1 := by rw [← hn1]; exact hr1.1
  have hcm2 : cap2 ≤ 9223372036854775807 := by have := hr2.2.1; unfold maxLen at this; omega
  have hmc2 : n2 ≤ cap2 := by rw [← hn2]; exact hr2.1
  clear hr1 hn1 hr2 hn2
  obtain ⟨A0, hA0⟩ : ∃ z, bits .and .i64 at' 1048575 = z := ⟨_, rfl⟩
  have hAr0 : 0 ≤ A0 ∧ A0 ≤ 1048575 := by rw [← hA0]; exact and_range at' 1048575 (by decide)
  have hwA0 : IntKind.i64.wrap (1 + A0) = 1 + A0 := by rw [IntKind.wrap_i64]; omega
  go_enter Try.func7, Try.ntmps7
  cases d1 : decide (80 < (n1 : Int)) with
  | true =>
    go_wp2_with fail
    refine (knownRg_any _).mono ?_
    rintro e w9 ⟨rfl, b9⟩
    go_wp2_with fail
    go_ret
    exact ⟨rfl, b9⟩
  | false =>
  cases d2 : decide (80 < (n2 : Int)) with
  | true =>
    go_wp2_with fail
    refine (knownRg_any _).mono ?_
    rintro e w9 ⟨rfl, b9⟩
    go_wp2_with fail
    go_ret
    exact ⟨rfl, b9⟩
  | false =>
  have hn80 : n1 ≤ 80 ∧ n2 ≤ 80 := by simp at d1 d2; omega
  go_wp2_with fail
  refine (shape10_any a b c w).mono ?_
  rintro e w1 ⟨s, rfl, hok, b1⟩
  obtain ⟨A, hA⟩ : ∃ A, 1 + A0 = A := ⟨_, rfl⟩
  have hAr : 1 ≤ A ∧ A ≤ 1048576 := by omega
  rw [hA] at hwA0
  obtain ⟨X13, X14, B1⟩ := two_recsR w1 (rgC s) (flC noFl) 23 26
  have HX13 := Lib.hid X13
  have HX14 := Lib.hid X14
  have HB2 := Lib.hid (b1.trans (B1.mono b1.size))
  have HOK := Lib.hid hok
  have HPW := Lib.hid b1.size
  obtain ⟨G, hG, _⟩ := fillR_some hok (f := noFl) (q := A) (l := szL l1) (by have := hok.2.2; unfold Fl.In noFl; simp only; omega) (by unfold noFl; simp only; omega) (by rw [szL_len, HK1.out]; unfold noFl; simp only; omega) (by omega) (by rw [szL_len, HK1.out]; omega) szL_range
  have HG := Lib.hid hG
  clear b1 B1 X13 X14 d1 d2 hok hG
  simp only [flC, noFl] at HX13 HX14 HB2
  go_upto_region 6 with fail
  generalize ((w1.alloc (.cells (rgC s) 23)).alloc (.cells #[.int .i64 0, .int .i64 0, .int .i64 0, .int .i64 0, .int .i64 0] 26)) = w2 at *
  obtain ⟨P14, hP14⟩ : ∃ P, w1.heap.size + 1 = P := ⟨_, rfl⟩
  obtain ⟨P13, hP13⟩ : ∃ P, w1.heap.size = P := ⟨_, rfl⟩
  have HPP : Hid (P13 < P14) := Lib.hid (by omega)
  rw [hP14] at HX14 ⊢
  rw [hP13] at HX13 HPW
  rw [hP13]
  clear hP13 hP14 hA0 hwA0 hA
  go_wp2_with fail
  go_loopw [15, 17, 18, 19, 20, 21] (fun ov iv _ _ _ _ wr => ∃ (j : Nat) (ap : Option Addr) (cp : Nat) (F : Fl), iv = .int .i64 (j : Nat) ∧ ov = .slice ap j cp ∧ j ≤ n1 ∧ Hid (RecAt wr P13 (rgC s) 23) ∧ Hid (RecAt wr P14 (flC F) 26) ∧ Hid (fillR s noFl A (szL (l1.take j)) = some F) ∧ Hid (GOwn inT w wr (.slice ap j cp) (szL (l1.take j)))) (fun _ iv _ _ _ _ _ => n1 - (intOf iv).toNat)
  case atStart => exact ⟨0, none, 0, noFl, rfl, rfl, by omega, HX13, HX14, Lib.hid rfl, Lib.hid (GOwn.nil' HB2.out)⟩
  case round =>
    clear HX13 HX14 HB2
    obtain ⟨j, ap, cp, F, rfl, rfl, hj, HX, HY, HF, HO⟩ := hrel
    by_cases hjn : (j : Int) < n1
    · obtain ⟨x, hx⟩ : ∃ x, l1[j]? = some x := ⟨l1[j]'(by have := HK1.out; omega), List.getElem?_eq_getElem _⟩
      obtain ⟨b0, o0, rfl, p0⟩ := (HR1.out.later HO.out.below).at hx
      obtain ⟨y, hy⟩ : ∃ z, bits .and .i64 x 255 = z := ⟨_, rfl⟩
      have hyr : 0 ≤ y ∧ y ≤ 255 := by rw [← hy]; exact and_range x 255 (by decide)
      obtain ⟨Y, hY⟩ : ∃ Y, 1 + y % 90 = Y := ⟨_, rfl⟩
      have hYr : 1 ≤ Y ∧ Y ≤ 90 := by omega
      have hcn : szN x = Y := by unfold szN; rw [hy]; exact hY
      have hsn := szL_snoc hx
      have hat := szL_at hx
      rw [hcn] at hsn hat
      obtain ⟨h, f1, f2, _, f4⟩ := placesR_at HG.out hat
      rw [szL_take, HF.out] at f1
      obtain rfl : F = h := Option.some.inj f1
      rw [szL_take] at f4
      have HSN := Lib.hid hsn
      have HPL : Hid ((szL (l1.take j)).length = j) := Lib.hid (by rw [szL_len, List.length_take]; have := HK1.out; omega)
      have hba : Below wr.heap.size wr (wr.alloc (.cells #[.int .i64 Y] 3)) := (Below.refl _ _).alloc (Nat.le_refl _) _
      have HUL : Hid ((szL (l1.take j) ++ [Y]).length = j + 1) := Lib.hid (by rw [List.length_append, HPL.out]; rfl)
      obtain ⟨F2, P, nx, ok, hpt⟩ : ∃ F3 P b k, putR s F (A + (j : Nat)) Y = (F3, P, b, k) := ⟨_, _, _, _, rfl⟩
      have HPT := Lib.hid (fun W => ringput_any s F (A + (j : Nat)) Y HOK.out.in (fillR_seq noFl_in HF.out).1 (by unfold inI; omega) (by unfold inI; omega) W)
      rw [hpt] at HPT f4
      have HF4 := Lib.hid f4
      have hwq : IntKind.i64.wrap (A + (j : Nat)) = A + (j : Nat) := by rw [IntKind.wrap_i64]; omega
      clear hx hcn hsn hat f1 f2 f4 hpt
      go_upto_region 12 with (at_builtin; refine wp_gone inOk rfl _ _ rfl rfl _ _ rfl w HO.out Y (show inB Y by unfold inB; omega) rfl rfl (by rw [HPL.out]; omega) ?_; intro v12 w12 o12 g12 h12; obtain ⟨a12, c12, rfl, _⟩ := o12.row_n inOk HUL.out; have HO12 := Lib.hid o12; have HG12 := Lib.hid g12; clear o12 g12 h12)
      have hn3 := (HO.out.later hba).ne (HX.out.later hba) (by decide)
      have hn4 := (HO.out.later hba).ne (HY.out.later hba) (by decide)
      have HXm := Lib.hid ((HX.out.later hba).grown HG12.out (fun e => hn3 e.symm))
      have HYm := Lib.hid ((HY.out.later hba).grown HG12.out (fun e => hn4 e.symm))
      clear hn3 hn4 hba HG12 HX HY HO p0 hy hY
      obtain ⟨x0, x1, x2⟩ := HXm.out.c3
      obtain ⟨y0, y1, y2, y3, y4⟩ := HYm.out.e5
      go_wp2_with fail
      refine (HPT.out w12).mono ?_
      rintro e w3 ⟨rfl, b3⟩
      obtain ⟨A1, A2, A3⟩ := two_recsR w3 (flC F2) (pcC P) 26 28
      have bb := b3.trans (A3.mono b3.size)
      have HX19 := Lib.hid A1
      have HXn := Lib.hid (HXm.out.later bb)
      have HYn := Lib.hid (HYm.out.later bb)
      have HOn := Lib.hid (HO12.out.later bb)
      clear A1 A2 A3 bb b3 x0 x1 x2 y0 y1 y2 y3 y4 HXm HYm HO12
      go_upto_region 13 with fail
      generalize ((w3.alloc (.cells (flC F2) 26)).alloc (.cells (pcC P) 28)) = w4 at *
      obtain ⟨y0, y1, y2, y3, y4⟩ := HX19.out.e5
      have HN14 := Lib.hid (HOn.out.ne HYn.out (by decide))
      go_wp2_with (refine wpList_rec rfl rfl P14 (flC F) (flC F2) rfl rfl HYn.out rfl (by kernel_rfl) (by kernel_rfl) ?_; intro w8 r1 r2 r3 r4)
      go_roundw
      case rel => exact ⟨j + 1, a12, c12, F2, by go_num, rfl, by omega, Lib.hid (HXn.out.keep r3 (by have := HPP.out; omega)), Lib.hid r1, HF4, Lib.hid (by rw [HSN.out]; exact HOn.out.keptBy r4 (.inr HN14.out) (fun k e => by cases e; have := HPP.out; have := HPW.out; omega))⟩
      case measure => simp [intOf]; omega
    · have hjn' : j = n1 := by omega
      subst hjn'
      rw [List.take_of_length_le (Nat.le_of_eq HK1.out)] at HO HF
      obtain ⟨L, hL⟩ : ∃ L, szL l1 = L := ⟨_, rfl⟩
      have HLR : Hid (∀ n ∈ L, 1 ≤ n ∧ n ≤ 90) := Lib.hid (by rw [← hL]; exact szL_range)
      have HLN : Hid (L.length = j) := Lib.hid (by rw [← hL, szL_len, HK1.out])
      rw [hL] at HO HF
      clear hL HR1 HK1 HG hcm1 hmc1
      obtain ⟨_, _, e15, r15⟩ := HO.out.row_n inOk HLN.out
      cases e15
      have HR150 := Lib.hid r15
      have HBW := Lib.hid HO.out.below
      have hcp : cp ≤ 9223372036854775807 ∧ j ≤ cp := by have h1 := r15.2.1; have h2 := r15.1; rw [HLN.out] at h2; unfold maxLen at h1; omega
      clear HO r15
      obtain ⟨wB0, hwB0⟩ : ∃ W, W = wr := ⟨_, rfl⟩
      subst hwB0
      go_wp2_with fail
      go_loopw [16, 22] (fun ov iv wq => ∃ (i : Nat) (ap2 : Option Addr) (cp2 : Nat), iv = .int .i64 (i : Nat) ∧ ov = .slice ap2 i cp2 ∧ i ≤ n2 ∧ Hid (GOwn inT wB0 wq (.slice ap2 i cp2) (szL (l2.take i)))) (fun _ iv _ => n2 - (intOf iv).toNat)
      case atStart => exact ⟨0, none, 0, rfl, rfl, by omega, Lib.hid (GOwn.nil inT wB0)⟩
      case round =>
        obtain ⟨i, ap2, cp2, rfl, rfl, hi, HO⟩ := hrel
        by_cases hin : (i : Int) < n2
        · obtain ⟨x, hx⟩ : ∃ x, l2[i]? = some x := ⟨l2[i]'(by have := HK2.out; omega), List.getElem?_eq_getElem _⟩
          obtain ⟨b0, o0, rfl, p0⟩ := ((HR2.out.later HBW.out).later HO.out.below).at hx
          obtain ⟨y, hy⟩ : ∃ z, bits .and .i64 x 255 = z := ⟨_, rfl⟩
          have hyr : 0 ≤ y ∧ y ≤ 255 := by rw [← hy]; exact and_range x 255 (by decide)
          obtain ⟨Y, hY⟩ : ∃ Y, 1 + y % 90 = Y := ⟨_, rfl⟩
          have hYr : 1 ≤ Y ∧ Y ≤ 90 := by omega
          have hcn : szN x = Y := by unfold szN; rw [hy]; exact hY
          have hsn := szL_snoc hx
          rw [hcn] at hsn
          have HSN := Lib.hid hsn
          have HPL : Hid ((szL (l2.take i)).length = i) := Lib.hid (by rw [szL_len, List.length_take]; have := HK2.out; omega)
          have HUL : Hid ((szL (l2.take i) ++ [Y]).length = i + 1) := Lib.hid (by rw [List.length_append, HPL.out]; rfl)
          clear hx hcn hsn
          go_upto_region 16 with (at_builtin; refine wp_gone inOk rfl _ _ rfl rfl _ _ rfl wB0 HO.out Y (show inB Y by unfold inB; omega) rfl rfl (by rw [HPL.out]; omega) ?_; intro v12 w12 o12 g12 h12; obtain ⟨a12, c12, rfl, _⟩ := o12.row_n inOk HUL.out; have HO12 := Lib.hid o12; clear o12 g12 h12)
          clear HO p0 hy hY
          go_wp2_with fail
          go_roundw
          case rel => exact ⟨i + 1, a12, c12, by go_num, rfl, by omega, Lib.hid (by rw [HSN.out]; exact HO12.out)⟩
          case measure => simp [intOf]; omega
        · have hin' : i = n2 := by omega
          subst hin'
          rw [List.take_of_length_le (Nat.le_of_eq HK2.out)] at HO
          obtain ⟨M, hM⟩ : ∃ M, szL l2 = M := ⟨_, rfl⟩
          have HMR : Hid (∀ n ∈ M, 1 ≤ n ∧ n ≤ 90) := Lib.hid (by rw [← hM]; exact szL_range)
          have HMN : Hid (M.length = i) := Lib.hid (by rw [← hM, szL_len, HK2.out])
          rw [hM] at HO
          clear hM HR2 HK2 hcm2 hmc2
          obtain ⟨_, _, e16, r16⟩ := HO.out.row_n inOk HMN.out
          cases e16
          have hcp2 : cp2 ≤ 9223372036854775807 ∧ i ≤ cp2 := by have h1 := r16.2.1; have h2 := r16.1; rw [HMN.out] at h2; unfold maxLen at h1; omega
          obtain ⟨wB, hwB⟩ : ∃ W, W = wr := ⟨_, rfl⟩
          subst hwB
          have HX13 := Lib.hid (HX.out.later HO.out.below)
          have HX14 := Lib.hid (HY.out.later HO.out.below)
          have HR15 := Lib.hid (fun W (h : Below wB.heap.size wB W) => (HR150.out.later HO.out.below).later h)
          have HR16 := Lib.hid (fun W (h : Below wB.heap.size wB W) => r16.later h)
          have HBB := Lib.hid (HBW.out.trans (HO.out.below.mono HBW.out.size))
          obtain ⟨G1, k1, k2, _, k4, k5⟩ := fillR_some HOK.out (f := noFl) (q := A) (l := L ++ M) (by have := HOK.out.2.2; unfold Fl.In noFl; simp only; omega) (by unfold noFl; simp only; omega) (by rw [List.length_append, HLN.out, HMN.out]; unfold noFl; simp only; omega) (by omega) (by rw [List.length_append, HLN.out, HMN.out]; omega) (fun n hn => (List.mem_append.1 hn).elim (HLR.out n) (HMR.out n))
          have k6 : fillR s F (A + (j : Nat)) M = some G1 := by
            have := fillR_app (c := s) (f := noFl) (q := A) (l := L) (m := M)
            rw [HF.out, HLN.out, k1] at this
            simpa using this.symm
          have hX : needR s noFl A L = moreR s noFl A L := by rw [needR_eq, HF.out]; rfl
          have hY : needR s F (A + (j : Nat)) M = moreR s F (A + (j : Nat)) M := by rw [needR_eq, k6]; rfl
          have hZ : needR s noFl A (L ++ M) = moreR s noFl A L + moreR s F (A + (j : Nat)) M := by
            rw [needR_eq, k1, ← HLN.out]
            exact moreR_app HF.out
          have hs1 := (fillR_seq noFl_in HF.out).2.2
          have hb1 := moreR_bound (c := s) (g0 := noFl) (q := A) (l := L)
          have hb2 := moreR_bound (c := s) (g0 := F) (q := A + (j : Nat)) (l := M)
          rw [HLN.out] at hb1
          rw [HMN.out] at hb2
          have hFI := (fillR_seq noFl_in HF.out).1
          obtain ⟨X, hXX⟩ : ∃ X, moreR s noFl A L = X := ⟨_, rfl⟩
          obtain ⟨Y, hYY⟩ : ∃ Y, moreR s F (A + (j : Nat)) M = Y := ⟨_, rfl⟩
          rw [hXX] at hX hZ hs1 hb1
          rw [hYY] at hY hZ hb2
          obtain ⟨Z, hZZ⟩ : ∃ Z, X + Y = Z := ⟨_, rfl⟩
          rw [hZZ] at hZ
          have hFs : F.set = X := by rw [hs1]; unfold noFl; simp
          have HN1 := Lib.hid (fun W (h : Below wB.heap.size wB W) => ringneed_any s noFl A ap j cp L HOK.out.in noFl_in (by unfold inI; omega) W (HR15.out W h).zrow HLN.out)
          have HN2 := Lib.hid (fun W (h : Below wB.heap.size wB W) => ringneed_any s F (A + (j : Nat)) ap2 i cp2 M HOK.out.in hFI (by unfold inI; omega) W (HR16.out W h).zrow HMN.out)
          have HLM : Hid ((L ++ M).length = j + i) := Lib.hid (by rw [List.length_append, HLN.out, HMN.out])
          have HN3 := Lib.hid (fun W (ad : Option Addr) (cap : Nat) (h : ZRow W ad cap (L ++ M)) => ringneed_any s noFl A ad (j + i) cap (L ++ M) HOK.out.in noFl_in (by unfold inI; omega) W h HLM.out)
          rw [hX] at HN1
          rw [hY] at HN2
          rw [hZ] at HN3
          simp only [noFl] at HN1 HN3
          have HWA : Hid (IntKind.i64.wrap (A + (j : Nat)) = A + (j : Nat)) := Lib.hid (by rw [IntKind.wrap_i64]; omega)
          have HZF : Hid (∀ W : World, True) := Lib.hid (fun _ => trivial)
          have HT1 : Hid (([] : List Int).length + L.length ≤ 1000000) := Lib.hid (by rw [HLN.out]; simp; omega)
          have HT2 : Hid (L.length + M.length ≤ 1000000) := Lib.hid (by rw [HLN.out, HMN.out]; omega)
          have HLL := HLN
          have HML := HMN
          have HFS := Lib.hid hFs
          have HZZ := Lib.hid hZZ
          have hbx : 0 ≤ X ∧ X ≤ 80 ∧ 0 ≤ Y ∧ Y ≤ 80 := by omega
          have ub0 := Try.underlying3
          have ub1 := Try.underlying37
          clear k1 k2 k4 k5 k6 hX hY hZ hs1 hb1 hb2 hFI hXX hYY hZZ hFs HO HX HY HBW HR150 r16 HOK HLR HMR HF HPP HPW
          go_upto_region 18 with fail
          -- REG A
          refine wp_region_ptab (L := fun ph => match ph with | 0 => [cV (.agg #[.int .i64 s.sp, .int .i64 s.st, .int .i64 s.sz]), cV (.agg #[.int .i64 0, .int .i64 0, .int .i64 0, .int .i64 0, .int .i64 0]), cV (.int .i64 A), cV (.slice ap j cp), cV (.int .i64 X), cV (.agg #[.int .i64 s.sp, .int .i64 s.st, .int .i64 s.sz]), cV (.agg #[.int .i64 F.set, .int .i64 F.u0, .int .i64 F.u1, .int .i64 F.u2, .int .i64 F.u3]), cV (.int .i64 A), cV (.slice ap j cp), cV (.int .i64 (j : Nat)), cV (.int .i64 (A + (j : Nat))), cV (.slice ap2 i cp2), cV (.int .i64 Y), cV (.agg #[.int .i64 s.sp, .int .i64 s.st, .int .i64 s.sz]), cV (.agg #[.int .i64 0, .int .i64 0, .int .i64 0, .int .i64 0, .int .i64 0]), cV (.int .i64 A), zwV wB [], cV (.slice ap j cp), nV, cV (.slice ap2 i cp2), nV, cV (.int .i64 Z), cV (.int .i64 X), cV (.int .i64 Y), cV (.int .i64 Z)] | 1 => [cV (.agg #[.int .i64 s.sp, .int .i64 s.st, .int .i64 s.sz]), cV (.agg #[.int .i64 0, .int .i64 0, .int .i64 0, .int .i64 0, .int .i64 0]), cV (.int .i64 A), cV (.slice ap j cp), cV (.int .i64 X), cV (.agg #[.int .i64 s.sp, .int .i64 s.st, .int .i64 s.sz]), cV (.agg #[.int .i64 F.set, .int .i64 F.u0, .int .i64 F.u1, .int .i64 F.u2, .int .i64 F.u3]), cV (.int .i64 A), cV (.slice ap j cp), cV (.int .i64 (j : Nat)), cV (.int .i64 (A + (j : Nat))), cV (.slice ap2 i cp2), cV (.int .i64 Y), cV (.agg #[.int .i64 s.sp, .int .i64 s.st, .int .i64 s.sz]), cV (.agg #[.int .i64 0, .int .i64 0, .int .i64 0, .int .i64 0, .int .i64 0]), cV (.int .i64 A), tV, cV (.slice ap j cp), zwV wB L, cV (.slice ap2 i cp2), nV, cV (.int .i64 Z), cV (.int .i64 X), cV (.int .i64 Y), cV (.int .i64 Z)] | _ => [cV (.agg #[.int .i64 s.sp, .int .i64 s.st, .int .i64 s.sz]), cV (.agg #[.int .i64 0, .int .i64 0, .int .i64 0, .int .i64 0, .int .i64 0]), cV (.int .i64 A), cV (.slice ap j cp), cV (.int .i64 X), cV (.agg #[.int .i64 s.sp, .int .i64 s.st, .int .i64 s.sz]), cV (.agg #[.int .i64 F.set, .int .i64 F.u0, .int .i64 F.u1, .int .i64 F.u2, .int .i64 F.u3]), cV (.int .i64 A), cV (.slice ap j cp), cV (.int .i64 (j : Nat)), cV (.int .i64 (A + (j : Nat))), cV (.slice ap2 i cp2), cV (.int .i64 Y), cV (.agg #[.int .i64 s.sp, .int .i64 s.st, .int .i64 s.sz]), cV (.agg #[.int .i64 0, .int .i64 0, .int .i64 0, .int .i64 0, .int .i64 0]), cV (.int .i64 A), tV, cV (.slice ap j cp), tV, cV (.slice ap2 i cp2), zwV wB (L ++ M), cV (.int .i64 Z), cV (.int .i64 X), cV (.int .i64 Y), cV (.int .i64 Z)]) (fun _ wq => Below wB.heap.size wB wq) [18, 20] [(0, 2), (0, 2), (0, 2), (0, 2), (0, 2), (0, 2), (0, 2), (0, 2), (0, 2), (0, 2), (0, 2), (0, 2), (0, 2), (0, 2), (0, 2), (0, 2), (0, 0), (0, 0), (0, 1), (0, 1), (1, 2), (2, 2), (2, 2), (2, 2), (2, 2)] [[(13, none)], [], [(3, none)], [(15, none)], [(87, some 0), (88, some 1), (89, some 2), (90, some 3)], [(13, none)], [(14, none)], [(3, none)], [(15, none)], [(95, some 8)], [(94, some 7), (96, some 9)], [(16, none)], [(92, some 5), (93, some 6), (97, some 10), (98, some 11)], [(13, none)], [], [(3, none)], [], [(15, none)], [(103, some 16), (104, some 17)], [(16, none)], [(105, some 18), (106, some 19)], [(100, some 13), (101, some 14), (102, some 15), (107, some 20)], [(91, some 4)], [(99, some 12)], [(108, some 21)]] 25 2 131 (by kernel_rfl) rfl rfl rfl (by kernel_rfl) (by kernel_rfl) (by decide) (by kernel_rfl) ?_ ?_ ?_ ?_ ?_
          · exact fun ph w1 w2 h hb => h.trans (hb.mono h.size)
          · exact Below.refl _ _
          · show ∀ i, i < 25 → _
            iterate 25 (refine fls ?_ ?_)
            · exact fl0
            · intro hne lo hi ph hran hp1 hp2 a w1 hJ hsz hs      -- 0: slot 87
              obtain ⟨rfl, rfl⟩ : 0 = lo ∧ 2 = hi := Prod.mk.inj (Option.some.inj hran)
              rcases (by omega : ph = 0 ∨ ph = 1 ∨ ph = 2) with rfl | rfl | rfl
              · obtain ⟨h0, _⟩ := hs
                have h0 : a.tmps.getD 13 undef = .pointer (some ⟨P13, 0, none⟩) := h0
                obtain ⟨x0, x1, x2⟩ := (HX13.out.later (show Below wB.heap.size wB w1 from hJ)).c3
                refine op_run rfl rfl (v := .agg #[.int .i64 s.sp, .int .i64 s.st, .int .i64 s.sz]) (w' := w1) ?_ rfl (Below.refl _ _)
                simp [execOp, Act.eval, h0, x0, x1, x2, go_sem]
              · obtain ⟨h0, _⟩ := hs
                have h0 : a.tmps.getD 13 undef = .pointer (some ⟨P13, 0, none⟩) := h0
                obtain ⟨x0, x1, x2⟩ := (HX13.out.later (show Below wB.heap.size wB w1 from hJ)).c3
                refine op_run rfl rfl (v := .agg #[.int .i64 s.sp, .int .i64 s.st, .int .i64 s.sz]) (w' := w1) ?_ rfl (Below.refl _ _)
                simp [execOp, Act.eval, h0, x0, x1, x2, go_sem]
              · obtain ⟨h0, _⟩ := hs
                have h0 : a.tmps.getD 13 undef = .pointer (some ⟨P13, 0, none⟩) := h0
                obtain ⟨x0, x1, x2⟩ := (HX13.out.later (show Below wB.heap.size wB w1 from hJ)).c3
                refine op_run rfl rfl (v := .agg #[.int .i64 s.sp, .int .i64 s.st, .int .i64 s.sz]) (w' := w1) ?_ rfl (Below.refl _ _)
                simp [execOp, Act.eval, h0, x0, x1, x2, go_sem]
            · intro hne lo hi ph hran hp1 hp2 a w1 hJ hsz hs      -- 1: slot 88
              obtain ⟨rfl, rfl⟩ : 0 = lo ∧ 2 = hi := Prod.mk.inj (Option.some.inj hran)
              rcases (by omega : ph = 0 ∨ ph = 1 ∨ ph = 2) with rfl | rfl | rfl
              · have zf := HZF.out w1
                refine op_run rfl rfl (v := .agg #[.int .i64 0, .int .i64 0, .int .i64 0, .int .i64 0, .int .i64 0]) (w' := w1) ?_ rfl (Below.refl _ _)
                simp [execOp, Act.eval, zf, go_sem]
              · have zf := HZF.out w1
                refine op_run rfl rfl (v := .agg #[.int .i64 0, .int .i64 0, .int .i64 0, .int .i64 0, .int .i64 0]) (w' := w1) ?_ rfl (Below.refl _ _)
                simp [execOp, Act.eval, zf, go_sem]
              · have zf := HZF.out w1
                refine op_run rfl rfl (v := .agg #[.int .i64 0, .int .i64 0, .int .i64 0, .int .i64 0, .int .i64 0]) (w' := w1) ?_ rfl (Below.refl _ _)
                simp [execOp, Act.eval, zf, go_sem]
            · intro hne lo hi ph hran hp1 hp2 a w1 hJ hsz hs      -- 2: slot 89
              obtain ⟨rfl, rfl⟩ : 0 = lo ∧ 2 = hi := Prod.mk.inj (Option.some.inj hran)
              rcases (by omega : ph = 0 ∨ ph = 1 ∨ ph = 2) with rfl | rfl | rfl
              · obtain ⟨h0, _⟩ := hs
                have h0 : a.tmps.getD 3 undef = .int .i64 A := h0
                refine op_run rfl rfl (v := .int .i64 A) (w' := w1) ?_ rfl (Below.refl _ _)
                simp [execOp, Act.eval, h0, go_sem]
              · obtain ⟨h0, _⟩ := hs
                have h0 : a.tmps.getD 3 undef = .int .i64 A := h0
                refine op_run rfl rfl (v := .int .i64 A) (w' := w1) ?_ rfl (Below.refl _ _)
                simp [execOp, Act.eval, h0, go_sem]
              · obtain ⟨h0, _⟩ := hs
                have h0 : a.tmps.getD 3 undef = .int .i64 A := h0
                refine op_run rfl rfl (v := .int .i64 A) (w' := w1) ?_ rfl (Below.refl _ _)
                simp [execOp, Act.eval, h0, go_sem]
            · intro hne lo hi ph hran hp1 hp2 a w1 hJ hsz hs      -- 3: slot 90
              obtain ⟨rfl, rfl⟩ : 0 = lo ∧ 2 = hi := Prod.mk.inj (Option.some.inj hran)
              rcases (by omega : ph = 0 ∨ ph = 1 ∨ ph = 2) with rfl | rfl | rfl
              · obtain ⟨h0, _⟩ := hs
                have h0 : a.tmps.getD 15 undef = .slice ap j cp := h0
                refine op_run rfl rfl (v := .slice ap j cp) (w' := w1) ?_ rfl (Below.refl _ _)
                simp [execOp, Act.eval, h0, go_sem]
              · obtain ⟨h0, _⟩ := hs
                have h0 : a.tmps.getD 15 undef = .slice ap j cp := h0
                refine op_run rfl rfl (v := .slice ap j cp) (w' := w1) ?_ rfl (Below.refl _ _)
                simp [execOp, Act.eval, h0, go_sem]
              · obtain ⟨h0, _⟩ := hs
                have h0 : a.tmps.getD 15 undef = .slice ap j cp := h0
                refine op_run rfl rfl (v := .slice ap j cp) (w' := w1) ?_ rfl (Below.refl _ _)
                simp [execOp, Act.eval, h0, go_sem]
            · intro hne lo hi ph hran hp1 hp2 a w1 hJ hsz hs      -- 4: slot 91
              obtain ⟨rfl, rfl⟩ : 0 = lo ∧ 2 = hi := Prod.mk.inj (Option.some.inj hran)
              rcases (by omega : ph = 0 ∨ ph = 1 ∨ ph = 2) with rfl | rfl | rfl
              · obtain ⟨h0, h1, h2, h3, _⟩ := hs
                have h0 : a.tmps.getD 87 undef = .agg #[.int .i64 s.sp, .int .i64 s.st, .int .i64 s.sz] := h0
                have h1 : a.tmps.getD 88 undef = .agg #[.int .i64 0, .int .i64 0, .int .i64 0, .int .i64 0, .int .i64 0] := h1
                have h2 : a.tmps.getD 89 undef = .int .i64 A := h2
                have h3 : a.tmps.getD 90 undef = .slice ap j cp := h3
                refine op_call rfl rfl (f := 19) (args := #[.agg #[.int .i64 s.sp, .int .i64 s.st, .int .i64 s.sz], .agg #[.int .i64 0, .int .i64 0, .int .i64 0, .int .i64 0, .int .i64 0], .int .i64 A, .slice ap j cp]) (by simp [execOp, Act.eval, resolve, h0, h1, h2, h3, go_sem]) ?_
                exact calls_c (HN1.out w1 (show Below wB.heap.size wB w1 from hJ))
              · obtain ⟨h0, h1, h2, h3, _⟩ := hs
                have h0 : a.tmps.getD 87 undef = .agg #[.int .i64 s.sp, .int .i64 s.st, .int .i64 s.sz] := h0
                have h1 : a.tmps.getD 88 undef = .agg #[.int .i64 0, .int .i64 0, .int .i64 0, .int .i64 0, .int .i64 0] := h1
                have h2 : a.tmps.getD 89 undef = .int .i64 A := h2
                have h3 : a.tmps.getD 90 undef = .slice ap j cp := h3
                refine op_call rfl rfl (f := 19) (args := #[.agg #[.int .i64 s.sp, .int .i64 s.st, .int .i64 s.sz], .agg #[.int .i64 0, .int .i64 0, .int .i64 0, .int .i64 0, .int .i64 0], .int .i64 A, .slice ap j cp]) (by simp [execOp, Act.eval, resolve, h0, h1, h2, h3, go_sem]) ?_
                exact calls_c (HN1.out w1 (show Below wB.heap.size wB w1 from hJ))
              · obtain ⟨h0, h1, h2, h3, _⟩ := hs
                have h0 : a.tmps.getD 87 undef = .agg #[.int .i64 s.sp, .int .i64 s.st, .int .i64 s.sz] := h0
                have h1 : a.tmps.getD 88 undef = .agg #[.int .i64 0, .int .i64 0, .int .i64 0, .int .i64 0, .int .i64 0] := h1
                have h2 : a.tmps.getD 89 undef = .int .i64 A := h2
                have h3 : a.tmps.getD 90 undef = .slice ap j cp := h3
                refine op_call rfl rfl (f := 19) (args := #[.agg #[.int .i64 s.sp, .int .i64 s.st, .int .i64 s.sz], .agg #[.int .i64 0, .int .i64 0, .int .i64 0, .int .i64 0, .int .i64 0], .int .i64 A, .slice ap j cp]) (by simp [execOp, Act.eval, resolve, h0, h1, h2, h3, go_sem]) ?_
                exact calls_c (HN1.out w1 (show Below wB.heap.size wB w1 from hJ))
            · intro hne lo hi ph hran hp1 hp2 a w1 hJ hsz hs      -- 5: slot 92
              obtain ⟨rfl, rfl⟩ : 0 = lo ∧ 2 = hi := Prod.mk.inj (Option.some.inj hran)
              rcases (by omega : ph = 0 ∨ ph = 1 ∨ ph = 2) with rfl | rfl | rfl
              · obtain ⟨h0, _⟩ := hs
                have h0 : a.tmps.getD 13 undef = .pointer (some ⟨P13, 0, none⟩) := h0
                obtain ⟨x0, x1, x2⟩ := (HX13.out.later (show Below wB.heap.size wB w1 from hJ)).c3
                refine op_run rfl rfl (v := .agg #[.int .i64 s.sp, .int .i64 s.st, .int .i64 s.sz]) (w' := w1) ?_ rfl (Below.refl _ _)
                simp [execOp, Act.eval, h0, x0, x1, x2, go_sem]
              · obtain ⟨h0, _⟩ := hs
                have h0 : a.tmps.getD 13 undef = .pointer (some ⟨P13, 0, none⟩) := h0
                obtain ⟨x0, x1, x2⟩ := (HX13.out.later (show Below wB.heap.size wB w1 from hJ)).c3
                refine op_run rfl rfl (v := .agg #[.int .i64 s.sp, .int .i64 s.st, .int .i64 s.sz]) (w' := w1) ?_ rfl (Below.refl _ _)
                simp [execOp, Act.eval, h0, x0, x1, x2, go_sem]
              · obtain ⟨h0, _⟩ := hs
                have h0 : a.tmps.getD 13 undef = .pointer (some ⟨P13, 0, none⟩) := h0
                obtain ⟨x0, x1, x2⟩ := (HX13.out.later (show Below wB.heap.size wB w1 from hJ)).c3
                refine op_run rfl rfl (v := .agg #[.int .i64 s.sp, .int .i64 s.st, .int .i64 s.sz]) (w' := w1) ?_ rfl (Below.refl _ _)
                simp [execOp, Act.eval, h0, x0, x1, x2, go_sem]
            · intro hne lo hi ph hran hp1 hp2 a w1 hJ hsz hs      -- 6: slot 93
              obtain ⟨rfl, rfl⟩ : 0 = lo ∧ 2 = hi := Prod.mk.inj (Option.some.inj hran)
              rcases (by omega : ph = 0 ∨ ph = 1 ∨ ph = 2) with rfl | rfl | rfl
              · obtain ⟨h0, _⟩ := hs
                have h0 : a.tmps.getD 14 undef = .pointer (some ⟨P14, 0, none⟩) := h0
                obtain ⟨x0, x1, x2, x3, x4⟩ := (HX14.out.later (show Below wB.heap.size wB w1 from hJ)).e5
                refine op_run rfl rfl (v := .agg #[.int .i64 F.set, .int .i64 F.u0, .int .i64 F.u1, .int .i64 F.u2, .int .i64 F.u3]) (w' := w1) ?_ rfl (Below.refl _ _)
                simp [execOp, Act.eval, h0, x0, x1, x2, x3, x4, go_sem]
              · obtain ⟨h0, _⟩ := hs
                have h0 : a.tmps.getD 14 undef = .pointer (some ⟨P14, 0, none⟩) := h0
                obtain ⟨x0, x1, x2, x3, x4⟩ := (HX14.out.later (show Below wB.heap.size wB w1 from hJ)).e5
                refine op_run rfl rfl (v := .agg #[.int .i64 F.set, .int .i64 F.u0, .int .i64 F.u1, .int .i64 F.u2, .int .i64 F.u3]) (w' := w1) ?_ rfl (Below.refl _ _)
                simp [execOp, Act.eval, h0, x0, x1, x2, x3, x4, go_sem]
              · obtain ⟨h0, _⟩ := hs
                have h0 : a.tmps.getD 14 undef = .pointer (some ⟨P14, 0, none⟩) := h0
                obtain ⟨x0, x1, x2, x3, x4⟩ := (HX14.out.later (show Below wB.heap.size wB w1 from hJ)).e5
                refine op_run rfl rfl (v := .agg #[.int .i64 F.set, .int .i64 F.u0, .int .i64 F.u1, .int .i64 F.u2, .int .i64 F.u3]) (w' := w1) ?_ rfl (Below.refl _ _)
                simp [execOp, Act.eval, h0, x0, x1, x2, x3, x4, go_sem]
            · intro hne lo hi ph hran hp1 hp2 a w1 hJ hsz hs      -- 7: slot 94
              obtain ⟨rfl, rfl⟩ : 0 = lo ∧ 2 = hi := Prod.mk.inj (Option.some.inj hran)
              rcases (by omega : ph = 0 ∨ ph = 1 ∨ ph = 2) with rfl | rfl | rfl
              · obtain ⟨h0, _⟩ := hs
                have h0 : a.tmps.getD 3 undef = .int .i64 A := h0
                refine op_run rfl rfl (v := .int .i64 A) (w' := w1) ?_ rfl (Below.refl _ _)
                simp [execOp, Act.eval, h0, go_sem]
              · obtain ⟨h0, _⟩ := hs
                have h0 : a.tmps.getD 3 undef = .int .i64 A := h0
                refine op_run rfl rfl (v := .int .i64 A) (w' := w1) ?_ rfl (Below.refl _ _)
                simp [execOp, Act.eval, h0, go_sem]
              · obtain ⟨h0, _⟩ := hs
                have h0 : a.tmps.getD 3 undef = .int .i64 A := h0
                refine op_run rfl rfl (v := .int .i64 A) (w' := w1) ?_ rfl (Below.refl _ _)
                simp [execOp, Act.eval, h0, go_sem]
            · intro hne lo hi ph hran hp1 hp2 a w1 hJ hsz hs      -- 8: slot 95
              obtain ⟨rfl, rfl⟩ : 0 = lo ∧ 2 = hi := Prod.mk.inj (Option.some.inj hran)
              rcases (by omega : ph = 0 ∨ ph = 1 ∨ ph = 2) with rfl | rfl | rfl
              · obtain ⟨h0, _⟩ := hs
                have h0 : a.tmps.getD 15 undef = .slice ap j cp := h0
                refine op_run rfl rfl (v := .slice ap j cp) (w' := w1) ?_ rfl (Below.refl _ _)
                simp [execOp, Act.eval, h0, go_sem]
              · obtain ⟨h0, _⟩ := hs
                have h0 : a.tmps.getD 15 undef = .slice ap j cp := h0
                refine op_run rfl rfl (v := .slice ap j cp) (w' := w1) ?_ rfl (Below.refl _ _)
                simp [execOp, Act.eval, h0, go_sem]
              · obtain ⟨h0, _⟩ := hs
                have h0 : a.tmps.getD 15 undef = .slice ap j cp := h0
                refine op_run rfl rfl (v := .slice ap j cp) (w' := w1) ?_ rfl (Below.refl _ _)
                simp [execOp, Act.eval, h0, go_sem]
            · intro hne lo hi ph hran hp1 hp2 a w1 hJ hsz hs      -- 9: slot 96
              obtain ⟨rfl, rfl⟩ : 0 = lo ∧ 2 = hi := Prod.mk.inj (Option.some.inj hran)
              rcases (by omega : ph = 0 ∨ ph = 1 ∨ ph = 2) with rfl | rfl | rfl
              · obtain ⟨h0, _⟩ := hs
                have h0 : a.tmps.getD 95 undef = .slice ap j cp := h0
                refine op_run rfl rfl (v := .int .i64 (j : Nat)) (w' := w1) ?_ rfl (Below.refl _ _)
                simp [execOp, Act.eval, h0, go_sem]
              · obtain ⟨h0, _⟩ := hs
                have h0 : a.tmps.getD 95 undef = .slice ap j cp := h0
                refine op_run rfl rfl (v := .int .i64 (j : Nat)) (w' := w1) ?_ rfl (Below.refl _ _)
                simp [execOp, Act.eval, h0, go_sem]
              · obtain ⟨h0, _⟩ := hs
                have h0 : a.tmps.getD 95 undef = .slice ap j cp := h0
                refine op_run rfl rfl (v := .int .i64 (j : Nat)) (w' := w1) ?_ rfl (Below.refl _ _)
                simp [execOp, Act.eval, h0, go_sem]
            · intro hne lo hi ph hran hp1 hp2 a w1 hJ hsz hs      -- 10: slot 97
              obtain ⟨rfl, rfl⟩ : 0 = lo ∧ 2 = hi := Prod.mk.inj (Option.some.inj hran)
              rcases (by omega : ph = 0 ∨ ph = 1 ∨ ph = 2) with rfl | rfl | rfl
              · obtain ⟨h0, h1, _⟩ := hs
                have h0 : a.tmps.getD 94 undef = .int .i64 A := h0
                have h1 : a.tmps.getD 96 undef = .int .i64 (j : Nat) := h1
                refine op_run rfl rfl (v := .int .i64 (A + (j : Nat))) (w' := w1) ?_ rfl (Below.refl _ _)
                simp [execOp, Act.eval, h0, h1, HWA.out, go_sem]
              · obtain ⟨h0, h1, _⟩ := hs
                have h0 : a.tmps.getD 94 undef = .int .i64 A := h0
                have h1 : a.tmps.getD 96 undef = .int .i64 (j : Nat) := h1
                refine op_run rfl rfl (v := .int .i64 (A + (j : Nat))) (w' := w1) ?_ rfl (Below.refl _ _)
                simp [execOp, Act.eval, h0, h1, HWA.out, go_sem]
              · obtain ⟨h0, h1, _⟩ := hs
                have h0 : a.tmps.getD 94 undef = .int .i64 A := h0
                have h1 : a.tmps.getD 96 undef = .int .i64 (j : Nat) := h1
                refine op_run rfl rfl (v := .int .i64 (A + (j : Nat))) (w' := w1) ?_ rfl (Below.refl _ _)
                simp [execOp, Act.eval, h0, h1, HWA.out, go_sem]
            · intro hne lo hi ph hran hp1 hp2 a w1 hJ hsz hs      -- 11: slot 98
              obtain ⟨rfl, rfl⟩ : 0 = lo ∧ 2 = hi := Prod.mk.inj (Option.some.inj hran)
              rcases (by omega : ph = 0 ∨ ph = 1 ∨ ph = 2) with rfl | rfl | rfl
              · obtain ⟨h0, _⟩ := hs
                have h0 : a.tmps.getD 16 undef = .slice ap2 i cp2 := h0
                refine op_run rfl rfl (v := .slice ap2 i cp2) (w' := w1) ?_ rfl (Below.refl _ _)
                simp [execOp, Act.eval, h0, go_sem]
              · obtain ⟨h0, _⟩ := hs
                have h0 : a.tmps.getD 16 undef = .slice ap2 i cp2 := h0
                refine op_run rfl rfl (v := .slice ap2 i cp2) (w' := w1) ?_ rfl (Below.refl _ _)
                simp [execOp, Act.eval, h0, go_sem]
              · obtain ⟨h0, _⟩ := hs
                have h0 : a.tmps.getD 16 undef = .slice ap2 i cp2 := h0
                refine op_run rfl rfl (v := .slice ap2 i cp2) (w' := w1) ?_ rfl (Below.refl _ _)
                simp [execOp, Act.eval, h0, go_sem]
            · intro hne lo hi ph hran hp1 hp2 a w1 hJ hsz hs      -- 12: slot 99
              obtain ⟨rfl, rfl⟩ : 0 = lo ∧ 2 = hi := Prod.mk.inj (Option.some.inj hran)
              rcases (by omega : ph = 0 ∨ ph = 1 ∨ ph = 2) with rfl | rfl | rfl
              · obtain ⟨h0, h1, h2, h3, _⟩ := hs
                have h0 : a.tmps.getD 92 undef = .agg #[.int .i64 s.sp, .int .i64 s.st, .int .i64 s.sz] := h0
                have h1 : a.tmps.getD 93 undef = .agg #[.int .i64 F.set, .int .i64 F.u0, .int .i64 F.u1, .int .i64 F.u2, .int .i64 F.u3] := h1
                have h2 : a.tmps.getD 97 undef = .int .i64 (A + (j : Nat)) := h2
                have h3 : a.tmps.getD 98 undef = .slice ap2 i cp2 := h3
                refine op_call rfl rfl (f := 19) (args := #[.agg #[.int .i64 s.sp, .int .i64 s.st, .int .i64 s.sz], .agg #[.int .i64 F.set, .int .i64 F.u0, .int .i64 F.u1, .int .i64 F.u2, .int .i64 F.u3], .int .i64 (A + (j : Nat)), .slice ap2 i cp2]) (by simp [execOp, Act.eval, resolve, h0, h1, h2, h3, go_sem]) ?_
                exact calls_c (HN2.out w1 (show Below wB.heap.size wB w1 from hJ))
              · obtain ⟨h0, h1, h2, h3, _⟩ := hs
                have h0 : a.tmps.getD 92 undef = .agg #[.int .i64 s.sp, .int .i64 s.st, .int .i64 s.sz] := h0
                have h1 : a.tmps.getD 93 undef = .agg #[.int .i64 F.set, .int .i64 F.u0, .int .i64 F.u1, .int .i64 F.u2, .int .i64 F.u3] := h1
                have h2 : a.tmps.getD 97 undef = .int .i64 (A + (j : Nat)) := h2
                have h3 : a.tmps.getD 98 undef = .slice ap2 i cp2 := h3
                refine op_call rfl rfl (f := 19) (args := #[.agg #[.int .i64 s.sp, .int .i64 s.st, .int .i64 s.sz], .agg #[.int .i64 F.set, .int .i64 F.u0, .int .i64 F.u1, .int .i64 F.u2, .int .i64 F.u3], .int .i64 (A + (j : Nat)), .slice ap2 i cp2]) (by simp [execOp, Act.eval, resolve, h0, h1, h2, h3, go_sem]) ?_
                exact calls_c (HN2.out w1 (show Below wB.heap.size wB w1 from hJ))
              · obtain ⟨h0, h1, h2, h3, _⟩ := hs
                have h0 : a.tmps.getD 92 undef = .agg #[.int .i64 s.sp, .int .i64 s.st, .int .i64 s.sz] := h0
                have h1 : a.tmps.getD 93 undef = .agg #[.int .i64 F.set, .int .i64 F.u0, .int .i64 F.u1, .int .i64 F.u2, .int .i64 F.u3] := h1
                have h2 : a.tmps.getD 97 undef = .int .i64 (A + (j : Nat)) := h2
                have h3 : a.tmps.getD 98 undef = .slice ap2 i cp2 := h3
                refine op_call rfl rfl (f := 19) (args := #[.agg #[.int .i64 s.sp, .int .i64 s.st, .int .i64 s.sz], .agg #[.int .i64 F.set, .int .i64 F.u0, .int .i64 F.u1, .int .i64 F.u2, .int .i64 F.u3], .int .i64 (A + (j : Nat)), .slice ap2 i cp2]) (by simp [execOp, Act.eval, resolve, h0, h1, h2, h3, go_sem]) ?_
                exact calls_c (HN2.out w1 (show Below wB.heap.size wB w1 from hJ))
            · intro hne lo hi ph hran hp1 hp2 a w1 hJ hsz hs      -- 13: slot 100
              obtain ⟨rfl, rfl⟩ : 0 = lo ∧ 2 = hi := Prod.mk.inj (Option.some.inj hran)
              rcases (by omega : ph = 0 ∨ ph = 1 ∨ ph = 2) with rfl | rfl | rfl
              · obtain ⟨h0, _⟩ := hs
                have h0 : a.tmps.getD 13 undef = .pointer (some ⟨P13, 0, none⟩) := h0
                obtain ⟨x0, x1, x2⟩ := (HX13.out.later (show Below wB.heap.size wB w1 from hJ)).c3
                refine op_run rfl rfl (v := .agg #[.int .i64 s.sp, .int .i64 s.st, .int .i64 s.sz]) (w' := w1) ?_ rfl (Below.refl _ _)
                simp [execOp, Act.eval, h0, x0, x1, x2, go_sem]
              · obtain ⟨h0, _⟩ := hs
                have h0 : a.tmps.getD 13 undef = .pointer (some ⟨P13, 0, none⟩) := h0
                obtain ⟨x0, x1, x2⟩ := (HX13.out.later (show Below wB.heap.size wB w1 from hJ)).c3
                refine op_run rfl rfl (v := .agg #[.int .i64 s.sp, .int .i64 s.st, .int .i64 s.sz]) (w' := w1) ?_ rfl (Below.refl _ _)
                simp [execOp, Act.eval, h0, x0, x1, x2, go_sem]
              · obtain ⟨h0, _⟩ := hs
                have h0 : a.tmps.getD 13 undef = .pointer (some ⟨P13, 0, none⟩) := h0
                obtain ⟨x0, x1, x2⟩ := (HX13.out.later (show Below wB.heap.size wB w1 from hJ)).c3
                refine op_run rfl rfl (v := .agg #[.int .i64 s.sp, .int .i64 s.st, .int .i64 s.sz]) (w' := w1) ?_ rfl (Below.refl _ _)
                simp [execOp, Act.eval, h0, x0, x1, x2, go_sem]
            · intro hne lo hi ph hran hp1 hp2 a w1 hJ hsz hs      -- 14: slot 101
              obtain ⟨rfl, rfl⟩ : 0 = lo ∧ 2 = hi := Prod.mk.inj (Option.some.inj hran)
              rcases (by omega : ph = 0 ∨ ph = 1 ∨ ph = 2) with rfl | rfl | rfl
              · have zf := HZF.out w1
                refine op_run rfl rfl (v := .agg #[.int .i64 0, .int .i64 0, .int .i64 0, .int .i64 0, .int .i64 0]) (w' := w1) ?_ rfl (Below.refl _ _)
                simp [execOp, Act.eval, zf, go_sem]
              · have zf := HZF.out w1
                refine op_run rfl rfl (v := .agg #[.int .i64 0, .int .i64 0, .int .i64 0, .int .i64 0, .int .i64 0]) (w' := w1) ?_ rfl (Below.refl _ _)
                simp [execOp, Act.eval, zf, go_sem]
              · have zf := HZF.out w1
                refine op_run rfl rfl (v := .agg #[.int .i64 0, .int .i64 0, .int .i64 0, .int .i64 0, .int .i64 0]) (w' := w1) ?_ rfl (Below.refl _ _)
                simp [execOp, Act.eval, zf, go_sem]
            · intro hne lo hi ph hran hp1 hp2 a w1 hJ hsz hs      -- 15: slot 102
              obtain ⟨rfl, rfl⟩ : 0 = lo ∧ 2 = hi := Prod.mk.inj (Option.some.inj hran)
              rcases (by omega : ph = 0 ∨ ph = 1 ∨ ph = 2) with rfl | rfl | rfl
              · obtain ⟨h0, _⟩ := hs
                have h0 : a.tmps.getD 3 undef = .int .i64 A := h0
                refine op_run rfl rfl (v := .int .i64 A) (w' := w1) ?_ rfl (Below.refl _ _)
                simp [execOp, Act.eval, h0, go_sem]
              · obtain ⟨h0, _⟩ := hs
                have h0 : a.tmps.getD 3 undef = .int .i64 A := h0
                refine op_run rfl rfl (v := .int .i64 A) (w' := w1) ?_ rfl (Below.refl _ _)
                simp [execOp, Act.eval, h0, go_sem]
              · obtain ⟨h0, _⟩ := hs
                have h0 : a.tmps.getD 3 undef = .int .i64 A := h0
                refine op_run rfl rfl (v := .int .i64 A) (w' := w1) ?_ rfl (Below.refl _ _)
                simp [execOp, Act.eval, h0, go_sem]
            · intro hne lo hi ph hran hp1 hp2 a w1 hJ hsz hs      -- 16: slot 103
              obtain ⟨rfl, rfl⟩ : 0 = lo ∧ 0 = hi := Prod.mk.inj (Option.some.inj hran)
              obtain rfl : ph = 0 := by omega
              refine op_run rfl rfl (v := .slice (some ⟨w1.heap.size, 0, none⟩) 0 0) (w' := w1.alloc (.cells #[] 3)) ?_ (GOwn.empty (show Below wB.heap.size wB w1 from hJ) rfl) ((Below.refl _ _).alloc (Nat.le_refl _) _)
              simp [execOp, Act.eval, go_sem, ub0, ub1]
            · intro hne lo hi ph hran hp1 hp2 a w1 hJ hsz hs      -- 17: slot 104
              obtain ⟨rfl, rfl⟩ : 0 = lo ∧ 0 = hi := Prod.mk.inj (Option.some.inj hran)
              obtain rfl : ph = 0 := by omega
              obtain ⟨h0, _⟩ := hs
              have h0 : a.tmps.getD 15 undef = .slice ap j cp := h0
              refine op_run rfl rfl (v := .slice ap j cp) (w' := w1) ?_ rfl (Below.refl _ _)
              simp [execOp, Act.eval, h0, go_sem]
            · intro hne lo hi ph hran hp1 hp2 a w1 hJ hsz hs      -- 18: slot 105
              exact absurd (by decide) hne
            · intro hne lo hi ph hran hp1 hp2 a w1 hJ hsz hs      -- 19: slot 106
              obtain ⟨rfl, rfl⟩ : 0 = lo ∧ 1 = hi := Prod.mk.inj (Option.some.inj hran)
              rcases (by omega : ph = 0 ∨ ph = 1) with rfl | rfl
              · obtain ⟨h0, _⟩ := hs
                have h0 : a.tmps.getD 16 undef = .slice ap2 i cp2 := h0
                refine op_run rfl rfl (v := .slice ap2 i cp2) (w' := w1) ?_ rfl (Below.refl _ _)
                simp [execOp, Act.eval, h0, go_sem]
              · obtain ⟨h0, _⟩ := hs
                have h0 : a.tmps.getD 16 undef = .slice ap2 i cp2 := h0
                refine op_run rfl rfl (v := .slice ap2 i cp2) (w' := w1) ?_ rfl (Below.refl _ _)
                simp [execOp, Act.eval, h0, go_sem]
            · intro hne lo hi ph hran hp1 hp2 a w1 hJ hsz hs      -- 20: slot 107
              exact absurd (by decide) hne
            · intro hne lo hi ph hran hp1 hp2 a w1 hJ hsz hs      -- 21: slot 108
              obtain ⟨rfl, rfl⟩ : 2 = lo ∧ 2 = hi := Prod.mk.inj (Option.some.inj hran)
              obtain rfl : ph = 2 := by omega
              obtain ⟨h0, h1, h2, h3, _⟩ := hs
              have h0 : a.tmps.getD 100 undef = .agg #[.int .i64 s.sp, .int .i64 s.st, .int .i64 s.sz] := h0
              have h1 : a.tmps.getD 101 undef = .agg #[.int .i64 0, .int .i64 0, .int .i64 0, .int .i64 0, .int .i64 0] := h1
              have h2 : a.tmps.getD 102 undef = .int .i64 A := h2
              obtain ⟨a3, c3, h3, r3⟩ := GOwn.row_n inOk (show GOwn inT wB w1 (a.tmps.getD 107 undef) (L ++ M) from h3) HLM.out
              refine op_call rfl rfl (f := 19) (args := #[.agg #[.int .i64 s.sp, .int .i64 s.st, .int .i64 s.sz], .agg #[.int .i64 0, .int .i64 0, .int .i64 0, .int .i64 0, .int .i64 0], .int .i64 A, .slice a3 (j + i) c3]) (by simp [execOp, Act.eval, resolve, h0, h1, h2, h3, go_sem]) ?_
              exact calls_c (HN3.out w1 _ _ r3.zrow)
            · intro hne lo hi ph hran hp1 hp2 a w1 hJ hsz hs      -- 22: slot 23
              obtain ⟨rfl, rfl⟩ : 2 = lo ∧ 2 = hi := Prod.mk.inj (Option.some.inj hran)
              obtain rfl : ph = 2 := by omega
              obtain ⟨h0, _⟩ := hs
              have h0 : a.tmps.getD 91 undef = .int .i64 X := h0
              refine op_run rfl rfl (v := .int .i64 X) (w' := w1) ?_ rfl (Below.refl _ _)
              simp [execOp, Act.eval, h0, go_sem]
            · intro hne lo hi ph hran hp1 hp2 a w1 hJ hsz hs      -- 23: slot 24
              obtain ⟨rfl, rfl⟩ : 2 = lo ∧ 2 = hi := Prod.mk.inj (Option.some.inj hran)
              obtain rfl : ph = 2 := by omega
              obtain ⟨h0, _⟩ := hs
              have h0 : a.tmps.getD 99 undef = .int .i64 Y := h0
              refine op_run rfl rfl (v := .int .i64 Y) (w' := w1) ?_ rfl (Below.refl _ _)
              simp [execOp, Act.eval, h0, go_sem]
            · intro hne lo hi ph hran hp1 hp2 a w1 hJ hsz hs      -- 24: slot 25
              obtain ⟨rfl, rfl⟩ : 2 = lo ∧ 2 = hi := Prod.mk.inj (Option.some.inj hran)
              obtain rfl : ph = 2 := by omega
              obtain ⟨h0, _⟩ := hs
              have h0 : a.tmps.getD 108 undef = .int .i64 Z := h0
              refine op_run rfl rfl (v := .int .i64 Z) (w' := w1) ?_ rfl (Below.refl _ _)
              simp [execOp, Act.eval, h0, go_sem]
          · show ∀ ph, ph < 2 → _
            iterate 2 (refine fls ?_ ?_)
            · exact fl0
            · intro i hi a w1 hJ hsz hs      -- heavy 0: op 18 slot 105
              obtain rfl : 18 = i := Option.some.inj hi
              obtain ⟨h0, h1, _⟩ := hs
              have m0 : GOwn inT wB w1 (a.tmps.getD 103 undef) [] := h0
              have h1 : a.tmps.getD 104 undef = .slice ap j cp := h1
              refine hv_gapp inOk rfl rfl (.tmp 103) (.tmp 104) rfl rfl _ [] rfl wB m0 ap cp j L (HR15.out w1 (show Below wB.heap.size wB w1 from hJ)) HLL.out h1 HT1.out ?_
              intro v' w' o1 g1
              rw [List.nil_append] at o1
              exact ⟨o1, o1.below, (Calm5.all (n := 0) ⟨.inr fun _ h => h, .inr fun _ h => h, .inr fun _ h => h, .inr fun _ h => h, .inr fun _ h => h, .inr fun _ h => h, .inr fun _ h => h, .inr fun _ h => h, .inr fun _ h => h, .inr fun _ h => h, .inr fun _ h => h, .inr fun _ h => h, .inr fun _ h => h, .inr fun _ h => h, .inr fun _ h => h, .inr fun _ h => h, .inr fun _ _ => trivial, .inr fun _ h => h, .inl rfl, .inr fun _ h => h, .inr fun _ h => h.elim, .inr fun _ h => h, .inr fun _ h => h, .inr fun _ h => h, .inr fun _ h => h, trivial⟩)⟩
            · intro i hi a w1 hJ hsz hs      -- heavy 1: op 20 slot 107
              obtain rfl : 20 = i := Option.some.inj hi
              obtain ⟨h0, h1, _⟩ := hs
              have m0 : GOwn inT wB w1 (a.tmps.getD 105 undef) L := h0
              have h1 : a.tmps.getD 106 undef = .slice ap2 i cp2 := h1
              refine hv_gapp inOk rfl rfl (.tmp 105) (.tmp 106) rfl rfl _ L rfl wB m0 ap2 cp2 i M (HR16.out w1 (show Below wB.heap.size wB w1 from hJ)) HML.out h1 HT2.out ?_
              intro v' w' o1 g1
              exact ⟨o1, o1.below, (Calm5.all (n := 0) ⟨.inr fun _ h => h, .inr fun _ h => h, .inr fun _ h => h, .inr fun _ h => h, .inr fun _ h => h, .inr fun _ h => h, .inr fun _ h => h, .inr fun _ h => h, .inr fun _ h => h, .inr fun _ h => h, .inr fun _ h => h, .inr fun _ h => h, .inr fun _ h => h, .inr fun _ h => h, .inr fun _ h => h, .inr fun _ h => h, .inr fun _ _ => trivial, .inr fun _ h => h, .inr fun _ _ => trivial, .inr fun _ h => h, .inl rfl, .inr fun _ h => h, .inr fun _ h => h, .inr fun _ h => h, .inr fun _ h => h, trivial⟩)⟩
          intro f w1 hJ hv
          have e23 : f 23 = .int .i64 X := hv 22 _ 23 rfl rfl
          have e24 : f 24 = .int .i64 Y := hv 23 _ 24 rfl rfl
          have e25 : f 25 = .int .i64 Z := hv 24 _ 25 rfl rfl
          clear hv
          try simp only [Exit.then]
          simp only [putAll, List.foldl_cons, List.foldl_nil, Option.getD_some, Act.put, List.setIfInBounds_toArray, List.set_cons_succ, List.set_cons_zero]
          rw [e23, e24, e25]
          -- END A
          have hJ2 : Below wB.heap.size wB w1 := hJ
          obtain ⟨y0, y1, y2, y3, y4⟩ := (HX14.out.later hJ2).e5
          rw [HFS.out] at y0
          have hw9 : IntKind.i64.wrap (X + Y) = Z := by have := HZZ.out; rw [IntKind.wrap_i64]; omega
          have hx0 : decide (0 ≤ X) = true := by simp; omega
          have hy0 : decide (0 ≤ Y) = true := by simp; omega
          clear e23 e24 e25 hJ
          go_wp2_with fail
          refine (knownRg_any _).mono ?_
          rintro e w9 ⟨rfl, b9⟩
          go_wp2_with fail
          go_ret
          have hz := HBB.out.trans (hJ2.mono HBB.out.size)
          exact ⟨rfl, hz.trans (b9.mono hz.size)⟩
end Go.Proofs.Ytblipabemghdbaa
