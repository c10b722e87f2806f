/- The law 'RingHolds', walked. -/
import Derived.Test.YtblipabemghdbaaRgK
import Derived.Test.YtblipabemghdbaaGz
namespace Go.Proofs.Ytblipabemghdbaa
open Go.RowKit Go.Proofs
set_option linter.unusedVariables false
set_option linter.unusedSimpArgs false
set_option linter.unnecessarySimpa false

/-- The law's sizes, cut to what may be. -/
def szN (z : Int) : Int := 1 + bits .and .i64 z 255 % 90
def szL (l : List Int) : List Int := l.map szN
theorem szN_range (z : Int) : 1 ≤ szN z ∧ szN z ≤ 90 := by
  have h : 0 ≤ bits .and .i64 z 255 ∧ bits .and .i64 z 255 ≤ 255 := and_range z 255 (by decide)
  unfold szN; omega
theorem szL_range {l : List Int} : ∀ n ∈ szL l, 1 ≤ n ∧ n ≤ 90 := fun n hn => by
  obtain ⟨z, _, rfl⟩ := List.mem_map.1 hn
  exact szN_range z
theorem szL_len (l : List Int) : (szL l).length = l.length := List.length_map _
theorem szL_snoc {l : List Int} {j : Nat} {x : Int} (h : l[j]? = some x) : szL (l.take (j + 1)) = szL (l.take j) ++ [szN x] := by
  obtain ⟨hj, rfl⟩ := List.getElem?_eq_some_iff.1 h
  rw [List.take_succ_eq_append_getElem hj]
  unfold szL; rw [List.map_append]; rfl
theorem szL_at {l : List Int} {j : Nat} {x : Int} (h : l[j]? = some x) : (szL l)[j]? = some (szN x) := by
  rw [szL, List.getElem?_map, h]; rfl
/-- What the row of fills is: the first of the fill's. -/
def UsedR (SP : Nat) (f : Fl) (U : List Int) : Prop := U.length = SP ∧ ∀ j : Nat, j < SP → U[j]? = some (f.at (j : Nat))
theorem UsedR.zero {SP : Nat} {s : Int} : UsedR SP ⟨s, 0, 0, 0, 0⟩ (List.replicate SP 0) := ⟨List.length_replicate, fun j hj => by
  rw [List.getElem?_replicate, if_pos hj]; unfold Fl.at; split <;> (try split) <;> (try split) <;> rfl⟩
theorem UsedR.put {SP : Nat} {f : Fl} {U : List Int} (h : UsedR SP f U) (h4 : SP ≤ 4) {k : Nat} (hk : k < SP) (v : Int) : UsedR SP (f.put (k : Nat) v) (U.set k v) := ⟨by rw [List.length_set]; exact h.1, fun j hj => by
  rw [Fl.at_put (by omega) (by omega) _ (by omega) (by omega)]
  by_cases e : j = k
  · subst e; rw [if_pos rfl, List.getElem?_set_self (by rw [h.1]; exact hj)]
  · rw [if_neg (by omega), List.getElem?_set_ne (by omega)]; exact h.2 j hj⟩
set_option maxRecDepth 100000 in
set_option maxHeartbeats 12800000 in
theorem ringHolds_walk (a b c at' : Int) (ad : Option Addr) (n cap : Nat) (l : List Int) (w : World) (hr : ZRow w ad cap l) (hn : l.length = n) :
    Calls Try.prog 5 #[.int .i64 a, .int .i64 b, .int .i64 c, .int .i64 at', .slice ad n cap] w fun x w' => x = .returned (.bool true) ∧ Below w.heap.size w w' := by
  have HR := Lib.hid hr
  have HN := Lib.hid hn
  have hcm : cap ≤ 9223372036854775807 := by have := hr.2.1; unfold maxLen at this; omega
  have hmc : n ≤ cap := by rw [← hn]; exact hr.1
  clear hr hn
  obtain ⟨A, hA⟩ : ∃ z, bits .and .i64 at' 1048575 = z := ⟨_, rfl⟩
  have hAr : 0 ≤ A ∧ A ≤ 1048575 := by rw [← hA]; exact and_range at' 1048575 (by decide)
  go_enter Try.func5, Try.ntmps5
  cases d1 : decide (200 < (n : Int)) with
  | true =>
    go_wp2_with fail
    refine (knownRg_any _).mono ?_
    rintro e w9 ⟨rfl, b9⟩
    go_wp2_with fail
    go_ret
    exact ⟨rfl, b9⟩
  | false =>
  have hn200 : n ≤ 200 := by simp at d1; omega
  go_wp2_with fail
  refine (shape10_any a b c w).mono ?_
  rintro e w1 ⟨s, rfl, hok, b1⟩
  have hba : Below w1.heap.size w1 (w1.alloc (.cells (rgC s) 23)) := (Below.refl _ _).alloc (Nat.le_refl _) _
  have HX11 := Lib.hid (RecAt.new w1 (rgC s) 23)
  have HB2 := Lib.hid (b1.trans (hba.mono b1.size))
  have HOK := Lib.hid hok
  clear b1 hba d1 hok
  go_upto_region 4 with fail
  generalize (w1.alloc (.cells (rgC s) 23)) = w2 at *
  obtain ⟨P11, hP11⟩ : ∃ P, w1.heap.size = P := ⟨_, rfl⟩
  rw [hP11] at HX11
  rw [hP11]
  clear hP11
  go_wp2_with fail
  go_loopw [12, 13] (fun ov iv wr => ∃ (j : Nat) (ap : Option Addr) (cp : Nat), iv = .int .i64 (j : Nat) ∧ ov = .slice ap j cp ∧ j ≤ n ∧ Hid (RecAt wr P11 (rgC s) 23) ∧ Hid (GOwn inT w wr (.slice ap j cp) (szL (l.take j)))) (fun _ iv _ => n - (intOf iv).toNat)
  case atStart => exact ⟨0, none, 0, rfl, rfl, by omega, HX11, Lib.hid (GOwn.nil' HB2.out)⟩
  case round =>
    clear HX11 HB2
    obtain ⟨j, ap, cp, rfl, rfl, hj, HX, HO⟩ := hrel
    by_cases hjn : (j : Int) < n
    · obtain ⟨x, hx⟩ : ∃ x, l[j]? = some x := ⟨l[j]'(by have := HN.out; omega), List.getElem?_eq_getElem _⟩
      obtain ⟨b0, o0, rfl, p0⟩ := (HR.out.later HO.out.below).at hx
      obtain ⟨y, hy⟩ : ∃ z, bits .and .i64 x 255 = z := ⟨_, rfl⟩
      have hyr : 0 ≤ y ∧ y ≤ 255 := by rw [← hy]; exact and_range x 255 (by decide)
      obtain ⟨Y, hY⟩ : ∃ Y, 1 + y % 90 = Y := ⟨_, rfl⟩
      have hYr : 1 ≤ Y ∧ Y ≤ 90 := by omega
      have hcn : szN x = Y := by unfold szN; rw [hy]; exact hY
      have hsn := szL_snoc hx
      rw [hcn] at hsn
      have HSN := Lib.hid hsn
      have HPL : Hid ((szL (l.take j)).length = j) := Lib.hid (by rw [szL_len, List.length_take]; have := HN.out; omega)
      have hba : Below wr.heap.size wr (wr.alloc (.cells #[.int .i64 Y] 3)) := (Below.refl _ _).alloc (Nat.le_refl _) _
      have HUL : Hid ((szL (l.take j) ++ [Y]).length = j + 1) := Lib.hid (by rw [List.length_append, HPL.out]; rfl)
      clear hx hcn hsn
      go_upto_region 8 with (at_builtin; refine wp_gone inOk rfl _ _ rfl rfl _ _ rfl w HO.out Y (show inB Y by unfold inB; omega) rfl rfl (by rw [HPL.out]; omega) ?_; intro v12 w12 o12 g12 h12; obtain ⟨a12, c12, rfl, _⟩ := o12.row_n inOk HUL.out; have HO12 := Lib.hid o12; have HG12 := Lib.hid g12; clear o12 g12 h12)
      have hn3 := (HO.out.later hba).ne (HX.out.later hba) (by decide)
      have HXm := Lib.hid ((HX.out.later hba).grown HG12.out (fun e => hn3 e.symm))
      clear hn3 hba HG12 HX HO p0 hy hY
      go_wp2_with fail
      go_roundw
      case rel => exact ⟨j + 1, a12, c12, by go_num, rfl, by omega, HXm, Lib.hid (by rw [HSN.out]; exact HO12.out)⟩
      case measure => simp [intOf]; omega
    · have hjn' : j = n := by omega
      subst hjn'
      rw [List.take_of_length_le (Nat.le_of_eq HN.out)] at HO
      obtain ⟨L, hL⟩ : ∃ L, szL l = L := ⟨_, rfl⟩
      have HLR : Hid (∀ n ∈ L, 1 ≤ n ∧ n ≤ 90) := Lib.hid (by rw [← hL]; exact szL_range)
      have HLN : Hid (L.length = j) := Lib.hid (by rw [← hL, szL_len, HN.out])
      rw [hL] at HO
      clear hL HR HN hcm hmc
      obtain ⟨sp, st, sz⟩ := s
      obtain ⟨SP, rfl⟩ : ∃ n : Nat, sp = n := ⟨sp.toNat, by have := HOK.out.1; simp only at this; omega⟩
      have hSP : 1 ≤ SP ∧ SP ≤ 4 := by have := HOK.out.1; simp only at this; omega
      have hszr : 512 ≤ sz ∧ sz ≤ 4096 := HOK.out.2.2
      obtain ⟨G, hG, _⟩ := fillR_some HOK.out (f := noFl) (q := A + 1) (l := L) (by unfold Fl.In noFl; simp only; omega) (by unfold noFl; simp only; omega) (by rw [HLN.out]; unfold noFl; simp only; omega) (by omega) (by rw [HLN.out]; omega) HLR.out
      have hPS : setsR ⟨(SP : Nat), st, sz⟩ A L = placesR ⟨(SP : Nat), st, sz⟩ noFl (A + 1) L := by unfold setsR; rw [if_pos (by omega), hG]; rfl
      have HG := Lib.hid hG
      obtain ⟨PL, hPL⟩ : ∃ PL, placesR ⟨(SP : Nat), st, sz⟩ noFl (A + 1) L = PL := ⟨_, rfl⟩
      have HPLN : Hid (PL.length = j) := Lib.hid (by rw [← hPL, placesR_len hG, HLN.out])
      obtain ⟨_, _, e12, r12⟩ := HO.out.row_n inOk HLN.out
      cases e12
      have HSE := Lib.hid (ringsets_any ⟨(SP : Nat), st, sz⟩ A ap j cp L HOK.out.in (by unfold inI; omega) wr r12.zrow HLN.out (by omega))
      rw [hPS, hPL] at HSE
      have HPL := Lib.hid hPL
      have HR12 := Lib.hid r12
      clear hG hPS hPL r12
      obtain ⟨y0, y1, y2⟩ := HX.out.c3
      go_wp2_with fail
      refine HSE.out.mono ?_
      rintro e w3 ⟨v14, rfl, o14⟩
      obtain ⟨a14, c14, rfl, r14⟩ := o14.row_n pcOk HPLN.out
      have HR14 := Lib.hid r14
      have HR123 := Lib.hid (HR12.out.later o14.below)
      have HX3 := Lib.hid (HX.out.later o14.below)
      have HB3 := Lib.hid (HO.out.below.trans (o14.below.mono HO.out.below.size))
      have hjj : ((j : Int) != (j : Int)) = false := by simp
      have hc14 : c14 ≤ 9223372036854775807 ∧ j ≤ c14 := by have h1 := r14.2.1; have h2 := r14.1; rw [HPLN.out] at h2; unfold maxLen at h1; omega
      have hcp : cp ≤ 9223372036854775807 ∧ j ≤ cp := by have h1 := HR123.out.2.1; have h2 := HR123.out.1; rw [HLN.out] at h2; unfold maxLen at h1; omega
      clear HSE HX HO HR12 o14 r14 y0 y1 y2
      obtain ⟨y0, y1, y2⟩ := HX3.out.c3
      go_upto_region 14 with (refine wp_gzeros inOk info_in (by decide) rfl rfl 0 rfl (show inB 0 by unfold inB; omega) rfl _ _ rfl rfl w3 (Below.refl _ _) .i64 .i64 _ _ SP rfl rfl rfl rfl (by omega) ?_; intro w4 o4 b4; have HO4 := Lib.hid o4; clear o4 b4)
      obtain ⟨g0, hg0⟩ : ∃ g, w3.heap.size = g := ⟨_, rfl⟩
      rw [hg0] at HO4 ⊢
      have HG0 : Hid (w3.heap.size ≤ g0) := Lib.hid (Nat.le_of_eq hg0)
      clear hg0 hjj y0 y1 y2
      go_wp2_with fail
      go_loopw [15, 16, 17, 18, 19] (fun uv sv iv _ _ wr => ∃ (i g : Nat) (H : Fl) (U : List Int), iv = .int .i64 (i : Nat) ∧ sv = .int .i64 H.set ∧ uv = .slice (some ⟨g, 0, none⟩) SP SP ∧ i ≤ j ∧ Hid (fillR ⟨(SP : Nat), st, sz⟩ noFl (A + 1) (L.take i) = some H) ∧ Hid (UsedR SP H U) ∧ Hid (w3.heap.size ≤ g) ∧ Hid (GOwn inT w3 wr (.slice (some ⟨g, 0, none⟩) SP SP) U)) (fun _ _ iv _ _ _ => j - (intOf iv).toNat)
      case atStart => exact ⟨0, g0, noFl, List.replicate SP 0, rfl, rfl, rfl, by omega, Lib.hid rfl, Lib.hid UsedR.zero, HG0, HO4⟩
      case round =>
        clear HO4 HG0
        obtain ⟨i, g, H, U, rfl, rfl, rfl, hi, HF, HU, HGE, HO⟩ := hrel
        by_cases hij : (i : Int) < j
        · obtain ⟨x, hx⟩ : ∃ x, L[i]? = some x := ⟨L[i]'(by have := HLN.out; omega), List.getElem?_eq_getElem _⟩
          have hxr := HLR.out x (List.mem_of_getElem? hx)
          obtain ⟨h, f1, f2, f3, f4⟩ := placesR_at HG.out hx
          rw [HF.out] at f1
          obtain rfl : H = h := Option.some.inj f1
          rw [HPL.out] at f3
          obtain ⟨K, hK, hK4⟩ : ∃ K : Nat, (A + 1 + (i : Nat)) % (SP : Nat) = (K : Nat) ∧ K < SP := by
            have h1 := Int.emod_nonneg (A + 1 + (i : Nat)) (show ((SP : Nat) : Int) ≠ 0 by omega)
            have h2 := Int.emod_lt_of_pos (A + 1 + (i : Nat)) (show 0 < ((SP : Nat) : Int) by omega)
            exact ⟨((A + 1 + (i : Nat)) % (SP : Nat)).toNat, by omega, by omega⟩
          have hfit := Fl.at_in f2.2.2.2.2 (K : Nat)
          have hfs := f2.2.1
          obtain ⟨V, hV⟩ : ∃ V, H.at (K : Nat) = V := ⟨_, rfl⟩
          have hUK : U[K]? = some V := by rw [HU.out.2 K hK4, hV]
          obtain ⟨S0, hS0⟩ : ∃ S, H.set = S := ⟨_, rfl⟩
          obtain ⟨T, hT⟩ : ∃ T, S0 + 1 = T := ⟨_, rfl⟩
          have hwT : IntKind.i64.wrap (S0 + 1) = T := by rw [IntKind.wrap_i64]; omega
          have hwA : IntKind.i64.wrap (A + 1) = A + 1 := by rw [IntKind.wrap_i64]; omega
          have hwB : IntKind.i64.wrap (A + 1 + (i : Nat)) = A + 1 + (i : Nat) := by rw [IntKind.wrap_i64]; omega
          obtain ⟨N, hNx⟩ : ∃ N, x + 22 = N := ⟨_, rfl⟩
          have hwN : IntKind.i64.wrap (x + 22) = N := by rw [IntKind.wrap_i64]; omega
          have hNr : 23 ≤ N ∧ N ≤ 112 := by omega
          have hnST : (S0 != T) = true := by simp; omega
          have hnTS : (T != S0) = true := by simp; omega
          have heST : (S0 == T) = false := by simp; omega
          rw [hV] at hfit
          simp only at hfit
          rw [hS0] at hfs
          obtain ⟨P, hP⟩ : ∃ P, (putR ⟨(SP : Nat), st, sz⟩ H (A + 1 + (i : Nat)) x).2.1 = P := ⟨_, rfl⟩
          rw [hP] at f3
          obtain ⟨b1, o1, rfl, q0, q1⟩ := (HR14.out.later HO.out.below).c2 f3
          obtain ⟨b2, o2, rfl, q2⟩ := (HR123.out.zrow.later HO.out.below).at hx
          have HX := Lib.hid (HX3.out.later HO.out.below)
          have HVK := Lib.hid hUK
          rw [hS0]
          have HF4 := Lib.hid f4
          have HKK := Lib.hid hK
          have HK2 := Lib.hid (show (A + 1 + (i : Nat)) % (SP : Nat) = (K : Nat) ∧ (A + 1 + (i : Nat)) % (⟨(SP : Nat), st, sz⟩ : Rg).sp = (K : Nat) from ⟨hK, hK⟩)
          clear hx f1 f3 f4 hUK
          by_cases hin : V + N ≤ sz
          · obtain ⟨hp1, hp2⟩ : P = ⟨S0, (K : Nat)⟩ ∧ (putR ⟨(SP : Nat), st, sz⟩ H (A + 1 + (i : Nat)) x).1 = H.put (K : Nat) (V + N) := by
              have h2 : H.at ((A + 1 + (i : Nat)) % (⟨(SP : Nat), st, sz⟩ : Rg).sp) + (x + 22) ≤ (⟨(SP : Nat), st, sz⟩ : Rg).sz := by rw [HK2.out.2, hV, hNx]; exact hin
              rw [← hP, putR_in f2 h2, HK2.out.2, hV, hNx, hS0]; exact ⟨rfl, rfl⟩
            subst hp1
            rw [hp2] at HF4
            have HDI := Lib.hid (show V + N ≤ sz from hin)
            have hwV : IntKind.i64.wrap (V + N) = V + N := by rw [IntKind.wrap_i64]; omega
            have HPS := Lib.hid hS0
            have HPT := Lib.hid hT
            have HVV := Lib.hid hV
            clear hP hp2 f2 hS0 hT hV hNx hin
            simp only at q0 q1
            have hba : Below wr.heap.size wr (wr.alloc (.cells (pcC ⟨S0, (K : Nat)⟩) 28)) := (Below.refl _ _).alloc (Nat.le_refl _) _
            have HX18 := Lib.hid (RecAt.new wr (pcC ⟨S0, (K : Nat)⟩) 28)
            have HXa := Lib.hid (HX.out.later hba)
            have HOa := Lib.hid (HO.out.later hba)
            have HPG : Hid (wr.heap.size ≠ g ∧ w3.heap.size ≤ wr.heap.size) := Lib.hid ⟨by obtain ⟨_, _, e, _, _, _, h⟩ := HO.out.at HU.out.1 (by omega); cases e; omega, HO.out.below.size⟩
            have q2a := (hba.cell (World.block_lt_of_cell? _ _ q2)).trans q2
            clear hba HX HO
            go_upto_region 19 with fail
            generalize (wr.alloc (.cells (pcC ⟨S0, (K : Nat)⟩) 28)) = wa at *
            obtain ⟨P18, hP18⟩ : ∃ P, wr.heap.size = P := ⟨_, rfl⟩
            rw [hP18] at HX18 HPG ⊢
            clear hP18 q0 q1 q2
            obtain ⟨y0, y1, y2⟩ := HXa.out.c3
            obtain ⟨z0, z1⟩ := HX18.out.c2
            have hrem := HKK.out
            go_upto_region 20 with fail
            go_quiet (fail)
            generalize hwq : wa.drewN nq = wb
            have HXb := Lib.hid (show RecAt wb P11 (rgC ⟨(SP : Nat), st, sz⟩) 23 from hwq ▸ HXa.out.later (below_drewN wa nq))
            have HX18b := Lib.hid (show RecAt wb P18 (pcC ⟨S0, (K : Nat)⟩) 28 from hwq ▸ HX18.out.later (below_drewN wa nq))
            have HOb := Lib.hid (show GOwn inT w3 wb (.slice (some ⟨g, 0, none⟩) SP SP) U from hwq ▸ HOa.out.later (below_drewN wa nq))
            clear hwq HXa HX18 HOa y0 y1 y2 z0 z1 q2a hrem hwA hwB hwN
            obtain ⟨y0, y1, y2⟩ := HXb.out.c3
            obtain ⟨z0, z1⟩ := HX18b.out.c2
            have c0 := HOb.out.cell1 inOk rfl HU.out.1 HVK.out rfl
            have f0 := HOb.out.frozenAt HU.out.1 K
            go_upto_region 28 with fail
            have HXs := Lib.hid (HXb.out.later (Below.refl wb.heap.size wb)) 
            have HOs := Lib.hid (HOb.out.stored1 inOk rfl HU.out.1 HVK.out rfl (t' := V + N) (v' := .int .i64 (V + N)) rfl (show inB (V + N) by unfold inB; omega))
            have HX18s := Lib.hid (HX18b.out.other (y := g) (by have := HPG.out; omega) K (.int .i64 (V + N)))
            have HXr := Lib.hid (HXb.out.other (y := g) (by have h1 := HX3.out.lt; have h2 := HGE.out; omega) K (.int .i64 (V + N)))
            have HVn : Hid ((U.set K (V + N))[K]? = some (V + N)) := Lib.hid (by rw [List.getElem?_set_self (by rw [HU.out.1]; exact hK4)])
            have HUn := Lib.hid (HU.out.put hSP.2 hK4 (V + N))
            clear c0 f0 y0 y1 y2 z0 z1 HXs HXb HX18b HOb
            generalize (wb.setCell ⟨g, K, none⟩ (.int .i64 (V + N))) = ws at *
            obtain ⟨Un, hUn⟩ : ∃ X : List Int, U.set K (V + N) = X := ⟨_, rfl⟩
            rw [hUn] at HOs HVn HUn
            clear hUn
            obtain ⟨y0, y1, y2⟩ := HXr.out.c3
            obtain ⟨z0, z1⟩ := HX18s.out.c2
            have c0 := HOs.out.cell1 inOk rfl HUn.out.1 HVn.out rfl
            have hdl : decide (sz < V + N) = false := by simpa using HDI.out
            go_quiet (fail)
            go_wp2_with fail
            go_roundw
            case rel => exact ⟨i + 1, g, _, Un, by go_num, by rw [Fl.put_set]; rw [HPS.out], rfl, by omega, HF4, HUn, Lib.hid HGE.out, Lib.hid (HOs.out.later (below_drewN _ _))⟩
            case measure => simp [intOf]; omega
          · obtain ⟨hp1, hp2⟩ : P = ⟨T, (K : Nat)⟩ ∧ (putR ⟨(SP : Nat), st, sz⟩ H (A + 1 + (i : Nat)) x).1 = (⟨T, 0, 0, 0, 0⟩ : Fl).put (K : Nat) N := by
              have h2 : ¬ H.at ((A + 1 + (i : Nat)) % (⟨(SP : Nat), st, sz⟩ : Rg).sp) + (x + 22) ≤ (⟨(SP : Nat), st, sz⟩ : Rg).sz := by rw [HK2.out.2, hV, hNx]; exact hin
              rw [← hP, putR_on f2 h2, HK2.out.2, hNx, hS0, hT]; exact ⟨rfl, rfl⟩
            subst hp1
            rw [hp2] at HF4
            have HDI := Lib.hid (show ¬ V + N ≤ sz from hin)
            have hwV : IntKind.i64.wrap (V + N) = V + N := by rw [IntKind.wrap_i64]; omega
            have HPS := Lib.hid hS0
            have HPT := Lib.hid hT
            have HVV := Lib.hid hV
            clear hP hp2 f2 hS0 hT hV hNx hin
            simp only at q0 q1
            have hba : Below wr.heap.size wr (wr.alloc (.cells (pcC ⟨T, (K : Nat)⟩) 28)) := (Below.refl _ _).alloc (Nat.le_refl _) _
            have HX18 := Lib.hid (RecAt.new wr (pcC ⟨T, (K : Nat)⟩) 28)
            have HXa := Lib.hid (HX.out.later hba)
            have HOa := Lib.hid (HO.out.later hba)
            have HPG : Hid (wr.heap.size ≠ g ∧ w3.heap.size ≤ wr.heap.size) := Lib.hid ⟨by obtain ⟨_, _, e, _, _, _, h⟩ := HO.out.at HU.out.1 (by omega); cases e; omega, HO.out.below.size⟩
            have q2a := (hba.cell (World.block_lt_of_cell? _ _ q2)).trans q2
            clear hba HX HO
            go_upto_region 19 with fail
            generalize (wr.alloc (.cells (pcC ⟨T, (K : Nat)⟩) 28)) = wa at *
            obtain ⟨P18, hP18⟩ : ∃ P, wr.heap.size = P := ⟨_, rfl⟩
            rw [hP18] at HX18 HPG ⊢
            clear hP18 q0 q1 q2
            obtain ⟨y0, y1, y2⟩ := HXa.out.c3
            obtain ⟨z0, z1⟩ := HX18.out.c2
            have hrem := HKK.out
            go_upto_region 20 with fail
            go_quiet (fail)
            generalize hwq : wa.drewN nq = wb
            have HXb := Lib.hid (show RecAt wb P11 (rgC ⟨(SP : Nat), st, sz⟩) 23 from hwq ▸ HXa.out.later (below_drewN wa nq))
            have HX18b := Lib.hid (show RecAt wb P18 (pcC ⟨T, (K : Nat)⟩) 28 from hwq ▸ HX18.out.later (below_drewN wa nq))
            have HOb := Lib.hid (show GOwn inT w3 wb (.slice (some ⟨g, 0, none⟩) SP SP) U from hwq ▸ HOa.out.later (below_drewN wa nq))
            clear hwq HXa HX18 HOa y0 y1 y2 z0 z1 q2a hrem hwA hwB hwN
            obtain ⟨y0, y1, y2⟩ := HXb.out.c3
            obtain ⟨z0, z1⟩ := HX18b.out.c2
            have c0 := HOb.out.cell1 inOk rfl HU.out.1 HVK.out rfl
            have f0 := HOb.out.frozenAt HU.out.1 K
            have hdl : decide (V + N ≤ sz) = false := by simpa using HDI.out
            go_upto_region 23 with fail
            go_quiet (fail)
            generalize hwq : wb.drewN nq = wc
            have HXc := Lib.hid (show RecAt wc P11 (rgC ⟨(SP : Nat), st, sz⟩) 23 from hwq ▸ HXb.out.later (below_drewN wb nq))
            have HX18c := Lib.hid (show RecAt wc P18 (pcC ⟨T, (K : Nat)⟩) 28 from hwq ▸ HX18b.out.later (below_drewN wb nq))
            have HBc := Lib.hid (show Below w3.heap.size w3 wc from hwq ▸ HOb.out.below.trans ((below_drewN wb nq).mono HOb.out.below.size))
            clear hwq HXb HX18b HOb y0 y1 y2 z0 z1 c0 f0 hdl hwV
            obtain ⟨y0, y1, y2⟩ := HXc.out.c3
            obtain ⟨z0, z1⟩ := HX18c.out.c2
            go_upto_region 26 with (refine wp_gzeros inOk info_in (by decide) rfl rfl 0 rfl (show inB 0 by unfold inB; omega) rfl _ _ rfl rfl w3 HBc.out .i64 .i64 _ _ SP rfl rfl rfl rfl (by omega) ?_; intro w5 o5 b5; have HO5 := Lib.hid o5; have HB5 := Lib.hid b5; clear o5 b5)
            have HXb := Lib.hid (HXc.out.later HB5.out)
            have HX18b := Lib.hid (HX18c.out.later HB5.out)
            have HGn : Hid (w3.heap.size ≤ wc.heap.size ∧ P18 ≠ wc.heap.size) := Lib.hid ⟨HBc.out.size, by have := HX18c.out.lt; omega⟩
            obtain ⟨gn, hgn⟩ : ∃ g, wc.heap.size = g := ⟨_, rfl⟩
            rw [hgn] at HO5 HGn ⊢
            clear hgn HXc HX18c HBc HB5 y0 y1 y2 z0 z1
            obtain ⟨y0, y1, y2⟩ := HXb.out.c3
            obtain ⟨z0, z1⟩ := HX18b.out.c2
            have HUZ : Hid (UsedR SP ⟨T, 0, 0, 0, 0⟩ (List.replicate SP 0)) := Lib.hid UsedR.zero
            have HVZ : Hid ((List.replicate SP (0 : Int))[K]? = some 0) := Lib.hid (by rw [List.getElem?_replicate, if_pos hK4])
            obtain ⟨U0, hU0⟩ : ∃ U, List.replicate SP (0 : Int) = U := ⟨_, rfl⟩
            rw [hU0] at HUZ HVZ HO5
            clear hU0
            have c0 := HO5.out.cell1 inOk rfl HUZ.out.1 HVZ.out rfl
            have f0 := HO5.out.frozenAt HUZ.out.1 K
            have hwV : IntKind.i64.wrap (0 + N) = N := by rw [IntKind.wrap_i64]; omega
            go_upto_region 28 with fail
            have HXs := Lib.hid (HXb.out.later (Below.refl w5.heap.size w5)) 
            have HOs := Lib.hid (HO5.out.stored1 inOk rfl HUZ.out.1 HVZ.out rfl (t' := N) (v' := .int .i64 (N)) rfl (show inB (N) by unfold inB; omega))
            have HX18s := Lib.hid (HX18b.out.other (y := gn) (by have := HGn.out; omega) K (.int .i64 (N)))
            have HXr := Lib.hid (HXb.out.other (y := gn) (by have h1 := HX3.out.lt; have h2 := HGn.out.1; omega) K (.int .i64 (N)))
            have HVn : Hid ((U0.set K (N))[K]? = some (N)) := Lib.hid (by rw [List.getElem?_set_self (by rw [HUZ.out.1]; exact hK4)])
            have HUn := Lib.hid (HUZ.out.put hSP.2 hK4 (N))
            clear c0 f0 y0 y1 y2 z0 z1 HXs HXb HX18b HO5
            generalize (w5.setCell ⟨gn, K, none⟩ (.int .i64 (N))) = ws at *
            obtain ⟨Un, hUn⟩ : ∃ X : List Int, U0.set K (N) = X := ⟨_, rfl⟩
            rw [hUn] at HOs HVn HUn
            clear hUn
            obtain ⟨y0, y1, y2⟩ := HXr.out.c3
            obtain ⟨z0, z1⟩ := HX18s.out.c2
            have c0 := HOs.out.cell1 inOk rfl HUn.out.1 HVn.out rfl
            have hdl : decide (sz < N) = false := by simp; omega
            go_quiet (fail)
            go_wp2_with fail
            go_roundw
            case rel => exact ⟨i + 1, gn, _, Un, by go_num, by rw [Fl.put_set], rfl, by omega, HF4, HUn, Lib.hid HGn.out.1, Lib.hid (HOs.out.later (below_drewN _ _))⟩
            case measure => simp [intOf]; omega
        · have hij' : i = j := by omega
          subst hij'
          go_wp2_with fail
          refine (knownRg_any _).mono ?_
          rintro e w9 ⟨rfl, b9⟩
          go_wp2_with fail
          go_ret
          have hz := HB3.out.trans (HO.out.below.mono HB3.out.size)
          exact ⟨rfl, hz.trans (b9.mono hz.size)⟩
end Go.Proofs.Ytblipabemghdbaa
