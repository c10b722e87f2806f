/- The law 'ModelSnaps', walked. -/
import Derived.Test.YtghglbaflmbeoaaMdK
import Derived.Test.YtghglbaflmbeoaaPhW
namespace Go.Proofs.Ytghglbaflmbeoaa
open Go.RowKit Go.Proofs
set_option linter.unusedVariables false
set_option linter.unusedSimpArgs false
set_option linter.unnecessarySimpa false

def mineL : List UInt8 := [109, 105, 110, 101]
def evSn : Ev := ⟨5, 0, 0, [], mineL⟩
def evRo : Ev := ⟨7, 0, 0, [], mineL⟩
theorem evSn_right : evSn.right = true := by decide
theorem evRo_right : evRo.right = true := by decide
theorem snap_err {s : Sx} {c : Int} (h : checkM s evSn = c) (hc : c ≠ 0) : (c = 6 ∨ c = 5) ∧ 0 < s.snaps.length := by
  rw [check_snap evSn_right rfl] at h
  split at h
  · rename_i q
    have := (findO_range s.snaps evSn.name).2
    exact ⟨.inr h.symm, by omega⟩
  · split at h
    · exact ⟨.inl h.symm, by omega⟩
    · exact absurd h.symm hc
theorem snap_fine {s : Sx} (h : checkM s evSn = 0) : lookO (doneM s evSn).snaps mineL = some ⟨mineL, s.data⟩ := by
  rw [check_snap evSn_right rfl] at h
  split at h
  · cases h
  · rename_i q
    have hn : lookO s.snaps mineL = none := by
      rw [← placeO_none]
      cases hp : placeO s.snaps mineL with
      | none => rfl
      | some k => exact absurd (by unfold findO; rw [show evSn.name = mineL from rfl, hp]; simp) q
    have e : (doneM s evSn).snaps = s.snaps ++ [⟨mineL, s.data⟩] := by unfold doneM; rw [if_neg (by decide), if_neg (by decide), if_neg (by decide), if_pos (by decide)]; rfl
    rw [e]
    unfold lookO at *
    rw [List.find?_append, hn]
    simp
theorem roll_fine {s : Sx} {o : Od} (h : lookO s.snaps mineL = some o) : applyM s evRo = (⟨o.data, s.snaps⟩, 0) := by
  have hp : 0 ≤ findO s.snaps evRo.name := by
    unfold findO
    rw [show evRo.name = mineL from rfl]
    cases hp : placeO s.snaps mineL with
    | none => rw [placeO_none.1 hp] at h; cases h
    | some k => simp
  have hc : checkM s evRo = 0 := by rw [check_name evRo_right (.inr rfl), if_pos hp]
  rw [applyM_yes hc]
  congr 1
  unfold doneM
  rw [if_neg (by decide), if_neg (by decide), if_neg (by decide), if_neg (by decide), if_neg (by decide), if_pos (by decide), show evRo.name = mineL from rfl, h]; rfl
theorem read_fine {s : Sx} {o : Od} (h : lookO s.snaps mineL = some o) {n : Nat} (hn : o.data.length = n) : readM s mineL 0 (n : Int) = (o.data, 0) := by
  unfold readM
  rw [if_neg (by decide), h]
  simp only [Option.map_some]
  rw [if_neg (by omega), if_neg (by omega)]
  simp [← hn]
def jRS (w : World) (PS PA : Nat) (ad : Option Addr) (nd cd : Nat) (av : Option Addr) (nv cv : Nat) (A sj s : Sx) : Nat → World → Prop
  | 0, w1 => RecAt w1 PS #[.slice ad nd cd, .slice av nv cv] tSt ∧ StA allJ w1 (.slice ad nd cd) (.slice av nv cv) sj ∧ SAt allJ w1 PA A ∧ Below w.heap.size w w1
  | _ + 1, w1 => SAt allJ w1 PS s ∧ SAt allJ w1 PA A ∧ Below w.heap.size w w1
theorem jRS_st (w : World) (PS PA : Nat) (ad : Option Addr) (nd cd : Nat) (av : Option Addr) (nv cv : Nat) (A sj s : Sx) : ∀ ph w1 w2, jRS w PS PA ad nd cd av nv cv A sj s ph w1 → Below w1.heap.size w1 w2 → jRS w PS PA ad nd cd av nv cv A sj s ph w2
  | 0, w1, w2, h, hb => ⟨h.1.later hb, h.2.1.later hb, h.2.2.1.later hb, h.2.2.2.trans (hb.mono h.2.2.2.size)⟩
  | _ + 1, w1, w2, h, hb => ⟨h.1.later hb, h.2.1.later hb, h.2.2.trans (hb.mono h.2.2.size)⟩
theorem mine_toList : (⟨#[109, 105, 110, 101]⟩ : ByteArray).toList = [109, 105, 110, 101] := by rw [ByteArray.toList_eq]
/-- What is known of s all along. -/
def Keeps (A s : Sx) : Prop := StOk s ∧ lookO s.snaps mineL = some ⟨mineL, A.data⟩
theorem Keeps.step {A s : Sx} (h : Keeps A s) {e : Ev} (hne : ¬ (e.kind = 6 ∧ e.name = mineL)) : Keeps A (foldM s [e]) := ⟨foldM_ok h.1 _, look_step h.2 hne⟩

set_option maxRecDepth 100000 in
set_option maxHeartbeats 12800000 in
theorem modelSnaps_walk (size : Int) (a1 : Option Addr) (n1 c1 : Nat) (l1 : List Ev) (ar : Option Addr) (n cap : Nat) (l : List Ev) (w : World) (h1 : QE allJ w (.slice a1 n1 c1) l1) (h2 : QE allJ w (.slice ar n cap) l) :
    Calls Try.prog 7 #[.int .i64 size, .slice a1 n1 c1, .slice ar n cap] w fun x w' => x = .returned (.bool true) ∧ Below w.heap.size w w' := by
  obtain ⟨hn, hcap, hcm, hca⟩ := h2.cap
  unfold maxLen at hcm
  have HB := Lib.hid (Below.refl w.heap.size w)
  have HL1 := Lib.hid h1
  have HL2 := Lib.hid h2
  have HL := Lib.hid (h2.weak ev_rel (J' := fun b => b < w.heap.size) fun b hb _ => hb)
  have HN := Lib.hid hn
  clear h1 h2 hn
  go_enter Try.func7, Try.ntmps7
  go_wp2_with fail
  obtain ⟨B1, hB1⟩ : ∃ z, smallE l1 40 = z := ⟨_, rfl⟩
  refine (small14_any a1 n1 c1 l1 40 _ _ HL1.out).mono ?_
  rw [hB1]
  rintro e wB1 ⟨rfl, b⟩
  replace HB := Lib.hid (HB.out.trans (b.mono HB.out.size))
  replace HL1 := Lib.hid (HL1.out.later ev_rel b)
  replace HL2 := Lib.hid (HL2.out.later ev_rel b)
  clear hB1 b
  cases B1 with
  | false =>
    go_wp2_with fail
    refine (known14_any _).mono ?_
    rintro e wk ⟨rfl, bk⟩
    have HBk := Lib.hid (HB.out.trans (bk.mono HB.out.size))
    clear bk
    go_wp2_with fail
    go_ret
    exact ⟨rfl, HBk.out⟩
  | true =>
    go_wp2_with fail
    obtain ⟨B2, hB2⟩ : ∃ z, smallE l 40 = z := ⟨_, rfl⟩
    refine (small14_any ar n cap l 40 _ _ HL2.out).mono ?_
    rw [hB2]
    rintro e wB2 ⟨rfl, b⟩
    replace HB := Lib.hid (HB.out.trans (b.mono HB.out.size))
    replace HL1 := Lib.hid (HL1.out.later ev_rel b)
    replace HL2 := Lib.hid (HL2.out.later ev_rel b)
    clear hB2 b
    cases B2 with
    | false =>
      go_wp2_with fail
      refine (known14_any _).mono ?_
      rintro e wk ⟨rfl, bk⟩
      have HBk := Lib.hid (HB.out.trans (bk.mono HB.out.size))
      clear bk
      go_wp2_with fail
      go_ret
      exact ⟨rfl, HBk.out⟩
    | true =>
      go_wp2_with fail
      refine (pnew14_any size _).mono ?_
      rintro e w1 ⟨d, v, rfl, hs, b⟩
      replace HB := Lib.hid (HB.out.trans (b.mono HB.out.size))
      replace HL1 := Lib.hid (HL1.out.later ev_rel b)
      have HN0 := Lib.hid hs
      clear hs b HL2
      go_wp2_with fail
      refine (pfold14_any d v (newM size) a1 n1 c1 l1 _ allJ _ HN0.out (newM_ok size) HL1.out).mono ?_
      rintro e w2 ⟨d, v, rfl, hs, b⟩
      replace HB := Lib.hid (HB.out.trans (b.mono HB.out.size))
      have HOA := Lib.hid (foldM_ok (newM_ok size) l1)
      obtain ⟨AX, hAX⟩ : ∃ z, foldM (newM size) l1 = z := ⟨_, rfl⟩
      rw [hAX] at hs HOA
      obtain ⟨p1, p2, p3, p4, p5, p6, rfl, rfl⟩ := hs.shape
      have b2 := below_st w2 #[.slice p1 p2 p3, .slice p4 p5 p6]
      have HA := Lib.hid (SAt.new hs.all)
      have HGA : Hid (w.heap.size ≤ w2.heap.size) := Lib.hid HB.out.size
      replace HB := Lib.hid (HB.out.trans (b2.mono HB.out.size))
      clear hs b b2 HL1 HN0 hAX
      go_upto_region 4 with fail
      obtain ⟨w3, hw⟩ : ∃ W, w2.alloc (.cells #[.slice p1 p2 p3, .slice p4 p5 p6] tSt) = W := ⟨_, rfl⟩
      rw [hw] at HA HB
      try rw [hw]
      obtain ⟨PA, hX⟩ : ∃ X, w2.heap.size = X := ⟨_, rfl⟩
      rw [hX] at HA HGA ⊢
      clear hw hX
      obtain ⟨CE, hCE⟩ : ∃ z, checkM AX evSn = z := ⟨_, rfl⟩
      obtain ⟨s1, hap⟩ : ∃ s1, applyM AX evSn = (s1, CE) := by
        rcases hq : applyM AX evSn with ⟨q1, q2⟩
        have := applyM_check hq
        exact ⟨q1, by rw [← hCE, this]⟩
      have HCE := Lib.hid hCE
      have HAPQ := Lib.hid hap
      have HOK1 := Lib.hid (applyM_ok1 HOA.out hap)
      clear hCE hap
      obtain ⟨xa, xn, xc, xd, xm, xe, hRA, hSA⟩ := HA.out
      have HRA := Lib.hid hRA
      have HSA := Lib.hid hSA
      obtain ⟨x0, x1⟩ := hRA.c2
      have HAP := Lib.hid (papply14_any (.slice xa xn xc) (.slice xd xm xe) AX 5 0 0 none 0 0 [] ⟨#[109, 105, 110, 101]⟩ allJ w3 hSA HOA.out (Row.none _) rfl (by decide))
      clear hRA hSA
      have ue1 := Try.underlying33
      have ue0 := Try.underlying22
      have ub0 := Try.underlying28
      go_wp2_with fail
      refine HAP.out.mono ?_
      unfold PApplyIs
      rw [show (⟨5, 0, 0, [], (⟨#[109, 105, 110, 101]⟩ : ByteArray).data.toList⟩ : Ev) = evSn from rfl, HAPQ.out]
      rintro e w4 ⟨d, v, rfl, hs, b⟩
      replace HB := Lib.hid (HB.out.trans (b.mono HB.out.size))
      replace HRA := Lib.hid (HRA.out.later b)
      replace HSA := Lib.hid (HSA.out.later b)
      obtain ⟨q1, q2, q3, q4, q5, q6, rfl, rfl⟩ := hs.shape
      have b2 := below_st w4 #[.slice q1 q2 q3, .slice q4 q5 q6]
      have HS := Lib.hid (SAt.new hs.all)
      have HGS : Hid (w.heap.size ≤ w4.heap.size) := Lib.hid HB.out.size
      have HPA : Hid (PA ≠ w4.heap.size) := Lib.hid (by have := HRA.out.lt; omega)
      replace HB := Lib.hid (HB.out.trans (b2.mono HB.out.size))
      replace HRA := Lib.hid (HRA.out.later b2)
      replace HSA := Lib.hid (HSA.out.later b2)
      clear hs b b2 x0 x1 HA HAP
      go_upto_region 5 with fail
      obtain ⟨w5, hw⟩ : ∃ W, w4.alloc (.cells #[.slice q1 q2 q3, .slice q4 q5 q6] tSt) = W := ⟨_, rfl⟩
      rw [hw] at HS HB HRA HSA
      try rw [hw]
      obtain ⟨PS, hX⟩ : ∃ X, w4.heap.size = X := ⟨_, rfl⟩
      rw [hX] at HS HGS HPA ⊢
      have HPS := HGS
      clear hw hX HGS
      by_cases h0 : CE = 0
      · have hc0 : (CE != 0) = false := by simp [h0]
        subst h0
        obtain ⟨hck, hs1⟩ := applyM_ok HAPQ.out
        have HK : Hid (Keeps AX s1) := Lib.hid ⟨HOK1.out, by rw [hs1, stepM_yes hck]; exact snap_fine hck⟩
        have HA : Hid (SAt allJ w5 PA AX) := Lib.hid ⟨_, _, _, _, _, _, HRA.out, HSA.out⟩
        have HINX : Hid (∀ (xa : Option Addr) (xn xc : Nat) (v : Value) W, StA allJ W (.slice xa xn xc) v AX → inB (xn : Int)) := Lib.hid fun xa xn xc v W h => by
          have := HOA.out.size
          obtain ⟨a', c', e', _⟩ := h.data.row_n rfl
          cases e'
          unfold inB; omega
        clear hck hs1 HCE HAPQ HRA HSA HOK1
        go_wp2_with fail
        go_loopw [10] (fun i wr => ∃ (j : Nat) (sj : Sx), i = .int .i64 j ∧ j ≤ n ∧ Below w.heap.size w wr ∧ Hid (SAt allJ wr PS sj) ∧ Hid (SAt allJ wr PA AX) ∧ Hid (Keeps AX sj)) (fun i _ => n - (intOf i).toNat)
        case atStart => exact ⟨0, s1, rfl, by omega, HB.out, HS, HA, HK⟩
        case round =>
          obtain ⟨j, sj, rfl, hj, hbr, HSj, HAj, HKj⟩ := hrel
          have HBR := Lib.hid hbr
          clear hbr HS HA HK HB
          by_cases hjn : (j : Int) < n
          · have hjd : decide ((j : Int) < (n : Int)) = true := decide_eq_true hjn
            have HJN2 : Hid (j < n) := Lib.hid (by omega)
            have hJN2 : j < n := by omega
            obtain ⟨ev, hev⟩ : ∃ e, l[j]? = some e := ⟨l[j]'(by have := HN.out; omega), List.getElem?_eq_getElem _⟩
            obtain ⟨b1, f1, K1, K2, K3, a2, L1, c2, S, ha, hEV⟩ := HL.out.evAt hev
            subst ha
            have HEV := Lib.hid hEV
            have hki := hEV.kind
            have hna := hEV.name
            obtain ⟨k0, k1, k2, k3, k4⟩ := hEV.cells wr HBR.out
            have HSI := Lib.hid (str_iff hna (rfl : (⟨#[109, 105, 110, 101]⟩ : ByteArray).data.toList = mineL))
            clear hev hEV hna
            by_cases hk6 : K1 = 6
            · have hb6 : (K1 != 6) = false := by simp [hk6]
              by_cases hnm : ev.name = mineL
              · have hq : (S.toList == [109, 105, 110, 101]) = true := by rw [← mine_toList]; exact (sbeq_iff _ _).2 (HSI.out.2 hnm)
                clear hk6 hnm hki
                have HK2 := HKj
                obtain ⟨s2, hs2⟩ : ∃ z, z = sj := ⟨_, rfl⟩
                subst hs2
                have HS2 := HSj
                have HA2 := HAj
                have HBW := HBR
                obtain ⟨ad, nd, cd, av, nv, cv, hRX, hSX⟩ := HS2.out
                obtain ⟨xa, xn, xc, xd, xm, xe, hRA, hSA⟩ := HA2.out
                have HRX := Lib.hid hRX
                have HSX := Lib.hid hSX
                have HRA := Lib.hid hRA
                have HSA := Lib.hid hSA
                obtain ⟨x0, x1⟩ := hRX.c2
                obtain ⟨z0, z1⟩ := hRA.c2
                obtain ⟨qa, qc, hq, r8⟩ := hSA.data.row_n (n := xn) (by obtain ⟨a', c', e', _⟩ := hSA.data.row_n rfl; cases e'; rfl)
                obtain ⟨rfl, rfl⟩ : xa = qa ∧ xc = qc := by simpa using hq
                have hxl : AX.data.length = xn := by obtain ⟨a', c', e', _⟩ := hSA.data.row_n rfl; cases e'; rfl
                have HRR := Lib.hid (read_fine HK2.out.2 hxl)
                have HXL := Lib.hid hxl
                have HR8 := Lib.hid r8
                clear hRX hSX hRA hSA hq r8 hxl HS2 HA2
                go_wp2_with fail
                refine (pread14_any (.slice ad nd cd) (.slice av nv cv) s2 ⟨#[109, 105, 110, 101]⟩ 0 xn _ _ HSX.out HK2.out.1 (by decide) (by unfold inB; omega) (HINX.out _ _ _ _ _ HSA.out)).mono ?_
                rw [show (⟨#[109, 105, 110, 101]⟩ : ByteArray).data.toList = mineL from rfl, HRR.out]
                rintro e w9 ⟨v9, rfl, o9⟩
                have b := o9.below
                replace HBW := Lib.hid (HBW.out.trans (b.mono HBW.out.size))
                replace HRX := Lib.hid (HRX.out.later b)
                replace HSX := Lib.hid (HSX.out.later b)
                replace HRA := Lib.hid (HRA.out.later b)
                replace HSA := Lib.hid (HSA.out.later b)
                replace HR8 := Lib.hid (HR8.out.later b)
                obtain ⟨a9, c9, rfl, r9⟩ := o9.row_n HXL.out
                have HR9 := Lib.hid r9
                clear o9 b r9 x0 x1 z0 z1
                obtain ⟨z0, z1⟩ := HRA.out.c2
                have k8 := conv_row_n HR8.out HXL.out
                have k9 := conv_row_n HR9.out HXL.out
                have hsb : ((⟨AX.data.toArray⟩ : ByteArray).toList == (⟨AX.data.toArray⟩ : ByteArray).toList) = true := (sbeq_iff _ _).2 rfl
                obtain ⟨TX, hTX⟩ : ∃ z, (⟨AX.data.toArray⟩ : ByteArray) = z := ⟨_, rfl⟩
                rw [hTX] at k8 k9 hsb
                clear hTX
                go_wp2_with fail
                go_roundw
                case rel => exact ⟨j + 1, s2, by go_num, by omega, HBW.out, Lib.hid ⟨_, _, _, _, _, _, HRX.out, HSX.out⟩, Lib.hid ⟨_, _, _, _, _, _, HRA.out, HSA.out⟩, HK2⟩
                case measure => simp [intOf]; omega
              · have hq : (S.toList == [109, 105, 110, 101]) = false := by rw [← mine_toList]; exact sbeq_no fun h => hnm (HSI.out.1 h)
                have hne : ¬ (ev.kind = 6 ∧ ev.name = mineL) := fun h => hnm h.2
                clear hk6 hnm hki
                have HK2 : Hid (Keeps AX (foldM sj [ev])) := Lib.hid (HKj.out.step hne)
                obtain ⟨s2, hs2⟩ : ∃ z, foldM sj [ev] = z := ⟨_, rfl⟩
                rw [hs2] at HK2
                obtain ⟨ad, nd, cd, av, nv, cv, hRX, hSX⟩ := HSj.out
                have HRX := Lib.hid hRX
                have HSX := Lib.hid hSX
                have HA := HAj
                have HFO : Hid (∀ W, StA allJ W (.slice ad nd cd) (.slice av nv cv) sj → ∀ a n c, QE allJ W (.slice a n c) [ev] → Calls Try.prog 22 #[.agg #[.slice ad nd cd, .slice av nv cv], .slice a n c] W (FoldIs (newB W) W s2)) := Lib.hid fun W h a n c hq => by
                  have := pfold14_any (.slice ad nd cd) (.slice av nv cv) sj a n c [ev] allJ allJ W h HKj.out.1 hq
                  rw [hs2] at this; exact this
                clear hne hs2 hRX hSX
                go_upto_region 11 with fail
                clear k0 k1 k2 k3 k4
                -- REG A11a
                refine wp_region_ptab (L := fun ph => match ph with | 0 => [cV (.agg #[.slice ad nd cd, .slice av nv cv]), cV (.slice (some ⟨b1, f1, none⟩) n cap), cV (.int .i64 (j : Nat)), cV (.pointer (some ⟨b1, f1 + j * 5, none⟩)), cV (.agg #[.int .i64 K1, .int .i64 K2, .int .i64 K3, .slice a2 L1 c2, .string S]), erV ev, stV allJ s2, tV] | _ => [cV (.agg #[.slice ad nd cd, .slice av nv cv]), cV (.slice (some ⟨b1, f1, none⟩) n cap), cV (.int .i64 (j : Nat)), cV (.pointer (some ⟨b1, f1 + j * 5, none⟩)), cV (.agg #[.int .i64 K1, .int .i64 K2, .int .i64 K3, .slice a2 L1 c2, .string S]), tV, tV, tV]) (jRS w PS PA ad nd cd av nv cv AX sj s2) [7] [(0, 0), (0, 0), (0, 0), (0, 0), (0, 0), (0, 0), (0, 0), (0, 1)] [[(8, none)], [(2, none)], [(10, none)], [(72, some 1), (73, some 2)], [(74, some 3)], [(75, some 4)], [(71, some 0), (76, some 5)], [(8, none), (77, some 6)]] 8 1 125 (by kernel_rfl) rfl rfl rfl (by kernel_rfl) (by kernel_rfl) (by decide) (by kernel_rfl) ?_ ?_ ?_ ?_ ?_
                · exact jRS_st w PS PA ad nd cd av nv cv AX sj s2
                · exact ⟨HRX.out, HSX.out, HA.out, HBR.out⟩
                · show ∀ i, i < 8 → _
                  iterate 8 (refine fls ?_ ?_)
                  · exact fl0
                  · intro hne lo hi ph hran hp1 hp2 a w1 hJ hsz hs      -- 0: slot 71
                    obtain ⟨rfl, rfl⟩ : 0 = lo ∧ 0 = hi := Prod.mk.inj (Option.some.inj hran)
                    obtain rfl : ph = 0 := by omega
                    obtain ⟨h0, _⟩ := hs
                    have h0 : a.tmps.getD 8 undef = .pointer (some ⟨PS, 0, none⟩) := h0
                    obtain ⟨x0, x1⟩ := (show RecAt w1 PS #[.slice ad nd cd, .slice av nv cv] tSt from hJ.1).c2
                    refine op_run rfl rfl (v := .agg #[.slice ad nd cd, .slice av nv cv]) (w' := w1) ?_ rfl (Below.refl _ _)
                    simp [execOp, Act.eval, h0, x0, x1, go_sem]
                  · intro hne lo hi ph hran hp1 hp2 a w1 hJ hsz hs      -- 1: slot 72
                    obtain ⟨rfl, rfl⟩ : 0 = lo ∧ 0 = hi := Prod.mk.inj (Option.some.inj hran)
                    obtain rfl : ph = 0 := by omega
                    obtain ⟨h0, _⟩ := hs
                    have h0 : a.tmps.getD 2 undef = .slice (some ⟨b1, f1, none⟩) n cap := h0
                    refine op_run rfl rfl (v := .slice (some ⟨b1, f1, none⟩) n cap) (w' := w1) ?_ rfl (Below.refl _ _)
                    simp [execOp, Act.eval, h0, go_sem]
                  · intro hne lo hi ph hran hp1 hp2 a w1 hJ hsz hs      -- 2: slot 73
                    obtain ⟨rfl, rfl⟩ : 0 = lo ∧ 0 = hi := Prod.mk.inj (Option.some.inj hran)
                    obtain rfl : ph = 0 := by omega
                    obtain ⟨h0, _⟩ := hs
                    have h0 : a.tmps.getD 10 undef = .int .i64 (j : Nat) := h0
                    refine op_run rfl rfl (v := .int .i64 (j : Nat)) (w' := w1) ?_ rfl (Below.refl _ _)
                    simp [execOp, Act.eval, h0, go_sem]
                  · intro hne lo hi ph hran hp1 hp2 a w1 hJ hsz hs      -- 3: slot 74
                    obtain ⟨rfl, rfl⟩ : 0 = lo ∧ 0 = hi := Prod.mk.inj (Option.some.inj hran)
                    obtain rfl : ph = 0 := by omega
                    obtain ⟨h0, h1, _⟩ := hs
                    have h0 : a.tmps.getD 72 undef = .slice (some ⟨b1, f1, none⟩) n cap := h0
                    have h1 : a.tmps.getD 73 undef = .int .i64 (j : Nat) := h1
                    have k1 := HJN2.out
                    refine op_run rfl rfl (v := .pointer (some ⟨b1, f1 + j * 5, none⟩)) (w' := w1) ?_ rfl (Below.refl _ _)
                    simp [execOp, Act.eval, h0, h1, k1, go_sem]
                  · intro hne lo hi ph hran hp1 hp2 a w1 hJ hsz hs      -- 4: slot 75
                    obtain ⟨rfl, rfl⟩ : 0 = lo ∧ 0 = hi := Prod.mk.inj (Option.some.inj hran)
                    obtain rfl : ph = 0 := by omega
                    obtain ⟨h0, _⟩ := hs
                    have h0 : a.tmps.getD 74 undef = .pointer (some ⟨b1, f1 + j * 5, none⟩) := h0
                    obtain ⟨k0, k1, k2, k3, k4⟩ := HEV.out.cells w1 (show Below w.heap.size w w1 from hJ.2.2.2)
                    refine op_run rfl rfl (v := .agg #[.int .i64 K1, .int .i64 K2, .int .i64 K3, .slice a2 L1 c2, .string S]) (w' := w1) ?_ rfl (Below.refl _ _)
                    simp [execOp, Act.eval, h0, k0, k1, k2, k3, k4, go_sem]
                  · intro hne lo hi ph hran hp1 hp2 a w1 hJ hsz hs      -- 5: slot 76
                    obtain ⟨rfl, rfl⟩ : 0 = lo ∧ 0 = hi := Prod.mk.inj (Option.some.inj hran)
                    obtain rfl : ph = 0 := by omega
                    obtain ⟨h0, _⟩ := hs
                    have h0 : a.tmps.getD 75 undef = .agg #[.int .i64 K1, .int .i64 K2, .int .i64 K3, .slice a2 L1 c2, .string S] := h0
                    have g0 : a.tmps[75]?.getD undef = .agg #[.int .i64 K1, .int .i64 K2, .int .i64 K3, .slice a2 L1 c2, .string S] := (Array.getD_eq_getD_getElem? ..).symm.trans h0
                    have hba : Below w1.heap.size w1 (w1.alloc (.cells #[.int .i64 K1, .int .i64 K2, .int .i64 K3, .slice a2 L1 c2, .string S] 33)) := (Below.refl _ _).alloc (Nat.le_refl _) _
                    have hrel := (HEV.out.later (show Below w.heap.size w w1 from hJ.2.2.2)).rel
                    have g0 : a.tmps[75]?.getD undef = .agg #[.int .i64 K1, .int .i64 K2, .int .i64 K3, .slice a2 L1 c2, .string S] := (Array.getD_eq_getD_getElem? ..).symm.trans h0
                    refine op_run rfl rfl (v := .slice (some ⟨w1.heap.size, 0, none⟩) 1 1) (w' := w1.alloc (.cells #[.int .i64 K1, .int .i64 K2, .int .i64 K3, .slice a2 L1 c2, .string S] 33)) ?_ ⟨w1.heap.size, rfl, qe_one hrel⟩ hba
                    simp [execOp, Act.eval, h0, g0, go_sem, ue0, ue1]
                  · intro hne lo hi ph hran hp1 hp2 a w1 hJ hsz hs      -- 6: slot 77
                    obtain ⟨rfl, rfl⟩ : 0 = lo ∧ 0 = hi := Prod.mk.inj (Option.some.inj hran)
                    obtain rfl : ph = 0 := by omega
                    obtain ⟨h0, h1, _⟩ := hs
                    have h0 : a.tmps.getD 71 undef = .agg #[.slice ad nd cd, .slice av nv cv] := h0
                    obtain ⟨g1, h1, q1⟩ := (show ∃ g, a.tmps.getD 76 undef = .slice (some ⟨g, 0, none⟩) 1 1 ∧ QE allJ w1 (a.tmps.getD 76 undef) [ev] from h1); rw [h1] at q1
                    refine op_call rfl rfl (f := 22) (args := #[.agg #[.slice ad nd cd, .slice av nv cv], .slice (some ⟨g1, 0, none⟩) 1 1]) (by simp [execOp, Act.eval, resolve, h0, h1, go_sem]) ?_
                    exact calls_st (HFO.out w1 (show StA allJ w1 (.slice ad nd cd) (.slice av nv cv) sj from hJ.2.1) _ _ _ q1)
                  · intro hne lo hi ph hran hp1 hp2 a w1 hJ hsz hs      -- 7: slot None
                    exact absurd (by decide) hne
                · show ∀ ph, ph < 1 → _
                  iterate 1 (refine fls ?_ ?_)
                  · exact fl0
                  · intro i hi a w1 hJ hsz hs      -- heavy 0: op 7 slot None
                    obtain rfl : 7 = i := Option.some.inj hi
                    obtain ⟨h0, h1, _⟩ := hs
                    have h0 : a.tmps.getD 8 undef = .pointer (some ⟨PS, 0, none⟩) := h0
                    have g0 : a.tmps[8]?.getD undef = .pointer (some ⟨PS, 0, none⟩) := (Array.getD_eq_getD_getElem? ..).symm.trans h0
                    obtain ⟨d1, v1, h1, sQ1⟩ := (show ∃ d v, a.tmps.getD 77 undef = .agg #[d, v] ∧ StA allJ w1 d v s2 from h1)
                    have hJ0 : jRS w PS PA ad nd cd av nv cv AX sj s2 0 w1 := hJ
                    obtain ⟨p1, p2, p3, p4, p5, p6, rfl, rfl⟩ := sQ1.shape
                    refine hv_rec rfl rfl (x := PS) (p := .tmp 8) (v := .tmp 77) (cs := #[.slice ad nd cd, .slice av nv cv]) (vs := #[.slice p1 p2 p3, .slice p4 p5 p6]) rfl h0 h1 hJ0.1 rfl (by kernel_rfl) (by simp [Value.oneCell']) (fun w' => trivial) (fun w' r1 r2 r3 r4 => ⟨⟨p1, p2, p3, p4, p5, p6, r1, sQ1.over hJ0.1 r3 r2⟩, hJ0.2.2.1.over (show SAt allJ w1 PS sj from ⟨_, _, _, _, _, _, hJ0.1, hJ0.2.1⟩) HPA.out r3 r2, hJ0.2.2.2.grown r4 hJ0.2.2.2.size (fun q e => by cases e; exact HPS.out)⟩) (fun w' => ?_)
                    exact (Calm5.all (n := 0) ⟨.inr fun _ h => h, .inr fun _ h => h, .inr fun _ h => h, .inr fun _ h => h, .inr fun _ h => h, .inr fun _ _ => trivial, .inr fun _ _ => trivial, .inl rfl, trivial⟩)
                intro f w1 hJ hv
                clear hv
                try simp only [Exit.then]
                simp only [putAll, List.foldl_cons, List.foldl_nil, Option.getD_some, Act.put, List.setIfInBounds_toArray, List.set_cons_succ, List.set_cons_zero]
                have HJ1 : Hid (jRS w PS PA ad nd cd av nv cv AX sj s2 1 w1) := Lib.hid hJ
                clear hJ
                -- END A11a
                have HS2 : Hid (SAt allJ w1 PS s2) := Lib.hid HJ1.out.1
                have HA2 : Hid (SAt allJ w1 PA AX) := Lib.hid HJ1.out.2.1
                have HBW : Hid (Below w.heap.size w w1) := Lib.hid HJ1.out.2.2
                clear HJ1 HRX HSX HA HFO HSj HAj HBR
                -- what is read
                obtain ⟨ad, nd, cd, av, nv, cv, hRX, hSX⟩ := HS2.out
                obtain ⟨xa, xn, xc, xd, xm, xe, hRA, hSA⟩ := HA2.out
                have HRX := Lib.hid hRX
                have HSX := Lib.hid hSX
                have HRA := Lib.hid hRA
                have HSA := Lib.hid hSA
                obtain ⟨x0, x1⟩ := hRX.c2
                obtain ⟨z0, z1⟩ := hRA.c2
                obtain ⟨qa, qc, hq, r8⟩ := hSA.data.row_n (n := xn) (by obtain ⟨a', c', e', _⟩ := hSA.data.row_n rfl; cases e'; rfl)
                obtain ⟨rfl, rfl⟩ : xa = qa ∧ xc = qc := by simpa using hq
                have hxl : AX.data.length = xn := by obtain ⟨a', c', e', _⟩ := hSA.data.row_n rfl; cases e'; rfl
                have HRR := Lib.hid (read_fine HK2.out.2 hxl)
                have HXL := Lib.hid hxl
                have HR8 := Lib.hid r8
                clear hRX hSX hRA hSA hq r8 hxl HS2 HA2
                go_wp2_with fail
                refine (pread14_any (.slice ad nd cd) (.slice av nv cv) s2 ⟨#[109, 105, 110, 101]⟩ 0 xn _ _ HSX.out HK2.out.1 (by decide) (by unfold inB; omega) (HINX.out _ _ _ _ _ HSA.out)).mono ?_
                rw [show (⟨#[109, 105, 110, 101]⟩ : ByteArray).data.toList = mineL from rfl, HRR.out]
                rintro e w9 ⟨v9, rfl, o9⟩
                have b := o9.below
                replace HBW := Lib.hid (HBW.out.trans (b.mono HBW.out.size))
                replace HRX := Lib.hid (HRX.out.later b)
                replace HSX := Lib.hid (HSX.out.later b)
                replace HRA := Lib.hid (HRA.out.later b)
                replace HSA := Lib.hid (HSA.out.later b)
                replace HR8 := Lib.hid (HR8.out.later b)
                obtain ⟨a9, c9, rfl, r9⟩ := o9.row_n HXL.out
                have HR9 := Lib.hid r9
                clear o9 b r9 x0 x1 z0 z1
                obtain ⟨z0, z1⟩ := HRA.out.c2
                have k8 := conv_row_n HR8.out HXL.out
                have k9 := conv_row_n HR9.out HXL.out
                have hsb : ((⟨AX.data.toArray⟩ : ByteArray).toList == (⟨AX.data.toArray⟩ : ByteArray).toList) = true := (sbeq_iff _ _).2 rfl
                obtain ⟨TX, hTX⟩ : ∃ z, (⟨AX.data.toArray⟩ : ByteArray) = z := ⟨_, rfl⟩
                rw [hTX] at k8 k9 hsb
                clear hTX
                go_wp2_with fail
                go_roundw
                case rel => exact ⟨j + 1, s2, by go_num, by omega, HBW.out, Lib.hid ⟨_, _, _, _, _, _, HRX.out, HSX.out⟩, Lib.hid ⟨_, _, _, _, _, _, HRA.out, HSA.out⟩, HK2⟩
                case measure => simp [intOf]; omega
            · have hb6 : (K1 != 6) = true := by simp [hk6]
              have hne : ¬ (ev.kind = 6 ∧ ev.name = mineL) := fun h => hk6 (by rw [hki]; exact h.1)
              clear hk6 hki
              have HK2 : Hid (Keeps AX (foldM sj [ev])) := Lib.hid (HKj.out.step hne)
              obtain ⟨s2, hs2⟩ : ∃ z, foldM sj [ev] = z := ⟨_, rfl⟩
              rw [hs2] at HK2
              obtain ⟨ad, nd, cd, av, nv, cv, hRX, hSX⟩ := HSj.out
              have HRX := Lib.hid hRX
              have HSX := Lib.hid hSX
              have HA := HAj
              have HFO : Hid (∀ W, StA allJ W (.slice ad nd cd) (.slice av nv cv) sj → ∀ a n c, QE allJ W (.slice a n c) [ev] → Calls Try.prog 22 #[.agg #[.slice ad nd cd, .slice av nv cv], .slice a n c] W (FoldIs (newB W) W s2)) := Lib.hid fun W h a n c hq => by
                have := pfold14_any (.slice ad nd cd) (.slice av nv cv) sj a n c [ev] allJ allJ W h HKj.out.1 hq
                rw [hs2] at this; exact this
              clear hne hs2 hRX hSX
              go_upto_region 11 with fail
              clear k0 k1 k2 k3 k4
              -- REG A11b
              refine wp_region_ptab (L := fun ph => match ph with | 0 => [cV (.agg #[.slice ad nd cd, .slice av nv cv]), cV (.slice (some ⟨b1, f1, none⟩) n cap), cV (.int .i64 (j : Nat)), cV (.pointer (some ⟨b1, f1 + j * 5, none⟩)), cV (.agg #[.int .i64 K1, .int .i64 K2, .int .i64 K3, .slice a2 L1 c2, .string S]), erV ev, stV allJ s2, tV] | _ => [cV (.agg #[.slice ad nd cd, .slice av nv cv]), cV (.slice (some ⟨b1, f1, none⟩) n cap), cV (.int .i64 (j : Nat)), cV (.pointer (some ⟨b1, f1 + j * 5, none⟩)), cV (.agg #[.int .i64 K1, .int .i64 K2, .int .i64 K3, .slice a2 L1 c2, .string S]), tV, tV, tV]) (jRS w PS PA ad nd cd av nv cv AX sj s2) [7] [(0, 0), (0, 0), (0, 0), (0, 0), (0, 0), (0, 0), (0, 0), (0, 1)] [[(8, none)], [(2, none)], [(10, none)], [(72, some 1), (73, some 2)], [(74, some 3)], [(75, some 4)], [(71, some 0), (76, some 5)], [(8, none), (77, some 6)]] 8 1 125 (by kernel_rfl) rfl rfl rfl (by kernel_rfl) (by kernel_rfl) (by decide) (by kernel_rfl) ?_ ?_ ?_ ?_ ?_
              · exact jRS_st w PS PA ad nd cd av nv cv AX sj s2
              · exact ⟨HRX.out, HSX.out, HA.out, HBR.out⟩
              · show ∀ i, i < 8 → _
                iterate 8 (refine fls ?_ ?_)
                · exact fl0
                · intro hne lo hi ph hran hp1 hp2 a w1 hJ hsz hs      -- 0: slot 71
                  obtain ⟨rfl, rfl⟩ : 0 = lo ∧ 0 = hi := Prod.mk.inj (Option.some.inj hran)
                  obtain rfl : ph = 0 := by omega
                  obtain ⟨h0, _⟩ := hs
                  have h0 : a.tmps.getD 8 undef = .pointer (some ⟨PS, 0, none⟩) := h0
                  obtain ⟨x0, x1⟩ := (show RecAt w1 PS #[.slice ad nd cd, .slice av nv cv] tSt from hJ.1).c2
                  refine op_run rfl rfl (v := .agg #[.slice ad nd cd, .slice av nv cv]) (w' := w1) ?_ rfl (Below.refl _ _)
                  simp [execOp, Act.eval, h0, x0, x1, go_sem]
                · intro hne lo hi ph hran hp1 hp2 a w1 hJ hsz hs      -- 1: slot 72
                  obtain ⟨rfl, rfl⟩ : 0 = lo ∧ 0 = hi := Prod.mk.inj (Option.some.inj hran)
                  obtain rfl : ph = 0 := by omega
                  obtain ⟨h0, _⟩ := hs
                  have h0 : a.tmps.getD 2 undef = .slice (some ⟨b1, f1, none⟩) n cap := h0
                  refine op_run rfl rfl (v := .slice (some ⟨b1, f1, none⟩) n cap) (w' := w1) ?_ rfl (Below.refl _ _)
                  simp [execOp, Act.eval, h0, go_sem]
                · intro hne lo hi ph hran hp1 hp2 a w1 hJ hsz hs      -- 2: slot 73
                  obtain ⟨rfl, rfl⟩ : 0 = lo ∧ 0 = hi := Prod.mk.inj (Option.some.inj hran)
                  obtain rfl : ph = 0 := by omega
                  obtain ⟨h0, _⟩ := hs
                  have h0 : a.tmps.getD 10 undef = .int .i64 (j : Nat) := h0
                  refine op_run rfl rfl (v := .int .i64 (j : Nat)) (w' := w1) ?_ rfl (Below.refl _ _)
                  simp [execOp, Act.eval, h0, go_sem]
                · intro hne lo hi ph hran hp1 hp2 a w1 hJ hsz hs      -- 3: slot 74
                  obtain ⟨rfl, rfl⟩ : 0 = lo ∧ 0 = hi := Prod.mk.inj (Option.some.inj hran)
                  obtain rfl : ph = 0 := by omega
                  obtain ⟨h0, h1, _⟩ := hs
                  have h0 : a.tmps.getD 72 undef = .slice (some ⟨b1, f1, none⟩) n cap := h0
                  have h1 : a.tmps.getD 73 undef = .int .i64 (j : Nat) := h1
                  have k1 := HJN2.out
                  refine op_run rfl rfl (v := .pointer (some ⟨b1, f1 + j * 5, none⟩)) (w' := w1) ?_ rfl (Below.refl _ _)
                  simp [execOp, Act.eval, h0, h1, k1, go_sem]
                · intro hne lo hi ph hran hp1 hp2 a w1 hJ hsz hs      -- 4: slot 75
                  obtain ⟨rfl, rfl⟩ : 0 = lo ∧ 0 = hi := Prod.mk.inj (Option.some.inj hran)
                  obtain rfl : ph = 0 := by omega
                  obtain ⟨h0, _⟩ := hs
                  have h0 : a.tmps.getD 74 undef = .pointer (some ⟨b1, f1 + j * 5, none⟩) := h0
                  obtain ⟨k0, k1, k2, k3, k4⟩ := HEV.out.cells w1 (show Below w.heap.size w w1 from hJ.2.2.2)
                  refine op_run rfl rfl (v := .agg #[.int .i64 K1, .int .i64 K2, .int .i64 K3, .slice a2 L1 c2, .string S]) (w' := w1) ?_ rfl (Below.refl _ _)
                  simp [execOp, Act.eval, h0, k0, k1, k2, k3, k4, go_sem]
                · intro hne lo hi ph hran hp1 hp2 a w1 hJ hsz hs      -- 5: slot 76
                  obtain ⟨rfl, rfl⟩ : 0 = lo ∧ 0 = hi := Prod.mk.inj (Option.some.inj hran)
                  obtain rfl : ph = 0 := by omega
                  obtain ⟨h0, _⟩ := hs
                  have h0 : a.tmps.getD 75 undef = .agg #[.int .i64 K1, .int .i64 K2, .int .i64 K3, .slice a2 L1 c2, .string S] := h0
                  have g0 : a.tmps[75]?.getD undef = .agg #[.int .i64 K1, .int .i64 K2, .int .i64 K3, .slice a2 L1 c2, .string S] := (Array.getD_eq_getD_getElem? ..).symm.trans h0
                  have hba : Below w1.heap.size w1 (w1.alloc (.cells #[.int .i64 K1, .int .i64 K2, .int .i64 K3, .slice a2 L1 c2, .string S] 33)) := (Below.refl _ _).alloc (Nat.le_refl _) _
                  have hrel := (HEV.out.later (show Below w.heap.size w w1 from hJ.2.2.2)).rel
                  have g0 : a.tmps[75]?.getD undef = .agg #[.int .i64 K1, .int .i64 K2, .int .i64 K3, .slice a2 L1 c2, .string S] := (Array.getD_eq_getD_getElem? ..).symm.trans h0
                  refine op_run rfl rfl (v := .slice (some ⟨w1.heap.size, 0, none⟩) 1 1) (w' := w1.alloc (.cells #[.int .i64 K1, .int .i64 K2, .int .i64 K3, .slice a2 L1 c2, .string S] 33)) ?_ ⟨w1.heap.size, rfl, qe_one hrel⟩ hba
                  simp [execOp, Act.eval, h0, g0, go_sem, ue0, ue1]
                · intro hne lo hi ph hran hp1 hp2 a w1 hJ hsz hs      -- 6: slot 77
                  obtain ⟨rfl, rfl⟩ : 0 = lo ∧ 0 = hi := Prod.mk.inj (Option.some.inj hran)
                  obtain rfl : ph = 0 := by omega
                  obtain ⟨h0, h1, _⟩ := hs
                  have h0 : a.tmps.getD 71 undef = .agg #[.slice ad nd cd, .slice av nv cv] := h0
                  obtain ⟨g1, h1, q1⟩ := (show ∃ g, a.tmps.getD 76 undef = .slice (some ⟨g, 0, none⟩) 1 1 ∧ QE allJ w1 (a.tmps.getD 76 undef) [ev] from h1); rw [h1] at q1
                  refine op_call rfl rfl (f := 22) (args := #[.agg #[.slice ad nd cd, .slice av nv cv], .slice (some ⟨g1, 0, none⟩) 1 1]) (by simp [execOp, Act.eval, resolve, h0, h1, go_sem]) ?_
                  exact calls_st (HFO.out w1 (show StA allJ w1 (.slice ad nd cd) (.slice av nv cv) sj from hJ.2.1) _ _ _ q1)
                · intro hne lo hi ph hran hp1 hp2 a w1 hJ hsz hs      -- 7: slot None
                  exact absurd (by decide) hne
              · show ∀ ph, ph < 1 → _
                iterate 1 (refine fls ?_ ?_)
                · exact fl0
                · intro i hi a w1 hJ hsz hs      -- heavy 0: op 7 slot None
                  obtain rfl : 7 = i := Option.some.inj hi
                  obtain ⟨h0, h1, _⟩ := hs
                  have h0 : a.tmps.getD 8 undef = .pointer (some ⟨PS, 0, none⟩) := h0
                  have g0 : a.tmps[8]?.getD undef = .pointer (some ⟨PS, 0, none⟩) := (Array.getD_eq_getD_getElem? ..).symm.trans h0
                  obtain ⟨d1, v1, h1, sQ1⟩ := (show ∃ d v, a.tmps.getD 77 undef = .agg #[d, v] ∧ StA allJ w1 d v s2 from h1)
                  have hJ0 : jRS w PS PA ad nd cd av nv cv AX sj s2 0 w1 := hJ
                  obtain ⟨p1, p2, p3, p4, p5, p6, rfl, rfl⟩ := sQ1.shape
                  refine hv_rec rfl rfl (x := PS) (p := .tmp 8) (v := .tmp 77) (cs := #[.slice ad nd cd, .slice av nv cv]) (vs := #[.slice p1 p2 p3, .slice p4 p5 p6]) rfl h0 h1 hJ0.1 rfl (by kernel_rfl) (by simp [Value.oneCell']) (fun w' => trivial) (fun w' r1 r2 r3 r4 => ⟨⟨p1, p2, p3, p4, p5, p6, r1, sQ1.over hJ0.1 r3 r2⟩, hJ0.2.2.1.over (show SAt allJ w1 PS sj from ⟨_, _, _, _, _, _, hJ0.1, hJ0.2.1⟩) HPA.out r3 r2, hJ0.2.2.2.grown r4 hJ0.2.2.2.size (fun q e => by cases e; exact HPS.out)⟩) (fun w' => ?_)
                  exact (Calm5.all (n := 0) ⟨.inr fun _ h => h, .inr fun _ h => h, .inr fun _ h => h, .inr fun _ h => h, .inr fun _ h => h, .inr fun _ _ => trivial, .inr fun _ _ => trivial, .inl rfl, trivial⟩)
              intro f w1 hJ hv
              clear hv
              try simp only [Exit.then]
              simp only [putAll, List.foldl_cons, List.foldl_nil, Option.getD_some, Act.put, List.setIfInBounds_toArray, List.set_cons_succ, List.set_cons_zero]
              have HJ1 : Hid (jRS w PS PA ad nd cd av nv cv AX sj s2 1 w1) := Lib.hid hJ
              clear hJ
              -- END A11b
              have HS2 : Hid (SAt allJ w1 PS s2) := Lib.hid HJ1.out.1
              have HA2 : Hid (SAt allJ w1 PA AX) := Lib.hid HJ1.out.2.1
              have HBW : Hid (Below w.heap.size w w1) := Lib.hid HJ1.out.2.2
              clear HJ1 HRX HSX HA HFO HSj HAj HBR
              -- what is read
              obtain ⟨ad, nd, cd, av, nv, cv, hRX, hSX⟩ := HS2.out
              obtain ⟨xa, xn, xc, xd, xm, xe, hRA, hSA⟩ := HA2.out
              have HRX := Lib.hid hRX
              have HSX := Lib.hid hSX
              have HRA := Lib.hid hRA
              have HSA := Lib.hid hSA
              obtain ⟨x0, x1⟩ := hRX.c2
              obtain ⟨z0, z1⟩ := hRA.c2
              obtain ⟨qa, qc, hq, r8⟩ := hSA.data.row_n (n := xn) (by obtain ⟨a', c', e', _⟩ := hSA.data.row_n rfl; cases e'; rfl)
              obtain ⟨rfl, rfl⟩ : xa = qa ∧ xc = qc := by simpa using hq
              have hxl : AX.data.length = xn := by obtain ⟨a', c', e', _⟩ := hSA.data.row_n rfl; cases e'; rfl
              have HRR := Lib.hid (read_fine HK2.out.2 hxl)
              have HXL := Lib.hid hxl
              have HR8 := Lib.hid r8
              clear hRX hSX hRA hSA hq r8 hxl HS2 HA2
              go_wp2_with fail
              refine (pread14_any (.slice ad nd cd) (.slice av nv cv) s2 ⟨#[109, 105, 110, 101]⟩ 0 xn _ _ HSX.out HK2.out.1 (by decide) (by unfold inB; omega) (HINX.out _ _ _ _ _ HSA.out)).mono ?_
              rw [show (⟨#[109, 105, 110, 101]⟩ : ByteArray).data.toList = mineL from rfl, HRR.out]
              rintro e w9 ⟨v9, rfl, o9⟩
              have b := o9.below
              replace HBW := Lib.hid (HBW.out.trans (b.mono HBW.out.size))
              replace HRX := Lib.hid (HRX.out.later b)
              replace HSX := Lib.hid (HSX.out.later b)
              replace HRA := Lib.hid (HRA.out.later b)
              replace HSA := Lib.hid (HSA.out.later b)
              replace HR8 := Lib.hid (HR8.out.later b)
              obtain ⟨a9, c9, rfl, r9⟩ := o9.row_n HXL.out
              have HR9 := Lib.hid r9
              clear o9 b r9 x0 x1 z0 z1
              obtain ⟨z0, z1⟩ := HRA.out.c2
              have k8 := conv_row_n HR8.out HXL.out
              have k9 := conv_row_n HR9.out HXL.out
              have hsb : ((⟨AX.data.toArray⟩ : ByteArray).toList == (⟨AX.data.toArray⟩ : ByteArray).toList) = true := (sbeq_iff _ _).2 rfl
              obtain ⟨TX, hTX⟩ : ∃ z, (⟨AX.data.toArray⟩ : ByteArray) = z := ⟨_, rfl⟩
              rw [hTX] at k8 k9 hsb
              clear hTX
              go_wp2_with fail
              go_roundw
              case rel => exact ⟨j + 1, s2, by go_num, by omega, HBW.out, Lib.hid ⟨_, _, _, _, _, _, HRX.out, HSX.out⟩, Lib.hid ⟨_, _, _, _, _, _, HRA.out, HSA.out⟩, HK2⟩
              case measure => simp [intOf]; omega
          · have hjN : j = n := by omega
            subst hjN
            have hjd : decide ((j : Int) < (j : Int)) = false := decide_eq_false (by omega)
            have HOK := Lib.hid HKj.out.1
            have HAPR := Lib.hid (roll_fine HKj.out.2)
            simp only at HAPR
            obtain ⟨ad, nd, cd, av, nv, cv, hRX, hSX⟩ := HSj.out
            obtain ⟨xa, xn, xc, xd, xm, xe, hRA, hSA⟩ := HAj.out
            have HRX := Lib.hid hRX
            have HSX := Lib.hid hSX
            have HRA := Lib.hid hRA
            have HSA := Lib.hid hSA
            have HAP := Lib.hid (papply14_any (.slice ad nd cd) (.slice av nv cv) sj 7 0 0 none 0 0 [] ⟨#[109, 105, 110, 101]⟩ allJ wr hSX HOK.out (Row.none _) rfl (by decide))
            obtain ⟨x0, x1⟩ := hRX.c2
            have hnv : sj.snaps.length = nv := by obtain ⟨a', c', e', _⟩ := hSX.snaps.val rfl; cases e'; rfl
            have HNV := Lib.hid hnv
            have hxl : AX.data.length = xn := by obtain ⟨a', c', e', _⟩ := hSA.data.row_n rfl; cases e'; rfl
            have HXL := Lib.hid hxl
            obtain ⟨qa, qc, hq, r8⟩ := hSA.data.row_n hxl
            obtain ⟨rfl, rfl⟩ : xa = qa ∧ xc = qc := by simpa using hq
            have HR8 := Lib.hid r8
            clear hRX hSX hRA hSA hnv hxl hq r8 HSj HAj HKj
            go_wp2_with fail
            refine HAP.out.mono ?_
            unfold PApplyIs
            rw [show (⟨7, 0, 0, [], (⟨#[109, 105, 110, 101]⟩ : ByteArray).data.toList⟩ : Ev) = evRo from rfl, HAPR.out]
            rintro e w4 ⟨d, v, rfl, hs, b⟩
            replace HBR := Lib.hid (HBR.out.trans (b.mono HBR.out.size))
            obtain ⟨a9, c9, rfl, r9⟩ := hs.data.row_n HXL.out
            obtain ⟨a7, c7, rfl, -⟩ := hs.snaps.val HNV.out
            have hX5 := RecAt.new w4 #[.slice a9 xn c9, .slice a7 nv c7] tSt
            have b2 := below_st w4 #[.slice a9 xn c9, .slice a7 nv c7]
            have HR9 := Lib.hid (r9.later b2)
            replace HBR := Lib.hid (HBR.out.trans (b2.mono HBR.out.size))
            replace HRX := Lib.hid ((HRX.out.later b).later b2)
            replace HRA := Lib.hid ((HRA.out.later b).later b2)
            replace HR8 := Lib.hid ((HR8.out.later b).later b2)
            clear hs r9 b b2 x0 x1 HAP HAPR
            go_upto_region 16 with fail
            obtain ⟨w5, hw⟩ : ∃ W, w4.alloc (.cells #[.slice a9 xn c9, .slice a7 nv c7] tSt) = W := ⟨_, rfl⟩
            rw [hw] at hX5 HBR HRX HRA HR8 HR9
            try rw [hw]
            obtain ⟨PT, hX⟩ : ∃ X, w4.heap.size = X := ⟨_, rfl⟩
            rw [hX] at hX5 ⊢
            clear hw hX
            have HB := HBR
            obtain ⟨u0, u1⟩ := hX5.c2
            obtain ⟨x0, x1⟩ := HRX.out.c2
            obtain ⟨z0, z1⟩ := HRA.out.c2
            have k8 := conv_row_n HR8.out HXL.out
            have k9 := conv_row_n HR9.out HXL.out
            have hsb : ((⟨AX.data.toArray⟩ : ByteArray).toList == (⟨AX.data.toArray⟩ : ByteArray).toList) = true := (sbeq_iff _ _).2 rfl
            obtain ⟨TX, hTX⟩ : ∃ z, (⟨AX.data.toArray⟩ : ByteArray) = z := ⟨_, rfl⟩
            rw [hTX] at k8 k9 hsb
            clear hTX hX5
            go_wp2_with fail
            refine (known14_any _).mono ?_
            rintro e wk ⟨rfl, bk⟩
            have HBk := Lib.hid (HB.out.trans (bk.mono HB.out.size))
            clear bk
            go_wp2_with fail
            go_ret
            exact ⟨rfl, HBk.out⟩
      · have hc0 : (CE != 0) = true := by simp [h0]
        obtain ⟨hc56, hlen⟩ := snap_err HCE.out h0
        obtain ⟨a', c', e', -⟩ := HSA.out.snaps.val (n := AX.snaps.length) rfl
        have hxm : 0 < xm := by cases e'; exact hlen
        obtain ⟨x0, x1⟩ := HRA.out.c2
        clear h0 e' hlen HCE HAPQ
        have hxmI : decide ((xm : Int) > 0) = true := decide_eq_true (by omega)
        rcases hc56 with rfl | rfl
        · go_wp2_with fail
          refine (known14_any _).mono ?_
          rintro e wk ⟨rfl, bk⟩
          have HBk := Lib.hid (HB.out.trans (bk.mono HB.out.size))
          clear bk
          go_wp2_with fail
          go_ret
          exact ⟨rfl, HBk.out⟩
        · go_wp2_with fail
          refine (known14_any _).mono ?_
          rintro e wk ⟨rfl, bk⟩
          have HBk := Lib.hid (HB.out.trans (bk.mono HB.out.size))
          clear bk
          go_wp2_with fail
          go_ret
          exact ⟨rfl, HBk.out⟩
end Go.Proofs.Ytghglbaflmbeoaa
