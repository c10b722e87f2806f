/- Frames: Take. -/
import Derived.Test.YtabeleihpnnadaaFrT
namespace Go.Proofs.Ytabeleihpnnadaa
open Go.RowKit
set_option linter.unusedVariables false

/-- An entry as a value. -/
def entV (e : En) (a : Option Addr) (c : Nat) : Value := .agg #[.int .i64 e.tag, .int .i64 e.seq, .slice a e.data.length c]
/-- Take's answer. -/
def Took (A : En × Int × Int) (w : World) (e : Ending) (w' : World) : Prop :=
  ∃ a c, e = .returned (.tuple #[entV A.1 a c, .int .i64 A.2.1, .int .i64 A.2.2]) ∧ Row w' a c A.1.data ∧ Below w.heap.size w w' ∧ ∀ x, a = some x → w.heap.size ≤ x.block ∧ x.block < w'.heap.size
def zrec : Array Value := #[.int .i64 0, .int .i64 0, .slice none 0 0]

theorem Row.lt_of {w : World} {x : Addr} {cap : Nat} {l : List UInt8} (h : Row w (some x) cap l) (h0 : 0 < l.length) : x.block < w.heap.size := by
  have := h.2.2.2 x rfl 0 l[0] (List.getElem?_eq_getElem h0)
  have h2 := World.block_lt_of_cell? w _ this
  have e : (x.add 0).block = x.block := by unfold Addr.add; split <;> rfl
  rwa [e] at h2
theorem cell_block {w w' : World} {x : Addr} (hk : w'.heap[x.block]? = w.heap[x.block]?) : w'.cell? x = w.cell? x := by
  unfold World.cell?; rw [hk]
theorem Row.same {w w' : World} {g off cap : Nat} {l : List UInt8} (h : Row w (some ⟨g, off, .none⟩) cap l) (hk : w'.heap[g]? = w.heap[g]?) : Row w' (some ⟨g, off, .none⟩) cap l := by
  refine ⟨h.1, h.2.1, h.2.2.1, fun x hx i u hu => ?_⟩
  have := h.2.2.2 x hx i u hu
  cases hx
  rw [← this]
  refine cell_block ?_
  have e : ((⟨g, off, .none⟩ : Addr).add i).block = g := by unfold Addr.add; split <;> rfl
  rw [e]; exact hk
theorem setCell_heap_other (w : World) {g E : Nat} (h : g ≠ E) (i : Nat) (v : Value) : (w.setCell ⟨E, i, none⟩ v).heap[g]? = w.heap[g]? := by
  simp only [World.setCell, Array.getElem?_modify]
  rw [if_neg (fun e => h e.symm)]

set_option maxRecDepth 20000 in
set_option maxHeartbeats 3200000 in
theorem take_any (ad : Option Addr) (m cap : Nat) (l : List UInt8) (p : Int) (w : World) (hr : Row w ad cap l) (hm : l.length = m) (hlen : m ≤ 100000) (hp0 : -9223372036854775808 ≤ p) (hp1 : p ≤ 9223372036854775807) :
    Calls Try.prog 33 #[.slice ad m cap, .int .i64 p] w fun e w' => Took (takeA l p) w e w' := by
  have hba : Below w.heap.size w (w.alloc (.cells #[.int .i64 0, .int .i64 0, .slice none 0 0] 38)) := (Below.refl _ _).alloc (Nat.le_refl _) _
  have HB := Lib.hid hba
  have HX : Hid (RecAt (w.alloc (.cells #[.int .i64 0, .int .i64 0, .slice none 0 0] 38)) w.heap.size #[.int .i64 0, .int .i64 0, .slice none 0 0] 38) := Lib.hid (RecAt.new _ _ _)
  rcases (show (p < 0 ∨ (m : Int) < p) ∨ (0 ≤ p ∧ p = m) ∨ (0 ≤ p ∧ p < m) by omega) with h | h | h
  · have HA := Lib.hid (takeA_out (l := l) (p := p) (by omega))
    clear hr hm hba
    rcases (show p < 0 ∨ (0 ≤ p ∧ (m : Int) < p) by omega) with h | h
    all_goals
      go_enter Try.func33, Try.ntmps33
      go_wp2_with fail
      refine bodyPost_ret (results_ctt rfl rfl HX.out Try.underlying38 rfl (by kernel_rfl)) rfl ?_
      rw [HA.out]
      exact ⟨none, 0, rfl, Row.none _, HB.out, fun x h => nomatch h⟩
  · obtain ⟨h0, rfl⟩ := h
    have HA : Hid (takeA l (m : Int) = (noE, 0, 4)) := by
      have h1 := takeA_in (l := l) (p := m) (by omega)
      rw [takeM_nil (by simp; omega)] at h1
      exact Lib.hid h1
    clear hr hm hba
    have hd : decide ((m : Int) < 0) = false := by simp
    go_enter Try.func33, Try.ntmps33
    go_wp2_with fail
    refine bodyPost_ret (results_ctt rfl rfl HX.out Try.underlying38 rfl (by kernel_rfl)) rfl ?_
    rw [HA.out]
    exact ⟨none, 0, rfl, Row.none _, HB.out, fun x h => nomatch h⟩
  · obtain ⟨h0, h1⟩ := h
    obtain ⟨q, rfl⟩ := Int.eq_ofNat_of_zero_le h0
    obtain ⟨bk, off, rfl, hcell⟩ := hr.at (by omega)
    have hmc := hr.1
    rw [hm] at hmc
    have hTA := takeA_in (l := l) (p := q) (by omega)
    have hr2 := hr.drop q (by omega)
    have hl2 : (l.drop q).length = m - q := by simp; omega
    generalize hM : l.drop q = M at *
    have HR2 := Lib.hid hr2
    have BG := Lib.hid (begun_any (some ⟨bk, off + q, none⟩) (m - q) (cap - q) M _ (hr2.later hba) hl2 (by omega))
    have HL2 := Lib.hid hl2
    have hd : decide ((q : Int) < 0) = false := by simp
    have hqm : (q : Int) < m := h1
    have hqc : (q : Int) < cap := by omega
    clear hr hm hba hcell hr2 hl2 h0
    cases hb : begunA M with
    | none =>
      have HA : Hid (takeA l (q : Int) = (noE, 0, 2)) := by
        rw [takeM_form (by have := HL2.out; omega) hb] at hTA
        exact Lib.hid hTA
      clear hTA
      have HBN := Lib.hid hb
      clear hb
      go_enter Try.func33, Try.ntmps33
      go_wp2_with fail
      refine BG.out.mono ?_
      rintro e w1 ⟨T, Z, x, n, c, rfl, hb1, -⟩
      rw [HBN.out, Option.isSome_none]
      have HB1 := Lib.hid (HB.out.trans (hb1.mono HB.out.size))
      have HX1 := Lib.hid (HX.out.later hb1)
      have HB2 : Hid (Below w.heap.size w (w1.alloc (.cells #[.int .i64 T, .int .i64 Z, .slice x n c] 38))) := Lib.hid (HB1.out.alloc HB1.out.size _)
      have HX2 : Hid (RecAt (w1.alloc (.cells #[.int .i64 T, .int .i64 Z, .slice x n c] 38)) w.heap.size #[.int .i64 0, .int .i64 0, .slice none 0 0] 38) := Lib.hid (HX1.out.later ((Below.refl _ _).alloc (Nat.le_refl _) _))
      go_upto_region 7 with fail
      generalize (w1.alloc (.cells #[.int .i64 T, .int .i64 Z, .slice x n c] 38)) = w2 at *
      go_wp2_with (refine wpList_rec rfl rfl w.heap.size #[.int .i64 0, .int .i64 0, .slice none 0 0] #[.int .i64 0, .int .i64 0, .slice none 0 0] rfl rfl HX2.out rfl (by kernel_rfl) (by kernel_rfl) ?_; intro w3 r1 r2 r3 r4)
      refine bodyPost_ret (results_ctt rfl rfl r1 Try.underlying38 rfl (by kernel_rfl)) rfl ?_
      rw [HA.out]
      exact ⟨none, 0, rfl, Row.none _, HB2.out.grown r4 HB2.out.size (fun k e => by cases e; exact Nat.le_refl _), fun x h => nomatch h⟩
    | some y =>
      obtain ⟨t, s, k⟩ := y
      have hbs := begunA_some hb
      have hrt := rightE_iff.1 hbs.2.2.1
      have hkm : k + 22 ≤ m - q := by have := hbs.2.2.2.1; have := HL2.out; omega
      have HBN := Lib.hid hb
      have HS : Hid (min (max (k : Int) 0) 90 + 22 = (k : Int) + 22) := Lib.hid (by omega)
      have HRT : Hid (Row w (some ⟨bk, off + q, none⟩) (cap - q) (M.take (k + 22))) := Lib.hid (HR2.out.take (k + 22))
      have HTL : Hid ((M.take (k + 22)).length = k + 22) := Lib.hid (by have := HL2.out; simp; omega)
      have HSUM := Lib.hid (fun h => takeM_sum hb h)
      have HOK := Lib.hid (fun b h => takeM_ok (b := b) hb h)
      have HTA := Lib.hid hTA
      clear hTA hbs hb
      obtain ⟨r1, r2, r3, r4, r5, r6⟩ := hrt
      go_enter Try.func33, Try.ntmps33
      go_wp2_with fail
      refine BG.out.mono ?_
      rintro e w1 ⟨T, Z, x, n, c, rfl, hb1, hsame⟩
      obtain ⟨rfl, rfl, rfl⟩ := hsame t s k HBN.out
      clear hsame
      rw [HBN.out, Option.isSome_some]
      have HB1 := Lib.hid (HB.out.trans (hb1.mono HB.out.size))
      have HX1 := Lib.hid (HX.out.later hb1)
      have HB2 : Hid (Below w.heap.size w (w1.alloc (.cells #[.int .i64 (t : Nat), .int .i64 (s : Nat), .slice x n c] 38))) := Lib.hid (HB1.out.alloc HB1.out.size _)
      have HX2 : Hid (RecAt (w1.alloc (.cells #[.int .i64 (t : Nat), .int .i64 (s : Nat), .slice x n c] 38)) w.heap.size #[.int .i64 0, .int .i64 0, .slice none 0 0] 38) := Lib.hid (HX1.out.later ((Below.refl _ _).alloc (Nat.le_refl _) _))
      have HE2 : Hid (RecAt (w1.alloc (.cells #[.int .i64 (t : Nat), .int .i64 (s : Nat), .slice x n c] 38)) w1.heap.size #[.int .i64 (t : Nat), .int .i64 (s : Nat), .slice x n c] 38) := Lib.hid (RecAt.new _ _ _)
      have HNE : Hid (w.heap.size < w1.heap.size) := Lib.hid HX1.out.lt
      go_upto_region 8 with fail
      generalize (w1.alloc (.cells #[.int .i64 (t : Nat), .int .i64 (s : Nat), .slice x n c] 38)) = w2 at *
      generalize w1.heap.size = E at *
      clear HX1 HB1 hb1
      obtain ⟨c0, c1, c2⟩ := HE2.out.c3
      go_wp2_with fail
      refine (size_any _ _).mono ?_
      rw [HS.out]
      rintro e w3 ⟨rfl, rfl⟩
      clear c0 c1 c2
      go_wp2_with fail
      refine (open_any (some ⟨bk, off + q, none⟩) (n + 22) (cap - q) _ w2 (HRT.out.later HB2.out) HTL.out (by omega)).mono ?_
      rintro e w3 ⟨v3, rfl, o3⟩
      have HX3 := Lib.hid (HX2.out.later o3.below)
      have HE3 := Lib.hid (HE2.out.later o3.below)
      have HB3 := Lib.hid (HB2.out.trans (o3.below.mono HB2.out.size))
      cases ho : openL (M.take (n + 22)) with
      | none =>
        rw [ho] at o3
        have HA : Hid (takeA l (q : Int) = (noE, 0, 13)) := by
          have := HTA.out
          rw [HSUM.out ho] at this
          exact Lib.hid this
        clear HTA ho o3
        rw [Option.isSome_none]
        go_wp2_with (refine wpList_rec rfl rfl w.heap.size #[.int .i64 0, .int .i64 0, .slice none 0 0] #[.int .i64 0, .int .i64 0, .slice none 0 0] rfl rfl HX3.out rfl (by kernel_rfl) (by kernel_rfl) ?_; intro w4 q1 q2 q3 q4)
        refine bodyPost_ret (results_ctt rfl rfl q1 Try.underlying38 rfl (by kernel_rfl)) rfl ?_
        rw [HA.out]
        exact ⟨none, 0, rfl, Row.none _, HB3.out.grown q4 HB3.out.size (fun k e => by cases e; exact Nat.le_refl _), fun x h => nomatch h⟩
      | some b =>
        rw [ho, Option.getD_some] at o3
        have hbl : b.length = n + 18 := by
          have := (openL_some ho).1
          rw [this]; simp; have := HL2.out; omega
        have HA : Hid (takeA l (q : Int) = (⟨(t : Nat), (s : Nat), b.drop 18⟩, (q : Int) + ((n : Int) + 22), 0)) := by
          have := HTA.out
          rw [HOK.out b ho] at this
          exact Lib.hid (by rw [this]; rfl)
        have HBL : Hid ((b.drop 18).length = n) := Lib.hid (by simp; omega)
        obtain ⟨g, c3, rfl, hc3, hm3⟩ := o3.at hbl (by omega)
        obtain ⟨a5, c5, hv5, ro⟩ := o3.row_n hbl
        cases hv5
        have HGE : Hid (E < g) := Lib.hid (Nat.lt_of_lt_of_le HE2.out.lt o3.ge.1)
        have HRO := Lib.hid (ro.drop (b := g) (off := 0) 18 (by omega))
        clear HTA ho o3 ro
        rw [Option.isSome_some]
        obtain ⟨c0, c1, c2⟩ := HE3.out.c3
        obtain ⟨f0, f1, f2⟩ := HE3.out.f3
        go_upto_region 13 with fail
        have HE4 : Hid (RecAt (w3.setCell ⟨E, 2, none⟩ (.slice (some ⟨g, 18, none⟩) n (c3 - 18))) E #[.int .i64 (t : Nat), .int .i64 (s : Nat), .slice (some ⟨g, 18, none⟩) n (c3 - 18)] 38) := Lib.hid (HE3.out.set 2 _)
        have HX4 : Hid (RecAt (w3.setCell ⟨E, 2, none⟩ (.slice (some ⟨g, 18, none⟩) n (c3 - 18))) w.heap.size #[.int .i64 0, .int .i64 0, .slice none 0 0] 38) := Lib.hid (HX3.out.other (by have := HNE.out; omega) 2 _)
        have HB4 : Hid (Below w.heap.size w (w3.setCell ⟨E, 2, none⟩ (.slice (some ⟨g, 18, none⟩) n (c3 - 18)))) := Lib.hid (HB3.out.setCell (by have := HNE.out; simp; omega) _)
        have HR4 : Hid (Row (w3.setCell ⟨E, 2, none⟩ (.slice (some ⟨g, 18, none⟩) n (c3 - 18))) (some ⟨g, 18, none⟩) (c3 - 18) (b.drop 18)) := Lib.hid (HRO.out.same (setCell_heap_other _ (by have := HGE.out; omega) _ _))
        generalize (w3.setCell ⟨E, 2, none⟩ (.slice (some ⟨g, 18, none⟩) n (c3 - 18))) = w4 at *
        clear c0 c1 c2 f0 f1 f2 HX3 HE3 HB3
        obtain ⟨c0, c1, c2⟩ := HE4.out.c3
        go_wp2_with (refine wpList_rec rfl rfl w.heap.size #[.int .i64 0, .int .i64 0, .slice none 0 0] #[.int .i64 (t : Nat), .int .i64 (s : Nat), .slice (some ⟨g, 18, none⟩) n (c3 - 18)] rfl rfl HX4.out rfl (by kernel_rfl) (by kernel_rfl) ?_; intro w5 q1 q2 q3 q4)
        refine bodyPost_ret (results_ctt rfl rfl q1 Try.underlying38 rfl (by kernel_rfl)) rfl ?_
        rw [HA.out]
        refine ⟨some ⟨g, 18, none⟩, c3 - 18, ?_, ?_, HB4.out.grown q4 HB4.out.size (fun k e => by cases e; exact Nat.le_refl _), fun x h => by cases h; have := HGE.out; have := HTL.out; exact ⟨Nat.le_of_lt (Nat.lt_trans HNE.out HGE.out), (HR4.out.same (q3 g (fun e => Nat.lt_irrefl _ (Nat.lt_trans (Nat.lt_of_lt_of_eq HGE.out e) HNE.out)))).lt_of (by rw [HBL.out]; omega)⟩⟩
        · unfold entV; simp only; rw [HBL.out]; rfl
        · exact HR4.out.same (q3 g (fun e => Nat.lt_irrefl _ (Nat.lt_trans (Nat.lt_of_lt_of_eq HGE.out e) HNE.out)))
end Go.Proofs.Ytabeleihpnnadaa
