/- Scans: the document's own examples. -/
import Derived.Test.YtabeleihpnnadaaScO
import Derived.Test.YtabeleihpnnadaaScR
namespace Go.Proofs.Ytabeleihpnnadaa
open Go.RowKit Go.Proofs
set_option linter.unusedVariables false
set_option linter.unusedSimpArgs false
set_option linter.unnecessarySimpa false

def kS : En := ⟨1, 1, [97]⟩
theorem kS_right : kS.right = true := by decide
theorem kS_lay : layA kS = (layL kS, 0) := layA_yes kS_right
theorem kS_len : (layL kS).length = 23 := layL_len kS
theorem kS_all : allA (layL kS) = ([kS], 23) := by
  have h := all_rowA (es := [kS]) (fun e he => by simp at he; subst he; exact kS_right)
  have e1 : rowL [kS] = layL kS := by simp [rowL]
  rw [e1, kS_len] at h; exact h
theorem kS_ents : entsS [layL kS] = [kS] := by unfold entsS; simp [kS_all]
theorem kS_merge : mergeS [layL kS] 1 = [kS] := by
  rw [mergeS_eq, kS_ents]
  apply mergeE_take
  · intro i e he
    match i, he with
    | 0, he => simp at he; subst he; decide
  · decide
theorem kS_first : firstS [layL kS] = 1 := by unfold firstS; rw [kS_ents]; decide
theorem nil_merge : mergeS [] 1 = [] := by rw [mergeS_eq]; exact mergeE_none rfl
theorem nil_first : firstS [] = 0 := rfl
theorem seven_torn : tornS [[7]] 1 = true := by
  have h : takeM ([7] : List UInt8) = (noE, 0, 2) := takeM_form (by decide) (begunA_none (by intro c; have := c.1; simp at this))
  have : endA [7] 1 = 0 := endF_no (by rw [List.drop_zero, h]; intro c; exact absurd c.1 (by decide))
  unfold tornS; simp [this]
theorem srow_one {w : World} {a : Option Addr} {n c : Nat} {l : List UInt8} (hr : Row w a c l) (hn : l.length = n) (E : TypeId) : SRow (w.alloc (.cells #[.slice a n c] E)) (some ⟨w.heap.size, 0, none⟩) 1 [l] := by
  subst hn
  have hrec := RecAt.new w #[.slice a l.length c] E
  have hb : Below w.heap.size w (w.alloc (.cells #[.slice a l.length c] E)) := (Below.refl _ _).alloc (Nat.le_refl _) _
  refine ⟨by simp, by simp [maxLen], fun e => (by cases e), fun x hx i s hs => ?_⟩
  cases hx
  match i, hs with
  | 0, hs =>
    simp at hs; subst hs
    exact ⟨rfl, a, c, hrec.cell rfl, hr.later hb⟩
set_option maxRecDepth 20000 in
set_option maxHeartbeats 3200000 in
theorem known11_any (w : World) : Calls Try.prog 9 #[] w fun e w' => e = .returned (.bool true) ∧ Below w.heap.size w w' := by
  have kc := fun (w : World) (C : Array Value) (n c : Nat) => Lib.run_convert_bytes_const (P := Try.prog) w 34 5 C n c Try.underlying34 Try.underlying5
  have HR : Hid (Row (w.alloc (.cells #[.int .u8 97] 5 (1, 2))) (some ⟨w.heap.size, 0, none⟩) 1 [97]) := Lib.hid (row_mark w [97] (1, 2) (by decide))
  have HB := Lib.hid (show Below w.heap.size w (w.alloc (.cells #[.int .u8 97] 5 (1, 2))) from (Below.refl _ _).alloc (Nat.le_refl _) _)
  go_enter Try.func9, Try.ntmps9
  go_wp2_with fail
  refine (rlay_any kS (some ⟨w.heap.size, 0, none⟩) 1 1 _ HR.out rfl (by decide)).mono ?_
  rintro e w1 ⟨v1, rfl, o1⟩
  rw [kS_lay] at o1 ⊢
  simp only at o1 ⊢
  have HB1 := Lib.hid (HB.out.trans (o1.below.mono HB.out.size))
  obtain ⟨a1, c1, rfl, r1⟩ := o1.row_n kS_len
  have HS1 := Lib.hid (srow_one r1 kS_len 34)
  have HR1 := Lib.hid r1
  have hba := (Below.refl w1.heap.size w1).alloc (Nat.le_refl _) (.cells #[.slice a1 23 c1] 34)
  have HB2 := Lib.hid (HB1.out.trans (hba.mono HB1.out.size))
  have HR2 := Lib.hid (r1.later hba)
  have HSB : Hid (SB [layL kS]) := Lib.hid ⟨by simp, fun l hl => by simp at hl; subst hl; rw [kS_len]; omega⟩
  clear o1 kc hba r1
  go_wp2_with fail
  refine (merge_any _ 1 1 [layL kS] 1 _ HS1.out rfl HSB.out (by decide) (by decide)).mono ?_
  rintro e w2 ⟨v2, rfl, o2⟩
  rw [kS_merge] at o2
  have HB3 := Lib.hid (HB2.out.trans (o2.below.mono HB2.out.size))
  have HR3 := Lib.hid (HR2.out.later o2.below)
  obtain ⟨a2, c2, rfl⟩ := o2.val (n := 1) enT_ok rfl
  have he := (o2.row enT_ok en_rel (fromJ_new _)).erow.2
  obtain ⟨b3, off3, a3, c3, rfl, p0, p1, p2, _⟩ := he.at (i := 0) (e := kS) rfl
  have hcap := he.1
  have hcm := he.2.1
  unfold maxLen at hcm
  simp only [List.length_cons, List.length_nil] at hcap
  rw [show kS.seq = 1 from rfl] at p1
  simp only [Nat.zero_mul, Nat.add_zero] at p0 p1 p2
  have HP1 : Hid (∀ W, Below w2.heap.size w2 W → W.cell? ⟨b3, off3 + 1, none⟩ = some (.int .i64 1)) := Lib.hid fun W hb => by rw [hb.cell (World.block_lt_of_cell? _ _ p1)]; exact p1
  clear o2 he
  go_upto_region 3 with fail
  clear HS1 HB HB1 HB2
  go_wp2_with fail
  refine (first_any .none 0 0 [] w2 (SRow.nil _) rfl ⟨by simp, fun l h => by cases h⟩).mono ?_
  rw [nil_first]
  rintro e w4 ⟨rfl, b4⟩
  have HB4 := Lib.hid (HB3.out.trans (b4.mono HB3.out.size))
  have HR4 := Lib.hid (HR3.out.later b4)
  have HS4 := Lib.hid (srow_one HR4.out kS_len 34)
  have hba := (Below.refl w4.heap.size w4).alloc (Nat.le_refl _) (.cells #[.slice a1 23 c1] 34)
  have HB5 := Lib.hid (HB4.out.trans (hba.mono HB4.out.size))
  clear b4 hba
  go_wp2_with fail
  refine (first_any _ 1 1 [layL kS] _ HS4.out rfl HSB.out).mono ?_
  rw [kS_first]
  rintro e w6 ⟨rfl, b6⟩
  have HB6 := Lib.hid (HB5.out.trans (b6.mono HB5.out.size))
  have HS7 : Hid (SRow ((w6.alloc (.cells #[.int .u8 7] 5)).alloc (.cells #[.slice (some ⟨w6.heap.size, 0, none⟩) 1 1] 34)) (some ⟨w6.heap.size + 1, 0, none⟩) 1 [[7]]) := Lib.hid (by
    have h := srow_one (row_new w6 [7] (by decide)) rfl 34
    have e1 : ((List.map B8 [7]).toArray : Array Value) = #[.int .u8 7] := rfl
    rw [e1] at h
    simpa using h)
  have hba : Below w6.heap.size w6 ((w6.alloc (.cells #[.int .u8 7] 5)).alloc (.cells #[.slice (some ⟨w6.heap.size, 0, none⟩) 1 1] 34)) := ((Below.refl _ _).alloc (Nat.le_refl _) _).alloc (by simp) _
  have HB7 := Lib.hid (HB6.out.trans (hba.mono HB6.out.size))
  clear b6 hba
  go_wp2_with fail
  refine (torn_any _ 1 1 [[7]] 1 _ HS7.out rfl ⟨by simp, fun l hl => by simp at hl; subst hl; simp⟩).mono ?_
  rw [seven_torn]
  rintro e w8 ⟨rfl, b8⟩
  have HB8 := Lib.hid (HB7.out.trans (b8.mono HB7.out.size))
  clear b8
  go_wp2_with fail
  refine (merge_any .none 0 0 [] 1 w8 (SRow.nil _) rfl ⟨by simp, fun l h => by cases h⟩ (by decide) (by decide)).mono ?_
  rw [nil_merge]
  rintro e w9 ⟨v9, rfl, o9⟩
  obtain ⟨a9, c9, rfl⟩ := o9.val (n := 0) enT_ok rfl
  have HB9 := Lib.hid (HB8.out.trans (o9.below.mono HB8.out.size))
  clear o9
  go_wp2_with fail
  go_ret
  exact ⟨rfl, HB9.out⟩
end Go.Proofs.Ytabeleihpnnadaa
