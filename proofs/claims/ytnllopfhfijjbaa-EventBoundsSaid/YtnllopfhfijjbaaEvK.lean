/- Events: the document's own example. -/
import Derived.Test.YtnllopfhfijjbaaEvI
namespace Go.Proofs.Ytnllopfhfijjbaa
open Go.RowKit
set_option linter.unusedVariables false
set_option linter.unusedSimpArgs false

def kEv : Ev := ⟨8, 0, 0, [], []⟩
theorem kEv_put : putEv kEv = ([8], 0) := putEv_yes (by decide)
theorem kEv_get : getEv [8] = (kEv, 0) := getEv_some (by decide) rfl
theorem nil_get : getEv [] = (noEv, 2) := getEv_long (.inr rfl)
set_option maxRecDepth 20000 in
set_option maxHeartbeats 3200000 in
theorem known_any (w : World) : Calls Try.prog 8 #[] w fun e w' => e = .returned (.bool true) ∧ Below w.heap.size w w' := by
  go_enter Try.func8, Try.ntmps8
  go_wp2_with fail
  refine (eputE kEv none 0 0 ⟨#[]⟩ w (Row.none _) rfl rfl (by decide)).mono ?_
  rintro e w1 ⟨v1, rfl, o1⟩
  rw [kEv_put] at o1 ⊢
  simp only at o1 ⊢
  obtain ⟨a1, c1, rfl, r1⟩ := o1.row_n (n := 1) rfl
  have HB1 := Lib.hid o1.below
  have hba : Below w1.heap.size w1 (w1.alloc (.cells #[.int .u8 8] 5)) := (Below.refl _ _).alloc (Nat.le_refl _) _
  have HR1 : Hid (Row (w1.alloc (.cells #[.int .u8 8] 5)) a1 c1 [8]) := Lib.hid (r1.later hba)
  have HR : Hid (Row (w1.alloc (.cells #[.int .u8 8] 5)) (some ⟨w1.heap.size, 0, none⟩) 1 [8]) := Lib.hid (row_new w1 [8] (by decide))
  have HB2 := Lib.hid (HB1.out.trans (hba.mono HB1.out.size))
  clear o1 r1 hba
  go_wp2_with fail
  refine (eget_any (some ⟨w1.heap.size, 0, none⟩) 1 1 [8] _ HR.out rfl (by decide)).mono ?_
  rintro e w2 ⟨a2, c2, rfl, r2, hb2⟩
  rw [kEv_get] at r2 ⊢
  unfold evV kEv
  simp only [List.length_nil]
  have HB3 := Lib.hid (HB2.out.trans (hb2.mono HB2.out.size))
  have HR2 := Lib.hid (HR1.out.later hb2)
  have hba : Below w2.heap.size w2 (w2.alloc (.cells #[.int .i64 8, .int .i64 0, .int .i64 0, .slice a2 0 c2, .string ⟨#[]⟩] 24)) := (Below.refl _ _).alloc (Nat.le_refl _) _
  have HX3 : Hid (RecAt (w2.alloc (.cells #[.int .i64 8, .int .i64 0, .int .i64 0, .slice a2 0 c2, .string ⟨#[]⟩] 24)) w2.heap.size #[.int .i64 8, .int .i64 0, .int .i64 0, .slice a2 0 c2, .string ⟨#[]⟩] 24) := Lib.hid (RecAt.new _ _ _)
  have HR3 := Lib.hid (HR2.out.later hba)
  have HB4 := Lib.hid (HB3.out.trans (hba.mono HB3.out.size))
  clear r2 hb2 hba HR HR1 HR2
  go_upto_region 3 with fail
  generalize (w2.alloc (.cells #[.int .i64 8, .int .i64 0, .int .i64 0, .slice a2 0 c2, .string ⟨#[]⟩] 24)) = w3 at *
  generalize w2.heap.size = X at *
  go_wp2_with fail
  refine (eget_any none 0 0 [] _ (Row.none _) rfl (by decide)).mono ?_
  rintro e w4 ⟨a4, c4, rfl, r4, hb4⟩
  rw [nil_get] at r4 ⊢
  unfold evV noEv
  simp only [List.length_nil]
  have hba : Below w4.heap.size w4 (w4.alloc (.cells #[.int .i64 0, .int .i64 0, .int .i64 0, .slice a4 0 c4, .string ⟨#[]⟩] 24)) := (Below.refl _ _).alloc (Nat.le_refl _) _
  have hbb := hb4.trans (hba.mono hb4.size)
  have HX5 := Lib.hid (HX3.out.later hbb)
  have HR5 := Lib.hid (HR3.out.later hbb)
  have HB5 := Lib.hid (HB4.out.trans (hbb.mono HB4.out.size))
  clear r4 hb4 hba hbb
  go_upto_region 4 with fail
  generalize (w4.alloc (.cells #[.int .i64 0, .int .i64 0, .int .i64 0, .slice a4 0 c4, .string ⟨#[]⟩] 24)) = w5 at *
  have x0 := HX5.out.cell (i := 0) rfl
  have hcv : (convert 22 9 (.slice a1 1 c1)).run Try.prog w5 = .ok (.string ⟨#[8]⟩) w5 := conv_row HR5.out
  have e8 : ((⟨#[8]⟩ : ByteArray).toList == (⟨#[8]⟩ : ByteArray).toList) = true := by simp
  have n1 : nameOk (⟨#[97, 45, 49]⟩ : ByteArray).data.toList = true := by decide
  have n2 : nameOk (⟨#[65]⟩ : ByteArray).data.toList = false := by decide
  go_wp2_with (go_at_call 20; refine (name_any _ _ (by decide)).mono ?_; first | rw [n1] | rw [n2]; rintro e w6 ⟨rfl, rfl⟩)
  go_ret
  exact ⟨rfl, HB5.out⟩
end Go.Proofs.Ytnllopfhfijjbaa
