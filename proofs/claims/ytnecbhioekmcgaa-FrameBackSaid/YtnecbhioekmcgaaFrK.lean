/- Frames: the document's own example. -/
import Derived.Test.YtnecbhioekmcgaaFrX
namespace Go.Proofs.Ytnecbhioekmcgaa
open Go.RowKit
set_option linter.unusedVariables false
set_option linter.unusedSimpArgs false

def kE : En := ⟨1, 2, [97]⟩
theorem kE_lay : layA kE = (layL kE, 0) := layA_yes (by decide)
theorem kE_len : (layL kE).length = 23 := layL_len kE
theorem kE_take : takeA (layL kE) ((0 : Nat) : Int) = (kE, 23, 0) := by
  have h := take_lay (e := kE) (by decide) []
  rw [List.append_nil] at h
  exact takeA_ok (n := 23) (by omega) (by rw [List.drop_zero]; exact h)
theorem nil_take : takeA [] ((0 : Nat) : Int) = (noE, 0, 4) := takeA_err (by simp) (by rw [List.drop_zero]; exact takeM_nil rfl) (by decide)

set_option maxRecDepth 20000 in
set_option maxHeartbeats 3200000 in
theorem known_any (w : World) : Calls Try.prog 9 #[] w fun e w' => e = .returned (.bool true) ∧ Below w.heap.size w w' := by
  have kc := fun (w : World) (C : Array Value) (n c : Nat) => Lib.run_convert_bytes_const (P := Try.prog) w 22 5 C n c Try.underlying22 Try.underlying5
  have HR : Hid (Row (w.alloc (.cells #[.int .u8 97] 5 (1, 2))) (some ⟨w.heap.size, 0, none⟩) 1 [97]) := Lib.hid (row_mark w [97] (1, 2) (by decide))
  have HB := Lib.hid (show Below w.heap.size w (w.alloc (.cells #[.int .u8 97] 5 (1, 2))) from (Below.refl _ _).alloc (Nat.le_refl _) _)
  go_enter Try.func9, Try.ntmps9
  go_wp2_with fail
  refine (lay_any kE (some ⟨w.heap.size, 0, none⟩) 1 1 _ HR.out rfl (by decide)).mono ?_
  rintro e w1 ⟨v1, rfl, o1⟩
  rw [kE_lay] at o1 ⊢
  simp only at o1 ⊢
  have HB1 := Lib.hid (HB.out.trans (o1.below.mono HB.out.size))
  obtain ⟨a1, c1, rfl, r1⟩ := o1.row_n kE_len
  clear o1 kc
  go_wp2_with fail
  refine (take_any a1 23 c1 (layL kE) ((0 : Nat) : Int) w1 r1 kE_len (by decide) (by decide) (by decide)).mono ?_
  rw [kE_take]
  rintro e w2 ⟨a2, c2, rfl, r2, hb2, -⟩
  have HB2 := Lib.hid (HB1.out.trans (hb2.mono HB1.out.size))
  have HX2 : Hid (RecAt (w2.alloc (.cells #[.int .i64 1, .int .i64 2, .slice a2 1 c2] 24)) w2.heap.size #[.int .i64 1, .int .i64 2, .slice a2 1 c2] 24) := Lib.hid (RecAt.new _ _ _)
  have hba : Below w2.heap.size w2 (w2.alloc (.cells #[.int .i64 1, .int .i64 2, .slice a2 1 c2] 24)) := (Below.refl _ _).alloc (Nat.le_refl _) _
  have HR2 : Hid (Row (w2.alloc (.cells #[.int .i64 1, .int .i64 2, .slice a2 1 c2] 24)) a2 c2 [97]) := Lib.hid (Row.later r2 hba)
  have HB3 := Lib.hid (HB2.out.trans (hba.mono HB2.out.size))
  clear r2 hb2 hba r1
  unfold entV kE
  simp only [List.length_cons, List.length_nil]
  go_upto_region 3 with fail
  generalize (w2.alloc (.cells #[.int .i64 1, .int .i64 2, .slice a2 1 c2] 24)) = w3 at *
  generalize w2.heap.size = X at *
  go_wp2_with fail
  refine (take_any .none 0 0 [] ((0 : Nat) : Int) w3 (Row.none _) rfl (by decide) (by decide) (by decide)).mono ?_
  rw [nil_take]
  rintro e w4 ⟨a4, c4, rfl, r4, hb4, -⟩
  unfold entV noE
  simp only [List.length_nil]
  have HX4 := Lib.hid (HX2.out.later hb4)
  have hba : Below w4.heap.size w4 (w4.alloc (.cells #[.int .i64 0, .int .i64 0, .slice a4 0 c4] 24)) := (Below.refl _ _).alloc (Nat.le_refl _) _
  have HX5 := Lib.hid (HX4.out.later hba)
  have HR5 := Lib.hid ((HR2.out.later hb4).later hba)
  have HB5 := Lib.hid ((HB3.out.trans (hb4.mono HB3.out.size)).trans (hba.mono (HB3.out.trans (hb4.mono HB3.out.size)).size))
  clear hb4 hba r4
  go_upto_region 4 with fail
  generalize (w4.alloc (.cells #[.int .i64 0, .int .i64 0, .slice a4 0 c4] 24)) = w5 at *
  obtain ⟨d0, d1, d2⟩ := HX5.out.c3
  have hcv : (convert 22 9 (.slice a2 1 c2)).run Try.prog w5 = .ok (.string ⟨#[97]⟩) w5 := conv_row HR5.out
  go_wp2_with (go_at_call 17; refine (size_any _ _).mono ?_; rintro e w6 ⟨rfl, rfl⟩)
  go_ret
  exact ⟨rfl, HB5.out⟩
end Go.Proofs.Ytnecbhioekmcgaa
