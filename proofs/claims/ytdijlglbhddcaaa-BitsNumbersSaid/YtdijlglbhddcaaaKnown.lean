/- The chapter's own examples: 'known' answers true. -/
import Derived.Test.YtdijlglbhddcaaaRows
import Derived.Test.YtdijlglbhddcaaaPlain
import Derived.Test.YtdijlglbhddcaaaInts
import Derived.Test.YtdijlglbhddcaaaSl
import Derived.Test.YtdijlglbhddcaaaPut
import Derived.Test.YtdijlglbhddcaaaGet
import Derived.WalkKit
import Derived.WalkSpells
import Derived.WalkLawsBesides
import Derived.Handy
import Derived.Lib.Hide
namespace Go.Proofs.Ytdijlglbhddcaaa
open Go.RowKit
set_option linter.unusedVariables false

theorem put258 : putA [] 258 2 = [2, 1] := by decide
theorem get258 : getA [2, 1] 0 2 = (258, true) := by decide
theorem var300 : varL 300 = [172, 2] := by rw [varL_hi (by decide), varL_lo (by decide)]; decide
theorem zig1 : zigN (-1) = 1 := by decide
theorem log8 : logI 8 = 3 := by
  unfold logI
  have : Nat.log2 8 = 3 := log2_of (by decide)
  rw [if_neg (by decide)]
  show ((Nat.log2 8 : Nat) : Int) = 3
  rw [this]; rfl

set_option maxRecDepth 100000 in
set_option maxHeartbeats 1600000 in
theorem known_any (w : World) : Calls Try.prog 18 #[] w fun e w' => e = .returned (.bool true) ∧ Below w.heap.size w w' := by
  go_enter Try.func18, Try.ntmps18
  go_wp2_with fail
  refine (put_any none 0 0 [] 258 2 w (Row.none w) rfl (by omega) (by omega)).mono ?_
  rintro e w1 ⟨v1, rfl, hown1⟩
  rw [put258] at hown1
  obtain ⟨a1, c1, rfl, hr1⟩ := hown1.row
  have hb1 := hown1.below
  clear hown1
  obtain ⟨b, off, rfl, hc⟩ := hr1.at (by decide)
  have hx0 : w1.cell? ⟨b, off, none⟩ = some (.int .u8 2) := hc 0 2 rfl
  have hx1 : w1.cell? ⟨b, off + 1, none⟩ = some (.int .u8 1) := hc 1 1 rfl
  clear hc
  simp only [List.length_cons, List.length_nil, Nat.zero_add]
  go_wp2_with fail
  refine (get_any _ 2 _ [2, 1] 0 2 w1 hr1 rfl (by omega) (by omega) (by omega) (by omega) (by omega)).mono ?_
  rintro e w2 ⟨rfl, rfl⟩
  rw [get258]
  go_wp2_with fail
  refine (var_any none 0 0 [] 300 w1 (Row.none w1) rfl (by omega) (by omega)).mono ?_
  rintro e w2 ⟨v2, rfl, hown2⟩
  rw [show (300 : Int).toNat = 300 from rfl, var300] at hown2
  obtain ⟨a2, c2, rfl, hr2⟩ := hown2.row
  have hcv := conv_row hr2
  have hb2 := hb1.trans (hown2.below.mono hb1.size)
  clear hown2 hr1 hx0 hx1 hb1 hr2
  simp only [List.length_cons, List.length_nil, Nat.zero_add, List.nil_append] at hcv ⊢
  go_wp2_with fail
  refine (zig_any (-1) (by decide) (by decide) w2).mono ?_
  rintro e w3 ⟨rfl, rfl⟩
  rw [zig1]
  go_wp2_with fail
  refine (log_any 8 (by decide) w2).mono ?_
  rintro e w3 ⟨rfl, rfl⟩
  rw [log8]
  go_wp2
  go_ret
  exact ⟨rfl, hb2⟩
end Go.Proofs.Ytdijlglbhddcaaa
